import PyProof.Rows.All
import OpenK.KLine
import OpenK.KOwn
import KE.KNestM
import KE.KDictOf
import Wide.FinOn
import Lean
import PyProof.EqAt
import PyProof.EqKinds
import PyProof.TupleCall
import PyProof.NeKinds
import PyProof.NsDelKeeps
import KE.KTryMore
import PyProof.WalksMore
import PyProof.Rows.SetFrom
import KE.KEqDict
import PyProof.ToksMono
import PyProof.StrCalls6
import PyProof.StrBlock2
import PyProof.SliceStr2
import PyProof.StrLawsTight
import PyProof.InstStoreFacts
import PyProof.Rows.FStr
import PyProof.FactsAll.set
import KE.KDictLaws
import KE.KIntText
import PyProof.Rows.StrWeight2
import PyProof.StrWalks
import PyProof.StrBlockH
import PyProof.WalksEnum
import PyProof.ZipIter
import PyProof.EnumMake
import PyProof.FitsReplace
import PyProof.StrLawsIn
import PyProof.Rows.SortWalk
import PyProof.DictUpdate
import KE.KDictList
import KE.KDictSum
import KE.KPairComp
import PyProof.FactsAll.dict
import KE.KMinKey
import KE.KLam
import PyProof.DictWalks
import PyProof.DictValues
import PySem.Challenge.RW_sidebook_k57_the_band_by_itself
set_option Elab.async false
set_option linter.all false
set_option maxRecDepth 100000
namespace PySem.W.Fast
def tw7284203191577940581:=0
def tw2570861966826594193:=0
def tw8701914372142170521:=0
def tw1119761579010253944:=0
def tw8505622059829535123:=0
def tw13487321009054303282:=0
def tw861502493610598483:=0
def tw7284635932349711089:=0
def tw10910116569886796342:=0
def tw5571941122713777233:=0
def tw18090264274711557029:=0
def tw13020854702466632800:=0
def tw887297739250893426:=0
def tw4899194941618596743:=0
def tw17880168534084667868:=0
def tw6910399968666045255:=0
def tw7774113678449685934:=0
def tw9203299705961851784:=0
def tw10214798723161860908:=0
def tw3451930472288970675:=0
def tw17606023666067251677:=0
def tw15275291021854500544:=0
def tw8728042847472895959:=0
def tw115167043885905223:=0
def tw11788636936952823106:=0
def tw9076787650804036852:=0
def tw5320619654261168702:=0
def tw10327671769042200128:=0
def tw10816252725775286513:=0
def tw12483548606279900826:=0
def tw5055593616971399804:=0
def tw12528221419883600679:=0
def tw10479991185640055810:=0
def tw15806707075529380192:=0
def tw5665240888008139550:=0
def tw13578020157988156910:=0
def tw9919147443128822593:=0
def tw238015897057467496:=0
def tw15012102849882553082:=0
def tw4139333405863992284:=0
def tw8057509151949241040:=0
def tw2925816871977632210:=0
def tw13758190518337804936:=0
def tw2392593158011319353:=0
def tw4772062507164038959:=0
def tw16101134707931498060:=0
def tw8122695690928665766:=0
def tw256976265262469064:=0
def tw8186657734068701312:=0
def tw6030501089693204938:=0
def tw14646812006431793189:=0
def tw6344153461787385748:=0
def tw9058675905521239271:=0
def tw4015202173357781934:=0
def tw14022695629967993375:=0
def tw9777985068195723015:=0
def tw4699756791338806529:=0
def tw15359611588545569252:=0
def tw3856712824231086281:=0
def tw3308634892276815127:=0
def tw8514659027417952518:=0
def tw8327717152232216106:=0
def tw15287547289013875721:=0
def tw10876078143196172821:=0
def tw5708563065076447513:=0
def tw1810505731646096427:=0
def tw8997383693586321770:=0
def tw7104112695450043525:=0
def tw2813801546833155447:=0
def tw10713865542653931438:=0
def tw4773484457636388862:=0
def tw6172094611929405055:=0
def tw15060872555676474952:=0
def tw17427164358705649990:=0
def tw2238811745713579835:=0
def tw8760152093665844161:=0
def tw1062514266329012355:=0
def tw2708214617527550399:=0
def tw11161164713144168021:=0
def tw9131994410762764641:=0
def tw785946285636773999:=0
def tw13299628023176669074:=0
def tw9869809959619462935:=0
def tw7424060955962978353:=0
def tw3831019782443316194:=0
def tw11153475782318119604:=0
def tw15565715512253457277:=0
def tw10911716485165742097:=0
def tw10137185776066577385:=0
def tw7039168609848515032:=0
def tw5388589039460942527:=0
def tw10888863842102328177:=0
def tw11317637306720784765:=0
def tw17937168697417666835:=0
def tw10295913840692754127:=0
def tw12559880474128369298:=0
def tw14173793092197918974:=0
def tw5221592684559293012:=0
def tw12307553483252862823:=0
def tw1830731846773895292:=0
def tw639924544979245993:=0
def tw3344036261162260069:=0
def tw9006961074152924250:=0
def tw908480701973217441:=0
def tw14349632617732883400:=0
def tw11326833031881921752:=0
def tw6191700953566675008:=0
def tw1683588176727124409:=0
def tw12936088452001202715:=0
def tw16457251377207888201:=0
def tw17859675296707892077:=0
def tw17137270108147033825:=0
def tw13791243171338348793:=0
def tw18048741565030583774:=0
def tw13705283562680751584:=0
def tw17871049288011112270:=0
def tw8272569733616993153:=0
def tw3719891259706897012:=0
def tw5289818103960998278:=0
def tw7592715696027808041:=0
def tw4340673293219707767:=0
def tw11384182702204212275:=0
def tw12517015155858063196:=0
def tw6162269159774324313:=0
def tw10576836333797772347:=0
def tw8179860101808600119:=0
def tw4704452742865826424:=0
def tw5376530373609499990:=0
def tw11215392098479208961:=0
def tw10310341975313369176:=0
def tw16493865465440409018:=0
def tw7050804516273991350:=0
def tw15418674001244492974:=0
def tw17852080271459398996:=0
def tw18105302477358141223:=0
def tw7001957589650049515:=0
def tw17435391645217708394:=0
def tw429539710256275620:=0
def tw2629151800749243262:=0
def tw9215358943560890414:=0
def tw8535803893964050539:=0
def tw13629772047308552242:=0
def tw2080317491765294665:=0
def tw5661595848482461739:=0
def tw17014754193936795334:=0
def tw5805800948307579973:=0
def tw13459084325293418506:=0
def tw354308444213283272:=0
def tw9630203353718772412:=0
def tw17916429707943930468:=0
def tw16217903435359918192:=0
def tw7873748247521183178:=0
def tw18384110700954362821:=0
def tw855453113358079251:=0
def tw14671739901194505220:=0
def tw7480016910919988345:=0
def tw13367274342830030513:=0
def tw1158361714356455011:=0
def tw4211115844707057057:=0
def tw4327107012436481372:=0
def tw17880270911999261196:=0
def tw10988312798546598065:=0
def tw16531682779099013679:=0
def tw4267111383703672358:=0
def tw5462360663327728810:=0
def tw13082796549270168242:=0
def tw1181674027530198351:=0
def tw14727194681476072466:=0
def tw5909976876416983842:=0
def tw11566098044289413073:=0
def tw3075201292733833056:=0
def tw4483904966330829159:=0
def tw1401067106901849026:=0
def tw7538781388859322016:=0
def tw6145912378217320015:=0
def tw5008593111378822452:=0
def tw561727478393794602:=0
def tw2386784164831690217:=0
def tw1474264761786122189:=0
def tw10052031235695348791:=0
def tw4600438763894957952:=0
def tw12648489641264462891:=0
def tw9931937742245647033:=0
def tw16765560720781731146:=0
def tw12930229547647579594:=0
def tw13134858744069518954:=0
def tw12750670339961964742:=0
def tw16919654943277366748:=0
def tw7033223617477252788:=0
def tw7212858340449540239:=0
def tw12669407529647801677:=0
def tw15554417296805563061:=0
def tw9003107776662980439:=0
def tw11512705759438076691:=0
def tw7764699552788554220:=0
def tw17472340661787783526:=0
def tw10192404496044350798:=0
def tw5874822333441161849:=0
def tw10551173667578312727:=0
def tw2754868194923854518:=0
def tw14571933256774908962:=0
def tw11884987206582726547:=0
def tw8757050672659960515:=0
def tw7900394595670775223:=0
def tw1000662321505670351:=0
def tw12064304430848566033:=0
def tw5537553045615171315:=0
def tw17049750858520166293:=0
def tw896878414759379649:=0
def tw15415318616479256277:=0
def tw8140498317509980888:=0
def tw3604082896382514872:=0
def tw4757880891971583632:=0
def tw9104974531708491489:=0
def tw12138319994727072339:=0
def tw5725222548895626118:=0
def tw16108870410212019532:=0
def tw1956260828630720203:=0
def tw14569604634059749682:=0
def tw5010956058597451964:=0
def tw6306950242917791374:=0
def tw4538635040379822027:=0
def tw10026605065719503897:=0
def tw13468011388731342839:=0
def tw3350206127114907401:=0
def tw12236101354414956334:=0
def tw5694767641087392711:=0
def tw16681507383918705554:=0
def tw9007994994280594889:=0
def tw14219159868682941630:=0
def tw17862349074038704544:=0
def tw14520296925931582552:=0
def tw17271881437230615512:=0
def tw16060203290454839817:=0
def tw13601115934706021691:=0
def tw10198052994689861382:=0
def tw3897268976836264337:=0
def tw12020253756985099128:=0
def tw15173544498738437827:=0
def tw12627051441459223148:=0
def tw12325864989022198202:=0
def tw7307589515853891572:=0
def tw17160835175205238506:=0
def tw18418582437962087742:=0
def tw9159244108252522374:=0
def tw11526606772788702011:=0
def tw15036080040530398195:=0
def tw17694573340227235524:=0
def tw14849461344987154502:=0
def tw5467331546851215429:=0
def tw14135006944967825841:=0
def tw5605212467757751356:=0
def tw10624116801336726872:=0
def tw16035376269474964883:=0
def tw1607123104830579860:=0
def tw14170518179582410385:=0
def tw5269183497594736927:=0
def tw14689541978594310382:=0
def tw10203006108894725899:=0
def tw256182404569192445:=0
def tw6829468419937405859:=0
def tw5137589814051832496:=0
def tw4547051000311932777:=0
def tw17951090304560329564:=0
def tw3436067635600285980:=0
def tw10844150739181073093:=0
def tw7397212543588705075:=0
def tw1402340071739887797:=0
def tw424408320835691240:=0
def tw16309811473084048462:=0
def tw9399754086935153974:=0
def tw5953359166732830163:=0
def tw3394231194617021968:=0
def tw180266875558373844:=0
def tw13567515925198824819:=0
def tw12297992134047619483:=0
def tw17632668173026273278:=0
def tw16653001231794029247:=0
def tw15150329256914348856:=0
def tw5299906598163831158:=0
def tw6331431999304432861:=0
def tw7249310025045793396:=0
def tw16998588944726240723:=0
def tw11525993766095887173:=0
def tw13831308528885131752:=0
def tw13813618637161013713:=0
def tw2078950565319712143:=0
end PySem.W.Fast
section
open PySem PySem.W PyProof.Rows
set_option maxHeartbeats 0
open_top hd for PySem.Challenge.rw_sidebook_k57_the_band_by_itself
end
def jc:=@beq_eq_false_iff_ne
def Eg:=@beq_iff_eq
def gk:=@beq_self_eq_true
def Wf:=@congrArg
def Xc:=@decide_eq_false
def Um:=@decide_eq_true
def Lb:=@decide_eq_true_eq
def Ch:=@if_false
def ja:=@if_neg
def ia:=@if_pos
def Ee:=@if_true
def Vm:=@or_false
open Array renaming append_assoc->Jk,forIn_toList->Au,getElem?_eq_getElem->zb,getElem?_eq_none->Gr,getElem?_eq_none_iff->Qo,getElem?_eq_some_iff->Zc,getElem?_extract->Er,getElem?_push->Jt,getElem?_toList->ve,length_toList->nb,toArray_toList->Fj
open Bool renaming and_eq_true->Fa,and_false->bz,false_eq_true->ue,false_ne_true->Xa,false_or->Kk,not_true->ug,or_eq_true->zg
open Classical renaming choose_spec->zaB
open Function renaming comp_def->ik
open Int renaming emod_lt_of_pos->kw,emod_nonneg->ez,toNat_natCast->Xg,zero_add->cE
open List renaming all_cons->sg,all_eq_true->pc,all_map->Rr,any_cons->ee,any_eq_true->Ri,any_map->NB,append_nil->zf,drop_eq_getElem_cons->pq,drop_eq_nil_of_le->Sr,ext_getElem?->Lf,filterMap_cons->dg,filter_cons->Qi,find?_cons->Hc,foldl_cons->Fe,getD_eq_getElem?_getD->Uf,getElem?_append_left->Ta,getElem?_append_right->Tf,getElem?_cons_succ->Hr,getElem?_cons_zero->Si,getElem?_eq_getElem->Pd,getElem?_eq_none->uj,getElem?_eq_none_iff->Eb,getElem?_eq_some_iff->ma,getElem?_map->eb,getElem?_of_mem->Ft,getElem?_replicate->Dr,getElem?_set->Cb,getElem?_set_ne->Et,getElem?_set_self->Pr,getElem?_take_of_lt->Lq,getElem?_toArray->Df,getElem_mem->Ym,head?_eq_some_iff->Ng,length_append->Gd,length_cons->Ma,length_drop->Aw,length_eq_zero_iff->cf,length_eraseIdx_of_lt->xp,length_erase_of_mem->Oq,length_map->pb,length_nil->mj,length_range->xi,length_set->Vx,length_take->Sm,lookup_cons->Va,map_append->Bg,map_cons->Da,map_map->de,map_nil->ce,mem_append->Ud,mem_append_left->Oa,mem_append_right->Mb,mem_cons->Ha,mem_cons_of_mem->ya,mem_cons_self->Aa,mem_filter->oo,mem_filterMap->Rk,mem_map->Db,mem_of_getElem?->Ga,mem_range->Lg,mem_singleton->Jd,nil_append->Yx,nodup_append->ui,nodup_cons->xg,nodup_nil->Oj,not_mem_nil->ie,of_mem_zip->qo,pairwise_iff_getElem->oq,range'_succ->mh,range'_zero->Vi,range_succ_eq_map->Qr,set_append_right->Ss,set_cons_succ->gb,set_cons_zero->ib,size_toArray->wa,sum_cons->BA,take_length->Wm,zip_cons_cons->Wu
open List.Nodup renaming mem_erase_iff->pU
open List.Pairwise renaming imp->gE
open List.Perm renaming cons_inv->zaE
open List.cons renaming injEq->Ht
open Nat renaming add_assoc->Uk,le_of_ble_eq_true->Hj,le_of_eq->bE,le_of_lt->pd,le_refl->na,le_succ->ak,le_trans->yb,lt_irrefl->Te,lt_of_le_of_lt->ci,lt_of_lt_of_le->Ea,lt_succ_of_lt->Hb,lt_succ_self->Gb,lt_trans->ym,lt_trichotomy->Cw,mod_lt->ML,ne_of_gt->wf,ne_of_lt->va,zero_le->Xj
open Ne renaming symm->De
open Option renaming bind_eq_some_iff->Ag,bind_some->ah,getD_none->Vu,isSome_iff_exists->Fd,isSome_map->Tk,map_eq_some_iff->Fb,map_some->vh
open Option.some renaming inj->ub,injEq->kg
open Prod renaming ext->RT
open PyProof.Rows renaming AllBare->yi,IntsAre->zi,IsTup->Yu,callWith_builtin1->lH,callWith_type1->Zg,iadd_int->kH,slot_tuple_getitem->bc,Subscript_->wA,args_list_sort->JL,args_tuple_getitem->vA,boot_isinstance->mH,boot_list->Xu,boot_sum->NL,boot_tuple->Ji,entry_list_iadd'->fE,entry_list_sort->pH,entry_proto_collect'->Wx,entry_tuple_getitem->az,envOfC->Ih,firstMet->Ig,firstMet_length_le->AA,firstMet_succ->nU,firstMet_zero->oU,list_sort_tree->IL,seqObj->UL,slicePart_none->FL,slot_list_sort->HL,sortedHeap_at->mU,sortedHeap_old->KL,step_dedup->DA,subscriptTail->Bu,subscriptTail_builtinR->fw,tupleItemsOf_->UT
open PyProof.Rows.F renaming entry_set_update_loop->Kt,plain_set_update_loop->nj
open PyProof.Rows.IsTup renaming new->cw
open PySem renaming Around->Ia,BindsTo->uf,Builtin->Yf,CmpOp->Pq,DictEntry->bv,Drawn->Zx,ElemsOf->Vr,Env->wh,ExceptHandler->Nh,Expr->Ja,FuncData->He,GenState->So,IsPart->zl,ItemsOf->Vo,Keyword->ck,Model->jk,NameKind->yf,Operator->yl,Params->RL,PassesOwn->uq,PlainAttrs->Zn,Pos->Ye,Program->ra,boot_len->Dc,mem_of_lookup->We,Result->vq,Sem->zp,SetTable->se,Slot->QL,Str->qa,World->Ka,argsOk->WL,assign->gi,assignEach->Ge,atKey->Uo,attributeBase->Ae,backTo->lc,backToKw->Jj,behindInMarks->lf,behindIsImport->SL,binaryOp->xf,bindC->av,bindL->Zu,builtinLookup_eq_fast->Fw,callWith->ay,call_list_seq->jU,call_meetsIn->Oo,callerA->Nl,cellsFrom->mE,codeAny_builtin->Xe,codeAny_handlers_test->Dw,codeAny_mono->yg,codeAny_of_tree->rH,collect->aC,compareOp->dc,concat_meets->bw,entryFor->VL,entryFor_alias->LL,eqIsQuiet_byValue->SB,eval->Nb,evalPart_none->VT,firstArgMember->YL,fits_of_scanBound->nh,foldedSetIterable->ph,getItem->ij,getMethod->Ml,handleBy->TL,holding->Ie,inplaceOp->jE,intBits_le_64->OT,intKind->Mf,isInstance->EA,isSubtype_tuple_tuple->Gw,isSubtype_type->Us,isTrue->CA,keywordEach->bh,leaving->XB,newFields->pE,noFill_tuple_add->nq,noteFrame->dh,pickOrder->xq,plainId_quiet->Mh,relayAll->Xo,release->WB,seqIndex_neg->dw,seqIndex_of->Ux,seq_tuple_add->xu,setFlight->Bi,setItem->Tr,setNext->Yo,sliceBounds->Qh,slot_list_getitem->MB,standAt->hj,starEach->pa,storeName->iE,subscripted->Rq,swappedStores->cn,swapsWith->Ij,swapsWithSole->bn,sysModules->lg,tupleKind->tq,tupleKind_room_in1->Ii,typeLookup_type->tH,typeOf->Xs,valueAt->To,wpAny_Call_Name_kw->Wg,wpAny_Call_method_late->gw,wpAny_Dict_empty->eE,wpAny_Name->rA,wpAny_askSetting->qq,wpAny_assign_Name->JB,wpAny_attempt->Zm,wpAny_bind->aa,wpAny_call->yA,wpAny_callSpecial?_slot->be,wpAny_call_entry->cc,wpAny_comprehension_free->zu,wpAny_execs_cons->aE,wpAny_execs_nil->fk,wpAny_field->wl,wpAny_fieldsOf->xl,wpAny_forIn_list->rq,wpAny_handleBy_cons->dz,wpAny_holding->Nc,wpAny_in_heap->kU,wpAny_isInstance->Gj,wpAny_isTrue_Compare1->zw,wpAny_ite_split->Mg,wpAny_load->Vn,wpAny_loadName_cell->Zy,wpAny_loadName_local->Sx,wpAny_mono->rc,wpAny_newFunctionEnv->Xx,wpAny_newList->lU,wpAny_newObj_type->Sb,wpAny_passesOwn->ai,wpAny_pure->da,wpAny_pyIter_enum->OB,wpAny_pyIter_list->No,wpAny_pyIter_slot->QB,wpAny_pyIter_tuple->xA,wpAny_rule->Zj,wpAny_runValue->Ts,wpAny_seqItems->Vs,wpAny_sequenceKey->KB,wpAny_setEntries_of->Fg,wpAny_setEpoch_of->RB,wpAny_setField->oh,wpAny_setState_of->Xf,wpAny_specialOf->ei,wpAny_standAt->wu,wpAny_storeSet_of->PB,wpAny_truthy_bool->Gc,wpAny_tupleItemsOf->Wn,wpAny_typeOf->Yj,wpAny_updateSeq->uH,wp_field_iff->jw,wp_setField_iff->nH
open PySem.Around renaming under->Qq,under_plainId->Qd
open PySem.BindsTo renaming of_defaults->Yc
open PySem.Builtin.Frozenset renaming newClass->cy,sizeOf->gy,updateFrom->fy
open PySem.Builtin.List renaming listExtendWith->mf,listLengthHint->eh,listSameRef->Ol,listTooLong->Dh,listTouch->wH
open PySem.Builtin.Range renaming rangeSize->kE
open PySem.Builtin.Slice renaming sliceAdjust->qh,sliceApplied->Lk,sliceFields->oE,slicePartIndex->nE,slicePlaces->Af
open PySem.Builtin.Tuple renaming tupleExact->Nf,tupleHashOf->Tc,tupleIsExact->qE,tupleItemsOf->fh
open PySem.Calls renaming Name_function_global->Lo,callWith_builtin->Zi,call_function_entry->vp,evalArgs_plain->Ej
open PySem.CmpOp renaming In->OL,NotIn->VB
open PySem.Code renaming frames->lE,isFrame->Ur
open PySem.DictEntry renaming refKey->zaF
open PySem.EntryCells renaming newEntry->wq
open PySem.F renaming slot_tuple_eq->sq,slot_tuple_hash->Ui,args_tuple_add_2->bi,called_set->sd,entry_tuple_add->ti,excBase_ValueError->Yn,plainAttrs_dict->wg,plain_extend_loop->ro,plain_list_iadd->vg,plain_proto_collect->Xm,plain_set_new->Mq,slot_dict_items->yp,slot_dict_setdefault->zm,slot_dict_update->Po,slot_dict_values->Ro,slot_set_iter->Nq,slot_tuple_add->Hi
open PySem.Heap renaming ExtBut->Nt,FlyingW->ZB,HeldW->Ap,SameBut->Ic,get?_eq_some->iw,get?_push_of_some->ba,get?_push_size->Ba,get?_update_other->tf,get?_update_self->Cc,lt_size->ua,size_push->Fc
open PySem.Heap.DictOf renaming new->GL
open PySem.Heap.IsSliceOf renaming new->LB
open PySem.Heap.IsTuple renaming push->oH
open PySem.Heap.SameBut renaming refl->qH,update->Oc
open PySem.IsL renaming update->zaA
open PySem.NameKind renaming cell->wc,free->jb
open PySem.Obj renaming cls_mapFields->Am,data_mapFields->Xb,isFreed_of_fields->Kf,mapFields->Ue,mapSeq->Gg,putSet->mw
open PySem.PassesOwn renaming leaving->zaC,looking->zaD
open PySem.Sem renaming wp_bind'->xm,wp_mono->yu
open PySem.SeqAt renaming EqAt->Oe,RcAt->aj,RcNeAt->Jh
open PySem.SeqAt.EqAt renaming bool_bool->aU,bool_int->bU,bool_none->ZT,bool_str->cU,int_bool->eU,int_int->fU,int_none->dU,int_str->Jq,none_bool->WT,none_int->XT,none_str->YT,same->Sk,str_bool->hU,str_int->Kq,str_none->gU,str_str->iU
open PySem.SetTable renaming below->Re,fresh->ev,grown->Ef,has->Hw,insertAt->nk
open PySem.SetTable.below renaming go->Wo
open PySem.SetTable.probe renaming go->rh
open PySem.Shared renaming TypeIs->Bp
open PySem.Str renaming ofString->ag
open PySem.Value renaming bool->Cg,bytes->UB,float->Ws,int->Sd,isInt->TB,isInt_shape->Uu,isStrOf->gz,none->La,ref->Ua,str->Bm,type->Dg
open PySem.W renaming callWith_K->di,cellsFrom_some->uA,hideAll_get->iH,kia_one->Of,kitx_dict->aw,kitx_list->QT,methodCall_KW->Pj,mg_of->cz,of_hideAll->vu,plainGet_of->Rs
open PySem.W.Looks renaming ld->zA
open PySem.W.WData renaming int->vH
open PySem.W.WShape renaming has->YB
open PySem.Walks renaming list->dE
open PySem.Within renaming cons->jH
open PySem.pickOrder renaming go->Zo
open Sum.inl renaming inj->Cr
namespace L2
open PySem PySem.Spec PyProof.Rows
noncomputable abbrev Key:=Sum Int qa
noncomputable def bA:Key->Value->Bool
 | .inl k,v=>TB k v
 | .inr x,v=>gz x v
noncomputable def J9(w:Ka):Key->Int
 | .inl k=>hashInt k
 | .inr x=>hashStr w x
theorem Jv:∀ {k:Key} {v:Value},bA k v=true->(∃ i t,k=Sum.inl i/\v=Sd i t)\/(∃ x t,k=Sum.inr x/\v=Bm x t)
 | .inl i,v,h=>by
  obtain⟨t,e⟩:=Uu (k:=i) (v:=v) h;exact .inl ⟨i,t,rfl,e⟩
 | .inr x,v,h=>by
  obtain⟨t,e⟩:=Value.isStrOf_shape (x:=x) (v:=v) h;exact .inr ⟨x,t,rfl,e⟩
theorem zn6(i:Int)(t:Tok):bA (.inl i) (.int i t)=true:=by simp[bA,TB]
theorem uZ(x:qa)(t:Tok):bA (.inr x) (.str x t)=true:=by simp[bA,gz]
theorem ykn(a b:Int):decide ((Sum.inl a:Key)=Sum.inl b)=(a == b):=by
 by_cases e:a=b
 ·subst e;simp
 ·have h:¬ (Sum.inl a:Key)=Sum.inl b:=λq=>e (Cr q);rw[Xc h];exact(jc.mpr e).symm
theorem oX(a b:qa):decide ((Sum.inr a:Key)=Sum.inr b)=decide (a=b):=by
 by_cases e:a=b
 ·subst e;simp
 ·have h:¬ (Sum.inr a:Key)=Sum.inr b:=λq=>e (Sum.inr.inj q);rw[Xc h,Xc e]
theorem A6(a:Int)(b:qa):decide ((Sum.inl a:Key)=Sum.inr b)=false:=Xc (λq=>nomatch q)
theorem nZ(a:qa)(b:Int):decide ((Sum.inr a:Key)=Sum.inl b)=false:=Xc (λq=>nomatch q)
noncomputable def ni(prog:ra)(w:Ka):PySem.KeyKind prog w Key where
 is:=bA
 hash:=J9 w
 inj:=λv a b d hb=>by
  rcases Jv d with⟨i,t,rfl,rfl⟩|⟨x,t,rfl,rfl⟩
  ·rcases Jv hb with⟨j,u,rfl,e⟩|⟨y,u,rfl,e⟩
   ·injection e with e1 _;rw[e1]
   ·exact nomatch e
  ·rcases Jv hb with⟨j,u,rfl,e⟩|⟨y,u,rfl,e⟩
   ·exact nomatch e
   ·injection e with e1 _;rw[e1]
 byValue:=λk v h=>by
  rcases Jv h with⟨i,t,rfl,rfl⟩|⟨x,t,rfl,rfl⟩<;>rfl
 pyHash:=λc h=>by
  rcases Jv c with⟨i,t,rfl,rfl⟩|⟨x,t,rfl,rfl⟩
  ·exact wpAny_pyHash_int h
  ·exact wpAny_pyHash_str h
 eqBool:=λf c h=>by
  rcases Jv f with⟨i,t,rfl,rfl⟩|⟨x,t,rfl,rfl⟩
  ·rcases Jv c with⟨j,u,rfl,rfl⟩|⟨y,u,rfl,rfl⟩
   ·rw[ykn]at h;exact wpAny_eqBool_int h
   ·rw[A6]at h;exact Jq i t y u _ _ _ _ h
  ·rcases Jv c with⟨j,u,rfl,rfl⟩|⟨y,u,rfl,rfl⟩
   ·rw[nZ]at h;exact Kq x t j u _ _ _ _ h
   ·rw[oX]at h;exact wpAny_eqBool_str h
 «strs»:=λk x t v h=>by
  rcases Jv h with⟨i,u,rfl,e⟩|⟨y,u,rfl,e⟩
  ·exact nomatch e
  ·injection e with e1 _;subst e1;cases v<;>rfl
theorem F1(prog:ra)(w:Ka)(k:Key)(v:Value):(ni prog w).is k v=bA k v:=rfl
theorem OX(prog:ra)(w:Ka)(i:Int)(t:Tok):(ni prog w).is (.inl i) (.int i t)=true:=zn6 i t
theorem y6(prog:ra)(w:Ka)(x:qa)(t:Tok):(ni prog w).is (.inr x) (.str x t)=true:=uZ x t
inductive V where
 |Jb|bl (b:Bool)|int (i:Int)|str (x:qa)|yG (b:Array UInt8)|Bz (b:UInt64)|ref (a:Addr)|ty (n:String)
 deriving DecidableEq
noncomputable def Td:V->Value->Prop
 | .Jb,u=>u=La
 | .bl b,u=>u=Cg b
 | .int i,u=>∃ t,u=Sd i t
 | .str x,u=>∃ t,u=Bm x t
 | .yG b,u=>∃ t,u=UB b t
 | .Bz b,u=>∃ t,u=Ws b t
 | .ref a,u=>u=Ua a
 | .ty n,u=>u=Dg n
noncomputable abbrev re:List V->List Value->Prop:=Paired Td
theorem re.length{xs:List V}{us:List Value}(r:re xs us):xs.length=us.length:=Paired.length r
theorem re.get:∀ {xs:List V} {us:List Value} {i:Nat} {x:V},re xs us->xs[i]?=some x->∃ u,us[i]?=some u/\Td x u
 |_,_,_,_,.nil,e=>by simp at e
 |_,_,0,_,.cons r _,e=>by simp at e;subst e;exact⟨_,rfl,r⟩
 |_,_,i+1,x,.cons _ t,e=>by
  obtain⟨u,a,b⟩:=re.get (i:=i) (x:=x) t (by simpa using e);exact⟨u,by simpa using a,b⟩
theorem re.set{x:V}{u:Value}(r:Td x u):∀ {xs:List V} {us:List Value} (i:Nat),re xs us->re (xs.set i x) (us.set i u)
 |_,_,_,.nil=>.nil
 |_,_,0,.cons _ t=>.cons r t
 |_,_,i+1,.cons q t=>.cons q (re.set r i t)
theorem re.append:∀ {xs ys:List V} {us ws:List Value},re xs us->re ys ws->re (xs++ys) (us++ws)
 |_,_,_,_,.nil,s=>s
 |_,_,_,_,.cons r t,s=>.cons r (re.append t s)
theorem re.take:∀ {xs:List V} {us:List Value} (n:Nat),re xs us->re (xs.take n) (us.take n)
 |_,_,0,_=>.nil
 |_,_,_+1,.nil=>.nil
 |_,_,n+1,.cons r t=>.cons r (re.take n t)
theorem re.drop:∀ {xs:List V} {us:List Value} (n:Nat),re xs us->re (xs.drop n) (us.drop n)
 |_,_,0,r=>r
 |_,_,_+1,.nil=>.nil
 |_,_,n+1,.cons _ t=>re.drop n t
theorem re.none_of:∀ {xs:List V} {us:List Value} {i:Nat},re xs us->xs[i]?=none->us[i]?=none:=fun {xs us i} r e=>by
 have a:=r.length;have b:xs.length<=i:=Eb.mp e;exact Eb.mpr (by omega)
noncomputable def gp:Option V->Option Value->Prop
 |some v,some u=>Td v u
 |none,none=>True
 |_,_=>False
noncomputable def KV{a:Type}:List (a × V)->List (a × Value)->Prop:=Paired λ(p:a × V) (q:a × Value)=>p.1=q.1/\Td p.2 q.2
noncomputable def kV:Key->V
 | .inl i=>.int i
 | .inr x=>.str x
inductive HO where
 |lst (xs:List V)
 |tup (xs:List V)
 |dK (kvs:List (Key × V))|dT (kvs:List (List Key × V))
 |set (S:Int->Bool) (n:Nat)
 |ins (C dx:Addr) (fs:List (qa × V))
 |own (x:Addr)
 |xd (fs:List (qa × V))
 |met (f x:Addr)
 |EE (lo hi:Int)
 |Za (o:Obj) (u:HO)
 |Hu (ps:Array Value)
 |ext (φ:Heap->Prop)
noncomputable abbrev Hp:=Addr->Option HO
noncomputable def upd(H:Hp)(a:Addr)(o:HO):Hp:=λb=>if b=a then some o else H b
theorem kh{H:Hp}{a:Addr}{o:HO}:upd H a o a=some o:=by unfold upd;rw[ia rfl]
theorem qe{H:Hp}{a b:Addr}{o:HO}(h:b≠a):upd H a o b=H b:=by unfold upd;rw[ja h]
theorem UI{H:Hp}{a b:Addr}{o u:HO}(h:H a=some o)(h':H b=some u)(d:o≠u):a≠b:=by
 intro e;subst e;rw[h]at h';exact d (ub h')
theorem Wp{H:Hp}{a b:Addr}{o:HO}(h:H a=some o)(h':H b=none):a≠b:=by
 intro e;subst e;rw[h]at h';cases h'
section
variable(P:ra)(w:Ka)
noncomputable def Xi(H:Hp)(h:Heap)(a:Addr):HO->Prop
 | .lst xs=>xs.length<=sizeLine/\∃ (b:List Value) (n:Nat),re xs b/\h.get? a=some { cls:=.type "list",data:=.seq b.toArray n }
 | .tup xs=>xs.length<=sizeLine/\∃ b:List Value,re xs b/\Yu h a b.toArray
 | .dK c=>c.length<=sizeLine/\(a == lg)=false/\∃ k,KV c k/\h.DictOf (ni P w) a k
 | .dT c=>c.length<=sizeLine/\(a == lg)=false/\∃ xs:List (List Key × Addr × Value),
   Paired (λ(p:List Key × V) (q:List Key × Addr × Value)=>p.1=q.1/\H q.2.1=some (.tup (p.1.map kV))/\Td p.2 q.2.2) c xs/\
   ∃ o g l,h.get? a=some o/\o.ExactDict/\o.data=.dict g l/\g.toList=xs.map (entryOfKey (tq (ni P w)))/\(xs.map (·.1)).Nodup
 | .set S n=>h.SetOf (Mf P w) a S n
 | .ins C e fs=>H e=some (.own a)/\fs.length<=1000/\e≠a/\h.get? a=some (W.instObj C e)/\
   ∃ d,h.Ns1 e d/\(∀ f,gp (fs.lookup f) (d f))/\PySem.Within d (fs.map (·.1))
 | .own _=>∃ o,h.get? a=some o
 | .xd fs=>∃ d,h.Ns1 a d/\∀ f,gp (fs.lookup f) (d f)
 | .EE lo m=>∃ t u v,h.get? a=some { cls:=.type "range",data:=.fields #[.int lo t,.int m u,.int 1 v] }
 | .Za o u=>h.get? a=some o/\Xi H h a u
 | .Hu r=>h.get? a=some { cls:=.none,data:=.fields r }
 | .met f x=>h.get? a=some (W.methodObj (.ref f) (.ref x))
 | .ext φ=>φ h/\(∃ o,h.get? a=some o)/\∀ i j:Heap,φ i->(∀ o,i.get? a=some o->j.get? a=some o)->φ j
noncomputable def Pi(H:Hp)(h:Heap):Prop:=∀ a o,H a=some o->Xi P w H h a o
end
section
variable{P:ra}{w:Ka}{H H':Hp}{h h':Heap}{a:Addr}{o:HO}
theorem Xi.lt(x:Xi P w H h a o):a<h.objs.size:=by
 cases o with
 |lst xs=>obtain⟨_,_,_,_,e⟩:=x;exact ua e
 |tup xs=>obtain⟨_,_,_,p⟩:=x;exact p.lt
 |dK b=>obtain⟨_,_,_,_,o,_,_,e,_⟩:=x;exact ua e
 |dT b=>obtain⟨_,_,_,_,o,_,_,e,_⟩:=x;exact ua e
 |set S n=>obtain⟨o,_,_,_,e,_⟩:=x;exact ua e
 |ins C c fs=>obtain⟨_,_,_,e,_⟩:=x;exact ua e
 |own y=>obtain⟨_,e⟩:=x;exact ua e
 |xd fs=>obtain⟨_,⟨_,_,_,e,_⟩,_⟩:=x;exact ua e
 |EE lo d=>obtain⟨_,_,_,e⟩:=x;exact ua e
 |Za g u=>obtain⟨e,_⟩:=x;exact ua e
 |Hu i=>exact ua (show h.get? a=some _ from x)
 |met f y=>exact ua (show h.get? a=some _ from x)
 |ext j=>obtain⟨_,⟨_,e⟩,_⟩:=x;exact ua e
theorem Paired.Es{e g:Type}{F G:e->g->Prop}:∀ {c:List e} {d:List g},Paired F c d->(∀ a b,F a b->G a b)->Paired G c d
 |_,_,.nil,_=>.nil
 |_,_,.cons r t,f=>.cons (f _ _ r) (Paired.Es t f)
theorem Xi.jm(x:Xi P w H h a o)(k:∀ b u,(b=a\/H b=some (.own a))->h.get? b=some u->h'.get? b=some u)
  (F:∀ b,H b=some (.own a)->H' b=some (.own a)) (G:∀ b xs,H b=some (.tup xs)->H' b=some (.tup xs)):Xi P w H' h' a o:=by
 induction o with
 |lst xs=>obtain⟨z,l,n,r,e⟩:=x;exact⟨z,l,n,r,k _ _ (.inl rfl) e⟩
 |tup xs=>obtain⟨z,l,r,g,e,c⟩:=x;exact⟨z,l,r,g,k _ _ (.inl rfl) e,c⟩
 |dK m=>obtain⟨z,y,J,r,g,j,i,e,c⟩:=x;exact⟨z,y,J,r,g,j,i,k _ _ (.inl rfl) e,c⟩
 |dT m=>
  obtain⟨z,y,xs,r,g,j,i,e,c⟩:=x;exact⟨z,y,xs,Paired.Es r λp q z=>⟨z.1,G _ _ z.2.1,z.2.2⟩,g,j,i,k _ _ (.inl rfl) e,c⟩
 |set S n=>obtain⟨g,j,i,t,e,c⟩:=x;exact⟨g,j,i,t,k _ _ (.inl rfl) e,c⟩
 |ins C K fs=>
  obtain⟨d,z,ne,e,s,⟨A,j,i,E,c⟩,r⟩:=x;exact⟨F _ d,z,ne,k _ _ (.inl rfl) e,s,⟨A,j,i,k _ _ (.inr d) E,c⟩,r⟩
 |own y=>obtain⟨g,e⟩:=x;exact⟨g,k _ _ (.inl rfl) e⟩
 |xd fs=>obtain⟨s,⟨A,j,i,e,c⟩,r⟩:=x;exact⟨s,⟨A,j,i,k _ _ (.inl rfl) e,c⟩,r⟩
 |EE lo L=>obtain⟨t,u,v,e⟩:=x;exact⟨t,u,v,k _ _ (.inl rfl) e⟩
 |Za g u I=>obtain⟨e,q⟩:=x;exact⟨k _ _ (.inl rfl) e,I q⟩
 |Hu B=>
  have e:h.get? a=some { cls:=.none,data:=.fields B }:=x;show h'.get? a=some { cls:=.none,data:=.fields B };exact k a _ (.inl rfl) e
 |met f y=>
  have e:h.get? a=some (W.methodObj (.ref f) (.ref y)):=x;show h'.get? a=some (W.methodObj (.ref f) (.ref y));exact k a _ (.inl rfl) e
 |ext M=>obtain⟨p,⟨o,e⟩,D⟩:=x;exact⟨D _ _ p λo q=>k _ _ (.inl rfl) q,⟨o,k _ _ (.inl rfl) e⟩,D⟩
theorem Pi.lt(x:Pi P w H h)(e:H a=some o):a<h.objs.size:=(x a o e).lt
theorem Pi.fresh(x:Pi P w H h)(e:h.objs.size<=a):H a=none:=by
 cases q:H a with
 |none=>rfl
 |some u=>exact absurd (Ea (x.lt q) e) (Te _)
theorem Pi.kept(x:Pi P w H h)(k:∀ b u,h.get? b=some u->h'.get? b=some u):Pi P w H h':=λa o e=>
 (x a o e).jm (λb u _ q=>k b u q) (λ_ q=>q) λ_ _ q=>q
theorem Pi.laid(x:Pi P w H h)(k:∀ b u,h.get? b=some u->h'.get? b=some u)(f:h.objs.size<=a)(d:Xi P w (upd H a o) h' a o):Pi P w (upd H a o) h':=λb u e=>by
 have hn:=x.fresh f;by_cases hb:b=a
 ·subst hb;rw[kh]at e;cases e;exact d
 ·rw[qe hb]at e;exact(x b u e).jm (λc v _ q=>k c v q) (λc q=>by rw[qe (Wp q hn)];exact q) λc xs q=>by rw[qe (Wp q hn)];exact q
end
noncomputable def Rd(H:Hp)(a:Addr)(u:HO):Prop:=H a=some u\/∃ o,H a=some (.Za o u)
theorem Rd.of{H:Hp}{a:Addr}{u:HO}(h:H a=some u):Rd H a u:=.inl h
theorem Rd.ok{P:ra}{w:Ka}{H:Hp}{h:Heap}{a:Addr}{u:HO}(r:Rd H a u)(x:Pi P w H h):Xi P w H h a u:=by
 rcases r with r|⟨o,r⟩
 ·exact x a u r
 ·obtain⟨_,q⟩:=x a _ r;exact q
noncomputable def eD:Option HO->Prop
 |some (.lst _)=>True
 |some (.dK _)=>True
 |some (.dT _)=>True
 |some (.set _ _)=>True
 |some (.ins _ _ _)=>True
 |some (.ext _)=>True
 |_=>False
section
variable{P:ra}{w:Ka}{H:Hp}{h h':Heap}{x e:Addr}{o':HO}
theorem Pi.write(ok:Pi P w H h)(i:eD (H x))(m:e=x\/H e=some (.own x))(k:∀ b u,b≠e->h.get? b=some u->h'.get? b=some u)(j:∃ u,h'.get? e=some u)
  (l:Xi P w (upd H x o') h' x o'):Pi P w (upd H x o') h':=λb u q=>by
 have d:∀ c y,H c=some (.own y)->c≠x:=λc y r z=>by subst z;rw[r]at i;exact i
 have f:∀ c xs,H c=some (.tup xs)->c≠x:=λc xs r z=>by subst z;rw[r]at i;exact i
 by_cases hb:b=x
 ·subst hb;rw[kh]at q;cases q;exact l
 ·rw[qe hb]at q;by_cases a:b=e
  ·have n:H b=some (.own x):=by
    rcases m with z|z
    ·exact absurd (a.trans z) hb
    ·rw[a];exact z
   rw[q]at n;cases n;obtain⟨v,o⟩:=j;exact⟨v,by rw[a];exact o⟩
  ·refine(ok b u q).jm (λc v g r=>k c v ?_ r) (λc r=>by rw[qe (d c b r)];exact r) λc xs r=>by rw[qe (f c xs r)];exact r
   rcases g with rfl|g
   ·exact a
   ·rintro rfl;rcases m with z|z
    ·exact d c b g z
    ·rw[g]at z;cases z;exact hb rfl
end
structure Un(fs ex:List Addr)(H H':Hp)(h h':Heap):Prop where
 keep:∀ b o,h.get? b=some o->H b=none->b ∉ fs->b ∉ ex->h'.get? b=some o
 slot:∀ b o,h.get? b=some o->H b=none->b∈fs->b ∉ ex->∃ sl,h'.get? b=some { o with slots:=sl }
 free:∀ b o,h.get? b=some o->H b=none->b ∉ ex->H' b=none
 there:∀ b o,h.get? b=some o->b ∉ ex->∃ o',h'.get? b=some o'
 Di:∀ b xs,H b=some (.tup xs)->H' b=some (.tup xs)
 Ph:∀ b o u,H b=some (.Za o u)->H' b=some (.Za o u)
 Ci:∀ b ps,H b=some (.Hu ps)->∃ more,H' b=some (.Hu (ps++more))
section
variable{fs fs' ex ex':List Addr}{H H1 H2:Hp}{h h1 h2 h':Heap}{a x e:Addr}{o:HO}
theorem Un.any(u:Un fs ex H H1 h h1){b:Addr}{ob:Obj}(q:h.get? b=some ob)(n:H b=none)(a:b ∉ ex):∃ c,h1.get? b=some { ob with slots:=c }:=by
 by_cases hb:b∈fs
 ·exact u.slot b ob q n hb a
 ·exact⟨ob.slots,u.keep b ob q n hb a⟩
theorem Un.trans(a:Un fs ex H H1 h h1)(b:Un fs ex H1 H2 h1 h2):Un fs ex H H2 h h2 where
 keep:=λc e q n g d=>b.keep c e (a.keep c e q n g d) (a.free c e q n d) g d
 slot:=λc e q n g d=>by
  obtain⟨p,f⟩:=a.slot c e q n g d;obtain⟨k,i⟩:=b.slot c _ f (a.free c e q n d) g d;exact⟨k,i⟩
 free:=λc e q n d=>by
  obtain⟨j,f⟩:=a.there c e q d;exact b.free c j f (a.free c e q n d) d
 there:=λc e q d=>by
  obtain⟨j,f⟩:=a.there c e q d;exact b.there c j f d
 Di:=λc xs q=>b.Di c xs (a.Di c xs q)
 Ph:=λc e xs q=>b.Ph c e xs (a.Ph c e xs q)
 Ci:=λc o q=>by
  obtain⟨l,f⟩:=a.Ci c o q;obtain⟨m,i⟩:=b.Ci c _ f;exact⟨l++m,by rw[i,Jk]⟩
theorem Un.kept(k:∀ b u,h.get? b=some u->h'.get? b=some u):Un fs ex H H h h':=
 ⟨λb a q _ _ _=>k b a q,λb a q _ _ _=>⟨a.slots,k b a q⟩,λ_ _ _ n _=>n,λb a q _=>⟨a,k b a q⟩,λ_ _ q=>q,λ_ _ _ q=>q,λ_ c q=>⟨#[],by rw[q];simp⟩⟩
theorem Un.refl:Un fs ex H H h h:=Un.kept λ_ _ q=>q
theorem Un.laid(k:∀ b u,h.get? b=some u->h'.get? b=some u)(c:h.objs.size<=a)(hn:H a=none):Un fs ex H (upd H a o) h h' where
 keep:=λb u q _ _ _=>k b u q
 slot:=λb u q _ _ _=>⟨u.slots,k b u q⟩
 free:=λb u q n _=>by rw[qe (va (Ea (ua q) c))];exact n
 there:=λb u q _=>⟨u,k b u q⟩
 Di:=λb xs q=>by rw[qe (Wp q hn)];exact q
 Ph:=λb u xs q=>by rw[qe (Wp q hn)];exact q
 Ci:=λb d q=>⟨#[],by rw[qe (Wp q hn),q];simp⟩
theorem Un.write(c:eD (H x))(g:e=x\/H e=some (.own x))(k:∀ b u,b≠e->h.get? b=some u->h'.get? b=some u)(d:∃ u,h'.get? e=some u):Un fs ex H (upd H x o) h h':=by
 have f:∀ b,H b=none->b≠x:=λb n z=>by subst z;rw[n]at c;exact c
 have hb:∀ b,H b=none->b≠e:=λb n z=>by
  subst z;rcases g with r|r
  ·exact f b n r
  ·rw[n]at r;cases r
 have hm:∀ b u,H b=some u->¬ eD (some u)->b≠x:=λb u q nm z=>by subst z;rw[q]at c;exact nm c
 refine⟨λb u q n _ _=>k b u (hb b n) q,λb u q n _ _=>⟨u.slots,k b u (hb b n) q⟩,λb u q n _=>by rw[qe (f b n)];exact n,λb u q _=>?_,
  λb xs q=>by rw[qe (hm b _ q λz=>z)];exact q,λb u xs q=>by rw[qe (hm b _ q λz=>z)];exact q,λb i q=>⟨#[],by rw[qe (hm b _ q λz=>z),q];simp⟩⟩
 by_cases a:b=e
 ·subst a;exact d
 ·exact⟨u,k b u a q⟩
theorem Un.mono(u:Un fs ex H H1 h h1)(e:∀ b∈fs,b∈fs')(d:∀ b∈ex,b∈ex'):Un fs' ex' H H1 h h1:=
 ⟨λb c q n hb a=>u.keep b c q n (λz=>hb (e b z)) λz=>a (d b z),λ_ _ q n _ a=>u.any q n λz=>a (d _ z),λb c q n a=>u.free b c q n λz=>a (d b z),λb c q a=>u.there b c q λz=>a (d b z),u.Di,u.Ph,u.Ci⟩
end
noncomputable def TF(h:Heap)(H:Hp):List Addr:=(List.range h.objs.size).filter λa=>(H a).isSome
noncomputable def Mx(h:Heap)(H:Hp):Heap:=W.hideAll h (TF h H)
theorem U8(h:Heap)(H:Hp):(Mx h H).objs.size=h.objs.size:=W.hideAll_size _ _
theorem pV{h:Heap}{H:Hp}{b:Addr}{o:Obj}(e:h.get? b=some o)(n:H b=none):(Mx h H).get? b=some o:=
 iH _ e λhm=>by
  have q:(H b).isSome=true:=(oo.mp hm).2;rw[n]at q;simp at q
theorem dX{h:Heap}{H:Hp}{b:Addr}{o:Obj}(e:(Mx h H).get? b=some o):h.get? b=some o/\H b=none:=by
 have a:h.get? b=some o:=vu (TF h H) e;refine⟨a,?_⟩;cases q:H b with
 |none=>rfl
 |some x=>
  have hm:b∈TF h H:=oo.mpr ⟨Lg.mpr (ua a),by simp[q]⟩;have z:(Mx h H).get? b=none:=W.hideAll_none (TF h H) hm;rw[z]at e;cases e
noncomputable def BU(g h:Heap)(L:Addr):List (Addr × Obj):=(List.range h.objs.size).filterMap λa=>if a=L\/(g.get? a).isSome=true then none else (h.get? a).map λo=>(a,o)
noncomputable def vf(g h:Heap)(L d:Addr):List (Addr × Obj):=(BU g h L).filter λp=>decide (p.1≠d)
structure Mod(K:W.Frag)(mg:qa->Option Value)(base:Heap):Prop where
 qx:K.In base
 glob:base.Ns mainGlobals mg
 blt:∃ mb,base.Ns builtinsNs mb/\∀ x:qa,x ≠ "__name__"->mb x=bootBuiltins x
 nolimit:base.NoLimit
structure Cx where
 prog:ra
 w:Ka
 K:W.Frag
 mg:qa->Option Value
 base:Heap
 A:Ia
 N:List qa
 s₀:Shared
 H₀:Hp
 env:wh
 outer:List wh
 stack:List wh
 ex:List Addr
 fn:qa->Bool
 calm:Bool
 pn:List (Addr × Obj)
 xe:Value->Shared->Prop
noncomputable def yj(l:List wh):List Addr:=l.filterMap (·.frame)
noncomputable abbrev Cx.fs(X:Cx):List Addr:=yj X.outer
noncomputable def MC(sc:Scope)(x:qa):Prop:=sc.names.lookup x=some .local\/sc.names.lookup x=some .cell\/sc.names.lookup x=some .free
noncomputable def Loc(sc:Scope)(x:qa):Prop:=sc.names.lookup x=some .local\/sc.names.lookup x=some .cell
noncomputable def P0(env:wh)(h:Heap)(m:qa->Option Value)(x:qa)(u:Value):Prop:=
 (env.kindOf x=some .local/\m x=some u)\/((env.kindOf x=some .cell\/env.kindOf x=some .free)/\∃ c,env.cells.lookup x=some c/\h.IsCell c (some u))
structure Cx.Ok(X:Cx):Prop where
 mod:Mod X.K X.mg X.base
 kind:X.env.scope.kind=.function
 glob:X.env.globals=mainGlobals
 blt:X.env.builtins=builtinsNs
 above:X.s₀.heap.objs.size<=X.env.locals
 inj:∀ x y c,X.env.cells.lookup x=some c->X.env.cells.lookup y=some c->x=y
 has:∀ x,(X.env.kindOf x=some .cell\/X.env.kindOf x=some .free)->∃ c,X.env.cells.lookup x=some c
 uy:∀ x c,X.fn x=true->X.env.cells.lookup x=some c->X.s₀.heap.objs.size<=c
 hd:X.calm=true->X.A.handled=none
 frames:X.A.frames=some X.stack
 Zp:X.stack=X.outer\/(X.stack=X.env::X.outer/\X.env.frame=some X.env.locals)
 Mz:∀ b∈X.ex,b≠X.env.locals/\∀ x c,X.env.cells.lookup x=some c->c≠b
 bs:∀ b o,X.base.get? b=some o->X.s₀.heap.get? b=some o/\X.H₀ b=none
 au:X.base.objs.size<=X.s₀.heap.objs.size
 tr:∀ b o,X.base.get? b=some o->b ∉ X.ex
 jr:∀ b∈X.ex,b ∉ X.fs
 zj:X.s₀.heap.FunFrames X.base X.outer
 uv:∀ b∈X.fs,X.H₀ b=none
structure Inv(X:Cx)(pins:List (Addr × Obj))(σ:List (Option V))(H:Hp)(s:Shared):Prop where
 ok:X.Ok
 os:s.os=X.s₀.os
 bare:yi s.gens
 base:Un X.fs X.ex X.H₀ H X.s₀.heap s.heap
 loc:∃ m,s.heap.Ns X.env.locals m/\∀ (i:Nat) (x:qa) (v:V),X.N[i]?=some x->σ[i]?=some (some v)->MC X.env.scope x->∃ u,Td v u/\P0 X.env s.heap m x u
 cell:∀ x c,X.env.cells.lookup x=some c->∃ v,s.heap.IsCell c v
 free:H X.env.locals=none
 Kg:∀ x c,X.env.cells.lookup x=some c->H c=none
 pin:∀ p∈X.pn++pins,s.heap.get? p.1=some p.2/\H p.1=none/\p.1≠X.env.locals/\p.1 ∉ X.fs/\∀ v,p.2.data≠.cell v
 Rb:Pi X.prog X.w H s.heap
 len:σ.length=X.N.length
section
variable{X:Cx}{pins:List (Addr × Obj)}{σ:List (Option V)}{H H':Hp}{s:Shared}{h':Heap}
theorem Cx.Ok.MK(ok:X.Ok){b:Addr}{o:Obj}(e:X.base.get? b=some o):b ∉ X.fs:=λhb=>by
 have:=(ok.zj.mem hb).1;rw[e]at this;cases this
theorem Inv.bs(I:Inv X pins σ H s):∀ b o,X.base.get? b=some o->s.heap.get? b=some o/\H b=none:=λb o e=>
 ⟨I.base.keep b o (I.ok.bs b o e).1 (I.ok.bs b o e).2 (I.ok.MK e) (I.ok.tr b o e),I.base.free b o (I.ok.bs b o e).1 (I.ok.bs b o e).2 (I.ok.tr b o e)⟩
theorem Inv.bk(I:Inv X pins σ H s):∀ b o,X.base.get? b=some o->s.heap.get? b=some o:=λb o e=>(I.bs b o e).1
theorem Inv.mod(I:Inv X pins σ H s):Mod X.K X.mg X.base:=I.ok.mod
theorem Inv.Cj(I:Inv X pins σ H s):X.K.In s.heap:=I.ok.mod.qx.keeps I.bk
theorem Inv.nolimit(I:Inv X pins σ H s):s.heap.NoLimit:=I.ok.mod.nolimit.keeps I.bk
theorem Inv.lt(I:Inv X pins σ H s):X.env.locals<s.heap.objs.size:=let ⟨_,hn,_⟩:=I.loc;hn.lt
theorem Inv.sz(I:Inv X pins σ H s):X.s₀.heap.objs.size<=s.heap.objs.size:=yb I.ok.above (pd I.lt)
theorem Inv.VJ(I:Inv X pins σ H s){a:Addr}(h:s.heap.objs.size<=a):a ∉ X.fs:=λhb=>by
 obtain⟨_,o,b,_⟩:=I.ok.zj.mem hb;exact absurd (Ea (ua b) (yb I.sz h)) (Te _)
theorem Inv.Hx(I:Inv X pins σ H s):∀ x c,X.env.cells.lookup x=some c->c≠X.env.locals:=λx c e z=>by
 obtain⟨v,o,d,hd⟩:=I.cell x c e;obtain⟨m,⟨h,g,f,b,a,_⟩,_⟩:=I.loc;rw[z,b]at d;cases d;rw[a]at hd;cases hd
theorem Inv.zj(I:Inv X pins σ H s):s.heap.FunFrames X.base X.outer:=by
 have all:∀ (l:List wh),(∀ b∈yj l,b∈X.fs)->X.s₀.heap.FunFrames X.base l->s.heap.FunFrames X.base l:=by
  intro l;induction l with
  |nil=>intro _ _;trivial
  |cons env r j=>
   intro d g;obtain⟨f,⟨L,o,c,hn,h,hd⟩,i⟩:=g;have a:L∈X.fs:=d L (by unfold yj;rw[dg,c];exact Aa);obtain⟨k,e⟩:=I.base.slot L o h (I.ok.uv L a) a λz=>I.ok.jr L z a;exact⟨f,⟨L,_,c,hn,e,hd⟩,j (λb hb=>d b (by unfold yj;rw[dg,c];exact ya _ hb)) i⟩
 exact all X.outer (λ_ hb=>hb) I.ok.zj
theorem Inv.stack(I:Inv X pins σ H s):s.heap.FunFrames X.base X.stack:=by
 rcases I.ok.Zp with e|⟨e,a⟩
 ·rw[e];exact I.zj
 ·rw[e];obtain⟨m,hn,_⟩:=I.loc;refine .cons (by rw[I.ok.kind];decide) a hn ?_ I.zj;exact Heap.get?_none_of_le (yb I.ok.au I.ok.above)
theorem Inv.Ms(I:Inv X pins σ H s):∀ b∈yj X.stack,b∈X.env.locals::X.fs:=λb hb=>by
 rcases I.ok.Zp with e|⟨e,a⟩
 ·rw[e]at hb;exact ya _ hb
 ·rw[e]at hb;unfold yj at hb;rw[dg,a]at hb;exact hb
theorem Inv.Nm(I:Inv X pins σ H s):∀ b∈yj X.stack,H b=none:=λb hb=>by
 rcases Ha.mp (I.Ms b hb)with e|hb
 ·rw[e];exact I.free
 ·obtain⟨_,o,a,_⟩:=I.ok.zj.mem hb;exact I.base.free b o a (I.ok.uv b hb) λz=>I.ok.jr b z hb
theorem Inv.step{g':Array So}{t':Nat}{d':Zx}{ch:List Addr}(I:Inv X pins σ H s)
  (g:∀ b∈ch,(b∈X.ex\/X.s₀.heap.objs.size<=b)/\b≠X.env.locals/\(∀ x c,X.env.cells.lookup x=some c->c≠b)/\∀ p∈X.pn++pins,p.1≠b)
  (keep:∀ b o,b≠X.env.locals->b ∉ X.fs->b ∉ ch->s.heap.get? b=some o->H b=none->h'.get? b=some o)
  (slot:∀ b o,b≠X.env.locals->b∈X.fs->b ∉ ch->s.heap.get? b=some o->H b=none->∃ D,h'.get? b=some { o with slots:=D }) (free:∀ b o,b ∉ ch->s.heap.get? b=some o->H b=none->H' b=none)
  (there:∀ b o,b ∉ ch->s.heap.get? b=some o->∃ C,h'.get? b=some C)
  (Di:∀ b xs,H b=some (.tup xs)->H' b=some (.tup xs)) (Ph:∀ b o u,H b=some (.Za o u)->H' b=some (.Za o u)) (Ci:∀ b ps,H b=some (.Hu ps)->∃ more,H' b=some (.Hu (ps++more)))
  (ns:∀ m,s.heap.Ns X.env.locals m->h'.Ns X.env.locals m) (Rb:Pi X.prog X.w H' h') (L:yi g') :
  Inv X pins σ H' { s with heap:=h',gens:=g',drawn:=d',toks:=t' }:=by
 have B:∀ b o,X.s₀.heap.get? b=some o->b≠X.env.locals:=λb o e=>va (Ea (ua e) I.ok.above);have t:∀ b o,X.s₀.heap.get? b=some o->b ∉ X.ex->b ∉ ch:=λb o e a hb=>by
  rcases(g b hb).1 with z|z
  ·exact a z
  ·exact absurd (Ea (ua e) z) (Te _)
 have f:∀ x c,X.env.cells.lookup x=some c->∀ v,s.heap.IsCell c v->h'.IsCell c v:=λx c e v ⟨o,y,hd⟩=>by
  have h:c ∉ ch:=λz=>(g c z).2.2.1 x c e rfl;by_cases F:c∈X.fs
  ·obtain⟨D,q⟩:=slot c o (I.Hx x c e) F h y (I.Kg x c e);exact⟨_,q,hd⟩
  ·exact⟨o,keep c o (I.Hx x c e) F h y (I.Kg x c e),hd⟩
 refine⟨I.ok,I.os,L,⟨λb o e n hb a=>?_,λb o e n hb a=>?_,λb o e n a=>?_,λb o e a=>?_,λb xs e=>Di b xs (I.base.Di b xs e),λb o xs e=>Ph b o xs (I.base.Ph b o xs e),λb ps e=>?_⟩,?_,λx c e=>?_,?_,λx c e=>?_,λp G=>?_,Rb,I.len⟩
 ·exact keep b o (B b o e) hb (t b o e a) (I.base.keep b o e n hb a) (I.base.free b o e n a)
 ·obtain⟨D,j⟩:=I.base.slot b o e n hb a;obtain⟨E,A⟩:=slot b _ (B b o e) hb (t b o e a) j (I.base.free b o e n a);exact⟨E,A⟩
 ·obtain⟨C,j⟩:=I.base.there b o e a;exact free b C (t b o e a) j (I.base.free b o e n a)
 ·obtain⟨C,j⟩:=I.base.there b o e a;exact there b C (t b o e a) j
 ·obtain⟨N,j⟩:=I.base.Ci b ps e;obtain⟨O,A⟩:=Ci b _ j;exact⟨N++O,by rw[A,Jk]⟩
 ·obtain⟨m,hn,M⟩:=I.loc;refine⟨m,ns m hn,λi x v j A K=>?_⟩;obtain⟨u,r,l⟩:=M i x v j A K;refine⟨u,r,?_⟩;rcases l with l|⟨k,c,e,z⟩
  ·exact .inl l
  ·exact .inr ⟨k,c,e,f x c e _ z⟩
 ·obtain⟨v,z⟩:=I.cell x c e;exact⟨v,f x c e v z⟩
 ·obtain⟨m,⟨o,_,_,y,_⟩,_⟩:=I.loc;exact free _ o (λz=>(g _ z).2.1 rfl) y I.free
 ·obtain⟨v,o,y,hd⟩:=I.cell x c e;exact free c o (λz=>(g c z).2.2.1 x c e rfl) y (I.Kg x c e)
 ·obtain⟨e,n,ne,J,d⟩:=I.pin p G;have h:p.1 ∉ ch:=λz=>(g p.1 z).2.2.2 p G rfl;exact⟨keep p.1 p.2 ne J h e n,free p.1 p.2 h e n,ne,J,d⟩
theorem Inv.un{t':Nat}(I:Inv X pins σ H s)(u:Un X.fs [] H H' s.heap h')(Rb:Pi X.prog X.w H' h'):Inv X pins σ H' { s with heap:=h',toks:=t' }:=by
 obtain⟨m,⟨o,j,i,f,r⟩,_⟩:=id I.loc;obtain⟨p,g⟩:=u.any f I.free (by simp);exact I.step (g':=s.gens) (d':=s.drawn) (ch:=[]) (λ_ z=>nomatch z) (λb o _ hb _ e n=>u.keep b o e n hb (by simp)) (λb o _ hb _ e n=>u.slot b o e n hb (by simp)) (λb o _ e n=>u.free b o e n (by simp)) (λb o _ e=>u.there b o e (by simp)) u.Di u.Ph u.Ci (λk hm=>by
  obtain⟨l,d,c,a,h⟩:=hm;rw[f]at a;cases a;exact⟨_,d,c,g,h⟩) Rb I.bare
theorem Inv.call{g':Array So}{t':Nat}{d':Zx}{ch:List Addr}(I:Inv X pins σ H s)(u:Un (yj X.stack) ch H H' s.heap h')(Rb:Pi X.prog X.w H' h')(k:yi g')
  (d:∀ b∈ch,(b∈X.ex\/X.s₀.heap.objs.size<=b)/\b≠X.env.locals/\(∀ x c,X.env.cells.lookup x=some c->c≠b)/\∀ p∈X.pn++pins,p.1≠b) :
  Inv X pins σ H' { s with heap:=h',gens:=g',drawn:=d',toks:=t' }:=by
 obtain⟨m,⟨o,t,q,j,r⟩,_⟩:=id I.loc;obtain⟨A,i⟩:=u.any j I.free λz=>(d _ z).2.1 rfl;exact I.step (ch:=ch) d (λb o i hb a e n=>u.keep b o e n (λz=>(Ha.mp (I.Ms b z)).elim i hb) a) (λb o _ _ a e n=>u.any e n a) (λb o a e n=>u.free b o e n a) (λb o a e=>u.there b o e a) u.Di u.Ph u.Ci (λv hm=>by
  obtain⟨y,h,g,f,l⟩:=hm;rw[j]at f;cases f;exact⟨_,h,g,i,l⟩) Rb k
theorem Inv.turned{t':Nat}{it:Addr}(I:Inv X pins σ H s)(k:∀ b o,b≠it->s.heap.get? b=some o->h'.get? b=some o)(hn:H it=none)(f:it≠X.env.locals)
  (i:it∈X.ex\/X.s₀.heap.objs.size<=it) (j:∀ x c,X.env.cells.lookup x=some c->c≠it) (l:∀ p∈X.pn++pins,p.1≠it):Inv X pins σ H { s with heap:=h',toks:=t' }:=by
 have d:∀ b u,H b=some u->b≠it:=λb u e z=>by rw[z,hn]at e;cases e
 refine I.step (g':=s.gens) (d':=s.drawn) (ch:=[it]) (λb hb=>?_) (λb o _ _ a e _=>k b o (λz=>a (by simp[z])) e) (λb o _ _ a e _=>⟨o.slots,k b o (λz=>a (by simp[z])) e⟩) (λ_ _ _ _ n=>n)
  (λb o a e=>⟨o,k b o (λz=>a (by simp[z])) e⟩) (λ_ _ e=>e) (λ_ _ _ e=>e) (λb w e=>⟨#[],by rw[e];simp⟩) (λm hm=>?_) (λb u e=>?_) I.bare
 ·have e:b=it:=by simpa using hb
  subst e;exact⟨i,f,j,l⟩
 ·obtain⟨o,h,g,t,r⟩:=hm;exact⟨o,h,g,k _ o (De f) t,r⟩
 ·refine(I.Rb b u e).jm (λc v a q=>k c v ?_ q) (λ_ q=>q) λ_ _ q=>q;rcases a with z|z
  ·rw[z];exact d b u e
  ·exact d c _ z
theorem Inv.tok(I:Inv X pins σ H s)(t:Nat):Inv X pins σ H { s with toks:=t }:=I.un (h':=s.heap) (t':=t) Un.refl I.Rb
theorem Inv.kept{t':Nat}(I:Inv X pins σ H s)(k:∀ b u,s.heap.get? b=some u->h'.get? b=some u):Inv X pins σ H { s with heap:=h',toks:=t' }:=I.un (Un.kept k) (I.Rb.kept k)
theorem Inv.laid{a:Addr}{o:HO}{t':Nat}(I:Inv X pins σ H s)(k:∀ b u,s.heap.get? b=some u->h'.get? b=some u)(c:s.heap.objs.size<=a)(d:Xi X.prog X.w (upd H a o) h' a o) :
  Inv X pins σ (upd H a o) { s with heap:=h',toks:=t' }:=I.un (Un.laid k c (I.Rb.fresh c)) (I.Rb.laid k c d)
theorem Inv.write{x e:Addr}{o:HO}{t':Nat}(I:Inv X pins σ H s)(f:eD (H x))(d:e=x\/H e=some (.own x))(k:∀ b u,b≠e->s.heap.get? b=some u->h'.get? b=some u)(a:∃ u,h'.get? e=some u)
  (c:Xi X.prog X.w (upd H x o) h' x o):Inv X pins σ (upd H x o) { s with heap:=h',toks:=t' }:=I.un (Un.write f d k a) (I.Rb.write f d k a c)
theorem Inv.xt{a:List (Addr × Obj)}(I:Inv X pins σ H s)(h:∀ p∈a,s.heap.get? p.1=some p.2/\H p.1=none/\p.1≠X.env.locals/\p.1 ∉ X.fs/\∀ v,p.2.data≠.cell v):Inv X a σ H s:=
 ⟨I.ok,I.os,I.bare,I.base,I.loc,I.cell,I.free,I.Kg,λp b=>(Ud.mp b).elim (λz=>I.pin p (Oa _ z)) (h p),I.Rb,I.len⟩
theorem DL{N:List qa}(hN:N.Nodup){i j:Nat}{x:qa}(a:N[i]?=some x)(b:N[j]?=some x):i=j:=by
 obtain⟨e,c⟩:=ma.mp a;obtain⟨f,d⟩:=ma.mp b;exact(List.getElem_inj hN).mp (c.trans d.symm)
theorem MN{M:jk}{A:Ia}{E:Value->Shared->Prop}{i:Nat}{x:qa}{v:V}{u:Value}{Q:Unit->Shared->Prop}(I:Inv X pins σ H s)(hN:X.N.Nodup)(R:X.N[i]?=some x)(B:Loc X.env.scope x)(r:Td v u)
  (h:∀ s',Inv X pins (σ.set i (some v)) H s'->(∃ a,Ic a s.heap s'.heap/\(a=X.env.locals\/X.env.cells.lookup x=some a))->Q () s') (hf:X.fn x=true\/X.env.scope.names.lookup x=some .local:=by first|exact .inl rfl|exact .inr rfl|assumption):wpAny M A (iE X.env x u) Q E s:=by
 obtain⟨m,hn,hl⟩:=id I.loc;have P:(X.env.scope.kind == .class || (X.env.scope.kind == .module && X.env.locals != X.env.globals))=false:=by rw[I.ok.kind];rfl
 have F:i<σ.length:=by rw[I.len];exact(ma.mp R).1
 have Hx:=I.Hx;have l:∀ {a:Addr} {h':Heap},(∃ o,s.heap.get? a=some o/\H a=none)->Ic a s.heap h'->Pi X.prog X.w H h':=fun {a h'} ha f b ob e=>by
  obtain⟨_,_,C⟩:=ha;refine(I.Rb b ob e).jm (λc W t q=>(f.2 c ?_).trans q) (λ_ q=>q) λ_ _ q=>q;rintro rfl;rcases t with rfl|t
  ·rw[C]at e;cases e
  ·rw[C]at t;cases t
 rcases B with G|G
 ·refine wpAny_storeName_local G hn (λh' Z f=>?_) P;obtain⟨oL,_,_,a0,_⟩:=id hn;refine h _ ⟨I.ok,I.os,I.bare,⟨λb o e n hb B=>?_,λb o e n hb B=>?_,I.base.free,λb o e B=>?_,I.base.Di,I.base.Ph,I.base.Ci⟩,⟨_,Z,λj y v' g D Y=>?_⟩,λy c e=>?_,I.free,I.Kg,λp hp=>?_,l ⟨oL,a0,I.free⟩ f,by simpa using I.len⟩ ⟨_,f,.inl rfl⟩
  ·exact(f.2 b (va (Ea (ua e) I.ok.above))).trans (I.base.keep b o e n hb B)
  ·obtain⟨sl,g⟩:=I.base.slot b o e n hb B;exact⟨sl,(f.2 b (va (Ea (ua e) I.ok.above))).trans g⟩
  ·obtain⟨o',g⟩:=I.base.there b o e B;exact⟨o',(f.2 b (va (Ea (ua e) I.ok.above))).trans g⟩
  ·by_cases K:j=i
   ·subst K;rw[R]at g;cases g;rw[Pr F]at D;cases D;exact⟨u,r,.inl ⟨G,by simp⟩⟩
   ·rw[Et (De K)]at D;obtain⟨u',r',q⟩:=hl j y v' g D Y;refine⟨u',r',?_⟩;rcases q with⟨k,e⟩|⟨k,c,e,z⟩
    ·refine .inl ⟨k,?_⟩;have:y≠x:=λe=>K (DL hN g (e ▸ R));simp[this,e]
    ·exact .inr ⟨k,c,e,z.sameBut f (Hx y c e)⟩
  ·obtain⟨W,z⟩:=I.cell y c e;exact⟨W,z.sameBut f (Hx y c e)⟩
  ·obtain⟨e,n,ne,nf,d⟩:=I.pin p hp;exact⟨(f.2 p.1 ne).trans e,n,ne,nf,d⟩
 ·have J:X.fn x=true:=by
   rcases hf with z|z
   ·exact z
   ·rw[z]at G;cases G
  obtain⟨c,t⟩:=I.ok.has x (.inl G);obtain⟨W,z⟩:=I.cell x c t;refine wpAny_storeName_cell I.ok.kind G t z (λh' L f=>?_);obtain⟨oc,S,T⟩:=id z;refine h { s with heap:=h' } ⟨I.ok,I.os,I.bare,⟨λb o e n hb B=>?_,λb o e n hb B=>?_,I.base.free,λb o e B=>?_,I.base.Di,I.base.Ph,I.base.Ci⟩,⟨m,hn.sameBut f (De (Hx x c t)),λj y v' g D Y=>?_⟩,λy U e=>?_,I.free,I.Kg,λp hp=>?_,l ⟨oc,S,I.Kg x c t⟩ f,by simpa using I.len⟩ ⟨c,f,.inr t⟩
  ·exact(f.2 b (va (Ea (ua e) (I.ok.uy x c J t)))).trans (I.base.keep b o e n hb B)
  ·obtain⟨sl,g⟩:=I.base.slot b o e n hb B;exact⟨sl,(f.2 b (va (Ea (ua e) (I.ok.uy x c J t)))).trans g⟩
  ·obtain⟨o',g⟩:=I.base.there b o e B;exact⟨o',(f.2 b (va (Ea (ua e) (I.ok.uy x c J t)))).trans g⟩
  ·by_cases K:j=i
   ·subst K;rw[R]at g;cases g;rw[Pr F]at D;cases D;exact⟨u,r,.inr ⟨.inl G,c,t,L⟩⟩
   ·rw[Et (De K)]at D;obtain⟨u',r',q⟩:=hl j y v' g D Y;refine⟨u',r',?_⟩;rcases q with q|⟨k,U,e,z'⟩
    ·exact .inl q
    ·refine .inr ⟨k,U,e,z'.sameBut f ?_⟩;rintro rfl;exact K (DL hN g (I.ok.inj _ _ _ e t ▸ R))
  ·by_cases O:U=c
   ·subst O;exact⟨_,L⟩
   ·obtain⟨w2,z2⟩:=I.cell y U e;exact⟨w2,z2.sameBut f O⟩
  ·obtain⟨e,n,ne,nf,d⟩:=I.pin p hp;refine⟨(f.2 p.1 ?_).trans e,n,ne,nf,d⟩;intro q;rw[q,S]at e;have q':oc=p.2:=ub e;exact d W (by rw[<-q'];exact T)
theorem YE{M:jk}{A:Ia}{E:Value->Shared->Prop}{i:Nat}{x:qa}{v:V}{u:Value}{Q:Unit->Shared->Prop}(I:Inv X pins σ H s)(hN:X.N.Nodup)(c:X.N[i]?=some x)(d:Loc X.env.scope x)(r:Td v u)
  (h:∀ s',Inv X pins (σ.set i (some v)) H s'->Q () s') (b:X.fn x=true\/X.env.scope.names.lookup x=some .local:=by first|exact .inl rfl|exact .inr rfl|assumption):wpAny M A (iE X.env x u) Q E s:=
 MN I hN c d r (λs' a _=>h s' a) b
theorem Inv.vv{s':Shared}{ch:List Addr}(I:Inv X pins σ H s)(f:s'.os=s.os)(u:Un (yj X.stack) ch H H' s.heap s'.heap)(Rb:Pi X.prog X.w H' s'.heap)(d:yi s'.gens)
  (a:∀ b∈ch,(b∈X.ex\/X.s₀.heap.objs.size<=b)/\b≠X.env.locals/\(∀ x c,X.env.cells.lookup x=some c->c≠b)/\∀ p∈X.pn++pins,p.1≠b):Inv X pins σ H' s':=by
 obtain⟨h',g',d',t',g⟩:=s';have e:g=s.os:=f;subst e;exact I.call (g':=g') (t':=t') (d':=d') u Rb d a
end
noncomputable abbrev XK:=Value->Option Addr->Hp->Prop
noncomputable abbrev St:=List (Option V)
noncomputable abbrev VK:=V->Hp->Prop
noncomputable abbrev TE:=St->Hp->VK->Prop
noncomputable abbrev TT:=St->Hp->(Bool->Hp->Prop)->Prop
noncomputable abbrev TA:=St->Hp->(List V->Hp->Prop)->Prop
structure Ends where
 nx:St->Hp->Prop
 rt:VK
 bk:St->Hp->Prop:=λ_ _=>False
 ct:St->Hp->Prop:=λ_ _=>False
noncomputable abbrev TS:=Ends->St->Hp->Prop
noncomputable def EP(X:Cx)(a:List (Addr × Obj))(σ:St)(Q:VK)(u:Value)(s':Shared):Prop:=∃ v b,Inv X a σ b s'/\Td v u/\Q v b
noncomputable def TP(X:Cx)(a:List (Addr × Obj))(σ:St)(Q:Bool->Hp->Prop)(b:Bool)(s':Shared):Prop:=∃ c,Inv X a σ c s'/\Q b c
noncomputable def AP(X:Cx)(a:List (Addr × Obj))(σ:St)(Q:List V->Hp->Prop)(us:List Value)(s':Shared):Prop:=∃ c b,Inv X a σ b s'/\re c us/\Q c b
noncomputable def SP(X:Cx)(b:List (Addr × Obj))(D:Ends)(f:Flow)(s':Shared):Prop:=
 match f with
 | .next=>∃ a c,Inv X b a c s'/\D.nx a c
 | .brk=>∃ a c,Inv X b a c s'/\D.bk a c
 | .cont=>∃ a c,Inv X b a c s'/\D.ct a c
 | .ret u=>∃ v a c,Inv X b a c s'/\Td v u/\D.rt v c
noncomputable def PE(X:Cx)(e:Ja)(t:TE):Prop:=
 ∀ (a:List (Addr × Obj)) (s:Shared) (σ:St) (H:Hp) (Q:VK),Inv X a σ H s->t σ H Q->wpAny (model X.prog X.w) X.A (Nb e X.env) (EP X a σ Q) X.xe s
noncomputable def PT(X:Cx)(e:Ja)(t:TT):Prop:=
 ∀ (a:List (Addr × Obj)) (s:Shared) (σ:St) (H:Hp) (Q:Bool->Hp->Prop),Inv X a σ H s->t σ H Q->wpAny (model X.prog X.w) X.A (CA e X.env (Nb e X.env)) (TP X a σ Q) X.xe s
noncomputable def PW(X:Cx)(e:Ja)(t:TT):Prop:=
 ∀ (a:zp Value) (pins:List (Addr × Obj)) (s:Shared) (σ:St) (H:Hp) (Q:Bool->Hp->Prop),Inv X pins σ H s->t σ H Q->wpAny (model X.prog X.w) X.A (CA e X.env a) (TP X pins σ Q) X.xe s
theorem PW.pt{X:Cx}{e:Ja}{t:TT}(h:PW X e t):PT X e t:=h _
noncomputable def PA(X:Cx)(es:List Ja)(t:TA):Prop:=
 ∀ (a:Ye) (pins:List (Addr × Obj)) (s:Shared) (σ:St) (H:Hp) (Q:List V->Hp->Prop),Inv X pins σ H s->t σ H Q->wpAny (model X.prog X.w) X.A (spliced (lc a (pa es X.env))) (AP X pins σ Q) X.xe s
noncomputable def PS(X:Cx)(b:Stmt)(t:TS):Prop:=
 ∀ (a:List (Addr × Obj)) (s:Shared) (σ:St) (H:Hp) (D:Ends),Inv X a σ H s->t D σ H->wpAny (model X.prog X.w) X.A (exec b X.env) (SP X a D) X.xe s
noncomputable def At(X:Cx)(b:List Stmt)(t:TS):Prop:=
 ∀ (a:List (Addr × Obj)) (s:Shared) (σ:St) (H:Hp) (D:Ends),Inv X a σ H s->t D σ H->wpAny (model X.prog X.w) X.A (execs b X.env) (SP X a D) X.xe s
theorem ge{c:Type}{t:zp c}{Q b:c->Shared->Prop}{M:jk}{A:Ia}{E:Value->Shared->Prop}{s:Shared}(h:wpAny M A t Q E s)(d:∀ a s,Q a s->b a s):wpAny M A t b E s:=rc h d λ_ _ x=>x
section
variable{X:Cx}
theorem bin{a b:Ja}{k tb:TE}(o:PE X a k)(hb:PE X b tb){c:List (Addr × Obj)}{s:Shared}{σ:St}{H:Hp}{R:V->V->Hp->Prop}(I:Inv X c σ H s)(h:k σ H λx j=>tb σ j λy d=>R x y d)
  {l:Type} {Q:l->Shared->Prop} {f:Value->Value->zp l}
  (p:∀ v u i x y d,Inv X c σ d i->Td x v->Td y u->R x y d->wpAny (model X.prog X.w) X.A (f v u) Q X.xe i) :
  wpAny (model X.prog X.w) X.A (Nb a X.env) (λv e=>wpAny (model X.prog X.w) X.A (Nb b X.env) (λu g=>wpAny (model X.prog X.w) X.A (f v u) Q X.xe g) X.xe e) X.xe s:=by
 refine ge (o c s σ H _ I h) λv s1 ⟨x,j,m,q,q1⟩=>?_;refine ge (hb c s1 σ j _ m q1) λu i ⟨y,d,n,r,q2⟩=>?_;exact p v u i x y d n q r q2
noncomputable def WR(i:Nat):TE:=λa H Q=>∃ v,a[i]?=some (some v)/\Q v H
noncomputable def tC(v:V):TE:=λ_ H Q=>Q v H
theorem nQ{i:Nat}{x:qa}{j:Ye}(hN:X.N[i]?=some x)(o:MC X.env.scope x)(hd:(x == ("__debug__" : qa))=false:=by decide)(g:(x == ("__classdict__" : qa))=false:=by decide):PE X (.Name x j) (WR i):=by
 intro f s p H Q I h;obtain⟨v,e,h⟩:=h;obtain⟨m,hn,n⟩:=I.loc;obtain⟨u,r,l⟩:=n i x v hN e o;have b:EP X f p Q u s:=⟨v,H,I,r,h⟩
 rcases l with⟨d,hm⟩|⟨d,c,k,a⟩
 ·exact rA (Sx I.ok.kind d hn hm b) hd
 ·rcases d with d|d
  ·exact rA (Zy I.ok.kind d k a b) hd
  ·exact rA (wpAny_loadName_free I.ok.kind d k a b g) hd
theorem C3{i j pos}:PE X (.Constant (.int i) j pos) (tC (.int i)):=λ_ _ _ H _ I h=>wpAny_Constant_int ⟨.int i,H,I.tok _,⟨_,rfl⟩,h⟩
theorem i0{b j pos}:PE X (.Constant (.bool b) j pos) (tC (.bl b)):=λ_ _ _ H _ I h=>Constant_bool ⟨.bl b,H,I,rfl,h⟩
theorem hZ{j pos}:PE X (.Constant .none j pos) (tC .Jb):=λ_ _ _ H _ I h=>Constant_none ⟨.Jb,H,I,rfl,h⟩
theorem G9{x j pos}:PE X (.Constant (.str x) j pos) (tC (.str x)):=λ_ _ _ H _ I h=>Calls.Constant_str ⟨.str x,H,I.tok _,⟨_,rfl⟩,h⟩
noncomputable def Gl(X:Cx)(x:qa):Prop:=X.env.kindOf x=some .globalImplicit
theorem dA{E:Value->Shared->Prop}{a:List (Addr × Obj)}{s:Shared}{σ:St}{H:Hp}{x:qa}{u:Value}{b:Ye}{Q:Value->Shared->Prop}(I:Inv X a σ H s)(c:Gl X x)(hm:X.mg x=some u)(h:Q u s)
  (hd:(x == ("__debug__" : qa))=false:=by decide):wpAny (model X.prog X.w) X.A (Nb (.Name x b) X.env) Q E s:=
 Lo I.ok.kind c (Calls.loadGlobal_global (by rw[I.ok.glob];exact I.mod.glob.keeps I.bk) hm h) hd
theorem kB{E:Value->Shared->Prop}{a:List (Addr × Obj)}{s:Shared}{σ:St}{H:Hp}{x:qa}{u:Value}{b:Ye}{Q:Value->Shared->Prop}(I:Inv X a σ H s)(e:Gl X x)(hm:X.mg x=none)(f:bootBuiltins x=some u)(h:Q u s)
  (hn:x ≠ "__name__":=by decide) (hd:(x == ("__debug__" : qa))=false:=by decide):wpAny (model X.prog X.w) X.A (Nb (.Name x b) X.env) Q E s:=by
 obtain⟨mb,c,d⟩:=I.mod.blt;exact Lo I.ok.kind e (Calls.loadGlobal_builtin (by rw[I.ok.glob];exact I.mod.glob.keeps I.bk) hm (by rw[I.ok.blt];exact c.keeps I.bk) ((d x hn).trans f) h) hd
theorem kK{x:qa}{v:V}{u:Value}{a:Ye}(b:Gl X x)(hm:X.mg x=some u)(r:Td v u)(hd:(x == ("__debug__" : qa))=false:=by decide):PE X (.Name x a) (tC v):=
 λ_ _ _ H _ I h=>dA I b hm ⟨v,H,I,r,h⟩ hd
theorem d9{x:qa}{v:V}{u:Value}{a:Ye}(b:Gl X x)(hm:X.mg x=none)(c:bootBuiltins x=some u)(r:Td v u)(hn:x ≠ "__name__":=by decide)(hd:(x == ("__debug__" : qa))=false:=by decide):PE X (.Name x a) (tC v):=
 λ_ _ _ H _ I h=>kB I b hm c ⟨v,H,I,r,h⟩ hn hd
variable{a b:Ja}{ta tb:TE}{pos:Ye}
noncomputable def PC(X:Cx)(op:Pq)(a b:Ja)(t:TE):Prop:=
 ∀ (c:List (Addr × Obj)) (s:Shared) (σ:St) (H:Hp) (Q:VK),Inv X c σ H s->t σ H Q->
  wpAny (model X.prog X.w) X.A (Nb a X.env) (λv d=>wpAny (model X.prog X.w) X.A (Nb b X.env) (λu e=>wpAny (model X.prog X.w) X.A (dc op v u) (EP X c σ Q) X.xe e) X.xe d) X.xe s
theorem K9(b:Ja){op:Pq}(h:op≠.In)(d:op≠.NotIn):lf op b=false:=by
 have a:(op == OL)=false:=by cases op<;>first|rfl|exact absurd rfl h
 have c:(op == VB)=false:=by cases op<;>first|rfl|exact absurd rfl d
 cases b<;>simp[lf,a,c]
noncomputable def tB(t:TE):TT:=λb H Q=>t b H λx a=>∃ c,x=.bl c/\Q c a
theorem ymz{op:Pq}{t:TE}(h:PC X op a b t)(f:lf op b=false:=by first|exact K9 _ (by decide) (by decide)|rfl):PT X (.Compare a [op] [b] pos) (tB t):=by
 intro e s l H Q I j;refine zw (ge (h e s l H _ I j) λv m f=>ge f λu n i=>ge i λc s3 ⟨x,H1,g,k,q1⟩=>?_) f;obtain⟨d,rfl,q⟩:=q1;cases k;exact Gc ⟨H1,g,q⟩
theorem OY{e:Ja}{t:TE}(h:PE X e t)(f:∀ a,CA e X.env a=(do let v <-a;hj e.pos;Ie [v] (truthy v)):=by intro _;rfl):PT X e (tB t):=by
 intro b s j H Q I g;refine isTrue_plain (ge (h b s j H _ I g) λv s1 ⟨x,H1,c,i,q1⟩=>?_) (f _);obtain⟨d,rfl,q⟩:=q1;cases i;exact Gc ⟨H1,c,q⟩
variable{tA tB':TT}{vf:List Ja}
noncomputable def hV(t u:TT):TT:=λb H Q=>t b H λc a=>if c=true then u b a Q else Q false a
noncomputable def lZ(t u:TT):TT:=λb H Q=>t b H λc a=>if c=true then Q true a else u b a Q
noncomputable def Y9(t:TT):TT:=λb H Q=>t b H λc a=>Q (!c) a
theorem yX(d:PT X a tA):PW X (.BoolOp .And [a] pos) tA:=by
 intro i b s f H Q I h;refine isTrue_and (ge (d b s f H Q I h) λc g e=>?_);cases c with
 |true=>exact isTrue_and_nil e
 |false=>exact e
theorem ym3(d:PT X a tA):PW X (.BoolOp .Or [a] pos) tA:=by
 intro i b s f H Q I h;refine isTrue_or (ge (d b s f H Q I h) λc g e=>?_);cases c with
 |false=>exact isTrue_or_nil e
 |true=>exact e
theorem PV(g:PT X a tA)(hb:PW X (.BoolOp .And (b::vf) pos) tB'):PW X (.BoolOp .And (a::b::vf) pos) (hV tA tB'):=by
 intro i d s f H Q I h;refine isTrue_and (ge (g d s f H _ I h) λc s1 ⟨H1,e,q1⟩=>?_);cases c with
 |true=>exact hb i d s1 f H1 Q e q1
 |false=>exact⟨H1,e,q1⟩
theorem ysm(g:PT X a tA)(hb:PW X (.BoolOp .Or (b::vf) pos) tB'):PW X (.BoolOp .Or (a::b::vf) pos) (lZ tA tB'):=by
 intro i d s f H Q I h;refine isTrue_or (ge (g d s f H _ I h) λc s1 ⟨H1,e,q1⟩=>?_);cases c with
 |true=>exact⟨H1,e,q1⟩
 |false=>exact hb i d s1 f H1 Q e q1
theorem Q6(e:PT X a tA):PT X (.UnaryOp .Not a pos) (Y9 tA):=by
 intro b s f H Q I h;exact isTrue_not (e b s f H (λc d=>Q (!c) d) I h)
noncomputable def yts(ta tb:TE):TE:=λb H Q=>ta b H λx a=>∃ c,x=.bl c/\if c=true then tb b a Q else Q (.bl false) a
noncomputable def g4(ta tb:TE):TE:=λb H Q=>ta b H λx a=>∃ c,x=.bl c/\if c=true then Q (.bl true) a else tb b a Q
noncomputable def JV(ta:TE):TE:=λb H Q=>ta b H λx a=>∃ c,x=.bl c/\Q (.bl (!c)) a
theorem DY{op}{t:TE}(h:PE X a t):PE X (.BoolOp op [a] pos) t:=λb s d H Q I c=>BoolOp_one (h b s d H Q I c)
theorem r8(g:PE X a ta)(hb:PE X (.BoolOp .And (b::vf) pos) tb):PE X (.BoolOp .And (a::b::vf) pos) (yts ta tb):=by
 intro d s f H Q I h;refine BoolOp_and (ge (g d s f H _ I h) λv s1 ⟨x,H1,e,i,q1⟩=>?_);obtain⟨c,rfl,q1⟩:=q1;cases i;refine Gc ?_;cases c with
 |true=>exact hb d s1 f H1 Q e q1
 |false=>exact⟨.bl false,H1,e,rfl,q1⟩
theorem ysg(g:PE X a ta)(hb:PE X (.BoolOp .Or (b::vf) pos) tb):PE X (.BoolOp .Or (a::b::vf) pos) (g4 ta tb):=by
 intro d s f H Q I h;refine BoolOp_or (ge (g d s f H _ I h) λv s1 ⟨x,H1,e,i,q1⟩=>?_);obtain⟨c,rfl,q1⟩:=q1;cases i;refine Gc ?_;cases c with
 |false=>exact hb d s1 f H1 Q e q1
 |true=>exact⟨.bl true,H1,e,rfl,q1⟩
theorem m7(e:PE X a ta):PE X (.UnaryOp .Not a pos) (JV ta):=by
 intro b s g H Q I h;refine UnaryOp_ (ge (e b s g H _ I h) λv s1 ⟨x,H1,d,f,q1⟩=>?_);obtain⟨c,rfl,q1⟩:=q1;cases f;exact not_of (Gc ⟨.bl (!c),H1,d,rfl,q1⟩)
noncomputable def vY(t:TT)(ta tb:TE):TE:=λa H Q=>t a H λc b=>if c=true then ta a b Q else tb a b Q
theorem zZ{c:Ja}(j:PT X c tA)(i:PE X a ta)(hb:PE X b tb):PE X (.IfExp c a b pos) (vY tA ta tb):=by
 intro e s f H Q I h;refine wpAny_IfExp (ge (j e s f H _ I h) λd s1 ⟨H1,g,q1⟩=>?_);cases d with
 |true=>exact i e s1 f H1 Q g q1
 |false=>exact hb e s1 f H1 Q g q1
end
noncomputable def bg(K:W.Frag)(H:Hp)(a:Addr)(xs:List V):Prop:=
 Rd H a (.lst xs)\/
  ∃ (o:Obj) (b:Array Value) (n:Nat),K.lookup a=some o/\o.cls=.type "list"/\o.dict=none/\o.data=.seq b n/\b.size<=sizeLine/\re xs b.toList
noncomputable def Wh(K:W.Frag)(H:Hp)(a:Addr)(xs:List V):Prop:=
 Rd H a (.tup xs)\/
  ∃ (o:Obj) (b:Array Value) (n:Nat),K.lookup a=some o/\o.cls=.type "tuple"/\o.data=.seq b n/\b.size<=sizeLine/\re xs b.toList
noncomputable def M7:Value->Option V
 | .none=>some .Jb
 | .bool b=>some (.bl b)
 | .int i _=>some (.int i)
 | .str x _=>some (.str x)
 | .bytes b _=>some (.yG b)
 | .float b _=>some (.Bz b)
 | .ref a=>some (.ref a)
 | .type n=>some (.ty n)
 |_=>none
theorem Td.abs{x:V}{u:Value}(r:Td x u):M7 u=some x:=by
 cases x with
 |Jb=>cases r;rfl
 |bl _=>cases r;rfl
 |int _=>obtain⟨t,rfl⟩:=r;rfl
 |str _=>obtain⟨t,rfl⟩:=r;rfl
 |yG _=>obtain⟨t,rfl⟩:=r;rfl
 |Bz _=>obtain⟨t,rfl⟩:=r;rfl
 |ref _=>cases r;rfl
 |ty _=>cases r;rfl
theorem Td.inj{x y:V}{u:Value}(r:Td x u)(q:Td y u):x=y:=ub (r.abs.symm.trans q.abs)
theorem re.inj:∀ {xs ys:List V} {us:List Value},re xs us->re ys us->xs=ys
 |_,_,_,.nil,.nil=>rfl
 |_,_,_,.cons r t,.cons a b=>by rw[r.inj a,re.inj t b]
section
variable{X:Cx}{pins:List (Addr × Obj)}{σ:St}{H:Hp}{s:Shared}{a:Addr}{xs ys:List V}
theorem bg.of{K:W.Frag}(h:H a=some (.lst xs)):bg K H a xs:=.inl (.inl h)
theorem Wh.of{K:W.Frag}(h:H a=some (.tup xs)):Wh K H a xs:=.inl (.inl h)
theorem Inv.list(I:Inv X pins σ H s)(h:bg X.K H a xs):∃ its:List Value,re xs its/\PlainL s.heap a its.toArray/\xs.length<=sizeLine:=by
 rcases h with h|⟨o,its,n,c,b,hd,d,f,r⟩
 ·obtain⟨z,its,n,r,e⟩:=h.ok I.Rb;exact⟨its,r,⟨_,n,e,rfl,rfl,rfl⟩,z⟩
 ·refine⟨its.toList,r,⟨o,n,I.Cj a o c,b,hd,by simpa using d⟩,?_⟩;have e:=r.length;simp only[nb]at e;omega
theorem Inv.tuple(I:Inv X pins σ H s)(h:Wh X.K H a xs):∃ its:List Value,re xs its/\Yu s.heap a its.toArray/\xs.length<=sizeLine:=by
 rcases h with h|⟨o,its,n,c,b,d,f,r⟩
 ·obtain⟨z,its,r,p⟩:=h.ok I.Rb;exact⟨its,r,p,z⟩
 ·refine⟨its.toList,r,⟨o,I.Cj a o c,b,n,by simpa using d⟩,?_⟩;have e:=r.length;simp only[nb]at e;omega
theorem Inv.gr(I:Inv X pins σ H s)(h:bg X.K H a xs)(h':bg X.K H a ys):xs=ys:=by
 obtain⟨b,r,⟨o,n,e,_,_,d⟩,_⟩:=I.list h;obtain⟨its',g,⟨j,i,f,_,_,c⟩,_⟩:=I.list h';rw[e]at f;cases f;rw[d]at c;injection c with d1 _;have:b=its':=by simpa using Wf Array.toList d1
 subst this;exact r.inj g
theorem Inv.Vt(I:Inv X pins σ H s)(h:Wh X.K H a xs)(h':Wh X.K H a ys):xs=ys:=by
 obtain⟨b,r,⟨o,e,_,n,d⟩,_⟩:=I.tuple h;obtain⟨its',g,⟨j,f,_,i,c⟩,_⟩:=I.tuple h';rw[e]at f;cases f;rw[d]at c;injection c with d1 _;have:b=its':=by simpa using Wf Array.toList d1
 subst this;exact r.inj g
end
noncomputable abbrev Cx.Ql(X:Cx)(E:Value->Shared->Prop):Cx:={ X with xe:=E }
noncomputable abbrev Cx.Fq(X:Cx):Cx:=X.Ql λ_ _=>False
theorem Cx.Ok.Ql{X:Cx}(ok:X.Ok)(E:Value->Shared->Prop):(X.Ql E).Ok:=
 ⟨ok.mod,ok.kind,ok.glob,ok.blt,ok.above,ok.inj,ok.has,ok.uy,ok.hd,ok.frames,ok.Zp,ok.Mz,ok.bs,ok.au,ok.tr,ok.jr,ok.zj,ok.uv⟩
theorem Cx.Ok.Yh{X:Cx}{E:Value->Shared->Prop}(ok:(X.Ql E).Ok):X.Ok:=
 ⟨ok.mod,ok.kind,ok.glob,ok.blt,ok.above,ok.inj,ok.has,ok.uy,ok.hd,ok.frames,ok.Zp,ok.Mz,ok.bs,ok.au,ok.tr,ok.jr,ok.zj,ok.uv⟩
section
variable{X:Cx}{pins:List (Addr × Obj)}{σ:St}{H:Hp}{s:Shared}{E:Value->Shared->Prop}
theorem Inv.Ql(I:Inv X pins σ H s)(E:Value->Shared->Prop):Inv (X.Ql E) pins σ H s:=⟨I.ok.Ql E,I.os,I.bare,I.base,I.loc,I.cell,I.free,I.Kg,I.pin,I.Rb,I.len⟩
theorem Inv.Yh(I:Inv (X.Ql E) pins σ H s):Inv X pins σ H s:=⟨I.ok.Yh,I.os,I.bare,I.base,I.loc,I.cell,I.free,I.Kg,I.pin,I.Rb,I.len⟩
theorem SP.Yh{D:Ends}{f:Flow}{s':Shared}(h:SP (X.Ql E) pins D f s'):SP X pins D f s':=by
 cases f with
 |next=>obtain⟨a,b,I,q⟩:=h;exact⟨a,b,I.Yh,q⟩
 |brk=>obtain⟨a,b,I,q⟩:=h;exact⟨a,b,I.Yh,q⟩
 |cont=>obtain⟨a,b,I,q⟩:=h;exact⟨a,b,I.Yh,q⟩
 |ret u=>obtain⟨v,a,b,I,r,q⟩:=h;exact⟨v,a,b,I.Yh,r,q⟩
theorem PE.Fq{e:Ja}{t:TE}(h:PE X.Fq e t):PE X e t:=λpins s σ H Q I c=>
 rc (h pins s σ H Q (I.Ql _) c) (λ_ _ ⟨v,a,b,r,q⟩=>⟨v,a,b.Yh,r,q⟩) λ_ _ z=>False.elim z
theorem PT.Fq{e:Ja}{t:TT}(h:PT X.Fq e t):PT X e t:=λpins s σ H Q I c=>
 rc (h pins s σ H Q (I.Ql _) c) (λ_ _ ⟨a,b,q⟩=>⟨a,b.Yh,q⟩) λ_ _ z=>False.elim z
theorem At.Fq{a:List Stmt}{t:TS}(h:At X.Fq a t):At X a t:=λpins s σ H D I b=>
 rc (h pins s σ H D (I.Ql _) b) (λ_ _ q=>q.Yh) λ_ _ z=>False.elim z
end
section
variable{X:Cx}{st:Stmt}{vf:List Stmt}{t u:TS}{e:Ja}{te:TE}{pos:Ye}
noncomputable def xY:TS:=λD a H=>D.nx a H
noncomputable def yzd(t u:TS):TS:=λD a H=>t { D with nx:=u D } a H
theorem MU:At X [] xY:=λ_ _ a H _ I h=>fk ⟨a,H,I,h⟩
theorem Y4(e:PS X st t)(g:At X vf u):At X (st::vf) (yzd t u):=by
 intro a s j H D I h;refine aE (ge (e a s j H { D with nx:=u D } I h) λf i q=>?_);cases f with
 |next=>
  obtain⟨b,c,d,q⟩:=q;exact g a i b c D d q
 |ret v=>exact q
 |brk=>exact q
 |cont=>exact q
theorem X3(b:PS X st t):At X [st] t:=by
 intro a s c H D I h;refine aE (ge (b a s c H D I h) λf d q=>?_);cases f with
 |next=>exact fk q
 |ret v=>exact q
 |brk=>exact q
 |cont=>exact q
theorem Inv.quiet{a:List (Addr × Obj)}{σ:St}{H:Hp}{s:Shared}(I:Inv X a σ H s):interactive X.env=false:=by simp[interactive,I.ok.kind]
noncomputable def H5(te:TE):TS:=λD a H=>te a H λ_ b=>D.nx a b
theorem OZ(d:PE X e te)(f:Ij e none pos.line X.env=pure false:=by rfl):PS X (.Expr e pos) (H5 te):=by
 intro a s b H D I h;exact wpAny_Expr_any (ge (d a s b H _ I h) λv s1 ⟨x,H1,c,g,q1⟩=>⟨b,H1,c,q1⟩) I.quiet f
noncomputable def F0(te:TE):TS:=λD a H=>te a H D.rt
theorem QX(d:PE X e te):PS X (.Return (some e) pos) (F0 te):=by
 intro a s b H D I h;exact wpAny_Return_some (ge (d a s b H _ I h) λv s1 ⟨x,H1,c,f,q1⟩=>⟨x,b,H1,c,f,q1⟩)
noncomputable def M5(c:TT)(t u:TS):TS:=λD a H=>c a H λb d=>if b=true then t D a d else u D a d
theorem rU{c:Ja}{a b:List Stmt}{i:TT}(k:PT X c i)(j:At X a t)(hb:At X b u):PS X (.If c a b pos) (M5 i t u):=by
 intro e s f H D I h;refine wpAny_If (ge (k e s f H _ I h) λd s1 ⟨H1,g,q1⟩=>?_);cases d with
 |true=>exact j e s1 f H1 D g q1
 |false=>exact hb e s1 f H1 D g q1
end
noncomputable abbrev TG:=V->St->Hp->(St->Hp->Prop)->Prop
noncomputable abbrev yy:=List V->St->Hp->(St->Hp->Prop)->Prop
noncomputable def PG(X:Cx)(a:Ja)(t:TG):Prop:=
 ∀ (b:List (Addr × Obj)) (s:Shared) (σ:St) (H:Hp) (v:V) (u:Value) (Q:St->Hp->Prop),Inv X b σ H s->Td v u->t v σ H Q->
  wpAny (model X.prog X.w) X.A (gi a X.env u) (λ_ e=>∃ c d,Inv X b c d e/\Q c d) X.xe s
noncomputable def TD(X:Cx)(ts:List Ja)(t:yy):Prop:=
 ∀ (a:List (Addr × Obj)) (s:Shared) (σ:St) (H:Hp) (d:List V) (us:List Value) (Q:St->Hp->Prop),Inv X a σ H s->re d us->t d σ H Q->
  wpAny (model X.prog X.w) X.A (assignInOrder ((Ge ts X.env).map (·.2)) us) (λ_ e=>∃ b c,Inv X a b c e/\Q b c) X.xe s
noncomputable abbrev bF:=V->V->V->Hp->(Hp->Prop)->Prop
noncomputable def wK(X:Cx)(t:bF):Prop:=
 ∀ (a:List (Addr × Obj)) (s:Shared) (σ:St) (H:Hp) (o i v:V) (d c u:Value) (Q:Hp->Prop),Inv X a σ H s->Td o d->Td i c->Td v u->t o i v H Q->
  wpAny (model X.prog X.w) X.A (Tr d c u) (λ_ e=>∃ b,Inv X a σ b e/\Q b) X.xe s
noncomputable abbrev zF:=V->V->Hp->VK->Prop
noncomputable def mJ(X:Cx)(op:yl)(t:zF):Prop:=
 ∀ (a:List (Addr × Obj)) (s:Shared) (σ:St) (H:Hp) (x y:V) (v u:Value) (Q:VK),Inv X a σ H s->Td x v->Td y u->t x y H Q->
  wpAny (model X.prog X.w) X.A (jE op v u) (EP X a σ Q) X.xe s
section
variable{X:Cx}{pos:Ye}
noncomputable def sQ(i:Nat):TG:=λv a H Q=>Q (a.set i (some v)) H
theorem T4{i:Nat}{x:qa}(hN:X.N.Nodup)(d:X.N[i]?=some x)(e:Loc X.env.scope x)(c:X.fn x=true\/X.env.scope.names.lookup x=some .local:=by first|exact .inl rfl|exact .inr rfl|assumption):PG X (.Name x pos) (sQ i):=by
 intro a s g H v u Q I r h;exact JB (YE I hN d e r (λf b=>⟨_,H,b,h⟩) c)
noncomputable def J0:yy:=λa b H Q=>a=[]/\Q b H
noncomputable def VU(t:TG)(u:yy):yy:=λc d H Q=>∃ v r,c=v::r/\t v d H λa b=>u r a b Q
theorem n4:TD X [] J0:=by
 intro a s b H d c Q I r h;obtain⟨e,h⟩:=h;subst e;cases r;exact assignInOrder_nil ⟨b,H,I,h⟩
theorem R3{e:Ja}{es:List Ja}{t:TG}{u:yy}(f:PG X e t)(g:TD X es u)
  (i:(Ge (e::es) X.env).map (·.2)=gi e X.env::(Ge es X.env).map (·.2):=by rfl):TD X (e::es) (VU t u):=by
 intro a s k H n l Q I r h;obtain⟨v,m,d,h⟩:=h;subst d;cases r with
 |cons r j=>
  rw[i];refine assignInOrder_cons (ge (f a s k H _ _ _ I r h) λ_ s1 ⟨b,H1,c,q1⟩=>?_);exact g a s1 b H1 _ _ Q c j q1
noncomputable def SX(K:W.Frag)(n:Nat)(t:yy):TG:=λv b H Q=>∃ a xs,v=.ref a/\Wh K H a xs/\xs.length=n/\t xs b H Q
theorem ymq{es:List Ja}{k:Nat}{t:yy}{n:Nat}(p:X.calm=true)(h:TD X es t)
  (hn:(Ge es X.env).length=n:=by rfl) (d:(Ge es X.env).findIdx? (·.1)=none:=by rfl):PG X (.Tuple es k pos) (SX X.K n t):=by
 intro c s i H v u Q I r f;obtain⟨a,xs,l,w,q,f⟩:=f;subst l;cases r;obtain⟨z,g,x,A⟩:=I.tuple w;refine assign_Tuple_tuple (I.ok.hd p) x (by simp[hn,<-q,g.length]) d λm y=>?_;have j:Inv X c i H { s with heap:=m }:=I.kept (t':=s.toks) λb o e=>y b o (va (ua e)) e;exact h c _ i H xs _ Q j (by simpa using g) f
noncomputable def OW(to e:TE)(t:bF):TG:=λv a H Q=>to a H λo b=>e a b λi c=>t o i v c λd=>Q a d
theorem JI{o i:Ja}{to e:TE}{t:bF}(p:PE X o to)(n:PE X i e)(q:wK X t)
  (m:∀ v,gi (.Subscript o i pos) X.env v=(do
   let b <-Ie [v] (Nb o X.env);let c <-Ie [v,b] (Nb i X.env)
   hj pos
   Ie [v,b,c] (Tr b c v)
   WB [v,b,c] []):=by intro _;rfl):PG X (.Subscript o i pos) (OW to e t):=by
 intro a s d H v u Q I r h;rw[m];refine aa (Nc (ge (p a s d H _ I h) λb s1 ⟨x,H1,j,w,q1⟩=>?_));refine aa (Nc (ge (n a s1 d H1 _ j q1) λc s2 ⟨y,f,k,z,q2⟩=>?_));refine aa (wu (aa (Nc (ge (q a s2 d f x y v b c u _ k w z r q2) λ_ s3 ⟨g,l,q3⟩=>?_))));exact wpAny_release ⟨d,g,l,q3⟩
noncomputable def MS(c:TE)(g:TG):TS:=λD a H=>c a H λx b=>g x a b D.nx
theorem nJ{tg e:Ja}{b:TE}{g:TG}(i:PE X e b)(j:PG X tg g)(k:bn [tg] e pos.line X.env=pure false:=by rfl)(l:cn [tg] e X.env=pure none:=by rfl)
  (f:(Ge [tg] X.env).map (·.2)=[gi tg X.env]:=by rfl):PS X (.Assign [tg] e pos) (MS b g):=by
 intro a s c H D I h;refine wpAny_Assign_stores (ge (i a s c H _ I h) λv s1 ⟨x,H1,d,m,q1⟩=>?_) k l;rw[f];exact ge (j a s1 c H1 x v _ d m q1) λ_ n q=>q
theorem BY{i:Nat}{x:qa}{e:Ja}{c:TE}{a:Ye}(hN:X.N.Nodup)(k:X.N[i]?=some x)(m:Loc X.env.scope x)(g:PE X e c)(l:Ij e (some (.Name x a)) pos.line X.env=pure false:=by rfl)(j:X.fn x=true\/X.env.scope.names.lookup x=some .local:=by first|exact .inl rfl|exact .inr rfl|assumption) :
  PS X (.Assign [.Name x a] e pos) (MS c (sQ i)):=by
 intro b s o H D I h;refine wpAny_Assign_Name (ge (g b s o H _ I h) λv s1 ⟨y,H1,d,n,q1⟩=>?_) l;exact YE d hN k m n (λp f=>⟨_,H1,f,q1⟩) j
noncomputable def Q8(i:Nat)(d:TE)(e:zF):TS:=λD a H=>∃ x,a[i]?=some (some x)/\d a H λy b=>e x y b λz c=>D.nx (a.set i (some z)) c
theorem fY{i:Nat}{x:qa}{e:Ja}{p:TE}{op:yl}{q:zF}{f:Ye}(hN:X.N.Nodup)(o:X.N[i]?=some x)(n:Loc X.env.scope x)(K:PE X e p)(O:mJ X op q)(L:X.fn x=true\/X.env.scope.names.lookup x=some .local:=by first|exact .inl rfl|exact .inr rfl|assumption) :
  PS X (.AugAssign (.Name x f) op e pos) (Q8 i p q):=by
 intro a s t H D I h;obtain⟨v,G,h⟩:=h;obtain⟨m,hn,M⟩:=I.loc;have PJ:MC X.env.scope x:=by rcases n with k|k;exact .inl k;exact .inr (.inl k)
 obtain⟨u,r,l⟩:=M i x v o G PJ;refine wpAny_AugAssign_Name ?_;have go:wpAny (model X.prog X.w) X.A (Nb e X.env) (λw g=>wpAny (model X.prog X.w) X.A (jE op u w) (λr j=>wpAny (model X.prog X.w) X.A (iE X.env x r) (λ_=>SP X a D .next) X.xe j) X.xe g) X.xe s:=by
  refine ge (K a s t H _ I h) λw s1 ⟨y,H1,C,P,q1⟩=>?_;refine ge (O a s1 t H1 v y u w _ C r P q1) λz s2 ⟨S,B,E,Q,q2⟩=>?_;exact YE E hN o n Q (λR F=>⟨_,B,F,q2⟩) L
 rcases l with⟨b,hm⟩|⟨b,c,J,d⟩
 ·exact Sx I.ok.kind b hn hm go
 ·rcases b with b|b
  ·exact Zy I.ok.kind b J d go
  ·rcases n with k|k
   ·have:X.env.scope.names.lookup x=some .free:=b;rw[k]at this;cases this
   ·have:X.env.scope.names.lookup x=some .free:=b;rw[k]at this;cases this
noncomputable def KP(f:Int->Int->Int):zF:=λx y H Q=>∃ i j,x=.int i/\y=.int j/\Q (.int (f i j)) H
theorem CZ:mJ X .Add (KP λi j=>i+j):=by
 intro a s g H x y v u Q I d e h;obtain⟨i,j,b,c,q⟩:=h;subst b;subst c;obtain⟨t,rfl⟩:=d;obtain⟨f,rfl⟩:=e;exact iadd_int ⟨.int _,H,I.tok _,⟨_,rfl⟩,q⟩
end
section
variable{X:Cx}{pos:Ye}
end
structure It where
 go:Nat->Hp->Prop
 hB:Nat->Hp->V->Hp->Prop
 stop:Nat->Hp->Prop
noncomputable def fu(X:Cx)(a:List (Addr × Obj))(H:Hp)(b:Addr):Prop:=
 H b=none/\b≠X.env.locals/\b ∉ X.fs/\(b∈X.ex\/X.s₀.heap.objs.size<=b)/\(∀ x c,X.env.cells.lookup x=some c->c≠b)/\∀ p∈X.pn++a,p.1≠b
theorem Inv.Hs{X:Cx}{a:List (Addr × Obj)}{σ:St}{H d:Hp}{s:Shared}{b:Addr}(I:Inv X a σ H s)(hb:s.heap.objs.size<=b)(hn:d b=none):fu X a d b:=by
 refine⟨hn,wf (Ea I.lt hb),I.VJ hb,.inr (yb I.sz hb),λx c e z=>?_,λp f z=>?_⟩
 ·obtain⟨v,q⟩:=I.cell x c e;exact absurd (Ea q.lt (by rw[z];exact hb)) (Te _)
 ·exact absurd (Ea (ua (I.pin p f).1) (by rw[z];exact hb)) (Te _)
structure Turn(P:ra)(w:Ka)(K:W.Frag)(tg:Ja)(J:It)(fp:List Addr)(it:Addr)(tn:Nat->Heap->Prop):Prop where
 mem:it∈fp
 obj:∀ i h,tn i h->∀ b∈fp,∃ o,h.get? b=some o/\∀ v,o.data≠.cell v
 keep:∀ i h h',tn i h->(∀ b∈fp,∀ o,h.get? b=some o->h'.get? b=some o)->tn i h'
 item:∀ (X:Cx),X.prog=P->X.w=w->X.K=K->X.calm=true->∀ (i:Nat) (pins:List (Addr × Obj)) (s:Shared) (σ:St) (H:Hp) (E:Value->Shared->Prop),Inv X pins σ H s->(∀ b∈fp,fu X pins H b)->tn i s.heap->J.go i H->
  wpAny (model P w) X.A (pyNext (.ref it)) (λr s1=>∃ u,r=some u/\
   wpAny (model P w) X.A (letOwnedTupleGo tg (.ref it) u) (λ_ s2=>∃ x H',Inv X pins σ H' s2/\Td x u/\J.hB i H x H'/\tn (i+1) s2.heap/\∀ b∈fp,H' b=none) E s1) E s
 done:∀ (X:Cx),X.prog=P->X.w=w->X.K=K->X.calm=true->∀ (i:Nat) (pins:List (Addr × Obj)) (s:Shared) (σ:St) (H:Hp) (E:Value->Shared->Prop),Inv X pins σ H s->(∀ b∈fp,fu X pins H b)->tn i s.heap->J.stop i H->
  wpAny (model P w) X.A (pyNext (.ref it)) (λr s1=>r=none/\Inv X pins σ H s1) E s
 self:∀ (A:Ia) (i:Nat) (s:Shared) (Q:Value->Shared->Prop) (E:Value->Shared->Prop),tn i s.heap->Q (.ref it) s->wpAny (model P w) A (pyIter (.ref it)) Q E s
noncomputable abbrev TI:=St->Hp->(It->Hp->Prop)->Prop
noncomputable def ER(X:Cx)(a:List (Addr × Obj))(σ:St)(tg:Ja)(R:It->Hp->Prop)(d:Value)(g:Shared):Prop:=
 ∃ (f:Addr) (e:List Addr) (h:Nat->Heap->Prop) (J:It) (c:Hp),d=.ref f/\Inv X a σ c g/\Turn X.prog X.w X.K tg J e f h/\h 0 g.heap/\(∀ b∈e,fu X a c b)/\R J c
noncomputable def PI(X:Cx)(tg b:Ja)(d:TI):Prop:=
 ∀ (a:List (Addr × Obj)) (s:Shared) (σ:St) (H:Hp) (R:It->Hp->Prop),Inv X a σ H s->d σ H R->
  wpAny (model X.prog X.w) X.A (Nb b X.env) (λv c=>wpAny (model X.prog X.w) X.A (pyIter v) (ER X a σ tg R) X.xe c) X.xe s
theorem cD {M : jk} {A : Ia} {E : Value -> Shared -> Prop} {s : Shared} {tg : Ja} {it : Addr} {u : Value} {o : Obj} {n : String} {vs : Array Value} {Q : Unit -> Shared -> Prop} (c : s.heap.get? it = some o) (b : o.cls = .type n) (hd : o.data = .fields vs)
    (hn : ["enumerate", "zip", "dict_itemiterator", "dict_reverseitemiterator", "odict_iterator", "itertools.zip_longest", "itertools.pairwise"].contains n = false) (a : Q () s) : wpAny M A (letOwnedTupleGo tg (.ref it) u) Q E s := by
  unfold letOwnedTupleGo;cases tg <;> first
    | exact da a
    | (cases u <;> first
        | exact da a
        | (refine aa (Vn c ?_)
           rw [b, hd];show wpAny M A (if (["enumerate", "zip", "dict_itemiterator", "dict_reverseitemiterator", "odict_iterator", "itertools.zip_longest", "itertools.pairwise"].contains n && vs[0]? == some (rawInt _)) = true then _ else _) Q E s;rw [ja (by intro h; rw [hn, Bool.false_and] at h; cases h)];exact da a))
noncomputable def AJ(K:W.Frag)(a:Addr):It:=
 ⟨λi H=>∃ xs x,bg K H a xs/\xs[i]?=some x,λi H x b=>b=H/\∀ xs,bg K H a xs->xs[i]?=some x,λi H=>∃ xs,bg K H a xs/\xs.length<=i⟩
noncomputable def fJ(K:W.Frag)(a:Addr):It:=
 ⟨λi H=>∃ xs x,Wh K H a xs/\xs[i]?=some x,λi H x b=>b=H/\∀ xs,Wh K H a xs->xs[i]?=some x,λi H=>∃ xs,Wh K H a xs/\xs.length<=i⟩
noncomputable def WK(b:Int)(n:Nat):It:=⟨λi _=>i<n,λi H x a=>a=H/\x=.int (b+i),λi _=>n<=i⟩
theorem PY{P:ra}{w:Ka}{K:W.Frag}{tg:Ja}(a it:Addr):Turn P w K tg (AJ K a) [it] it (λi h=>h.IsListIter it a i) where
 mem:=by simp
 obj:=λi h f b hb=>by
  have e:b=it:=by simpa using hb
  subst e;obtain⟨o,e,c,d⟩:=f;exact⟨o,e,λv z=>by rw[d]at z;cases z⟩
 keep:=λi h l f k=>f.at λo e=>k it (by simp) o e
 item:=by
  intro X C F B M i g s N H E I m f D;subst C F B;obtain⟨xs,x,n,G⟩:=D;obtain⟨J,L,p,U⟩:=I.list n;obtain⟨u,S,V⟩:=L.get G;obtain⟨q,r,R,t,y,A⟩:=m it (by simp);refine wpAny_pyNext_list_item f p.isList (x:=u) (by simpa using S) λl j Y=>?_;have O:Inv X g N H { s with heap:=l }:=I.turned (t':=s.toks) (λb o hb e=>(Y.2 b hb).trans e) q r t y A;obtain⟨o,e,c,d⟩:=id j;exact⟨u,rfl,cD (s:={ s with heap:=l }) e c d (by decide) ⟨x,H,O,V,⟨rfl,λys T=>by rw[I.gr T n];exact G⟩,j,λb hb=>(m b hb).1⟩⟩
 done:=by
  intro X C F B M i g s N H E I m f D;subst C F B;obtain⟨xs,n,G⟩:=D;obtain⟨J,L,p,U⟩:=I.list n;obtain⟨q,r,R,t,y,A⟩:=m it (by simp);have Z:=L.length;exact wpAny_pyNext_list_end (I.ok.hd M) f p.isList (by simp;omega) λl Q=>⟨rfl,I.turned (t':=s.toks) (λb o hb e=>Q b o hb e) q r t y A⟩
 self:=λ_ _ _ _ _ f h=>wpAny_pyIter_listiter f h
theorem V2{P:ra}{w:Ka}{K:W.Frag}{tg:Ja}(a it:Addr):Turn P w K tg (fJ K a) [it] it (λi h=>h.IsTupleIter it a i) where
 mem:=by simp
 obj:=λi h f b hb=>by
  have e:b=it:=by simpa using hb
  subst e;obtain⟨o,e,c,d⟩:=f;exact⟨o,e,λv z=>by rw[d]at z;cases z⟩
 keep:=λi h m f k=>f.at λo e=>k it (by simp) o e
 item:=by
  intro X D G C M i g s N H E I n f F;subst D G C;obtain⟨xs,x,q,J⟩:=F;obtain⟨j,L,p,U⟩:=I.tuple q;obtain⟨u,S,V⟩:=L.get J;obtain⟨r,t,R,y,A,B⟩:=n it (by simp);refine wpAny_pyNext_tuple_item f (show s.heap.IsTuple a j.toArray from p) (x:=u) (by simpa using S) λm l Y=>?_;have O:Inv X g N H { s with heap:=m }:=I.turned (t':=s.toks) (λb o hb e=>(Y.2 b hb).trans e) r t y A B;obtain⟨o,e,c,d⟩:=id l;exact⟨u,rfl,cD (s:={ s with heap:=m }) e c d (by decide) ⟨x,H,O,V,⟨rfl,λys T=>by rw[I.Vt T q];exact J⟩,l,λb hb=>(n b hb).1⟩⟩
 done:=by
  intro X D G C M i g s N H E I n f F;subst D G C;obtain⟨xs,q,J⟩:=F;obtain⟨j,L,p,U⟩:=I.tuple q;obtain⟨r,t,R,y,A,B⟩:=n it (by simp);have Z:=L.length;exact wpAny_pyNext_tuple_end (I.ok.hd M) f (show s.heap.IsTuple a j.toArray from p) (by simp;omega) λm Q=>⟨rfl,I.turned (t':=s.toks) (λb o hb e=>Q b o hb e) r t y A B⟩
 self:=λ_ _ _ _ _ f h=>wpAny_pyIter_tupleiter f h
theorem z5{P:ra}{w:Ka}{K:PySem.W.Frag}{tg:Ja}(it:Addr)(j:Int)(n:Nat):Turn P w K tg (WK j n) [it] it (λi h=>IsRangeIter h it (j+(i:Nat) * 1) ((n:Int) - (i:Nat)) 1) where
 mem:=by simp
 obj:=λi h a b hb=>by
  have e:b=it:=by simpa using hb
  subst e;exact⟨_,a,λv z=>by
   have N:Data.fields _=Data.cell v:=z;cases N⟩
 keep:=λi h f a k=>k it (by simp) _ a
 item:=by
  intro X x B u y i c s D H E I g a A;subst x B u;obtain⟨l,m,J,p,q,r⟩:=g it (by simp);have W:=Walks.range (prog:=X.prog) (w:=X.w) (I.ok.hd y) it j 1 n;refine W.item i s _ _ A a λv f C L d M=>?_;obtain⟨t,rfl⟩:=L;have F:Inv X c D H { s with heap:=f,toks:=C }:=I.turned (λb o hb e=>M b o (by simpa using hb) e) l m p q r;refine⟨_,rfl,cD (s:={ s with heap:=f,toks:=C }) (n:="range_iterator") d rfl rfl (by decide) ⟨.int (j+i),H,F,⟨t,?_⟩,⟨rfl,rfl⟩,d,λb hb=>(g b hb).1⟩⟩;rw[Int.mul_one]
 done:=by
  intro X x B u y i c s D H E I g a A;subst x B u;obtain⟨l,m,J,p,q,r⟩:=g it (by simp);exact wpAny_pyNext_range_end (I.ok.hd y) a (by have:n<=i:=A;omega) λf G=>⟨rfl,I.turned (t':=s.toks) (λb o hb e=>G b o hb e) l m p q r⟩
 self:=λ_ _ _ _ _ a h=>wpAny_pyIter_rangeiter a h
section
variable{X:Cx}{tg:Ja}
theorem X2{c:List (Addr × Obj)}{σ:St}{H:Hp}{s:Shared}{R:It->Hp->Prop}{E:Value->Shared->Prop}{lo a:Int}{t u v:Tok}{f:Nat}(I:Inv X c σ H s)(i:-(2 ^ 62)<=lo)(j:lo<2 ^ 62)(k:-(2 ^ 62)<=a)(l:a<2 ^ 62)
  (q:R (WK lo (a - lo).toNat) H):wpAny (model X.prog X.w) X.A (pyIter (.ref s.heap.objs.size)) (ER X c σ tg R) E { s with heap:=s.heap.push { cls:=.type "range",data:=.fields #[.int lo t,.int a u,.int 1 v] },toks:=f }:=by
 refine wpAny_pyIter_range (IsRange.new ..) (small_one i j k l) ?_;have d:Inv X c σ H { s with heap:=s.heap.push { cls:=.type "range",data:=.fields #[.int lo t,.int a u,.int 1 v] },toks:=f }:=I.kept λb o e=>ba _ e;refine⟨(s.heap.push { cls:=.type "range",data:=.fields #[.int lo t,.int a u,.int 1 v] }).objs.size,[(s.heap.push { cls:=.type "range",data:=.fields #[.int lo t,.int a u,.int 1 v] }).objs.size],_,_,H,rfl,
  d.kept (t':=f) λb o e=>ba _ e,z5 _ lo (a - lo).toNat,?_,λb hb=>?_,q⟩
 ·have g:lo+((0:Nat):Int) * 1=lo:=by simp
  have h:(((a - lo).toNat:Nat):Int) - ((0:Nat):Int)=kE lo a 1:=by rw[rangeSize_one];split<;>omega
  show IsRangeIter _ _ (lo+((0:Nat):Int) * 1) ((((a - lo).toNat:Nat):Int) - ((0:Nat):Int)) 1;rw[g,h];exact Ba _ rfl
 ·have e:b=(s.heap.push { cls:=.type "range",data:=.fields #[.int lo t,.int a u,.int 1 v] }).objs.size:=by simpa using hb
  subst e;exact d.Hs (na _) (d.Rb.fresh (na _))
noncomputable def IZ(b:TA):TI:=λd H R=>b d H λc a=>∃ j:Int,c=[.int j]/\-(2 ^ 62)<=j/\j<2 ^ 62/\R (WK 0 j.toNat) a
theorem zpc{a:Ja}{d:TA}{p c:Ye}(i:Gl X "range")(hm:X.mg "range" = none)(g:PA X [a] d)(k:pa [a] X.env=[(false,Nb a X.env)]:=by rfl):PI X tg (.Call (.Name "range" p) [a] [] c) (IZ d):=by
 intro b s n H R I h;refine Call_ (kB I i hm boot_range (Zg (ge (g c b s n H _ I h) λus s1 ⟨o,H1,f,l,q1⟩=>?_) k rfl));obtain⟨j,e,q1,q2,q⟩:=q1;subst e;cases l with
 |cons r m=>
  cases m;obtain⟨t,rfl⟩:=r;exact call_range_1 (X2 f (by omega) (by omega) q1 q2 (by simpa using q))
noncomputable def IY(j:TI)(g:TG)(tb:TS):TS:=λD a H=>j a H λJ f=>∃ W:Nat->Nat->St->Hp->Prop,(∃ m,W 0 m a f)/\∀ i m a H,W i m a H->
 (J.stop i H/\D.nx a H)\/(J.go i H/\∃ N:St->Hp->Prop,(∀ c b,N c b->∃ e,e<m/\W (i+1) e c b)/\∀ x b,J.hB i H x b->g x a b λd h=>tb { D with nx:=N,ct:=N,bk:=D.nx } d h)
noncomputable def KC(a:List Addr)(h:Heap):List (Addr × Obj):=a.filterMap λb=>(h.get? b).map λo=>(b,o)
theorem xE{a:List Addr}{h:Heap}{b:Addr}{o:Obj}(hb:b∈a)(e:h.get? b=some o):(b,o)∈KC a h:=Rk.mpr ⟨b,hb,by rw[e];rfl⟩
theorem zo4{a:List Addr}{h:Heap}{p:Addr × Obj}(d:p∈KC a h):p.1∈a/\h.get? p.1=some p.2:=by
 obtain⟨b,hb,e⟩:=Rk.mp d;cases q:h.get? b with
 |none=>rw[q]at e;cases e
 |some o=>
  rw[q]at e;have c:(b,o)=p:=ub e;subst c;exact⟨hb,q⟩
theorem Inv.pinned{a:List (Addr × Obj)}{σ:St}{H:Hp}{s:Shared}{c:List Addr}(I:Inv X a σ H s)(j:∀ b∈c,fu X a H b)(k:∀ b∈c,∃ o,s.heap.get? b=some o/\∀ v,o.data≠.cell v):Inv X (a++KC c s.heap) σ H s:=
 I.xt λp l=>(Ud.mp l).elim (λz=>I.pin p (Mb _ z)) λz=>by
  obtain⟨hb,e⟩:=zo4 z;obtain⟨g,h,i,_⟩:=j p.1 hb;obtain⟨o,f,d⟩:=k p.1 hb;rw[e]at f;cases f;exact⟨e,g,h,i,d⟩
theorem Inv.xk{a pl:List (Addr × Obj)}{σ:St}{H:Hp}{s:Shared}(I:Inv X (a++pl) σ H s):Inv X a σ H s:=I.xt λp b=>I.pin p (Mb _ (Oa _ b))
theorem oP{p:Ja}{body:List Stmt}{wi:TI}{g:TG}{tb:TS}{R:Ye}(F:uq (model X.prog X.w) X.A X.env X.xe)(hc:X.calm=true)(hi:PI X tg p wi)(hg:PG X tg g)(hb:At X body tb)
  (hs:∀ x,ph p X.env x=pure x:=by intro _;rfl):PS X (.For tg p body [] R) (IY wi g tb):=by
 intro a s σ H D I h;refine wpAny_For (ge (hi a s σ H _ I h) λv s1 h1=>ge h1 λa0 s2 h2=>?_) hs;obtain⟨it,C,tn,J,H2,e,I2,T,U,f2,W,⟨m0,w0⟩,L⟩:=h2;subst e;have q:∀ {H':Hp},(∀ b∈C,H' b=none)->∀ b∈C,fu X a H' b:=λhn b hb=>⟨hn b hb,(f2 b hb).2⟩
 refine codeAny_forLoop_any (λn s'=>∃ i t H',Inv X a t H' s'/\tn i s'.heap/\(∀ b∈C,H' b=none)/\W i n t H') ?_ m0 ⟨0,σ,H2,I2,U,λb hb=>(f2 b hb).1,w0⟩;rintro n s3 ⟨i,y,M,Z,K,E,w3⟩;rcases L i n y M w3 with⟨stop,qn⟩|⟨go,N,hN,step⟩
 ·refine ai F (ge (T.done X rfl rfl rfl hc i a s3 y M X.xe Z (q E) K stop) λr s4 ⟨Q,I4⟩=>?_);subst Q;exact fk ⟨y,M,I4,qn⟩
 ·refine ai F (ge (T.item X rfl rfl rfl hc i a s3 y M X.xe Z (q E) K go) λr s4 ⟨u,Q,h4⟩=>?_);subst Q;refine ai F (ge h4 λ_ s5 ⟨x,Y,I5,r5,y5,B,P⟩=>?_);have O:=I5.pinned (q P) (T.obj _ _ B);refine ai F (ge (hg _ s5 y Y x u _ O r5 (step x Y y5)) λ_ s6 ⟨V,H6,I6,q6⟩=>?_);refine ai F (ge (hb _ s6 V H6 _ I6 q6) λf S z=>?_);have l:∀ {c:St} {j:Hp},Inv X (a++KC C s5.heap) c j S->N c j->∃ m,m<n/\∃ i t H',Inv X a t H' S/\tn i S.heap/\(∀ b∈C,H' b=none)/\W i m t H':=fun {c j} k G=>by
   obtain⟨m',hm,w7⟩:=hN c j G;refine⟨m',hm,i+1,c,j,k.xk,T.keep _ _ _ B λb hb o e=>(k.pin (b,o) (Mb _ (Mb _ (xE hb e)))).1,λb hb=>?_,w7⟩;obtain⟨o,e,d⟩:=T.obj _ _ B b hb;exact(k.pin (b,o) (Mb _ (Mb _ (xE hb e)))).2.1
  cases f with
  |next=>obtain⟨c,j,k,G⟩:=z;exact l k G
  |cont=>obtain⟨c,j,k,G⟩:=z;exact l k G
  |brk=>obtain⟨c,j,k,z⟩:=z;exact⟨c,j,k.xk,z⟩
  |ret v=>obtain⟨x7,c,j,k,r7,z⟩:=z;exact⟨x7,c,j,k.xk,r7,z⟩
end
noncomputable abbrev R2:=V->V->Hp->VK->Prop
noncomputable def Gi(X:Cx)(f:Value->Value->zp Value)(r:R2):Prop:=
 ∀ (a:List (Addr × Obj)) (s:Shared) (σ:St) (H:Hp) (x y:V) (v u:Value) (Q:VK),Inv X a σ H s->Td x v->Td y u->r x y H Q->
  wpAny (model X.prog X.w) X.A (f v u) (EP X a σ Q) X.xe s
noncomputable def Qm(X:Cx)(f:Value)(r:List V->Hp->VK->Prop):Prop:=
 ∀ (a:List (Addr × Obj)) (s:Shared) (σ:St) (H:Hp) (xs:List V) (us:List Value) (Q:VK),Inv X a σ H s->re xs us->r xs H Q->
  wpAny (model X.prog X.w) X.A (call f us) (EP X a σ Q) X.xe s
noncomputable def aD(r:R2)(d tb:TE):TE:=λa H Q=>d a H λx b=>tb a b λy c=>r x y c Q
noncomputable def rI(C:Int->Int->Prop)(g:Int->Int->V):R2:=λx y H Q=>∃ i j,x=.int i/\y=.int j/\C i j/\Q (g i j) H
noncomputable def Zr(g:Int->Int->V):R2:=λx y H Q=>∃ i j,x=.int i/\y=.int j/\Q (g i j) H
section
variable{X:Cx}{a b c:Ja}{ta tb tc:TE}{pos:Ye}
theorem wJ(m:PE X a ta)(hb:PE X b tb){c:List (Addr × Obj)}{s:Shared}{σ:St}{H:Hp}{R:V->V->Hp->Prop}(I:Inv X c σ H s)
  (h:ta σ H λx j=>tb σ j λy d=>R x y d) {Q:Value->Shared->Prop} {f:Value->Value->zp Value}
  (n:∀ v u i x y d,Inv X c σ d i->Td x v->Td y u->R x y d->wpAny (model X.prog X.w) X.A (f v u) Q X.xe i) :
  wpAny (model X.prog X.w) X.A (Nb a X.env) (λv e=>wpAny (model X.prog X.w) X.A (Nb b X.env) (λu g=>wpAny (model X.prog X.w) X.A (f v u) Q X.xe g) X.xe e) X.xe s:=by
 refine ge (m c s σ H _ I h) λv s1 ⟨x,j,k,o,q1⟩=>?_;refine ge (hb c s1 σ j _ k q1) λu i ⟨y,d,l,p,q2⟩=>?_;exact n v u i x y d l o p q2
theorem v8{op:yl}{r:R2}(g:Gi X (xf op) r)(f:PE X a ta)(hb:PE X b tb):PE X (.BinOp a op b pos) (aD r ta tb):=by
 intro c s l H Q I h;exact wpAny_BinOp (wJ f hb I h λv u k x y d e i j q=>g c k l d x y v u Q e i j q)
theorem LG{f:Value->Value->zp Value}{C:Int->Int->Prop}{g:Int->Int->Int}
  (a:∀ (i j:Int) (t u:Tok) (s:Shared) (Q:Value->Shared->Prop) (E:Value->Shared->Prop),C i j->Q (.int (g i j) s.toks) { s with toks:=s.toks+1 }->wpAny (model X.prog X.w) X.A (f (.int i t) (.int j u)) Q E s) :
  Gi X f (rI C λi j=>.int (g i j)):=by
 intro b s l H x y v u Q I d e h;obtain⟨i,j,rfl,rfl,c,q⟩:=h;obtain⟨t,rfl⟩:=d;obtain⟨k,rfl⟩:=e;exact a i j t k s _ _ c ⟨.int (g i j),H,I.tok _,⟨_,rfl⟩,q⟩
theorem yM{f:Value->Value->zp Value}{g:Int->Int->Int}
  (a:∀ (i j:Int) (t u:Tok) (s:Shared) (Q:Value->Shared->Prop) (E:Value->Shared->Prop),Q (.int (g i j) s.toks) { s with toks:=s.toks+1 }->wpAny (model X.prog X.w) X.A (f (.int i t) (.int j u)) Q E s) :
  Gi X f (Zr λi j=>.int (g i j)):=by
 intro b s k H x y v u Q I c d h;obtain⟨i,j,rfl,rfl,q⟩:=h;obtain⟨t,rfl⟩:=c;obtain⟨e,rfl⟩:=d;exact a i j t e s _ _ ⟨.int (g i j),H,I.tok _,⟨_,rfl⟩,q⟩
theorem bG{f:Value->Value->zp Value}{g:Int->Int->Bool}
  (a:∀ (i j:Int) (t u:Tok) (s:Shared) (Q:Value->Shared->Prop) (E:Value->Shared->Prop),Q (.bool (g i j)) s->wpAny (model X.prog X.w) X.A (f (.int i t) (.int j u)) Q E s) :
  Gi X f (Zr λi j=>.bl (g i j)):=by
 intro b s k H x y v u Q I c d h;obtain⟨i,j,rfl,rfl,q⟩:=h;obtain⟨t,rfl⟩:=c;obtain⟨e,rfl⟩:=d;exact a i j t e s _ _ ⟨.bl (g i j),H,I,rfl,q⟩
noncomputable def YO(i j:Int):Prop:=0<j/\j<1073741824
noncomputable def IP(i j:Int):Prop:=0<=j/\j<=1000000/\i.natAbs<2 ^ 64
noncomputable def MF(i j:Int):Prop:=(-(2 ^ 64)<i/\i<2 ^ 64)\/(-(2 ^ 64)<j/\j<2 ^ 64)
theorem MF.ok{i j:Int}(h:MF i j):IntMulOk i j:=by
 rcases h with⟨a,b⟩|⟨a,b⟩
 ·exact .of_left (OT a b)
 ·exact .of_right (OT a b)
theorem Y8:Gi X (xf .Add) (Zr λi j=>.int (i+j)):=yM λ_ _ _ _ _ _ _ q=>add_int q
theorem vt:Gi X (xf .Sub) (Zr λi j=>.int (i - j)):=yM λ_ _ _ _ _ _ _ q=>sub_int q
theorem PP:Gi X (xf .Mult) (rI MF λi j=>.int (i * j)):=LG λ_ _ _ _ _ _ _ a q=>mul_int q a.ok
theorem Ju:Gi X (xf .FloorDiv) (rI YO λi j=>.int (i / j)):=LG λi j _ _ _ _ _ a q=>by
 have b:(0:Int)<j:=a.1;have c:j<1073741824:=a.2;exact floordiv_int (by omega) (by rw[Int.fdiv_eq_ediv_of_nonneg i (by omega)];exact q) (.inl (PyProof.noPylong_small (by omega)))
theorem Aq:Gi X (xf .Mod) (rI (λ_ j=>0<j) λi j=>.int (i % j)):=LG λi j _ _ _ _ _ a q=>by
 have b:(0:Int)<j:=a;exact mod_int' (by omega) (by rw[Int.fmod_eq_emod_of_nonneg i (by omega)];exact q)
theorem kG:Gi X (xf .Pow) (rI IP λi j=>.int (i ^ j.toNat)):=LG λ_ _ _ _ _ _ _ a q=>pow_int_small a.1 a.2.1 a.2.2 q
end
section
variable{X:Cx}{a b c:Ja}{ta tb tc:TE}{pos:Ye}
theorem XS{a:List (Addr × Obj)}{σ:St}{H:Hp}{s:Shared}{Q:VK}{k b:Bool}(I:Inv X a σ H s)(q:Q (.bl k) H)(e:k=b):EP X a σ Q (.bool b) s:=by
 subst e;exact⟨.bl k,H,I,rfl,q⟩
theorem mB:Gi X (dc .Lt) (Zr λi j=>.bl (decide (i<j))):=bG λ_ _ _ _ _ _ _ q=>lt_int q
theorem RP:Gi X (dc .LtE) (Zr λi j=>.bl (decide (i<=j))):=bG λ_ _ _ _ _ _ _ q=>le_int q
theorem bI:Gi X (dc .Gt) (Zr λi j=>.bl (decide (j<i))):=bG λ_ _ _ _ _ _ _ q=>gt_int q
theorem oG:Gi X (dc .GtE) (Zr λi j=>.bl (decide (j<=i))):=bG λ_ _ _ _ _ _ _ q=>ge_int q
theorem rL:Gi X (dc .Is) (λx y H Q=>y=.Jb/\Q (.bl (decide (x=.Jb))) H):=by
 intro a s d H x y v u Q I b c h;obtain⟨rfl,q⟩:=h;cases c;refine is_none_gen (XS I q ?_);cases x<;>first
  |(cases b;rfl)
  |(obtain⟨t,rfl⟩:=b;rfl)
theorem KG:Gi X (dc .IsNot) (λx y H Q=>y=.Jb/\Q (.bl (!decide (x=.Jb))) H):=by
 intro a s d H x y v u Q I b c h;obtain⟨rfl,q⟩:=h;cases c;refine isnot_none_gen (XS I q ?_);cases x<;>first
  |(cases b;rfl)
  |(obtain⟨t,rfl⟩:=b;rfl)
theorem Gi.or{f:Value->Value->zp Value}{r b:R2}(h:Gi X f r)(h':Gi X f b):Gi X f (λx y H Q=>r x y H Q\/b x y H Q):=by
 intro a s e H x y v u Q I c d q;rcases q with q|q
 ·exact h a s e H x y v u Q I c d q
 ·exact h' a s e H x y v u Q I c d q
theorem Yg(b:Ja){op:Pq}(h:op≠.In:=by decide)(d:op≠.NotIn:=by decide):lf op b=false:=by
 have a:(op == OL)=false:=by cases op<;>first|rfl|exact absurd rfl h
 have c:(op == VB)=false:=by cases op<;>first|rfl|exact absurd rfl d
 cases b<;>simp[lf,a,c]
theorem U1{op:Pq}{r:R2}(g:Gi X (dc op) r)(f:PE X a ta)(hb:PE X b tb)(hm:lf op b=false):PE X (.Compare a [op] [b] pos) (aD r ta tb):=by
 intro c s l H Q I h;exact wpAny_Compare1 (wJ f hb I h λv u k x y d e i j q=>g c k l d x y v u Q e i j q) hm
noncomputable def HX(t:TE):TT:=λb H Q=>t b H λx a=>∃ k,x=.bl k/\Q k a
theorem L3{op:Pq}{r:R2}(o:Gi X (dc op) r)(n:PE X a ta)(hb:PE X b tb)(hm:lf op b=false):PT X (.Compare a [op] [b] pos) (HX (aD r ta tb)):=by
 intro d s f H Q I h;refine zw (ge (n d s f H _ I h) λv s1 ⟨x,H1,j,p,q1⟩=>ge (hb d s1 f H1 _ j q1) λu s2 ⟨y,g,l,q,q2⟩=>
  ge (o d s2 f g x y v u _ l p q q2) λc s3 ⟨z,i,m,t,k,e,q3⟩=>?_) hm
 subst e;cases t;exact Gc ⟨i,m,q3⟩
noncomputable def ynt(r f:R2)(ta tb tc:TE):TE:=λa H Q=>ta a H λx c=>tb a c λy d=>r x y d λz b=>∃ k,z=.bl k/\
 (if k=true then tc a b λg e=>f y g e Q else Q (.bl false) b)
theorem F8{op g:Pq}{r n:R2}(D:Gi X (dc op) r)(j:Gi X (dc g) n)(B:PE X a ta)(hb:PE X b tb)(C:PE X c tc)
  (hm:lastMarks [op,g] [b,c]=false:=by with_unfolding_all rfl):PE X (.Compare a [op,g] [b,c] pos) (ynt r n ta tb tc):=by
 intro f s i H Q I h;refine Compare_chain (ge (B f s i H _ I h) λv s1 ⟨x,H1,t,E,q1⟩=>chain_link (ge (hb f s1 i H1 _ t q1) λu s2 ⟨y,p,w,o,q2⟩=>
  ge (D f s2 i p x y v u _ w E o q2) λd s3 ⟨z,l,m,F,k,e,q3⟩=>?_)) hm
 subst e;cases F;refine Gc ?_;cases k with
 |false=>exact ite_ff ⟨.bl false,l,m,rfl,q3⟩
 |true=>exact ite_tt (chain_last (ge (C f s3 i l _ m q3) λJ s4 ⟨K,q,A,G,q4⟩=>j f s4 i q y K u J Q A o G q4))
theorem tE:(sizeLine:Nat)<2 ^ 63:=by rw[sizeLine_eq];decide
theorem W6:Gi X (xf .Add) (λx y H Q=>∃ i j,x=.str i/\y=.str j/\i.length+j.length<=sizeLine/\Q (.str (i++j)) H):=by
 intro a s g H x y v u Q I c d h;obtain⟨i,j,rfl,rfl,b,q⟩:=h;obtain⟨t,rfl⟩:=c;obtain⟨e,rfl⟩:=d;exact add_str (λe f=>⟨.str (i++j),H,I.tok _,⟨_,rfl⟩,q⟩) b
theorem Ot{x:V}{us:List Value}(r:re [x] us):∃ u,us=[u]/\Td x u:=by
 cases r with
 |cons a b=>cases b;exact⟨_,rfl,a⟩
theorem SJ{x y:V}{us:List Value}(r:re [x,y] us):∃ u w',us=[u,w']/\Td x u/\Td y w':=by
 cases r with
 |cons a b=>
  cases b with
  |cons c d=>cases d;exact⟨_,_,rfl,a,c⟩
theorem E3(c:X.calm=true):Qm X (.builtin "min") (λxs H Q=>∃ i j,xs=[.int i,.int j]/\Q (.int (if j<i then j else i)) H):=by
 intro b s m H xs g Q I r h;obtain⟨i,j,rfl,q⟩:=h;obtain⟨u,l,rfl,⟨t,rfl⟩,⟨e,rfl⟩⟩:=SJ r;refine min_two_ints (I.ok.hd c) λd f k=>⟨_,H,I.kept k,?_,q⟩
 by_cases a:j<i
 ·rw[ia a,ia a];exact⟨_,rfl⟩
 ·rw[ja a,ja a];exact⟨_,rfl⟩
end
structure Cs(h:Heap)(x dx C:Addr)(mA:qa->Option Value):Prop where
 obj:h.get? x=some (W.instObj C dx)
 ns:h.Ns1 dx mA
 ne:dx≠x
theorem zod{h:Heap}{c:Addr}{f:qa->Option Value}(n:h.Ns1 c f):∃ od,h.get? c=some od/\∀ name,W.lookIn name od=some (f name):=by
 obtain⟨o,d,l,j,hd,i,_,hm⟩:=n;refine⟨o,j,λname=>?_⟩;have e:=hm name;unfold nsFind findBy at e;rw[<-Array.find?_toList]at e;unfold W.lookIn;rw[hd];dsimp only;split
 ·rename_i y q
  rw[q]at e;exact Wf some e
 ·rename_i q
  rw[q]at e;have a:d.toList.any (·.refKey)=false:=by
   rw[List.any_eq_false];intro y k;obtain⟨z,t,b⟩:=i y (Array.mem_toList_iff.mp k);simp[zaF,b]
  have g:¬ d.toList.any (·.refKey)=true:=by rw[a];exact Xa
  rw[ja g];exact Wf some e
theorem Cs.look{h:Heap}{x a C:Addr}{b:qa->Option Value}(I:Cs h x a C b):∃ od,W.InstAt h x (W.instObj C a) C (some od)/\∀ name,W.lookIn name od=some (b name):=
 let ⟨od,d,c⟩:=zod I.ns
 ⟨od,⟨I.obj,rfl,rfl,d⟩,c⟩
section
variable{prog:ra}{w:Ka}{A:Ia}{E:Value->Shared->Prop}{s:Shared}{K:W.Frag}{x dx C f:Addr}{mA:qa->Option Value}{name:qa}{v:Value}
theorem X4{a:Bool}{Q:Value->Shared->Prop}(X:K.In s.heap)(I:Cs s.heap x dx C mA)(d:W.plainGet K C name=true)(e:W.hasDictIn K C=true)
  (c:W.findIn K (.ref C) name=some none) (g:mA name=some v) (b:W.handedIn v=true) (h:Q v { s with toks:=s.toks+1 }) :
  wpAny (model prog w) A (getAttr (.ref x) name a) Q E s:=by
 obtain⟨i,J,f⟩:=I.look;exact W.get_value X J (Rs d).1 (W.findObj_own e c rfl (by rw[f,g])) b h
theorem YX{pl:zp Bool}{Q:Value × List Value->Shared->Prop}(X:K.In s.heap)(I:Cs s.heap x dx C mA)(a:W.plainGet K C name=true)
  (b:W.findIn K (.ref C) name=some (some (.ref f))) (d:W.isFn K (.ref f)=true) (e:mA name=none) (h:Q (.ref f,[.ref x]) s) :
  wpAny (model prog w) A (Ml (.ref x) name pl) Q E s:=by
 obtain⟨g,J,c⟩:=I.look;exact W.method_fn X J (Rs a).1 (Rs a).2 b (Eg.mp d) (by show (W.lookIn name g).map (·.isSome)=some false;rw[c,e];rfl) h
theorem YZ{ns:List qa}{Q:Unit->Shared->Prop}(X:K.In s.heap)(I:Cs s.heap x dx C mA)
  (o:W.findIn K (.ref C) "__setattr__" = some (some (.builtin "object.__setattr__"))) (n:W.plainOver K C=true) (p:W.takerIn K C name=some none) (m:W.hasDictIn K C=true)
  (q:PySem.Within mA ns) (hsz:ns.length<=sizeLine)
  (h:∀ h',Cs h' x dx C (λy=>if y=name then some v else mA y)->Ic dx s.heap h'->Q () { s with heap:=h',toks:=s.toks+2 }) :
  wpAny (model prog w) A (setAttr (.ref x) name v) Q E s:=by
 obtain⟨D,J,z⟩:=I.look;refine W.set_plain X J o (W.osa_open (s:={ s with toks:=s.toks+1 }) (r:=none) X J n p λb=>?_);obtain⟨u,l,f⟩:=W.any_some m;have t:s.heap.get? x=some ⟨.ref C,some dx,.plain,#[]⟩:=I.obj;refine aa (da (aa (aa (wpAny_loadPart t (aa (W.Looks.here (s:={ s with toks:=s.toks+1 }) (W.looks_clsIn X l) ?_))))));rw[f];refine da (a:=some dx) (aa (da (aa ?_)));refine wpAny_nsSet1 (s:={ s with toks:=s.toks+1 }) I.ns λh' c d=>?_;obtain⟨B,k,j,i,g,e⟩:=c.count (jH name v q);refine aa (wpAny_lookBehind i (by rw[g];exact pastItsLine_dict (yb e (by rw[Ma];omega))) ?_);exact da (h _ ⟨(d.2 _ (De I.ne)).trans I.obj,c,I.ne⟩ d)
theorem l6{R:vq->Shared->Prop}{vs:List Value}{a:List (qa × Value)}(X:K.In s.heap)(hm:W.makesIn K C=true)
  (c:W.findIn K (.ref C) "__init__" = some (some (.ref f))) (b:W.typeIn K (.ref f)=some (.type "function"))
  (h:codeAny (model prog w) (A.under (.builtin "type.__call__" ⟨.ref C::vs,a⟩)) (.call (.ref f) ⟨.ref (s.heap.objs.size+1)::vs,a⟩) (W.InitBack (s.heap.objs.size+1) R)
   { s with heap:=(s.heap.push W.emptyDict).push (W.instObj C s.heap.objs.size) }) :
  codeAny (model prog w) A (.call (.ref C) ⟨vs,a⟩) R s:=by
 obtain⟨e,g,d,t,os⟩:=s;exact W.make_core (W.makes_of X hm) (W.looks_findIn X c) (λself=>W.bind_fn X self b) (.inl rfl) h
end
noncomputable def wn(f:qa)(v:V):List (qa × V)->List (qa × V)
 |[]=>[(f,v)]
 |(g,x)::r=>if g=f then (g,v)::r else (g,x)::wn f v r
theorem mQ(f g:qa)(v:V):∀ fs:List (qa × V),(wn f v fs).lookup g=if g=f then some v else fs.lookup g
 |[]=>by
  show List.lookup g [(f,v)]=_;by_cases h:g=f
  ·have hb:(g == f)=true:=Eg.mpr h;simp only[List.lookup,hb,ia h]
  ·have hb:(g == f)=false:=jc.mpr h;simp only[List.lookup,hb,ja h]
 |(k,x)::r=>by
  have b:=mQ f g v r;rw[show wn f v ((k,x)::r)=(if k=f then (k,v)::r else (k,x)::wn f v r)from rfl];by_cases a:k=f
  ·rw[ia a];by_cases h:g=k
   ·have hb:(g == k)=true:=Eg.mpr h;simp only[List.lookup,hb,ia (h.trans a)]
   ·have hb:(g == k)=false:=jc.mpr h;simp only[List.lookup,hb,ja (λe:g=f=>h (e.trans a.symm))]
  ·rw[ja a];by_cases h:g=k
   ·have hb:(g == k)=true:=Eg.mpr h;simp only[List.lookup,hb,ja (λe:g=f=>a (h.symm.trans e))]
   ·have hb:(g == k)=false:=jc.mpr h;simp only[List.lookup,hb];exact b
theorem eL(f:qa)(v:V):∀ fs:List (qa × V),f∈(wn f v fs).map (·.1)/\∀ g,g∈fs.map (·.1)->g∈(wn f v fs).map (·.1)
 |[]=>⟨by simp[wn],λg h=>by simp at h⟩
 |(k,x)::r=>by
  obtain⟨b,c⟩:=eL f v r;rw[show wn f v ((k,x)::r)=(if k=f then (k,v)::r else (k,x)::wn f v r)from rfl];by_cases a:k=f
  ·rw[ia a];subst a;exact⟨by simp,λg h=>by simpa using h⟩
  ·rw[ja a];refine⟨?_,λg h=>?_⟩
   ·rw[Da];exact ya _ b
   ·rw[Da]at h ⊢;rcases Ha.mp h with e|e
    ·exact Ha.mpr (.inl e)
    ·exact ya _ (c g e)
theorem tQ(f:qa)(v:V):∀ fs:List (qa × V),(wn f v fs).length<=fs.length+1
 |[]=>by simp[wn]
 |(k,x)::r=>by
  have b:=tQ f v r;rw[show wn f v ((k,x)::r)=(if k=f then (k,v)::r else (k,x)::wn f v r)from rfl];by_cases a:k=f
  ·rw[ia a,Ma,Ma];omega
  ·rw[ja a,Ma,Ma];omega
theorem gp.some_of{v:V}{o:Option Value}(r:gp (some v) o):∃ u,o=some u/\Td v u:=by
 cases o with
 |none=>exact(show False from r).elim
 |some u=>exact⟨u,rfl,r⟩
theorem gp.none_of{o:Option Value}(r:gp none o):o=none:=by
 cases o with
 |none=>rfl
 |some u=>exact(show False from r).elim
theorem znq{v:V}{u:Value}(r:Td v u):W.handedIn u=true:=by
 cases v with
 |Jb=>cases (show u=La from r);rfl
 |bl b=>cases (show u=Cg b from r);rfl
 |int i=>obtain⟨t,e⟩:=(show ∃ t,u=Sd i t from r);cases e;rfl
 |str x=>obtain⟨t,e⟩:=(show ∃ t,u=Bm x t from r);cases e;rfl
 |yG b=>obtain⟨t,e⟩:=(show ∃ t,u=UB b t from r);cases e;rfl
 |Bz b=>obtain⟨t,e⟩:=(show ∃ t,u=Ws b t from r);cases e;rfl
 |ref a=>cases (show u=Ua a from r);rfl
 |ty n=>cases (show u=Dg n from r);rfl
section
variable{P:ra}{w:Ka}{H H':Hp}{h h':Heap}{a C dx:Addr}{fs fs':List (qa × V)}
theorem GF(Rb:Pi P w H h)(e:H a=some (.ins C dx fs)):∃ b,Cs h a dx C b/\(∀ f,gp (fs.lookup f) (b f))/\PySem.Within b (fs.map (·.1))/\fs.length<=1000/\H dx=some (.own a):=by
 obtain⟨d,z,ne,c,b,n,r,q⟩:=(show Xi P w H h a (.ins C dx fs)from Rb a _ e)
 exact⟨b,⟨c,n,ne⟩,r,q,z,d⟩
end
structure il(K:W.Frag)(C:Addr):Prop where
 pg:W.plainGet K C Str.empty=true
 hd:W.hasDictIn K C=true
 po:W.plainOver K C=true
 sa:W.findIn K (.ref C) "__setattr__" = some (some (.builtin "object.__setattr__"))
theorem il.get{K:W.Frag}{C:Addr}(c:il K C)(f:qa):W.plainGet K C f=true:=c.pg
noncomputable def Vf(K:W.Frag)(C:Addr)(f:qa):Prop:=W.findIn K (.ref C) f=some none
theorem Vf.UC{K:W.Frag}{C:Addr}{f:qa}(n:Vf K C f):W.takerIn K C f=some none:=by
 unfold W.takerIn;rw[show W.findIn K (.ref C) f=some none from n];rfl
structure Con(K:W.Frag)(C:Addr)(f:qa)(v:V)(u:Value):Prop where
 at_:W.findIn K (.ref C) f=some (some u)
 rel:Td v u
 get:W.specialIn K u "__get__" = some none
 cp:W.copiedNames.contains f=false
structure Je(K:W.Frag)(C:Addr)(m:qa)(f:Addr):Prop where
 at_:W.findIn K (.ref C) m=some (some (.ref f))
 fn:W.isFn K (.ref f)=true
 kp:W.keepIn K (.ref f)=true
section
variable{X:Cx}{pins:List (Addr × Obj)}{σ:St}{H:Hp}{s:Shared}{a C dx:Addr}{fs:List (qa × V)}{f:qa}{v:V}{A:Ia}{E:Value->Shared->Prop}
theorem xQ{b:Bool}{Q:Value->Shared->Prop}(I:Inv X pins σ H s)(e:H a=some (.ins C dx fs))(c:il X.K C)(n:Vf X.K C f)(l:fs.lookup f=some v)
  (h:∀ u s',Inv X pins σ H s'->Td v u->Q u s'):wpAny (model X.prog X.w) A (getAttr (.ref a) f b) Q E s:=by
 obtain⟨i,O,r,_,_,_⟩:=GF I.Rb e;obtain⟨u,g,d⟩:=gp.some_of (v:=v) (o:=i f) (by rw[<-l];exact r f);exact X4 I.Cj O (c.get f) c.hd n g (znq d) (h u _ (I.tok _) d)
theorem sK{m:qa}{g:Addr}{pl:zp Bool}{Q:Value × List Value->Shared->Prop}(I:Inv X pins σ H s)(e:H a=some (.ins C dx fs))(c:il X.K C)(k:Je X.K C m g)(l:fs.lookup m=none)
  (h:Q (.ref g,[.ref a]) s):wpAny (model X.prog X.w) A (Ml (.ref a) m pl) Q E s:=by
 obtain⟨b,O,r,_,_,_⟩:=GF I.Rb e;have hn:b m=none:=gp.none_of (by rw[<-l];exact r m);exact YX I.Cj O (c.get m) k.at_ k.fn hn h
theorem fR{y:V}{u:Value}{Q:Unit->Shared->Prop}(I:Inv X pins σ H s)(e:H a=some (.ins C dx fs))(c:il X.K C)(n:Vf X.K C f)(D:fs.length<1000)(v:Td y u)
  (h:∀ s',Inv X pins σ (upd H a (.ins C dx (wn f y fs))) s'->Q () s'):wpAny (model X.prog X.w) A (setAttr (.ref a) f u) Q E s:=by
 obtain⟨j,O,r,k,_,i⟩:=GF I.Rb e;have t:(fs.map (·.1)).length<=sizeLine:=by rw[pb,sizeLine_eq];omega
 refine YZ I.Cj O c.sa c.po n.UC c.hd k t λm d B=>h _ ?_;have hd:∃ o,m.get? dx=some o:=let ⟨o,_,_,l,_⟩:=d.ns;⟨o,l⟩;refine I.write (x:=a) (e:=dx) (by rw[e];exact True.intro) (.inr i) (λb q hb z=>(B.2 b hb).trans z) hd ?_;refine⟨by rw[qe O.ne];exact i,?_,O.ne,d.obj,_,d.ns,λg=>?_,λg p=>?_⟩
 ·have:=tQ f y fs;omega
 ·show gp ((wn f y fs).lookup g) (if g=f then some u else j g);rw[mQ];by_cases q:g=f
  ·rw[ia q,ia q];exact v
  ·rw[ja q,ja q];exact r g
 ·by_cases q:g=f
  ·rw[q];exact(eL f y fs).1
  ·refine(eL f y fs).2 g (k g λz=>p ?_);show (if g=f then some u else j g)=none;rw[ja q];exact z
theorem Inv.made(I:Inv X pins σ H s):Inv X pins σ (upd (upd H s.heap.objs.size (.own (s.heap.objs.size+1))) (s.heap.objs.size+1) (.ins C s.heap.objs.size []))
  { s with heap:=(s.heap.push W.emptyDict).push (W.instObj C s.heap.objs.size) }:=by
 have c:(s.heap.push W.emptyDict).get? s.heap.objs.size=some W.emptyDict:=Ba s.heap rfl;have f:((s.heap.push W.emptyDict).push (W.instObj C s.heap.objs.size)).get? (s.heap.objs.size+1)=some (W.instObj C s.heap.objs.size):=by
  have:=Ba (s.heap.push W.emptyDict) (o:=W.instObj C s.heap.objs.size) rfl
  rwa [Fc]at this
 have g:(s.heap.push W.emptyDict).Ns s.heap.objs.size (λ_=>none):=⟨W.emptyDict,#[],_,c,rfl,(λe h=>absurd h (by simp)),λ_=>rfl⟩
 have d:=I.laid (a:=s.heap.objs.size) (o:=.own (s.heap.objs.size+1)) (h':=s.heap.push W.emptyDict) (t':=s.toks) (λb u q=>ba _ q) (na _) ⟨_,c⟩;refine d.laid (a:=s.heap.objs.size+1) (o:=.ins C s.heap.objs.size []) (t':=s.toks) (λb u q=>ba _ q) (bE (Fc _ _)) ?_;have ne:s.heap.objs.size≠s.heap.objs.size+1:=va (Gb _);refine⟨by rw[qe ne,kh],Xj _,ne,f,λ_=>none,(Heap.Ns1.of_empty g).at λo q=>ba _ q,λ_=>True.intro,λy i=>absurd rfl i⟩
theorem zyc{prog:ra}{w:Ka}{env:wh}{e:Ja}{f:qa}{b:Ye}{s:Shared}{Q:Value->Shared->Prop}(hb:Ae e f env (Nb e env)=Nb e env)
  (h:wpAny (model prog w) A (Nb e env) (λo a=>wpAny (model prog w) A (getAttr o f true) Q E a) E s):wpAny (model prog w) A (Nb (.Attribute e f b) env) Q E s:=
 Attribute_any_ h (by rw[arm_eval_Attribute,hb])
end
noncomputable def T2(K:W.Frag)(d:TE)(f:qa):TE:=λe H Q=>d e H λx b=>∃ a C c fs v,x=.ref a/\b a=some (.ins C c fs)/\il K C/\Vf K C f/\fs.lookup f=some v/\Q v b
noncomputable def E1(K:W.Frag)(g h:TE)(f:qa):TS:=λD b H=>h b H λy e=>g b e λx c=>∃ a C d fs,x=.ref a/\c a=some (.ins C d fs)/\il K C/\Vf K C f/\fs.length<1000/\
 D.nx b (upd c a (.ins C d (wn f y fs)))
noncomputable def ZQ(X:Cx)(op:yl)(rd:V->V->Hp->VK->Prop):Prop:=
 ∀ (a:List (Addr × Obj)) (s:Shared) (σ:St) (H:Hp) (x y:V) (u v:Value) (Q:VK),Inv X a σ H s->Td x u->Td y v->rd x y H Q->wpAny (model X.prog X.w) X.A (jE op u v) (EP X a σ Q) X.xe s
noncomputable def yey(K:W.Frag)(j k:TE)(rd:V->V->Hp->VK->Prop)(f:qa):TS:=λD d H=>j d H λx e=>∃ a C i fs v,x=.ref a/\e a=some (.ins C i fs)/\il K C/\Vf K C f/\fs.lookup f=some v/\
 k d e λy h=>rd v y h λz g=>∃ c b,g a=some (.ins C c b)/\b.length<1000/\D.nx d (upd g a (.ins C c (wn f z b)))
section
variable{X:Cx}{o e value:Ja}{f:qa}{pos pos' tpos:Ye}{ta tv:TE}
theorem rV(j:PE X e ta)(hb:Ae e f X.env (Nb e X.env)=Nb e X.env):PE X (.Attribute e f pos) (T2 X.K ta f):=by
 intro b s o H Q I h;refine zyc hb (ge (j b s o H _ I h) λu s1 ⟨x,H1,d,m,a,C,p,fs,v,ex,i,c,n,l,q⟩=>?_);subst ex;obtain rfl:u=Ua a:=m;exact xQ d i c n l λt r g k=>⟨v,H1,g,k,q⟩
theorem n9(k:PE X o ta)(p:PE X value tv)(m:Ij value (some (.Attribute o f pos')) pos.line X.env=pure false):PS X (.Assign [.Attribute o f pos'] value pos) (E1 X.K ta tv f):=by
 intro b s d H D I h;refine plainObj_wpAny_Assign_Attribute (ge (p b s d H _ I h) λu s1 ⟨y,H1,e,v,q⟩=>ge (k b s1 d H1 _ e q) λr s2 ⟨x,w,g,t,a,C,z,fs,ex,j,c,n,l,q2⟩=>?_) m;subst ex;obtain rfl:r=Ua a:=t;exact fR g j c n l v λA i=>⟨d,_,i,q2⟩
theorem L1{op:yl}{rd:V->V->Hp->VK->Prop}(B:PE X o ta)(E:PE X value tv)(g:ZQ X op rd):PS X (.AugAssign (.Attribute o f tpos) op value pos) (yey X.K ta tv rd f):=by
 intro b s d H D I h;refine wpAny_AugAssign_AttributeAny (ge (B b s d H _ I h) λG s1 ⟨x,H1,j,L,a,C,Q,fs,v,ex,w,c,n,l,q⟩=>?_);subst ex;obtain rfl:G=Ua a:=L;refine xQ j w c n l λu O k J=>ge (E b O d H1 _ k q) λw3 s3 ⟨y,i,m,M,q3⟩=>ge (g b s3 d i v y u w3 _ m J M q3) λw4 s4 ⟨z,P,p,N,t,A,e,F,q4⟩=>?_;exact fR p e c n F N λR r=>⟨d,_,r,q4⟩
noncomputable def iX:V->V->Hp->VK->Prop:=λx y H Q=>∃ i j,x=.int i/\y=.int j/\Q (.int (i+j)) H
theorem W4:ZQ X .Add iX:=by
 rintro a s e H x y u v Q I c d ⟨i,j,rfl,rfl,q⟩;obtain⟨t,rfl⟩:=(show ∃ t,u=Sd i t from c)
 obtain⟨b,rfl⟩:=(show ∃ b,v=Sd j b from d)
 exact kH ⟨.int (i+j),H,I.tok _,⟨_,rfl⟩,q⟩
end
section
variable{X:Cx}{pins:List (Addr × Obj)}{σ:St}{H:Hp}{s:Shared}{A:Ia}{E:Value->Shared->Prop}{Q:Value->Shared->Prop}{c:Value}{b:Bool}
inductive vl(K:W.Frag)(H:Hp):V->Value->Prop where
 |Jb:vl K H .Jb (.type "NoneType")
 |bl (x:Bool):vl K H (.bl x) (.type "bool")
 |int (i:Int):vl K H (.int i) (.type "int")
 |str (x:qa):vl K H (.str x) (.type "str")
 |Bz (x:UInt64):vl K H (.Bz x) (.type "float")
 |lst {a:Addr} {xs:List V} (e:H a=some (.lst xs)):vl K H (.ref a) (.type "list")
 |Za {a:Addr} {o:Obj} {xs:List V} (e:H a=some (.Za o (.lst xs))):vl K H (.ref a) (.type "list")
 |tup {a:Addr} {xs:List V} (e:H a=some (.tup xs)):vl K H (.ref a) (.type "tuple")
 |dK {a:Addr} {kvs:List (Key × V)} (e:H a=some (.dK kvs)):vl K H (.ref a) (.type "dict")
 |dT {a:Addr} {kvs:List (List Key × V)} (e:H a=some (.dT kvs)):vl K H (.ref a) (.type "dict")
 |ins {a C dx:Addr} {fs:List (qa × V)} (e:H a=some (.ins C dx fs)) (cl:il K C) (ha:W.findIn K (.ref C) "__class__" = some (some (.builtin "object.__class__")))
   (hn:W.specialIn K (.builtin "object.__class__") "__get__" = some (some (.builtin "getset_descriptor.__get__"))) (htk:W.takesIn K (.builtin "object.__class__")=some true)
   (hm:W.mroIn K C (.type "object")=some true):vl K H (.ref a) (.ref C)
theorem sP{x:V}{u t:Value}(I:Inv X pins σ H s)(f:Td x u)(ty:vl X.K H x t)(e:W.kitOne X.K t c=some b)(h:∀ D,Q (.bool b) { s with toks:=D }) :
  wpAny (model X.prog X.w) A (call (.builtin "isinstance") [u,c]) Q E s:=by
 cases ty with
 |Jb=>cases (show u=La from f);exact Of W.kitx_none I.Cj True.intro e (λz=>nomatch z) h
 |bl y=>cases (show u=Cg y from f);exact Of W.kitx_bool I.Cj True.intro e (λz=>nomatch z) h
 |int i=>obtain⟨t,q⟩:=(show ∃ t,u=Sd i t from f);cases q;exact Of W.kitx_int I.Cj True.intro e (λz=>nomatch z) h
 |str y=>obtain⟨t,q⟩:=(show ∃ t,u=Bm y t from f);cases q;exact Of W.kitx_str I.Cj True.intro e (λz=>nomatch z) h
 |Bz y=>obtain⟨t,q⟩:=(show ∃ t,u=Ws y t from f);cases q;exact Of W.kitx_float I.Cj True.intro e (λz=>nomatch z) h
 |@lst a xs d=>
  cases (show u=Ua a from f);obtain⟨_,_,n,_,g⟩:=(show Xi X.prog X.w H s.heap a (.lst xs)from I.Rb a _ d)
  exact Of QT I.Cj ⟨_,g,rfl⟩ e (λz=>nomatch z) h
 |@Za a B xs d=>
  cases (show u=Ua a from f);obtain⟨_,_,_,n,_,g⟩:=(show Xi X.prog X.w H s.heap a (.Za B (.lst xs))from I.Rb a _ d)
  exact Of QT I.Cj ⟨_,g,rfl⟩ e (λz=>nomatch z) h
 |@tup a xs d=>
  cases (show u=Ua a from f);obtain⟨_,_,_,p⟩:=(show Xi X.prog X.w H s.heap a (.tup xs)from I.Rb a _ d)
  obtain⟨o,g,k,_⟩:=p;exact Of W.kitx_tuple I.Cj ⟨o,g,k⟩ e (λz=>nomatch z) h
 |@dK a j d=>
  cases (show u=Ua a from f);obtain⟨_,_,M,_,p⟩:=(show Xi X.prog X.w H s.heap a (.dK j)from I.Rb a _ d)
  obtain⟨o,r,m,g,k,_⟩:=p;exact Of aw I.Cj ⟨o,g,k.1⟩ e (λz=>nomatch z) h
 |@dT a j d=>
  cases (show u=Ua a from f);obtain⟨_,_,xs,_,o,r,m,g,k,_⟩:=(show Xi X.prog X.w H s.heap a (.dT j)from I.Rb a _ d)
  exact Of aw I.Cj ⟨o,g,k.1⟩ e (λz=>nomatch z) h
 |@ins a C F fs d cl v hn l hm=>
  cases (show u=Ua a from f);obtain⟨G,O,_⟩:=GF I.Rb d;obtain⟨L,J,_⟩:=O.look;exact Of (W.kitx_own (cl.get _) cl.hd v hn l hm) I.Cj J e (λz=>nomatch z) h
end
structure Me(k:Nat)(A:Ia):Prop where
 hd:A.handled=none
 dp:A.depth+3 * k+5<recursionLimit
 un:A.units+16 * k+200<cLine
theorem Me.mono{j k:Nat}{A:Ia}(r:Me k A)(h:j<=k):Me j A:=⟨r.hd,by have:=r.dp;omega,by have:=r.un;omega⟩
theorem Me.deeper{k:Nat}{A:Ia}(r:Me (k+1) A)(env:wh):Me k (A.deeper env):=
 ⟨r.hd,by have:=r.dp;show A.depth+1+3 * k+5<_;omega,by have:=r.un;show A.units+3+16 * k+200<_;omega⟩
theorem Me.in1{k:Nat}{A:Ia}(r:Me (k+1) A):Me k A.in1:=
 ⟨r.hd,by have:=r.dp;show A.depth+3 * k+5<_;omega,by have:=r.un;show A.units+1+16 * k+200<_;omega⟩
theorem zkr{A:Ia}{C:Addr}{us:List Value}{a:List (qa × Value)}:(A.under (.builtin "type.__call__" ⟨.ref C::us,a⟩)).depth=A.depth+1:=by
 first|rfl|simp[Qq,Code.weight,Code.isCreation,Code.isGuard,Code.isCaller,lE,Ur,guardIds]
theorem XY{A:Ia}{C:Addr}{us:List Value}{a:List (qa × Value)}:(A.under (.builtin "type.__call__" ⟨.ref C::us,a⟩)).units=A.units+1:=by
 first|rfl|simp[Qq,Code.cUnits,lE,Ur]
theorem Me.make{k:Nat}{A:Ia}(r:Me (k+1) A)(C:Addr)(us:List Value)(a:List (qa × Value)):Me k (A.under (.builtin "type.__call__" ⟨.ref C::us,a⟩)):=
 ⟨r.hd,by have:=r.dp;rw[zkr];omega,by have:=r.un;rw[XY];omega⟩
theorem Me.depth{k:Nat}{A:Ia}(r:Me k A):A.depth<recursionLimit:=by have:=r.dp;omega
theorem Me.units{k:Nat}{A:Ia}(r:Me k A):A.units+64<cLine:=by have:=r.un;omega
noncomputable def KZ:TA:=λ_ H Q=>Q [] H
noncomputable def oW(d:TE)(e:TA):TA:=λa H Q=>d a H λx b=>e a b λxs c=>Q (x::xs) c
section
variable{X:Cx}{e:Ja}{es:List Ja}{te:TE}{t:TA}{pos:Ye}
theorem Yw:PA X [] KZ:=λ_ _ _ _ H Q I h=>Calls.spliced_nil ⟨[],H,I,.nil,h⟩
theorem Iv(g:PE X e te)(i:PA X es t)(j:pa (e::es) X.env=(false,Nb e X.env)::pa es X.env:=by rfl):PA X (e::es) (oW te t):=by
 intro pos a s b H Q I h;rw[j];show wpAny _ _ (spliced ((false,Nb e X.env)::lc pos (pa es X.env))) _ _ s;refine Calls.spliced_cons (ge (g a s b H _ I h) λu s1 ⟨x,H1,d,k,q1⟩=>?_);exact ge (i pos a s1 b H1 _ d q1) λus s2 ⟨xs,c,f,l,q2⟩=>⟨x::xs,c,f,.cons k l,q2⟩
noncomputable def yze(t:TA):TE:=λb H Q=>t b H λxs a=>xs.length<=sizeLine/\∀ p,a p=none->Q (.ref p) (upd a p (.tup xs))
noncomputable def yW(t:TA):TE:=λb H Q=>t b H λxs a=>xs.length<=sizeLine/\∀ p,a p=none->Q (.ref p) (upd a p (.lst xs))
theorem X6{x1}(h:PA X es t):PE X (.Tuple es x1 pos) (yze t):=by
 intro a s g H Q I f;refine wpAny_Tuple_spliced (ge (h pos a s g H _ I f) λus s1 ⟨xs,H1,c,r,z,q⟩=>⟨by rw[<-r.length];exact z,?_⟩);have d:H1 s1.heap.objs.size=none:=c.Rb.fresh (na _);refine⟨.ref s1.heap.objs.size,upd H1 s1.heap.objs.size (.tup xs),c.laid (t':=s1.toks) (λb u e=>ba _ e) (na _) ?_,rfl,q _ d⟩;exact⟨z,us,r,⟨_,Ba _ rfl,rfl,_,rfl⟩⟩
theorem MR(h:PA X es t):PE X (.List es pos) (yW t):=by
 intro a s g H Q I f;refine wpAny_List_spliced (ge (h pos a s g H _ I f) λus s1 ⟨xs,H1,c,r,z,q⟩=>⟨by rw[<-r.length];exact z,?_⟩);have d:H1 s1.heap.objs.size=none:=c.Rb.fresh (na _);refine⟨.ref s1.heap.objs.size,upd H1 s1.heap.objs.size (.lst xs),c.laid (t':=s1.toks) (λb u e=>ba _ e) (na _) ?_,rfl,q _ d⟩;exact⟨z,us,0,r,Ba _ rfl⟩
end
noncomputable abbrev Sp:=List V->Hp->VK->XK->Prop
noncomputable abbrev ju:=List wh->Hp->Shared->XK->Value->Shared->Prop
structure Nn(P:ra)(w:Ka)(K:W.Frag)(mg:qa->Option Value)(base:Heap)(A:Ia)(outer:List wh)(s:Shared)(H:Hp):Prop where
 frames:A.frames=some outer
 mod:Mod K mg base
 bs:∀ b o,base.get? b=some o->s.heap.get? b=some o/\H b=none
 au:base.objs.size<=s.heap.objs.size
 zj:s.heap.FunFrames base outer
 uv:∀ b∈yj outer,H b=none
 Rb:Pi P w H s.heap
 bare:yi s.gens
noncomputable def CE(outer:List wh)(P:ra)(w:Ka)(H:Hp)(s:Shared)(Q:VK)(u:Value)(s':Shared):Prop:=
 ∃ v a,s'.os=s.os/\yi s'.gens/\Un (yj outer) [] H a s.heap s'.heap/\Pi P w a s'.heap/\Td v u/\Q v a
noncomputable def CR(CX:ju)(outer:List wh)(P:ra)(w:Ka)(H:Hp)(s:Shared)(Q:VK)(E:XK)(r:vq)(s':Shared):Prop:=
 match r with
 | .ok (.ret u)=>CE outer P w H s Q u s'
 | .ok _=>False
 | .error e=>CX outer H s E e s'
structure Oh(P:ra)(w:Ka)(K:W.Frag)(mg:qa->Option Value)(base:Heap)(CX:ju)(k:Nat)(f:Addr)(fd:He)(ps:List qa)(sp:Sp):Prop where
 len:∀ vs H Q E,sp vs H Q E->vs.length=ps.length
 run:∀ (A:Ia) (outer:List wh) (s:Shared) (H:Hp) (args:Args) (us:List Value) (vs:List V) (Q:VK) (E:XK),Me k A->Nn P w K mg base A outer s H->uf s fd args (ps.zip us)->re vs us->sp vs H Q E->
  codeAny (model P w) A (.call (.ref f) args) (CR CX outer P w H s Q E) s
theorem Oh.mono{P:ra}{w:Ka}{K:W.Frag}{mg:qa->Option Value}{base:Heap}{CX:ju}{j k:Nat}{f:Addr}{b:He}{ps:List qa}{sp:Sp}(F:Oh P w K mg base CX j f b ps sp)(h:j<=k) :
  Oh P w K mg base CX k f b ps sp:=⟨F.len,λA outer s H a d e Q E c=>F.run A outer s H a d e Q E (c.mono h)⟩
theorem Oh.imp{P:ra}{w:Ka}{K:W.Frag}{mg:qa->Option Value}{base:Heap}{CX:ju}{k:Nat}{f:Addr}{b:He}{ps:List qa}{sp sp':Sp}(F:Oh P w K mg base CX k f b ps sp)
  (h:∀ vs H Q E,sp' vs H Q E->sp vs H Q E):Oh P w K mg base CX k f b ps sp':=
 ⟨λvs H Q E q=>F.len vs H Q E (h _ _ _ _ q),λA outer s H a i vs Q E d c hb g e=>F.run A outer s H a i vs Q E d c hb g (h _ _ _ _ e)⟩
theorem Nn.make{P:ra}{w:Ka}{K:W.Frag}{mg:qa->Option Value}{base:Heap}{A:Ia}{outer:List wh}{s:Shared}{H:Hp}(e:Nn P w K mg base A outer s H)(C:Addr)(us:List Value)(a:List (qa × Value)) :
  Nn P w K mg base (A.under (.builtin "type.__call__" ⟨.ref C::us,a⟩)) outer s H:=⟨by first|exact e.frames|(simpa [Qq,Code.envs,Ur,pushEnvs]using e.frames),e.mod,e.bs,e.au,e.zj,e.uv,e.Rb,e.bare⟩
theorem Nn.in1{P:ra}{w:Ka}{K:W.Frag}{mg:qa->Option Value}{base:Heap}{A:Ia}{outer:List wh}{s:Shared}{H:Hp}(e:Nn P w K mg base A outer s H) :
  Nn P w K mg base A.in1 outer s H:=⟨e.frames,e.mod,e.bs,e.au,e.zj,e.uv,e.Rb,e.bare⟩
section
variable{X:Cx}{pins:List (Addr × Obj)}{σ:St}{H:Hp}{s s':Shared}
theorem Inv.yC(I:Inv X pins σ H s):Nn X.prog X.w X.K X.mg X.base X.A X.stack s H:=
 ⟨I.ok.frames,I.ok.mod,I.bs,yb I.ok.au I.sz,I.stack,I.Nm,I.Rb,I.bare⟩
theorem Inv.after{Q:VK}{u:Value}(I:Inv X pins σ H s)(h:CE X.stack X.prog X.w H s Q u s'):EP X pins σ Q u s':=by
 obtain⟨v,c,os,bare,un,Rb,r,q⟩:=h;obtain⟨e,g,d,t,a⟩:=s';obtain rfl:a=s.os:=os;exact⟨v,c,I.call (h':=e) (g':=g) (d':=d) (t':=t) (ch:=[]) un Rb bare (λb z=>absurd z (by simp)),r,q⟩
end
noncomputable def Yr(K:W.Frag)(a:He)(ps:List qa)(ds:List Value):Prop:=
 ∀ (s:Shared) (us:List Value),K.In s.heap->(us++ds).length=ps.length->uf s a ⟨us,[]⟩ (ps.zip (us++ds))
theorem Yr.all{K:W.Frag}{a:He}{ps:List qa}(h:∀ us:List Value,us.length=ps.length->bindArgs a ⟨us,[]⟩=pure (ps.zip us)):Yr K a ps []:=λs us _ b=>by
 rw[zf]at b ⊢;exact .of_eq (h us b)
section
variable{X:Cx}{CX:ju}{k:Nat}{f C:Addr}{fd:He}{ps:List qa}{sp:Sp}{dvs:List V}{ds:List Value}{E:XK}{x m:qa}{p pos apos:Ye}{e o:Ja}{es:List Ja}{ta:TE}{t:TA}
structure Mk(K:W.Frag)(C f:Addr):Prop where
 makes:W.makesIn K C=true
 init:W.findIn K (.ref C) "__init__" = some (some (.ref f))
 fn:W.isFn K (.ref f)=true
 kp:W.keepIn K (.ref C)=true
end
section
variable{X:Cx}{CX:ju}{k:Nat}{f C:Addr}{fd:He}{ps ks:List qa}{sp:Sp}{E:XK}{x m:qa}{p pos apos kpos:Ye}{e o:Ja}{es:List Ja}{kws:List ck}{te ta:TE}{t tk:TA}{nm:Option qa}
structure WJ(K:W.Frag)(fd:He)(ps ks:List qa)(g:List Value->List Value->List Value)(gV:List V->List V->List V):Prop where
 to:∀ (s:Shared) (us ws:List Value),K.In s.heap->(g us ws).length=ps.length->uf s fd ⟨us,ks.zip ws⟩ (ps.zip (g us ws))
 rel:∀ {vs:List V} {us:List Value} {zs:List V} {ws:List Value},re vs us->re zs ws->re (gV vs zs) (g us ws)
variable{g:List Value->List Value->List Value}{gV:List V->List V->List V}
end
structure xa(N P:List qa)(sc:Scope):Prop where
 kind:sc.kind=.function
 co:sc.isCoroutine=false
 gen:sc.isGenerator=false
 nd:N.Nodup
 pre:N.take P.length=P
 par:∀ x∈P,sc.names.lookup x=some .local\/sc.names.lookup x=some .cell
 Dz:∀ y∈sc.names,y.2≠.free
theorem zT{a:qa->Option yf}{x:qa}:∀ {binds:List (qa × Value)} {m:qa->Option Value},(∀ v,(x,v) ∉ binds)->Zu a binds m x=m x
 |[],_,_=>rfl
 |(n,v)::r,m,h=>by
  unfold Zu;rw[zT λw b=>h w (ya _ b)];split
  ·have:x≠n:=by rintro rfl;exact h v Aa
   simp[this]
  ·rfl
theorem QR{a:qa->Option yf}{x:qa}:∀ {binds:List (qa × Value)} {m:qa->Option Value},(∀ v,(x,v) ∉ binds)->av a binds m x=m x
 |[],_,_=>rfl
 |(n,v)::r,m,h=>by
  unfold av;rw[QR λw b=>h w (ya _ b)];split
  ·rfl
  ·have:x≠n:=by rintro rfl;exact h v Aa
   simp[this]
theorem YR{a:qa->Option yf}{x:qa}{v:Value}:∀ {P:List qa} {vs:List Value} {i:Nat} {m:qa->Option Value},P.Nodup->P[i]?=some x->vs[i]?=some v->a x=some .local->
  Zu a (P.zip vs) m x=some v
 |[],_,_,_,_,h,_,_=>by simp at h
 |_::_,[],_,_,_,_,h,_=>by simp at h
 |p::P,w::vs,0,m,nd,b,c,d=>by
  simp at b c;subst b;subst c;show Zu a ((p,w)::P.zip vs) m p=_;unfold Zu;rw[zT λv e=>(xg.mp nd).1 (qo e).1,ia d];simp
 |p::P,w::vs,i+1,m,nd,b,c,d=>by
  show Zu a ((p,w)::P.zip vs) m x=_;unfold Zu;exact YR (i:=i) (xg.mp nd).2 (by simpa using b) (by simpa using c) d
theorem uM{a:qa->Option yf}{x:qa}{v:Value}:∀ {P:List qa} {vs:List Value} {i:Nat} {m:qa->Option Value},P.Nodup->P[i]?=some x->vs[i]?=some v->a x≠some .local->
  av a (P.zip vs) m x=some v
 |[],_,_,_,_,h,_,_=>by simp at h
 |_::_,[],_,_,_,_,h,_=>by simp at h
 |p::P,w::vs,0,m,nd,b,c,d=>by
  simp at b c;subst b;subst c;show av a ((p,w)::P.zip vs) m p=_;unfold av;rw[QR λv e=>(xg.mp nd).1 (qo e).1,ja d];simp
 |p::P,w::vs,i+1,m,nd,b,c,d=>by
  show av a ((p,w)::P.zip vs) m x=_;unfold av;exact uM (i:=i) (xg.mp nd).2 (by simpa using b) (by simpa using c) d
noncomputable def Yv(N:List qa)(vs:List V):St:=vs.map some++List.replicate (N.length - vs.length) none
noncomputable def Kr(CX:ju)(P:ra)(w:Ka)(K:W.Frag)(mg:qa->Option Value)(base:Heap)(N:List qa)(qual:qa)(scope:Scope)(f:Addr)(b:Value)(A:Ia)(outer:List wh)(s:Shared)(H:Hp)(E:XK):Cx where
 prog:=P
 w:=w
 K:=K
 mg:=mg
 base:=base
 A:=A.deeper (Ih qual scope s.heap.objs.size f b)
 N:=N
 s₀:=s
 H₀:=H
 env:=Ih qual scope s.heap.objs.size f b
 outer:=outer
 stack:=Ih qual scope s.heap.objs.size f b::outer
 ex:=[]
 calm:=true
 fn:=λ_=>true
 pn:=[]
 xe:=λe d=>wpAny (model P w) (A.deeper (Ih qual scope s.heap.objs.size f b)) (XB (Ih qual scope s.heap.objs.size f b) e) (λ_ a=>CX outer H s E e a) (λc a=>CX outer H s E c a) d
theorem pN{sc:Scope}{n:Nat}{x:qa}(h:sc.names.lookup x=some .cell):∃ c,(mE n sc.names []).lookup x=some c:=by
 have q:=uA sc.names n [] (.inl h);exact Fd.mp q
theorem B4{CX:ju}{P:ra}{w:Ka}{K:W.Frag}{mg:qa->Option Value}{base:Heap}{N ps:List qa}{qual:qa}{scope:Scope}{f:Addr}{t:Value}{A:Ia}{outer:List wh}{s s1:Shared}{H:Hp}{E:XK}{us:List Value}{vs:List V}
  (S:xa N ps scope) (hd:A.handled=none) (g:Nn P w K mg base A outer s H) (M:vs.length=ps.length) (r:re vs us)
  (x:InCallC s s.heap.objs.size (Zu (Ih qual scope s.heap.objs.size f t).kindOf (ps.zip us) λ_=>none) (mE (s.heap.objs.size+1) scope.names []) (av (Ih qual scope s.heap.objs.size f t).kindOf (ps.zip us) λ_=>none) s1) :
  Inv (Kr CX P w K mg base N qual scope f t A outer s H E) [] (Yv N vs) H s1:=by
 have I:ps.length<=N.length:=by have:=Wf List.length S.pre;rw[Sm]at this;omega
 obtain⟨B,O,rfl,D⟩:=x.done;have l:∀ b:Addr,b ∉ (Kr CX P w K mg base N qual scope f t A outer s H E).ex:=λb z=>absurd (show b∈([]:List Addr)from z) (by simp);refine⟨⟨g.mod,S.kind,rfl,rfl,na _,λy z c B d=>?_,λy j=>?_,λy c _ h=>?_,λ_=>hd,Around.frames_deeper g.frames,.inr ⟨rfl,rfl⟩,λb z=>absurd z (l b),g.bs,g.au,λb _ _=>l b,λb z=>absurd z (l b),g.zj,g.uv⟩,
  rfl,g.bare,Un.kept D,⟨_,x.toInCall.ns,λi y v B d L=>?_⟩,λy c h=>⟨_,x.cell y c h⟩,g.Rb.fresh (na _),λy c h=>?_,λp m=>absurd (show p∈([]:List (Addr × Obj))from m) (by simp),g.Rb.kept D,?_⟩
 ·exact name_of_addr x.apart (We B) (We d)
 ·have j:scope.names.lookup y=some .cell\/scope.names.lookup y=some .free:=j;rcases j with j|j
  ·exact pN j
  ·exact absurd rfl (S.Dz _ (We j))
 ·exact pd (x.above y c (We h))
 ·have C:i<vs.length:=by
   unfold Yv at d;by_cases C:i<vs.length
   ·exact C
   ·rw[Tf (by simpa using C)]at d;rw[Dr]at d;split at d<;>cases d
  have G:vs[i]?=some v:=by
   unfold Yv at d;rw[Ta (by simpa using C),eb]at d;cases e:vs[i]? with
   |none=>rw[e]at d;cases d
   |some a=>rw[e]at d;cases d;rfl
  obtain⟨u,F,J⟩:=r.get G;have m:ps[i]?=some y:=by
   rw[<-S.pre,Lq (by omega)];exact B
  have o:ps.Nodup:=by rw[<-S.pre];exact S.nd.sublist (List.take_sublist _ _)
  refine⟨u,J,?_⟩;rcases S.par y (Ga m)with k|k
  ·exact .inl ⟨k,YR o m F k⟩
  ·obtain⟨c,e⟩:=pN (n:=s.heap.objs.size+1) k;refine .inr ⟨.inl k,c,e,?_⟩;have q:=x.cell y c e;rw[uM o m F (by show scope.names.lookup y≠_;rw[k];decide)]at q;exact q
 ·exact g.Rb.fresh (pd (x.above y c (We h)))
 ·unfold Yv;show _=N.length;rw[Gd,pb,List.length_replicate];omega
theorem nR{CX:ju}{P:ra}{w:Ka}{K:W.Frag}{mg:qa->Option Value}{base:Heap}{k:Nat}{f:Addr}{name qual:qa}{c:Arguments}{body:List Stmt}{scope:Scope}{R kV l T a ct oc:Value}{M od:Option Addr}
  {F:Array (Option Value)} {N ps:List qa} {sp:Sp} (lk:K.lookup f=some ⟨oc,od,.func (W.fnOf name qual c body scope R kV l T M a ct),F⟩) (B:W.codeIn K a qual=true) (S:xa N ps scope)
  (len:∀ vs H Q E,sp vs H Q E->vs.length=ps.length)
  (h:∀ (A:Ia) (outer:List wh) (s:Shared) (H:Hp) (vs:List V) (Q:VK) (E:XK),Me k (A.deeper (Ih qual scope s.heap.objs.size f a))->sp vs H Q E->
   ∃ t,At (Kr CX P w K mg base N qual scope f a A outer s H E) body t/\t { nx:=λ_ g=>Q .Jb g,rt:=Q } (Yv N vs) H) :
  Oh P w K mg base CX (k+1) f (W.fnOf name qual c body scope R kV l T M a ct) ps sp:=by
 refine⟨len,λA outer s H O us vs Q E C m hb r z=>?_⟩;have Y:=len _ _ _ _ z;have L:K.In s.heap:=m.mod.qx.keeps λb o e=>(m.bs b o e).1;have D:s.heap.NoLimit:=m.mod.nolimit.keeps λb o e=>(m.bs b o e).1;have i:∀ y∈ps.zip us,scope.names.lookup y.1=some .local\/(scope.names.lookup y.1=some .cell/\((mE (s.heap.objs.size+1) scope.names []).lookup y.1).isSome=true):=λ⟨n,v⟩ hy=>by
  rcases S.par n (qo hy).1 with q|q
  ·exact .inl q
  ·exact .inr ⟨q,uA _ _ _ (.inl q)⟩
 refine codeAny_call_function C.depth (L _ _ lk) rfl S.co S.gen rfl (W.codeRec_of L B) (hb _ _ _ _ ?_);refine wpAny_newFunctionEnv_cells S.kind i λenv X s1 x=>?_;subst X;refine⟨D.keeps x.toInCall.keep,codeAny_func ?_⟩;obtain⟨t,ht,Z⟩:=h A outer s H vs Q E (C.deeper _) z;have I:Inv (Kr CX P w K mg base N qual scope f a A outer s H E) [] (Yv N vs) H s1:=B4 S C.hd m Y r x;refine rc (ht [] s1 (Yv N vs) H _ I Z) (λU s' j=>?_) λe s' j=>j;have p:∀ {d:St} {g:Hp} {v:V} {u:Value},Inv (Kr CX P w K mg base N qual scope f a A outer s H E) [] d g s'->Td v u->Q v g->CE outer P w H s Q u s':=
  fun {d g v u} J G q=>⟨v,g,J.os,J.bare,J.base,J.Rb,G,q⟩
 cases U with
 |ret u=>
  obtain⟨v,d,g,J,G,q⟩:=j;exact p J G q
 |next=>
  obtain⟨d,g,J,q⟩:=j;exact p (v:=V.Jb) (u:=La) J rfl q
 |brk=>
  obtain⟨_,_,_,q⟩:=j;exact False.elim q
 |cont=>
  obtain⟨_,_,_,q⟩:=j;exact False.elim q
section
variable{X:Cx}{x:qa}{p pos:Ye}{e:Ja}{es:List Ja}{t:TA}{id T:String}{r:List V->Hp->VK->Prop}
noncomputable def qJ(r:List V->Hp->VK->Prop)(t:TA):TE:=λc H Q=>t c H λb a=>r b a Q
theorem mD(i:Qm X (.builtin id) r)(k:Gl X x)(hm:X.mg x=none)(l:bootBuiltins x=some (.builtin id))(g:PA X (e::es) t)(hn:x ≠ "__name__":=by decide)(b:(x == ("__debug__" : qa))=false:=by decide)
  (j:pa (e::es) X.env=(false,Nb e X.env)::pa es X.env:=by rfl) (c:(lc pos (pa es X.env)).any (·.1)=false:=by rfl):PE X (.Call (.Name x p) (e::es) [] pos) (qJ r t):=by
 intro a s d H Q I h;refine Wg (kB I k hm l ?_ hn b);exact lH (ge (g pos a s d H _ I h) λus s1 ⟨n,H1,f,m,q1⟩=>i a s1 d H1 n us Q f m q1) j c
theorem QH(i:Qm X (.type T) r)(k:Gl X x)(hm:X.mg x=none)(l:bootBuiltins x=some (.type T))(g:PA X (e::es) t)(hn:x ≠ "__name__":=by decide)(b:(x == ("__debug__" : qa))=false:=by decide)
  (j:pa (e::es) X.env=(false,Nb e X.env)::pa es X.env:=by rfl) (c:(lc pos (pa es X.env)).any (·.1)=false:=by rfl):PE X (.Call (.Name x p) (e::es) [] pos) (qJ r t):=by
 intro a s d H Q I h;refine Wg (kB I k hm l ?_ hn b);exact Zg (ge (g pos a s d H _ I h) λus s1 ⟨n,H1,f,m,q1⟩=>i a s1 d H1 n us Q f m q1) j c
end
end L2
namespace HT
open PySem PyProof.Rows
section
open PySem.SeqAt
open PySem.AutoSeq1 (wpAny_loadPart')
open PySem.MeetsSeq PySem.MeetsSeq2 PySem.MeetsSeq3
end
section
variable{prog:ra}{w:Ka}{A:Ia}{E:Value->Shared->Prop}{s:Shared}
theorem cx{t b:Addr}{vs ws:List Value}{Q:Value->Shared->Prop}(v:Yu s.heap t vs.toArray)(hb:Yu s.heap b ws.toArray)(o:vs≠[])
  (r:ws=[]->Q (.ref t) s) (u:ws≠[]->Q (.ref s.heap.objs.size) { s with heap:=s.heap.push { cls:=.type "tuple",data:=.seq (vs++ws).toArray } })
  (hsz:vs.length+ws.length<=sizeLine):wpAny (model prog w) A (xf .Add (.ref t) (.ref b)) Q E s:=by
 obtain⟨⟨cls,l,data,q⟩,h,m,n,hd⟩:=id v;obtain⟨⟨k,c,j,g⟩,a,d,p,f⟩:=id hb;simp only at m hd d f;subst m hd d f;have e:vs.toArray++ws.toArray=(vs++ws).toArray:=by simp
 by_cases i:ws=[]
 ·exact bw ⟨_,h,rfl⟩ ⟨_,a,rfl⟩ nq xu Hi ti (bi _ _)
   (tuple_addW1 t b vs.toArray ws.toArray n p l c q g (by simpa using o) (by simp[i])) ⟨h,a,r i⟩
 ·refine bw ⟨_,h,rfl⟩ ⟨_,a,rfl⟩ nq xu Hi ti (bi _ _)
   (tuple_addW2 t b vs.toArray ws.toArray n p l c q g (by simpa using o) (by simpa using i) (by rw[wa,wa];exact hsz)) ⟨h,a,?_⟩
  rw[e];exact u i
noncomputable def Sf(n d:Nat):Option Int->Nat
 |none=>d
 |some v=>if v<0 then (v+(n:Int)).toNat else min v.toNat n
theorem hX(n d:Nat)(hd:d<=n)(o:Option Int):Sf n d o<=n:=by
 cases o with
 |none=>exact hd
 |some v=>
  show (if v<0 then (v+(n:Int)).toNat else min v.toNat n)<=n;by_cases a:v<0
  ·rw[ia a];omega
  ·rw[ja a];exact Nat.min_le_right _ _
theorem kO(v:Int)(n d:Nat):(if v<0 then max (v+(n:Int)) 0 else min v (n:Int))=((Sf n d (some v):Nat):Int):=by
 show (if v<0 then max (v+(n:Int)) 0 else min v (n:Int))=(((if v<0 then (v+(n:Int)).toNat else min v.toNat n):Nat):Int);by_cases a:v<0
 ·simp only[ia a];omega
 ·simp only[ja a];omega
theorem e8(b a:Option Int)(n:Nat):qh b a 1 (n:Int)=(((Sf n 0 b:Nat):Int),((Sf n n a:Nat):Int)):=by
 have c:¬ ((1:Int)<0):=by omega
 unfold qh;simp only[c,Ch];refine RT ?_ ?_
 ·cases b with
  |none=>rfl
  |some v=>exact kO v n 0
 ·cases a with
  |none=>rfl
  |some v=>exact kO v n n
theorem N5(i j:Nat):Af (i:Int) (j:Int) 1=j - i:=by
 unfold Af;have a:(1:Int) > 0:=by omega
 simp only[a,Ee,Int.ediv_one];split<;>omega
theorem yR{v:Value}{o:Option Int}{Q:Option Int->Shared->Prop}(p:zl v o)(h:Q o s):wpAny (model prog w) A (nE v) Q E s:=by
 cases p with
 |none=>exact FL h
 |int i t=>exact slicePart_int h
theorem JP{g:Addr}{e f:Value}{a c:Option Int}{n:Nat}{Q:Int × Int × Nat->Shared->Prop}(j:s.heap.IsSliceOf g e f .none)(pl:zl e a)(k:zl f c)
  (h:Q (((Sf n 0 a:Nat):Int),1,Sf n n c - Sf n 0 a) s):wpAny (model prog w) A (Lk (.ref g) (pure (n:Int))) Q E s:=by
 obtain⟨os,d,i,b⟩:=id j;unfold Lk oE;refine aa (aa (wl d b (x:=e) rfl (aa (wl d b (x:=f) rfl (aa (wl d b (x:=.none) rfl (da ?_)))))));refine aa (FL ?_);show wpAny _ _ (if ((1:Int) == 0)=true then _ else _) _ _ s;rw[ja (by decide)];refine aa (yR pl (aa (yR k (aa (da ?_)))));show wpAny _ _ (match qh a c 1 (n:Int)with|(a,c)=>pure (a,(1:Int),Af a c 1)) _ _ s;rw[e8 a c n];show wpAny _ _ (pure (((Sf n 0 a:Nat):Int),(1:Int),Af ((Sf n 0 a:Nat):Int) ((Sf n n c:Nat):Int) 1)) _ _ s;rw[N5];exact da h
theorem XZ(xs:Array Value)(i k:Nat):((List.range k).filterMap λ(m:Nat)=>xs[((i:Int)+(m:Int) * 1).toNat]?).toArray=((xs.toList.drop i).take k).toArray:=by
 have e:(λ(m:Nat)=>xs[((i:Int)+(m:Int) * 1).toNat]?)=λm=>xs[i+m]?:=by
  funext m;have:((i:Int)+(m:Int) * 1).toNat=i+m:=by omega
  rw[this]
 rw[e];have:=pick_run xs i k;rw[List.filterMap_map]at this;have a:((λx=>xs[x]?) ∘ λx=>i+x)=λm=>xs[i+m]?:=rfl;rw[a]at this;rw[this]
theorem Hk{t k:Addr}{a:Array Value}{n o:Value}{c d:Option Int}{Q:Value->Shared->Prop}(e:Yu s.heap t a)(l:s.heap.IsSliceOf k n o .none)(pl:zl n c)(u:zl o d)
  (r:¬ (Sf a.size 0 c=0/\Sf a.size a.size d=a.size))
  (h:Q (.ref s.heap.objs.size) { s with heap:=s.heap.push { cls:=.type "tuple",data:=.seq ((a.toList.drop (Sf a.size 0 c)).take (Sf a.size a.size d - Sf a.size 0 c)).toArray } })
  (hsz:a.size<=sizeLine):wpAny (model prog w) A (ij (.ref t) (.ref k)) Q E s:=by
 have b:sizeOk (.seq ((a.toList.drop (Sf a.size 0 c)).take (Sf a.size a.size d - Sf a.size 0 c)).toArray):=by
  show ((a.toList.drop (Sf a.size 0 c)).take (Sf a.size a.size d - Sf a.size 0 c)).toArray.size<=sizeLine;rw[wa,Sm,Aw,nb];omega
 have v:Sf a.size a.size d<=a.size:=hX _ _ (na _) d;obtain⟨os,j,g,p⟩:=id l;have f:s.TypeIs (.ref k) "slice":=⟨os,j,g⟩
 unfold ij;try with_reducible refine Nc ?_
 first|refine aa (da ?_)|skip
 refine aa (KB e.typeIs (by decide) ?_);refine aa (be (name:=ag "__getitem__") e.typeIs bc
  (cc bc e.typeIs az ?_ (vA _ _)))
 show wpAny _ _ (fh (.ref t) >>= _) _ _ s;refine aa (UT e ?_);refine aa (Yj f ?_);rw[ia (by decide)];refine aa (JP l pl u ?_);have i:¬ ((((Sf a.size 0 c:Nat):Int) == 0 && (1:Int) == 1 && (Sf a.size a.size d - Sf a.size 0 c) == a.size)=true):=by
  intro q;rw[Fa,Fa]at q;have q1:((Sf a.size 0 c:Nat):Int)=0:=eq_of_beq q.1.1;have q2:Sf a.size a.size d - Sf a.size 0 c=a.size:=eq_of_beq q.2;exact r ⟨by omega,by omega⟩
 show wpAny _ _ (if (((Sf a.size 0 c:Nat):Int) == 0 && (1:Int) == 1 && (Sf a.size a.size d - Sf a.size 0 c) == a.size)=true then _ else _) _ _ s;rw[ja i,XZ];first
  |exact aa (m:=Nf _) (Sb (da ⟨_,rfl,da h⟩) b)
  |exact aa (m:=Nf _) (Sb (aa (da (da ⟨_,rfl,da h⟩))) b)
  |exact aa (aa (m:=Nf _) (Sb (da (da ⟨_,rfl,da h⟩)) b))
  |exact aa (aa (m:=Nf _) (Sb (da ⟨_,rfl,da h⟩) b))
end
end HT
namespace L2
open PySem PySem.Spec PyProof.Rows
noncomputable abbrev TO:=St->Hp->(Option Int->Hp->Prop)->Prop
noncomputable def PO(X:Cx)(e:Option Ja)(t:TO):Prop:=
 ∀ (a:List (Addr × Obj)) (s:Shared) (σ:St) (H:Hp) (Q:Option Int->Hp->Prop),Inv X a σ H s->t σ H Q->
  wpAny (model X.prog X.w) X.A (evalPart e X.env) (λu c=>∃ o b,Inv X a σ b c/\zl u o/\Q o b) X.xe s
noncomputable def P2:TO:=λ_ H Q=>Q none H
noncomputable def KY(t:TE):TO:=λb H Q=>t b H λx a=>∃ i,x=.int i/\Q (some i) a
theorem xH{ns:List Int}:∀ {us:List Value},re (ns.map V.int) us->zi us ns:=by
 induction ns with
 |nil=>intro us r;rw[ce]at r;cases r;exact .nil
 |cons n ns a=>
  intro us r;rw[Da]at r;cases r with
  |cons b c=>
   obtain⟨t,e⟩:=b;subst e;exact .cons n t (a c)
section
variable{X:Cx}{e:Ja}{te:TE}{lo hi:Option Ja}{tl th:TO}{pos p2:Ye}
theorem S3:PO X none P2:=by
 intro a s b H Q I h;rw[VT];exact da ⟨none,H,I,.none,h⟩
theorem RY(h:PE X e te):PO X (some e) (KY te):=by
 intro a s f H Q I c;rw[evalPart_some];refine ge (h a s f H _ I c) λu s1 ⟨x,H1,b,d,q1⟩=>?_;obtain⟨i,rfl,q⟩:=q1;obtain⟨t,rfl⟩:=d;exact⟨some i,H1,b,.int i t,q⟩
noncomputable def ow(X:Cx)(r:V->Option Int->Option Int->Hp->VK->Prop):Prop:=
 ∀ (a:List (Addr × Obj)) (s:Shared) (σ:St) (H:Hp) (x:V) (v c d:Value) (lo hi:Option Int) (b:Addr) (Q:VK),Inv X a σ H s->Td x v->s.heap.IsSliceOf b c d .none->zl c lo->zl d hi->r x lo hi H Q->
  ∃ T e,typeLookup (.type T) "__getitem__" = pure (some (.builtin e))/\s.TypeIs v T/\wpAny (model X.prog X.w) X.A (ij v (.ref b)) (EP X a σ Q) X.xe s
theorem ow.or{r d:V->Option Int->Option Int->Hp->VK->Prop}(h:ow X r)(h':ow X d):ow X (λx lo hi H Q=>r x lo hi H Q\/d x lo hi H Q):=by
 intro a s j H x v g i lo hi f Q I e b pl c q;rcases q with q|q
 ·exact h a s j H x v g i lo hi f Q I e b pl c q
 ·exact h' a s j H x v g i lo hi f Q I e b pl c q
noncomputable def yU(r:V->Option Int->Option Int->Hp->VK->Prop)(te:TE)(tl th:TO):TE:=λa H Q=>te a H λx b=>tl a b λl c=>th a c λu d=>r x l u d Q
theorem eW{r:V->Option Int->Option Int->Hp->VK->Prop}(y:ow X r)(o:PE X e te)(t:PO X lo tl)(B:PO X hi th):PE X (.Subscript e (.Slice lo hi none p2) pos) (yU r te tl th):=by
 intro a s c H Q I h;refine wA (ge (o a s c H _ I h) λv s1 ⟨x,H1,j,C,q1⟩=>?_);refine wpAny_Slice (ge (t a s1 c H1 _ j q1) λd s2 ⟨l,i,k,pl,q2⟩=>ge (B a s2 c i _ k q2) λf s3 ⟨u,g,m,pu,q3⟩=>?_);rw[VT];refine da ?_;have n:Inv X a c g { s3 with heap:=s3.heap.push { cls:=.type "slice",data:=.fields #[d,f,.none] } }:=m.kept (t':=s3.toks) λb E q=>ba _ q;obtain⟨T,D,hT,z,p⟩:=y a { s3 with heap:=s3.heap.push { cls:=.type "slice",data:=.fields #[d,f,.none] } } c g x v d f l u s3.heap.objs.size Q n C (LB ..) pl pu q3;show wpAny (model X.prog X.w) X.A (Bu e (.Slice lo hi none p2) v (.ref s3.heap.objs.size)) (EP X a c Q) X.xe { s3 with heap:=s3.heap.push { cls:=.type "slice",data:=.fields #[d,f,.none] } };exact tail_any (ops:=[.ref s3.heap.objs.size,v]) z hT p (by with_unfolding_all rfl)
noncomputable def my(xs:List V)(lo hi:Option Int):List V:=(xs.drop (HT.Sf xs.length 0 lo)).take (HT.Sf xs.length xs.length hi - HT.Sf xs.length 0 lo)
theorem qM(xs:List V)(lo hi:Option Int):(my xs lo hi).length<=xs.length:=by
 unfold my;rw[Sm,Aw];omega
noncomputable def YQ(K:W.Frag):V->Option Int->Option Int->Hp->VK->Prop:=λx lo hi H Q=>∃ a xs,x=.ref a/\Wh K H a xs/\
 ¬ (HT.Sf xs.length 0 lo=0/\HT.Sf xs.length xs.length hi=xs.length)/\∀ p,H p=none->Q (.ref p) (upd H p (.tup (my xs lo hi)))
theorem yni:ow X (YQ X.K):=by
 intro g s w H x v t u lo hi p Q I m i pl l h;obtain⟨a,xs,rfl,k,j,q⟩:=h;cases m;obtain⟨d,r,e,f⟩:=I.tuple k;have c:d.toArray.size=xs.length:=by rw[wa];exact r.length.symm
 refine⟨"tuple",_,bc.lookup,e.typeIs,?_⟩;refine HT.Hk e i pl l (by rw[c];exact j) ?_ (by rw[c];exact f);rw[c];refine⟨.ref s.heap.objs.size,_,I.laid (t':=s.toks) (o:=.tup (my xs lo hi)) (λb n q=>ba _ q) (na _) ?_,rfl,q _ (I.Rb.fresh (na _))⟩;exact⟨yb (qM xs lo hi) f,_,(r.drop (HT.Sf xs.length 0 lo)).take (HT.Sf xs.length xs.length hi - HT.Sf xs.length 0 lo),cw _ _⟩
noncomputable def v7(K:W.Frag):R2:=λx y H Q=>∃ a b xs c,x=.ref a/\y=.ref b/\Wh K H a xs/\Wh K H b c/\xs≠[]/\xs.length+c.length<=sizeLine/\
 (c=[]->Q (.ref a) H)/\(c≠[]->∀ p,H p=none->Q (.ref p) (upd H p (.tup (xs++c))))
theorem re.kq{xs:List V}{us:List Value}(r:re xs us):us=[] ↔ xs=[]:=by
 cases r with
 |nil=>simp
 |cons _ _=>simp
theorem Z8:Gi X (xf .Add) (v7 X.K):=by
 intro g s r H x y v u Q I l m h;obtain⟨a,b,xs,n,rfl,rfl,i,hb,j,e,q1,q2⟩:=h;cases l;cases m;obtain⟨k,d,p1,_⟩:=I.tuple i;obtain⟨f,c,p2,_⟩:=I.tuple hb;refine HT.cx p1 p2 (λz=>j (d.kq.mp z)) (λz=>⟨.ref a,H,I,rfl,q1 (c.kq.mp z)⟩) (λz=>?_) (by rw[<-d.length,<-c.length];exact e);refine⟨.ref s.heap.objs.size,_,I.laid (t':=s.toks) (o:=.tup (xs++n)) (λb p q=>ba _ q) (na _) ?_,rfl,q2 (λw=>z (c.kq.mpr w)) _ (I.Rb.fresh (na _))⟩;exact⟨by rw[Gd];exact e,_,d.append c,cw _ _⟩
end
noncomputable def Lr(n:Nat)(i:Int):Option Nat:=if 0<=i then (if i<n then some i.toNat else none)else if -(n:Int)<=i then some (i+n).toNat else none
noncomputable def Lm{α:Type}(xs:List α)(i:Int):Option α:=(Lr xs.length i).bind λj=>xs[j]?
theorem eO{n:Nat}{i:Int}{j:Nat}(h:Lr n i=some j):seqIndex? i n=some j/\j<n/\-(n:Int)<=i/\i<n:=by
 unfold Lr at h;by_cases b:0<=i
 ·rw[ia b]at h;by_cases a:i<n
  ·rw[ia a]at h;have e:i.toNat=j:=ub h;exact⟨by rw[Ux b a,e],by omega,by omega,a⟩
  ·rw[ja a]at h;cases h
 ·rw[ja b]at h;by_cases a:-(n:Int)<=i
  ·rw[ia a]at h;have e:(i+n).toNat=j:=ub h;exact⟨by rw[dw (by omega) a,e],by omega,a,by omega⟩
  ·rw[ja a]at h;cases h
theorem fN{a:Type}{xs:List a}{i:Int}{v:a}(h:Lm xs i=some v):∃ j,seqIndex? i xs.length=some j/\xs[j]?=some v/\j<xs.length/\-(xs.length:Int)<=i/\i<xs.length:=by
 unfold Lm at h;cases e:Lr xs.length i with
 |none=>rw[e]at h;cases h
 |some j=>
  rw[e]at h;obtain⟨b,c,d,f⟩:=eO e;exact⟨j,b,h,c,d,f⟩
theorem Pw{a:Type}{xs:List a}{j:Nat}{v:a}(h:xs[j]?=some v):Lm xs (j:Int)=some v:=by
 have b:j<xs.length:=(ma.mp h).1;have e:Lr xs.length (j:Int)=some j:=by
  unfold Lr;rw[ia (by omega),ia (by omega)];simp
 unfold Lm;rw[e];exact h
noncomputable def bM(b:Ja):Prop:=∀ o i,Rq b false o i=operate [o,i] (ij o i)
noncomputable def mx(X:Cx)(r:R2):Prop:=
 ∀ (b a:Ja) (pins:List (Addr × Obj)) (s:Shared) (σ:St) (H:Hp) (x y:V) (v u:Value) (Q:VK),Inv X pins σ H s->Td x v->Td y u->r x y H Q->
  Rq a false v u=operate [v,u] (ij v u)->wpAny (model X.prog X.w) X.A (Bu b a v u) (EP X pins σ Q) X.xe s
noncomputable def Rt(X:Cx)(b:String)(r:V->List V->Hp->VK->Prop):Prop:=
 ∀ (a:List (Addr × Obj)) (s:Shared) (σ:St) (H:Hp) (x:V) (xs:List V) (v:Value) (us:List Value) (Q:VK),Inv X a σ H s->Td x v->re xs us->r x xs H Q->
  wpAny (model X.prog X.w) X.A (call (.builtin b) (v::us)) (EP X a σ Q) X.xe s
section
variable{X:Cx}{a b:Ja}{ta tb:TE}{pos:Ye}
theorem mx.or{r e:R2}(h:mx X r)(h':mx X e):mx X (λx y H Q=>r x y H Q\/e x y H Q):=by
 intro b a c s i H x y v u Q I f g q d;rcases q with q|q
 ·exact h b a c s i H x y v u Q I f g q d
 ·exact h' b a c s i H x y v u Q I f g q d
theorem Rt.or{b:String}{r c:V->List V->Hp->VK->Prop}(h:Rt X b r)(h':Rt X b c):Rt X b (λx xs H Q=>r x xs H Q\/c x xs H Q):=by
 intro a s g H x xs v f Q I e d q;rcases q with q|q
 ·exact h a s g H x xs v f Q I e d q
 ·exact h' a s g H x xs v f Q I e d q
theorem V6{r:R2}(g:mx X r)(f:PE X a ta)(hb:PE X b tb)(i:bM b):PE X (.Subscript a b pos) (aD r ta tb):=by
 intro c s m H Q I h;exact wA (wJ f hb I h λv u l x y d e j k q=>g a b c l m d x y v u Q e j k q (i _ _))
noncomputable def vJ(K:W.Frag):R2:=λx y H Q=>∃ p xs i v,x=.ref p/\y=.int i/\bg K H p xs/\Lm xs i=some v/\Q v H
noncomputable def IH(K:W.Frag):R2:=λx y H Q=>∃ p xs i v,x=.ref p/\y=.int i/\Wh K H p xs/\Lm xs i=some v/\Q v H
theorem CW:mx X (vJ X.K):=by
 intro k g a s o H x y v u Q I G J h n;obtain⟨p,xs,i,z,rfl,rfl,F,D,q⟩:=h;cases G;obtain⟨t,rfl⟩:=J;obtain⟨e,r,pl,N⟩:=I.list F;obtain⟨j,c,A,M,B,C⟩:=fN D;obtain⟨w,l,f⟩:=r.get A;have E:=r.length;have hn:=tE;have b:EP X a o Q w s:=⟨z,H,I,f,q⟩
 by_cases m:0<=i
 ·have d:i.toNat=j:=by
   rw[Ux m C]at c;exact ub c
  exact item_listR pl.isList m (by omega) (by rw[d];simpa using l) b n
 ·have d:(i+(e.toArray.size:Int)).toNat=j:=by
   rw[dw (by omega) B]at c;rw[wa,<-E];exact ub c
  exact fw (x:=w) pl.isList.typeIs MB.lookup
   (wpAny_getItem_list_neg (Q:=λr L=>r=w/\EP X a o Q r L) pl.isList (by omega) (by rw[wa]<;>omega) (by omega) (by rw[d];simpa using l) ⟨rfl,b⟩) n
theorem CV:mx X (IH X.K):=by
 intro e d a s f H x y v u Q I C D h A;obtain⟨p,xs,i,z,rfl,rfl,o,m,q⟩:=h;cases C;obtain⟨t,rfl⟩:=D;obtain⟨B,r,pl,L⟩:=I.tuple o;obtain⟨j,k,l,F,G,J⟩:=fN m;obtain⟨w,g,c⟩:=r.get l;have n:=r.length;have hn:=tE;have b:EP X a f Q w s:=⟨z,H,I,c,q⟩
 exact fw (x:=w) pl.typeIs slot_tuple_getitem.lookup
  (getItem_tuple (j:=j) (Q:=λr E=>r=w/\EP X a f Q r E) pl (by omega) (by omega) (by rw[wa,<-n];exact k) (by simpa using g) ⟨rfl,b⟩) A
theorem F9(its:List Value)(n j:Nat)(u:Value):Gg (·.setIfInBounds j u) { cls:=.type "list",data:=.seq its.toArray n }={ cls:=.type "list",data:=.seq (its.set j u).toArray n }:=by
 simp[Gg]
theorem Inv.lst{a:List (Addr × Obj)}{σ:St}{H:Hp}{s:Shared}{p:Addr}{xs:List V}(I:Inv X a σ H s)(h:H p=some (.lst xs)) :
  ∃ (its:List Value) (n:Nat),re xs its/\s.heap.get? p=some { cls:=.type "list",data:=.seq its.toArray n }/\xs.length<=sizeLine:=by
 obtain⟨z,its,n,r,e⟩:=I.Rb p _ h;exact⟨its,n,r,e,z⟩
theorem Inv.qA{a:List (Addr × Obj)}{σ:St}{H:Hp}{s:Shared}{p:Addr}{xs ys:List V}{its its':List Value}{n c:Nat}{f:Obj->Obj}(I:Inv X a σ H s)(h:H p=some (.lst xs))
  (g:s.heap.get? p=some { cls:=.type "list",data:=.seq its.toArray n }) (d:f { cls:=.type "list",data:=.seq its.toArray n }={ cls:=.type "list",data:=.seq its'.toArray c }) (r:re ys its') (hz:ys.length<=sizeLine) (t:Nat) :
  Inv X a σ (upd H p (.lst ys)) { s with heap:=s.heap.update p f,toks:=t }:=by
 have e:(s.heap.update p f).get? p=some { cls:=.type "list",data:=.seq its'.toArray c }:=by
  rw[Cc f g (by rw[d]<;>rfl),d]
 refine I.write (x:=p) (e:=p) (by rw[h];trivial) (.inl rfl) (λb u hb q=>(tf _ _ (De hb)).trans q) ⟨_,e⟩ ?_;exact⟨hz,its',c,r,e⟩
noncomputable def BV:V->V->V->Hp->(Hp->Prop)->Prop:=λo i v H Q=>∃ p xs k j,o=.ref p/\i=.int k/\H p=some (.lst xs)/\Lr xs.length k=some j/\Q (upd H p (.lst (xs.set j v)))
theorem zww:wK X BV:=by
 intro b s D H o i v G F u Q I B A C h;obtain⟨p,xs,k,j,rfl,rfl,x,y,q⟩:=h;cases B;obtain⟨t,rfl⟩:=A;obtain⟨a,n,r,f,z⟩:=I.lst x;obtain⟨c,E,m,w⟩:=eO y;have e:=r.length;have hn:=tE;have g:Inv X b D (upd H p (.lst (xs.set j v))) { s with heap:=s.heap.update p (Gg (·.setIfInBounds j u)) }:=
  I.qA x f (F9 a n j u) (r.set C j) (by rw[Vx];exact z) s.toks
 by_cases l:0<=k
 ·have d:k.toNat=j:=by
   rw[Ux l w]at c;exact ub c
  exact W.ki_setAt f l (by omega) (by rw[wa,<-e];exact w) (by rw[d];exact⟨_,g,q⟩)
 ·have d:(k+(a.toArray.size:Int)).toNat=j:=by
   rw[dw (by omega) m]at c;rw[wa,<-e];exact ub c
  exact W.ki_setBack f (by omega) (by rw[wa,<-e];exact m) (by omega) (by rw[d];exact⟨_,g,q⟩)
theorem cW(b a:Option Int)(n:Nat):(Qh b a none n).1=((HT.Sf n 0 b:Nat):Int)/\(Qh b a none n).2.1=((HT.Sf n n a:Nat):Int)/\(Qh b a none n).2.2=1:=by
 refine⟨?_,?_,rfl⟩
 ·cases b with
  |none=>simp[Qh,HT.Sf]
  |some i=>
   simp only[Qh,HT.Sf,Vu,show (1:Int) > 0 by decide,Ee];by_cases h:i<0
   ·simp only[h,Ee]<;>omega
   ·simp only[h,Ch]<;>omega
 ·cases a with
  |none=>simp[Qh,HT.Sf]
  |some i=>
   simp only[Qh,HT.Sf,Vu,show (1:Int) > 0 by decide,Ee];by_cases h:i<0
   ·simp only[h,Ee]<;>omega
   ·simp only[h,Ch]<;>omega
theorem wX(its:List Value)(a b:Option Int):slicePick its.toArray a b none=((its.drop (HT.Sf its.length 0 a)).take (HT.Sf its.length its.length b - HT.Sf its.length 0 a)).toArray:=by
 obtain⟨c,d,e⟩:=cW a b its.toArray.size;unfold slicePick;rw[c,d,e];simp only[sliceRange_one,pick_run,wa]<;>rfl
noncomputable def oQ(K:W.Frag):V->Option Int->Option Int->Hp->VK->Prop:=λx c b H Q=>∃ a xs,x=.ref a/\bg K H a xs/\∀ p,H p=none->Q (.ref p) (upd H p (.lst (my xs c b)))
theorem F3:ow X (oQ X.K):=by
 intro g s y H x v u w d e t Q I n i pl m h;obtain⟨a,xs,rfl,j,q⟩:=h;cases n;obtain⟨l,r,f,k⟩:=I.list j;have c:=r.length;refine⟨"list",_,MB.lookup,f.isList.typeIs,?_⟩;refine wpAny_getItem_list_slice f.isList i pl m .none (by simp) ?_ (by rw[wa]<;>omega);rw[wX,<-c];refine⟨.ref s.heap.objs.size,_,I.laid (t':=s.toks) (o:=.lst (my xs d e)) (λb p q=>ba _ q) (na _) ?_,rfl,q _ (I.Rb.fresh (na _))⟩;exact⟨yb (qM xs d e) k,_,0,(r.drop (HT.Sf xs.length 0 d)).take (HT.Sf xs.length xs.length e - HT.Sf xs.length 0 d),Ba _ rfl⟩
noncomputable def qj:V->Bool
 | .Jb=>true
 | .bl _=>true
 | .int _=>true
 | .str _=>true
 |_=>false
noncomputable def Yk:V->V->Bool
 | .Jb,.Jb=>true
 | .bl a,.bl b=>a == b
 | .bl a,.int b=>(if a then 1 else 0) == b
 | .int a,.bl b=>a == (if b then 1 else 0)
 | .int a,.int b=>a == b
 | .str a,.str b=>a == b
 |_,_=>false
theorem BI{A:Ia}{s:Shared}{y x:V}{u v:Value}(f:Td y u)(c:Td x v)(g:qj y=true)(e:qj x=true):Oe A s u v (Yk y x):=by
 cases y with
 |Jb=>
  cases f;cases x with
  |Jb=>cases c;exact Sk _
  |bl b=>cases c;exact WT b
  |int b=>obtain⟨t,rfl⟩:=c;exact XT b t
  |str b=>obtain⟨t,rfl⟩:=c;exact YT b t
  |_=>exact absurd (show false=true from e) Xa
 |bl a=>
  cases f;cases x with
  |Jb=>cases c;exact ZT a
  |bl b=>cases c;exact aU a b
  |int b=>obtain⟨t,rfl⟩:=c;exact bU a b t
  |str b=>obtain⟨t,rfl⟩:=c;exact cU a b t
  |_=>exact absurd (show false=true from e) Xa
 |int a=>
  obtain⟨d,rfl⟩:=f;cases x with
  |Jb=>cases c;exact dU a d
  |bl b=>cases c;exact eU a d b
  |int b=>obtain⟨t,rfl⟩:=c;exact fU a d b t
  |str b=>obtain⟨t,rfl⟩:=c;exact Jq a d b t
  |_=>exact absurd (show false=true from e) Xa
 |str a=>
  obtain⟨d,rfl⟩:=f;cases x with
  |Jb=>cases c;exact gU a d
  |bl b=>cases c;exact hU a d b
  |int b=>obtain⟨t,rfl⟩:=c;exact Kq a d b t
  |str b=>obtain⟨t,rfl⟩:=c;exact iU a d b t
  |_=>exact absurd (show false=true from e) Xa
 |_=>exact absurd (show false=true from g) Xa
noncomputable def Jw(x:V)(u:Value):Bool:=match u with
 | .none=>Yk .Jb x
 | .bool b=>Yk (.bl b) x
 | .int i _=>Yk (.int i) x
 | .str z _=>Yk (.str z) x
 |_=>false
theorem yT{x y:V}{u:Value}(r:Td y u)(f:qj y=true):Jw x u=Yk y x:=by
 cases y with
 |Jb=>cases r;rfl
 |bl b=>cases r;rfl
 |int i=>obtain⟨t,rfl⟩:=r;rfl
 |str z=>obtain⟨t,rfl⟩:=r;rfl
 |_=>exact absurd (show false=true from f) Xa
theorem uJ{x:V}:∀ {xs:List V} {us:List Value},re xs us->xs.all qj=true->us.any (Jw x)=xs.any λy=>Yk y x
 |_,_,.nil,_=>rfl
 |y::xs,u::us,.cons r t,f=>by
  rw[sg,Fa]at f;rw[ee,ee,yT r f.1,uJ t f.2]
theorem pJ{A:Ia}{s:Shared}{x:V}{v:Value}(c:Td x v)(b:qj x=true):∀ {xs:List V} {us:List Value},re xs us->xs.all qj=true->∀ u∈us,Oe A s u v (Jw x u)
 |_,_,.nil,_=>λu a=>by cases a
 |y::xs,u::us,.cons r t,f=>λd a=>by
  rw[sg,Fa]at f;rcases Ha.mp a with rfl|a
  ·rw[yT r f.1];exact BI r c f.1 b
  ·exact pJ c b t f.2 d a
noncomputable def UG(x:V)(xs:List V):Bool:=xs.any λy=>Yk y x
noncomputable def iM(K:W.Frag)(neg:Bool):R2:=λx y H Q=>∃ p xs,y=.ref p/\(bg K H p xs\/Wh K H p xs)/\qj x=true/\xs.all qj=true/\Q (.bl (if neg then !UG x xs else UG x xs)) H
theorem hQ:Gi X (dc .In) (iM X.K false):=by
 intro e s j H x y v u Q I f i h;obtain⟨p,xs,rfl,b,d,fs,q⟩:=h;cases i;rcases b with b|b
 ·obtain⟨a,r,pl,g⟩:=I.list b;refine SeqAt.in_listAt (Jw x) pl.isList (λw c=>pJ f d r fs w (by simpa using c)) ⟨.bl _,H,I,rfl,?_⟩;rw[show a.toArray.any (Jw x)=a.any (Jw x) by simp,uJ r fs];exact q
 ·obtain⟨a,r,pl,g⟩:=I.tuple b;refine SeqAt.in_tupleAt (Jw x) pl (λw c=>pJ f d r fs w (by simpa using c)) ⟨.bl _,H,I,rfl,?_⟩;rw[show a.toArray.any (Jw x)=a.any (Jw x) by simp,uJ r fs];exact q
theorem jv:Qm X (.builtin "len") (λxs H Q=>∃ p ys,xs=[.ref p]/\(bg X.K H p ys\/Wh X.K H p ys)/\Q (.int ys.length) H):=by
 intro e s j H xs i Q I r h;obtain⟨p,ys,rfl,b,q⟩:=h;obtain⟨u,rfl,g⟩:=Ot r;cases g;have hn:=tE;rcases b with b|b
 ·obtain⟨c,d,pl,f⟩:=I.list b;have a:=d.length;exact Calls.call_len_list pl.isList (by simp only[wa]<;>omega) ⟨.int ys.length,H,I.tok _,⟨s.toks+1,by rw[wa,a]⟩,q⟩
 ·obtain⟨c,d,pl,f⟩:=I.tuple b;have a:=d.length;exact len_tuple pl (by simp only[wa]<;>omega) ⟨.int ys.length,H,I.tok _,⟨s.toks+1,by rw[wa,a]⟩,q⟩
theorem Qm.or{f:Value}{r b:List V->Hp->VK->Prop}(h:Qm X f r)(h':Qm X f b):Qm X f (λxs H Q=>r xs H Q\/b xs H Q):=by
 intro a s e H xs d Q I c q;rcases q with q|q
 ·exact h a s e H xs d Q I c q
 ·exact h' a s e H xs d Q I c q
theorem kF:Qm X (.type "list") (λxs H Q=>∃ p ys,xs=[.ref p]/\(bg X.K H p ys\/Wh X.K H p ys)/\∀ l,H l=none->Q (.ref l) (upd H l (.lst ys))):=by
 intro m s z H xs A Q I r h;obtain⟨p,ys,rfl,j,q⟩:=h;obtain⟨u,rfl,y⟩:=Ot r;cases y;have g:∀ (a:List Value),re ys a->ys.length<=sizeLine->∀ (c:Heap) (d:Nat),(∀ b x,s.heap.get? b=some x->c.get? b=some x)->
   c.get? s.heap.objs.size=some { cls:=.type "list",dict:=none,data:=.seq a.toArray d,slots:=#[] }->EP X m z Q (.ref s.heap.objs.size) { s with heap:=c }:=λa f k c d kp e=>
  ⟨.ref s.heap.objs.size,_,I.laid (t':=s.toks) kp (na _) (show Xi X.prog X.w _ c _ (.lst ys)from⟨k,a,d,f,e⟩),rfl,q _ (I.Rb.fresh (na _))⟩
 rcases j with j|j
 ·obtain⟨a,f,pl,k⟩:=I.list j;have i:=f.length;obtain⟨o,v,t,n,hd⟩:=pl.isList;exact jU p (.inl rfl) v t hd (λc d kp e=>g a f k c d kp e) (by simp only[wa]<;>omega)
 ·obtain⟨a,f,pl,k⟩:=I.tuple j;have i:=f.length;obtain⟨o,v,t,n,hd⟩:=pl;exact jU p (.inr rfl) v t hd (λc d kp e=>g a f k c d kp e) (by simp only[wa]<;>omega)
theorem XX:Qm X (.type "tuple") (λxs H Q=>∃ p ys,xs=[.ref p]/\((bg X.K H p ys/\∀ l,H l=none->Q (.ref l) (upd H l (.tup ys)))\/(Wh X.K H p ys/\Q (.ref p) H))):=by
 intro a s m H xs v Q I r h;obtain⟨p,ys,rfl,h⟩:=h;obtain⟨u,rfl,t⟩:=Ot r;cases t;rcases h with⟨f,q⟩|⟨f,q⟩
 ·obtain⟨c,g,pl,k⟩:=I.list f;have j:=g.length;refine call_tuple_list pl.isList (λd kp=>?_) (by simp only[wa]<;>omega);have i:Inv X a m H { s with heap:=d }:=I.kept (t':=s.toks) kp;have n:Inv X a m (upd H d.objs.size (.tup ys)) { s with heap:=d.push { cls:=.type "tuple",data:=.seq c.toArray } }:=
   i.laid (t':=s.toks) (λb o e=>ba _ e) (na _) (show Xi X.prog X.w _ _ _ (.tup ys)from⟨k,c,g,cw _ _⟩)
  exact⟨.ref d.objs.size,_,n,rfl,q _ (i.Rb.fresh (na _))⟩
 ·obtain⟨c,g,pl,k⟩:=I.tuple f;exact call_tuple_same pl ⟨.ref p,H,I,rfl,q⟩
noncomputable def AM(K:W.Frag)(T:String)(x:V)(H:Hp):Prop:=match x with
 | .str _=>T = "str"
 | .int _=>T = "int"
 | .ref p=>(T = "list"/\∃ xs,bg K H p xs)\/(T = "tuple"/\∃ o,K.lookup p=some o/\o.cls=.type "tuple"/\o.dict=none)\/
   (T = "dict"/\((∃ a,H p=some (.dK a))\/∃ a,H p=some (.dT a)))\/(T = "set"/\∃ S n,H p=some (.set S n))
 |_=>False
theorem yob{d:List (Addr × Obj)}{σ:St}{H:Hp}{s:Shared}{T:String}{x:V}{v:Value}(I:Inv X d σ H s)(r:Td x v)(ty:AM X.K T x H) :
  s.TypeIs v T/\∀ a,v=.ref a->∃ ob,s.heap.get? a=some ob/\ob.dict=none:=by
 cases x with
 |str z=>
  obtain⟨t,rfl⟩:=r;cases (show T = "str" from ty);exact⟨typeIs_str s z t,λ_ e=>nomatch e⟩
 |int i=>
  obtain⟨t,rfl⟩:=r;cases (show T = "int" from ty);exact⟨typeIs_int s i t,λ_ e=>nomatch e⟩
 |ref p=>
  cases r;rcases ty with⟨rfl,xs,j⟩|⟨rfl,o,b,h,hd⟩|⟨rfl,b⟩|⟨rfl,S,n,b⟩
  ·obtain⟨k,_,pl,_⟩:=I.list j;refine⟨pl.isList.typeIs,λa e=>?_⟩;cases e;obtain⟨o,n,e,c,hd,_⟩:=pl;exact⟨o,e,hd⟩
  ·refine⟨⟨o,I.Cj p o b,h⟩,λa e=>?_⟩;cases e;exact⟨o,I.Cj _ o b,hd⟩
  ·have z:∃ o,s.heap.get? p=some o/\o.ExactDict:=by
    rcases b with⟨g,b⟩|⟨g,b⟩
    ·obtain⟨_,_,_,_,o,_,_,e,ex,_⟩:=I.Rb p _ b;exact⟨o,e,ex⟩
    ·obtain⟨_,_,_,_,o,_,_,e,ex,_⟩:=I.Rb p _ b;exact⟨o,e,ex⟩
   obtain⟨o,e,ex⟩:=z;refine⟨⟨o,e,ex.1⟩,λa f=>?_⟩;cases f;exact⟨o,e,ex.2.1⟩
  ·obtain⟨o,_,_,_,e,ex,_⟩:=I.Rb p _ b;refine⟨⟨o,e,ex.1⟩,λa f=>?_⟩;cases f;exact⟨o,e,ex.2.1⟩
 |_=>exact False.elim ty
noncomputable def z4(K:W.Frag)(T:String)(r:V->List V->Hp->VK->Prop)(to:TE)(t:TA):TE:=λb H Q=>to b H λx a=>AM K T x a/\t b a λxs c=>r x xs c Q
variable{o e:Ja}{es:List Ja}{to:TE}{t:TA}{name:qa}{apos cpos:Ye}{T id:String}{r:V->List V->Hp->VK->Prop}
theorem j8(z:Zn T)(slot:QL T name id)(g:Xs (.builtin id)=pure (.type "method_descriptor"))(hm:Rt X id r)(w:PE X o to)(u:PA X (e::es) t)
  (c:Ae o name X.env (Nb o X.env)=Nb o X.env:=by rfl)
  (f:((lc cpos (pa (e::es) X.env)).all (λx=>!x.1) && (Jj cpos (bh [] X.env)).all (λx=>x.1.isSome)
   && decide ((e::es).length+([]:List ck).length+(if ([]:List ck).isEmpty then 0 else 1)<30))=true:=by rfl)
  (d:(apos.endLine == cpos.line)=true:=by rfl) (y:pa (e::es) X.env=(false,Nb e X.env)::pa es X.env:=by rfl) (b:(lc cpos (pa es X.env)).any (·.1)=false:=by rfl) :
  PE X (.Call (.Attribute o name apos) (e::es) [] cpos) (z4 X.K T r to t):=by
 intro a s i H Q I h;refine gw c f d rfl (ge (w a s i H _ I h) λv s1 ⟨x,H1,j,l,ty,q1⟩=>?_);obtain⟨p,q⟩:=yob j l ty;refine⟨T,id,z,slot,g,p,q,?_⟩;have k:=u cpos a s1 i H1 _ j q1;rw[y]at k ⊢;refine Zi (by show (false || (lc cpos (pa es X.env)).any (·.1))=false;rw[b]<;>rfl) (Ej ?_);exact ge k λus s2 ⟨B,m,n,A,q2⟩=>hm a s2 i m x B v us Q n l A q2
end
noncomputable def CT(X:Cx)(b:String)(r:V->List V->Hp->VK->Prop):Prop:=
 ∀ (a:List (Addr × Obj)) (s:Shared) (σ:St) (H:Hp) (x:V) (xs:List V) (v:Value) (us:List Value) (Q:VK),Inv X a σ H s->Td x v->re xs us->r x xs H Q->
  wpAny (model X.prog X.w) X.A (call (.builtin b) (v::us)) (EP X a σ Q) X.xe s
theorem re.one:∀ {x:V} {us:List Value},re [x] us->∃ u,us=[u]/\Td x u
 |_,_,.cons r .nil=>⟨_,rfl,r⟩
theorem re.two:∀ {x y:V} {us:List Value},re [x,y] us->∃ u v,us=[u,v]/\Td x u/\Td y v
 |_,_,_,.cons r (.cons q .nil)=>⟨_,_,rfl,r,q⟩
theorem re.zero:∀ {us:List Value},re [] us->us=[]
 |_,.nil=>rfl
theorem re.eraseIdx:∀ {xs:List V} {us:List Value} (i:Nat),re xs us->re (xs.eraseIdx i) (us.eraseIdx i)
 |_,_,_,.nil=>.nil
 |_,_,0,.cons _ t=>t
 |_,_,i+1,.cons r t=>.cons r (re.eraseIdx i t)
section
variable{X:Cx}{pins:List (Addr × Obj)}{σ:St}{H:Hp}{s:Shared}{l b:Addr}{xs ys zs:List V}
theorem Inv.vC{its its':List Value}{n:Nat}{f:Array Value->Array Value}{t':Nat}(I:Inv X pins σ H s)(a:H l=some (.lst xs))
  (e:s.heap.get? l=some { cls:=.type "list",data:=.seq its.toArray n }) (b:f its.toArray=its'.toArray) (d:re ys its') (hz:ys.length<=sizeLine) :
  Inv X pins σ (upd H l (.lst ys)) { s with heap:=s.heap.update l (Gg f),toks:=t' }:=by
 have q:=zaA e f;rw[b]at q;refine I.write (x:=l) (e:=l) (by rw[a];exact trivial) (.inl rfl) (λg u hb c=>(tf s.heap (Gg f) (De hb)).trans c) ⟨_,q⟩ ?_;exact⟨hz,its',_,d,q⟩
theorem Inv.Yz{its:List Value}{t':Nat}(I:Inv X pins σ H s)(a:re ys its)(hz:ys.length<=sizeLine) :
  Inv X pins σ (upd H s.heap.objs.size (.lst ys)) { s with heap:=s.heap.push { cls:=.type "list",data:=.seq its.toArray },toks:=t' }:=
 I.laid (λ_ _ q=>ba _ q) (na _) ⟨hz,its,0,a,Ba _ rfl⟩
theorem Inv.fresh(I:Inv X pins σ H s):H s.heap.objs.size=none:=I.Rb.fresh (na _)
theorem Inv.wv(I:Inv X pins σ H s)(a:H l=some (.lst xs)):xs.length<=sizeLine/\∃ (its:List Value) (n:Nat),re xs its/\xs.length=its.length/\s.heap.get? l=some { cls:=.type "list",data:=.seq its.toArray n }:=by
 obtain⟨z,its,n,r,e⟩:=I.Rb l _ a;exact⟨z,its,n,r,r.length,e⟩
theorem O2{n:Nat}(h:n<=sizeLine):Dh n=false:=by
 unfold Dh;exact Xc (by omega)
end
section
variable{X:Cx}
noncomputable def pL:V->List V->Hp->VK->Prop:=λx a H Q=>∃ l xs y,x=.ref l/\a=[y]/\H l=some (.lst xs)/\xs.length<sizeLine/\Q .Jb (upd H l (.lst (xs++[y])))
theorem G6:CT X "list.append" pL:=by
 intro c s o H x m v k Q I g f h;obtain⟨l,xs,y,rfl,rfl,b,j,q⟩:=h;cases g;obtain⟨u,rfl,d⟩:=f.one;obtain⟨z,a,n,r,i,e⟩:=I.wv b;refine call_meets F.slot_list_append ⟨_,e,rfl⟩ F.entry_list_append (F.args_list_append_2 _ _) (PySem.list_append l a.toArray n u (by rw[wa];omega)) ⟨e,?_⟩;refine⟨.Jb,_,I.vC (its':=a++[u]) b e (by simp) (r.append (.cons d .nil)) ?_,rfl,q⟩;rw[Gd,List.length_singleton];omega
noncomputable def WQ:V->List V->Hp->VK->Prop:=λx c H Q=>∃ l b xs a,x=.ref l/\c=[.ref b]/\H l=some (.lst xs)/\H b=some (.lst a)/\xs.length+a.length<=sizeLine/\Q .Jb (upd H l (.lst (xs++a)))
theorem J8:CT X "list.extend" WQ:=by
 intro i s J H x D v C Q I y w h;obtain⟨l,b,xs,G,rfl,rfl,g,k,B,q⟩:=h;cases y;obtain⟨u,rfl,t⟩:=w.one;cases t;obtain⟨z,c,n,r,A,e⟩:=I.wv g;obtain⟨E,a,o,p,m,j⟩:=I.wv k;have f:c.toArray.size+a.toArray.size<=sizeLine:=by rw[wa,wa];omega
 have d:¬ (!c.toArray.isEmpty && Dh (c.toArray.size+a.toArray.size))=true:=by
  rw[O2 f,bz];exact Xa
 refine call_meets F.slot_list_extend ⟨_,e,rfl⟩ F.entry_list_extend (F.args_list_extend_2 _ _)
  (AutoSeq1.list_extend_list_list_0 l c.toArray n b a.toArray o d (by rw[wa];omega) (by omega)) ⟨e,j,?_⟩
 refine⟨.Jb,_,I.vC (its':=c++a) g e (by simp) (r.append p) ?_,rfl,q⟩;rw[Gd];omega
noncomputable def yxv:R2:=λx y H Q=>∃ l b xs a,x=.ref l/\y=.ref b/\H l=some (.lst xs)/\H b=some (.lst a)/\xs.length+a.length<=sizeLine/\∀ p,H p=none->Q (.ref p) (upd H p (.lst (xs++a)))
theorem EZ:Gi X (xf .Add) yxv:=by
 intro d s D H x y v u Q I o p h;obtain⟨l,b,xs,C,rfl,rfl,j,i,w,q⟩:=h;cases o;cases p;obtain⟨z,c,n,r,t,e⟩:=I.wv j;obtain⟨B,a,A,m,k,f⟩:=I.wv i;refine PySem.P.add_list e f ?_ (by rw[wa,wa];omega);have g:c.toArray++a.toArray=(c++a).toArray:=by simp
 rw[g];exact⟨.ref _,_,I.Yz (t':=s.toks) (r.append m) (by rw[Gd];omega),rfl,q _ I.fresh⟩
end
section
variable{prog:ra}{w:Ka}{A:Ia}{E:Value->Shared->Prop}{s:Shared}
set_option maxRecDepth 100000 in
end
section
variable{X:Cx}
end
end L2
namespace Att
open PySem PySem.W PySem.Calls PyProof.Rows
theorem rY{P:RL}{h:Heap}:∀ (ns:List Int) (vs:List Value),WellAll P h vs (ns.map vH)->zi vs ns:=by
 intro ns;induction ns with
 |nil=>
  intro vs w;rw[ce]at w;cases w;exact .nil
 |cons n ns c=>
  intro vs w;rw[Da]at w;cases w with
  |cons a b=>
   cases a;exact .cons _ _ (c _ b)
theorem EW{l:OpenLaw}{n:Nat}(hn:l.most=some n){P:RL}{h:Heap}{args:List WData}{c:List Value}
  (b:l.row.toRowW.claim.pre args=true) (k:WellAll P h c args) :
  ∃ a vs ns,c=[Ua a]/\args=[WData.list (ns.map vH)]/\h.get? a=some { cls:=.type "list",data:=.seq vs.toArray }/\zi vs ns/\ns.length<=n:=by
 have j:WShape.hasAll [] args [.list .int]=true:=(pre_splitW b).1;have m:l.pre.holds [] { args:=args }=true:=(pre_splitW b).2;obtain⟨d,r,rfl,o,p⟩:=hasAllW_cons j;obtain rfl:=hasAllW_nil p;obtain⟨xs,rfl,s⟩:=hasW_list o;obtain⟨ns,rfl⟩:=items_int s;have f:ns.length<=n:=by
  unfold OpenLaw.pre at m;have g:(WTm.not (.lt (.lit (.int (n:Int))) (.len (.arg 0)))).holds [] { args:=[.list (ns.map .int)] }=true:=by
   have g:=(holds_andW m).1;rw[hn]at g;exact g
  have i:=condW_of g (w_not (w_lt w_lit (w_len_list (w_arg rfl))));rw[pb]at i;refine Nat.le_of_not_lt λq=>?_;have u:(n:Int)<((ns.length:Nat):Int):=by omega
  first
   |(rw[Um u]at i;exact absurd i (by decide))
   |(simp at i;omega)
 cases k with
 |cons w1 w2=>
  cases w2;cases w1 with
  |list t e=>exact⟨_,_,ns,rfl,rfl,t,rY ns _ e,f⟩
theorem gX(l:OpenLaw)(args:List WData):l.row.toRowW.claim.post args (.bool true) args=true:=
 postW_of (r:=l.row.toRowW) (X:=(true == true))
  (show YB [] (.bool true) .bool=true by first|rfl|decide|simp[YB,WShape.arms,WShape.armsAll])
  (show (WTm.eq .res (.lit (.bool true))).value [] { args:=args,res:=some (.bool true),after:=args }=some (.bool (true == true))from w_eq_bool (w_res rfl) w_lit) rfl
theorem cr{l:OpenLaw}{n:Nat}{q:ra}{c:List qa}{y:(qa->Option Value)->Heap->Prop}{z:Ka->Heap->Prop}{d:DefRec}
  (hn:l.most=some n) (t:d.params.defaults=[])
  (call:∀ (w:Ka) (s₀ b:Shared) (mg mb:qa->Option Value) (h:Addr) (o:Obj) (x m e:Value) (a:Addr) (vs:List Value) (ns:List Int),
   Ground q c [] y w s₀ mg mb b.heap->z w b.heap->
   b.heap.get? h=some o->o.data=.func (docDef d.name d.params d.body d.scope x m e)->b.heap.CodeRec m d.name->mg d.name=some (.ref h)->
   b.heap.get? a=some { cls:=.type "list",data:=.seq vs.toArray }->zi vs ns->ns.length<=n->b.gens=#[]->
   codeAny (model l.prog w) Nl (.call (.ref h) ⟨[.ref a],[]⟩) (λr p=>r=.ok (.ret (.bool true))/\OldK b.heap p.heap/\p.os=b.os/\yi p.gens) b) :
  WalkO q c y z l.row.toRowW d [] (λf vs=>PySem.call f vs):=by
 intro w s₀ b mg mb G Y h o x m e E kV L hd s B u J A D O k C N v K;obtain rfl:E=.none:=Dflts.none B t;obtain rfl:kV=.none:=Dflts.noKw B;obtain⟨a,vs,ns,rfl,rfl,j,g,i⟩:=EW hn k v;refine enter_call (yg (call w s₀ b mg mb h o x m e a vs ns G Y L (fd_plain hd) s u j g i J) λr p M=>?_);obtain⟨rfl,F,H,I⟩:=M;exact⟨.inl ⟨.bool true,.bool true,[],rfl,λ_=>rfl,.bool true,gX l _,λ_=>⟨List.Pairwise.nil,λ_ hm=>(nomatch hm)⟩⟩,F,H,I⟩
section
variable{prog:ra}{w:Ka}{A:Ia}{E:Value->Shared->Prop}{s:Shared}{K:Frag}
noncomputable def yk7(h:Heap)(L d:Addr):List (Addr × Obj):=(List.range h.objs.size).filterMap λa=>if a=L\/a=d then none else (h.get? a).map λo=>(a,o)
end
end Att
namespace L2
open PySem PySem.Spec PyProof.Rows
theorem pC:∀ {vs:List Value} {ns:List Int},zi vs ns->re (ns.map V.int) vs
 |_,_,.nil=>.nil
 |_,_,.cons n t h=>.cons ⟨t,rfl⟩ (pC h)
noncomputable def PD(H:Hp):Prop:=∀ b,H b=none\/∃ o xs,H b=some (.Za o (.lst xs))
theorem M8{P:ra}{w:Ka}{K:W.Frag}{mg mb:qa->Option Value}{CX:ju}{k:Nat}{E a:Addr}{Q:He}{x:qa}{sp:Sp}{s₁:Shared}{vs:List Value}{ns:List Int}
  (N:K.In s₁.heap) (t:s₁.heap.Ns mainGlobals mg) (hb:s₁.heap.Ns builtinsNs mb) (I:∀ x:qa,x ≠ "__name__"->mb x=bootBuiltins x) (p:s₁.heap.NoLimit) (hg:s₁.gens=#[])
  (C:s₁.heap.get? a=some { cls:=.type "list",data:=.seq vs.toArray }) (T:zi vs ns) (U:ns.length<=sizeLine) (hr:Me k Nl)
  (F:∀ base:Heap,K.In base->base.Ns mainGlobals mg->Oh P w K mg base CX k E Q [x] sp) (i:∀ (s:Shared) (u:Value),uf s Q ⟨[u],[]⟩ [(x,u)])
  (L:∀ H:Hp,PD H->bg K H a (ns.map V.int)->sp [.ref a] H (λv _=>v=.bl true) λ_ _ _=>False)
  (G:∀ H e s',CX [] H s₁ (λ_ _ _=>False) e s'->False) :
  codeAny (model P w) Nl (.call (.ref E) ⟨[.ref a],[]⟩) (λr s'=>r=.ok (.ret (.bool true))/\OldK s₁.heap s'.heap/\s'.os=s₁.os/\yi s'.gens) s₁:=by
 have X:=pC T;have A:=T.length;have g:∀ H:Hp,PD H->bg K H a (ns.map V.int)->Pi P w H s₁.heap->(∀ b,H b≠none->b=a)->(H a≠none->K.lookup a=none)->
   codeAny (model P w) Nl (.call (.ref E) ⟨[.ref a],[]⟩) (λr s'=>r=.ok (.ret (.bool true))/\OldK s₁.heap s'.heap/\s'.os=s₁.os/\yi s'.gens) s₁:=by
  intro H S hS Rb R hK;have c:∀ {b:Addr} {o:Obj},s₁.heap.get? b=some o->H b=none->(Mx s₁.heap H).get? b=some o:=λe n=>pV e n;have M:∀ {b:Addr} {o:Obj} {j:Array bv} {ep:Nat},s₁.heap.get? b=some o->o.data=.dict j ep->H b=none:=fun {b o j ep} e d=>by
   cases q:H b with
   |none=>rfl
   |some u=>
    have D:b=a:=R b (by rw[q];simp);subst D;rw[C]at e;cases e;have Y:Data.seq vs.toArray _=Data.dict j ep:=d;cases Y
  have f:∀ {b:Addr} {m:qa->Option Value},s₁.heap.Ns b m->(Mx s₁.heap H).Ns b m:=fun {b m} ⟨o,j,ep,e,d,r⟩=>⟨o,j,ep,c e (M e d),d,r⟩
  have l:K.In (Mx s₁.heap H):=λb o e=>c (N b o e) (by
   cases q:H b with
   |none=>rfl
   |some u=>
    have D:b=a:=R b (by rw[q];simp);subst D;rw[hK (by rw[q];simp)]at e;cases e)
  have hM:Mod K mg (Mx s₁.heap H):=⟨l,f t,⟨mb,f hb,I⟩,let ⟨mc,h1,h2⟩:=p;⟨mc,f h1,h2⟩⟩
  have Z:Nn P w K mg (Mx s₁.heap H) Nl [] s₁ H:=⟨rfl,hM,λb o e=>dX e,bE (U8 _ _),trivial,λb hb=>absurd (show b∈([]:List Addr)from hb) (by simp),Rb,.of_eq hg⟩
  refine yg ((F _ l (f t)).run Nl [] s₁ H ⟨[.ref a],[]⟩ [.ref a] [.ref a] _ _ hr Z (i s₁ (.ref a)) (.cons rfl .nil) (L H S hS)) λr s' h=>?_;cases r with
  |error e=>exact(G H e s' h).elim
  |ok fl=>
   cases fl with
   |next=>exact False.elim h
   |brk=>exact False.elim h
   |cont=>exact False.elim h
   |ret u=>
    obtain⟨v,H',os,bare,un,y,r',q⟩:=h;have q':v=.bl true:=q;subst q';obtain rfl:u=Cg true:=r';refine⟨rfl,OldK.of_keep λb o e=>?_,os,bare⟩;cases q:H b with
    |none=>exact un.keep b o e q (by intro z;exact absurd (show b∈([]:List Addr)from z) (by simp)) (by simp)
    |some u=>
     rcases S b with z|⟨ob,xs,z⟩
     ·rw[q]at z;cases z
     ·have z2:=un.Ph b ob _ z;obtain⟨O,_⟩:=Rb b _ z;obtain⟨e2,_⟩:=y b _ z2;rw[e]at O;cases O;exact e2
 cases J:K.lookup a with
 |some o=>
  have e:=N a o J;rw[C]at e;cases e;refine g (λ_=>none) (λ_=>.inl rfl) (.inr ⟨_,vs.toArray,_,J,rfl,rfl,rfl,by rw[wa,A];exact U,by simpa using X⟩) (λb u z=>by have B:(none:Option HO)=some u:=z;cases B) (λb z=>absurd rfl z) λz=>absurd rfl z
 |none=>
  refine g (λb=>if b=a then some (.Za { cls:=.type "list",data:=.seq vs.toArray } (.lst (ns.map V.int)))else none) (λb=>?_) (.inl (.inr ⟨{ cls:=.type "list",data:=.seq vs.toArray },ia rfl⟩)) (λb u z=>?_) (λb z=>?_) λ_=>J
  ·by_cases hb:b=a
   ·exact .inr ⟨_,_,ia hb⟩
   ·exact .inl (ja hb)
  ·by_cases hb:b=a
   ·have B:=(ia hb).symm.trans z;cases B;subst hb;exact⟨C,by rw[pb];exact U,vs,_,X,C⟩
   ·have B:=(ja hb).symm.trans z;cases B
  ·by_cases hb:b=a
   ·exact hb
   ·exact absurd (ja hb) z
noncomputable abbrev Zf{K:W.Frag}{h:Heap}(_:K.In h):W.Frag:=K
theorem N2{l:W.OpenLaw}{n k:Nat}{q:ra}{j:List qa}{J:(qa->Option Value)->Heap->Prop}{E:Ka->Heap->Prop}{d:DefRec}{K:RL->W.Frag}{CX:Ka->ju}{sp:Ka->Sp}{x:qa}
  (hn:l.most=some n) (B:n<=sizeLine) (z:d.params.defaults=[]) (S:Me k Nl)
  (P:∀ (w:Ka) (h:Heap),E w h->(K w.params).In h)
  (F:∀ (w:Ka) (mg:qa->Option Value) (r:Addr) (h:Heap),(K w.params).In h->h.Ns mainGlobals mg->mg d.name=some (.ref r)->
   ∃ t:He,(∀ (s:Shared) (u:Value),uf s t ⟨[u],[]⟩ [(x,u)])/\
    ∀ base:Heap,(K w.params).In base->base.Ns mainGlobals mg->Oh l.prog w (K w.params) mg base (CX w) k r t [x] (sp w))
  (C:∀ (w:Ka) (H:Hp) (a:Addr) (ns:List Int),ns.length<=n->PD H->bg (K w.params) H a (ns.map V.int)->sp w [.ref a] H (λv _=>v=.bl true) λ_ _ _=>False)
  (y:∀ (w:Ka) (H:Hp) (s:Shared) (e:Value) (s':Shared),CX w [] H s (λ_ _ _=>False) e s'->False) :
  W.WalkO q j J E l.row.toRowW d [] (λf I=>PySem.call f I):=by
 refine Att.cr hn z λw s₀ p mg mb r o Z U L a I ns G Y X hd Q A m i c R=>?_;have D:=P w _ Y;obtain⟨t,hb,M⟩:=F w mg r _ D G.T.g A;exact M8 D G.T.g G.T.b G.T.builtins G.T.nolimit R m i (yb c B) S M hb (λH N O=>C w H a ns c N O) λH e s'=>y w H p e s'
noncomputable def km(s:Stmt):Arguments:=match s with
 | .FunctionDef _ a _ _ _ _ _ _ _ _=>a
 |_=>{ posonlyargs:=[],args:=[],vararg:=none,kwonlyargs:=[],kw_defaults:=[],kwarg:=none,defaults:=[] }
noncomputable def oj(s:Stmt):List Stmt:=match s with
 | .FunctionDef _ _ b _ _ _ _ _ _ _=>b
 |_=>[]
noncomputable def vc(s:Stmt):Scope:=match s with
 | .FunctionDef _ _ _ _ _ _ sc _ _ _=>sc
 |_=>{ kind:=.function,names:=[],isGenerator:=false,isCoroutine:=false }
noncomputable abbrev LR:ju:=λ_ _ _ _ _ _=>False
noncomputable abbrev E0:XK:=λ_ _ _=>False
structure jz(K:W.Frag)(x qual:qa)(st:Stmt)(f:Addr)(fd:He):Prop where
 ex:∃ (oc:Value) (od:Option Addr) (kV doc pm:Value) (an:Option Addr) (cdv ct:Value) (osl:Array (Option Value)),
  fd=W.fnOf x qual (km st) (oj st) (vc st) .none kV doc pm an cdv ct/\K.lookup f=some ⟨oc,od,.func fd,osl⟩/\W.codeIn K cdv qual=true
 kp:W.keepIn K (.ref f)=true
section
variable{P:ra}{w:Ka}{K:W.Frag}{mg:qa->Option Value}{base:Heap}
theorem jz.ok{x qual:qa}{c:Stmt}{f:Addr}{g:He}{N ps:List qa}{k:Nat}{sp:Sp}(F:jz K x qual c f g)(S:xa N ps (vc c))(len:∀ vs H Q E,sp vs H Q E->vs.length=ps.length)
  (b:∀ (a:Value) (A:Ia) (outer:List wh) (s:Shared) (H:Hp) (vs:List V) (Q:VK) (E:XK),Me k (A.deeper (Ih qual (vc c) s.heap.objs.size f a))->sp vs H Q E->
   ∃ t,At (Kr LR P w K mg base N qual (vc c) f a A outer s H E).Fq (oj c) t/\t { nx:=λ_ i=>Q .Jb i,rt:=Q } (Yv N vs) H):Oh P w K mg base LR (k+1) f g ps sp:=by
 obtain⟨p,r,kV,j,u,o,a,ct,n,rfl,m,d⟩:=F.ex;refine nR m d S len λA outer s H vs Q E l e=>?_;obtain⟨t,h,q⟩:=b a A outer s H vs Q E l e;exact⟨t,h.Fq,q⟩
theorem jz.binds{x qual:qa}{c:Stmt}{f:Addr}{g:He}{ps:List qa}(F:jz K x qual c f g)
  (h:∀ (kV b e:Value) (d:Option Addr) (a ct:Value) (us:List Value),us.length=ps.length->bindArgs (W.fnOf x qual (km c) (oj c) (vc c) .none kV b e d a ct) ⟨us,[]⟩=pure (ps.zip us)):Yr K g ps []:=by
 obtain⟨l,m,kV,b,e,d,a,ct,j,rfl,k,i⟩:=F.ex;exact .all (h kV b e d a ct)
theorem OQ{x qual:qa}{d:Stmt}{f:Addr}{i:Value}{od g:Option Addr}{e:Array (Option Value)}{kV b h a ct:Value}(l:K.lookup f=some ⟨i,od,.func (W.fnOf x qual (km d) (oj d) (vc d) .none kV b h g a ct),e⟩)
  (c:W.codeIn K a qual=true) (k:W.keepIn K (.ref f)=true):jz K x qual d f (W.fnOf x qual (km d) (oj d) (vc d) .none kV b h g a ct):=⟨⟨i,od,kV,b,h,g,a,ct,e,rfl,l,c⟩,k⟩
end
theorem LQ{n:Nat}(h:n<=1000):n<sizeLine:=ci h (by decide)
section
variable{X:Cx}
theorem pv(i:Nat){x:qa}{b:Ye}(hN:X.N[i]?=some x:=by rfl)(c:MC X.env.scope x:=by first|exact Or.inl rfl|exact Or.inr (Or.inl rfl)|exact Or.inr (Or.inr rfl))(hd:(x == ("__debug__" : qa))=false:=by decide)
  (a:(x == ("__classdict__" : qa))=false:=by decide):PE X (.Name x b) (WR i):=nQ hN c hd a
end
noncomputable def pw(H a:Hp):Prop:=∀ b o,H b=some o->a b=some o
theorem pw.refl(H:Hp):pw H H:=λ_ _ h=>h
theorem pw.trans{H d H2:Hp}(a:pw H d)(b:pw d H2):pw H H2:=λc o h=>b c o (a c o h)
theorem pw.free{H a:Hp}(e:pw H a){l:Addr}(h:a l=Option.none):H l=Option.none:=by
 cases q:H l with
 |none=>rfl
 |some o=>
  rw[e l o q]at h;cases h
theorem pw.seq{K:W.Frag}{H b:Hp}{a:Addr}{xs:List V}(e:pw H b)(h:bg K H a xs):bg K b a xs:=by
 rcases h with(h|⟨o,h⟩)|h
 ·exact .inl (.inl (e _ _ h))
 ·exact .inl (.inr ⟨o,e _ _ h⟩)
 ·exact .inr h
end L2
namespace L4
open PySem PySem.Spec PyProof.Rows L2
theorem ON{c:Type}(a:c):∃ b,b=a:=⟨a,rfl⟩
noncomputable def hide{b:Type}(a:b):b:=Classical.choose (ON a)
@[simp] theorem Ul{b:Type}(a:b):hide a=a:=zaB (ON a)
inductive D where
 |Jb|bl (b:Bool)|int (i:Int)|str (x:qa)|tup (xs:List D)|je (ns:List Int)|ref (n:Nat)
 |lst (xs:List D)|Ya (ks:List Key) (xs:List D)|obj (c:Nat) (ns:List qa) (xs:List D)|ku (c:Nat)|gt (ss:List qa)
inductive Ob where
 |lst (xs:List D)
 |Ya (kvs:List (Key × D))
 |ins (c:Nat) (fs:List (qa × D))
 |Kc (kvs:List (Key × D))
 |eg (ks:List (List Key))
noncomputable abbrev db:=List Ob
noncomputable abbrev St:=L2.St
noncomputable abbrev Ev:=List (Option D)
structure Xn where
 cls:Nat
inductive Out(α:Type) where
 |ok (a:α) (σ:db)
 |ex (x:Xn) (σ:db)
 |bad
noncomputable abbrev M(a:Type):=db->Out a
noncomputable def ret{α:Type}(a:α):M α:=λb=>.ok a b
noncomputable def bad{α:Type}:M α:=λ_=>.bad
noncomputable def Out.bind{c β:Type}(o:Out c)(k:c->M β):Out β:=match o with
 | .ok a b=>k a b
 | .ex x b=>.ex x b
 | .bad=>.bad
noncomputable def qd{a β:Type}(m:M a)(k:a->M β):M β:=λb=>(m b).bind k
inductive Fl where
 |nx (ρ:Ev)|rt (d:D)|bk (ρ:Ev)|ct (ρ:Ev)|xc (ρ:Ev) (x:Xn)
structure Tab where
 P:Addr
 line:Int
 col:Int
 qual:qa
structure Tx where
 KH:List Tab
 bm:Addr
structure Tb where
 K:W.Frag
 ca:Nat->Addr
 tx:Tx
noncomputable def zV(q:qa)(c:Addr):Heap->Prop:=λh=>∃ o a t,h.get? c=some o/\o.data=.fields a/\a[1]?=some (.str q t)
noncomputable def yuc(bm:Addr):Heap->Prop:=λh=>∃ o,h.get? bm=some o/\o.cls=.type "module"/\o.dict=some builtinsNs/\o.data=.plain
noncomputable def tt(T:Tb)(μ:List Addr)(H:Hp):Prop:=∀ t∈T.tx.KH,(T.tx.bm ∉ μ/\∃ b,H T.tx.bm=some (.Za b (.ext (yuc T.tx.bm))))/\t.P ∉ μ/\∃ a,H t.P=some (.Hu a)/\(a=#[]\/∃ c,a=#[rawInt t.line,rawInt t.col,.ref c]/\c ∉ μ/\H c=some (.ext (zV t.qual c)))
theorem tt.grow{T:Tb}{μ:List Addr}{H H':Hp}(h:tt T μ H)(k:∀ b u,H b=some u->H' b=some u):tt T μ H':=λt j=>by
 obtain⟨⟨a,l,d⟩,f,m,g,i⟩:=h t j;exact⟨⟨a,l,k _ _ d⟩,f,m,k _ _ g,i.imp id λ⟨c,e,n,z⟩=>⟨c,e,n,k _ _ z⟩⟩
theorem tt.sub{T:Tb}{μ μ':List Addr}{H:Hp}(h:tt T μ' H)(k:∀ b∈μ,b∈μ'):tt T μ H:=λt j=>by
 obtain⟨⟨a,d⟩,f,l,g,i⟩:=h t j;exact⟨⟨λz=>a (k _ z),d⟩,λz=>f (k _ z),l,g,i.imp id λ⟨c,e,n,z⟩=>⟨c,e,λy=>n (k _ y),z⟩⟩
theorem tt.more{T:Tb}{μ:List Addr}{H:Hp}{p:Addr}(h:tt T μ H)(j:H p=none):tt T (μ++[p]) H:=λt k=>by
 obtain⟨⟨f,l,a⟩,g,m,d,i⟩:=h t k;have ne:∀ {b:Addr} {u:HO},H b=some u->b ∉ μ->b ∉ μ++[p]:=fun {b u} e n z=>(Ud.mp z).elim n λy=>by
  have o:b=p:=by simpa using y
  subst o;rw[j]at e;cases e
 exact⟨⟨ne a f,l,a⟩,ne d g,m,d,i.imp id λ⟨c,e,n,z⟩=>⟨c,e,ne z n,z⟩⟩
theorem tt.out{T:Tb}{μ:List Addr}{H H':Hp}{a:Addr}(h:tt T μ H)(m:∀ b,b≠a->H' b=H b)(l:a∈μ\/∃ kvs,H a=some (.dK kvs)):tt T μ H':=λt o=>by
 obtain⟨⟨f,p,i⟩,g,q,j,k⟩:=h t o;have ne:∀ {b:Addr} {u:HO},H b=some u->b ∉ μ->(∀ kvs,u≠.dK kvs)->H' b=some u:=fun {b u} e n d=>by
  rw[m b (λz=>by
   subst z;rcases l with y|⟨kvs,y⟩
   ·exact n y
   ·rw[e]at y;cases y;exact d kvs rfl)]
  exact e
 exact⟨⟨f,p,ne i f (λ_ z=>by cases z)⟩,g,q,ne j g (λ_ z=>by cases z),k.imp id λ⟨c,e,n,z⟩=>⟨c,e,n,ne z n (λ_ y=>by cases y)⟩⟩
noncomputable def Tb.cv(T:Tb)(x:Xn):Value:=.ref (T.ca x.cls)
noncomputable def nB(c:Nat):Option Nat:=if c<100 then none else some (c / 100 - 1)
noncomputable def jW(C a:Addr):Heap->Prop:=λh=>∃ o,h.get? a=some o/\o.cls=.ref C
noncomputable def xy(C:Addr)(dd:Option Addr)(a:Addr):Heap->Prop:=λh=>∃ o,h.get? a=some o/\o.cls=.ref C/\∀ b,dd=some b->o.dict=some b/\∃ c,o.data=.fields c
noncomputable def WC(b:Addr)(n:Nat):Heap->Prop:=λh=>∃ o,h.get? b=some o/\∃ a c t,o.data=.dict a c/\StrKeys a/\nsFind a "pot" = some (.int n t)
noncomputable def JG(K:W.Frag)(H:Hp)(a:Addr)(ns:List Int):Prop:=
 (∃ o,H a=some (.Za o (.lst (ns.map V.int))))\/
  ∃ (o:Obj) (b:Array Value) (n:Nat),K.lookup a=some o/\o.cls=.type "list"/\o.dict=none/\o.data=.seq b n/\b.size<=sizeLine/\re (ns.map V.int) b.toList
theorem JG.seq{K:W.Frag}{H:Hp}{a:Addr}{ns:List Int}(h:JG K H a ns):bg K H a (ns.map V.int):=by
 rcases h with⟨o,h⟩|h
 ·exact .inl (.inr ⟨o,h⟩)
 ·exact .inr h
noncomputable def CD(K:W.Frag)(a:Addr)(ss:List qa):Prop:=∃ (o:Obj) (b:Array Value) (n:Nat),K.lookup a=some o/\o.cls=.type "tuple"/\o.data=.seq b n/\b.size<=sizeLine/\re (ss.map V.str) b.toList
mutual
noncomputable def Rep(T:Tb)(μ:List Addr)(H:Hp):D->V->Prop
 | .Jb,v=>v=.Jb
 | .bl b,v=>v=.bl b
 | .int i,v=>v=.int i
 | .str x,v=>v=.str x
 | .tup ds,v=>∃ p e,v=.ref p/\H p=some (.tup e)/\Wa T μ H ds e
 | .je ns,v=>∃ a,v=.ref a/\JG T.K H a ns
 | .ref n,v=>∃ a,v=.ref a/\μ[n]?=some a
 | .lst ds,v=>∃ a e,v=.ref a/\a ∉ μ/\H a=some (.lst e)/\Wa T μ H ds e
 | .Ya j ds,v=>∃ a d,v=.ref a/\a ∉ μ/\Rd H a (.dK d)/\d.map (·.1)=j/\Wa T μ H ds (d.map (·.2))
 | .obj c ns ds,v=>∃ a h fs,v=.ref a/\a ∉ μ/\H a=some (.ins (T.ca c) h fs)/\fs.map (·.1)=ns/\Wa T μ H ds (fs.map (·.2))
 | .ku c,v=>∃ a g,v=.ref a/\a ∉ μ/\H a=some (.ext (xy (T.ca c) g a))/\∀ n,nB c=some n->∃ f,g=some f/\f ∉ μ/\H f=some (.ext (WC f n))
 | .gt ss,v=>∃ a,v=.ref a/\CD T.K a ss
noncomputable def Wa(T:Tb)(μ:List Addr)(H:Hp):List D->List V->Prop
 |[],a=>a=[]
 |d::ds,a=>∃ v r,a=v::r/\Rep T μ H d v/\Wa T μ H ds r
end
noncomputable def Kp(o b:HO):Prop:=b=o\/(∃ d a,o=.dK a/\b=.Za d (.dK a))\/∃ e c,o=.Hu e/\b=.Hu c
theorem Kp.trans{a b c:HO}(x:Kp a b)(y:Kp b c):Kp a c:=by
 rcases x with rfl|⟨h,d,rfl,rfl⟩|⟨g,e,rfl,rfl⟩
 ·exact y
 ·rcases y with rfl|⟨_,_,z,_⟩|⟨_,_,z,_⟩
  ·exact .inr (.inl ⟨h,d,rfl,rfl⟩)
  ·cases z
  ·cases z
 ·rcases y with rfl|⟨_,_,z,_⟩|⟨_,f,_,rfl⟩
  ·exact .inr (.inr ⟨g,e,rfl,rfl⟩)
  ·cases z
  ·exact .inr (.inr ⟨g,f,rfl,rfl⟩)
structure Ext(μ:List Addr)(H:Hp)(μ':List Addr)(H':Hp):Prop where
 pre:∃ r,μ'=μ++r
 tup:∀ p xs,H p=some (.tup xs)->H' p=some (.tup xs)
 Za:∀ p o u,H p=some (.Za o u)->H' p=some (.Za o u)
 keep:∀ p o,H p=some o->p ∉ μ->(∃ o',H' p=some o'/\Kp o o')/\p ∉ μ'
theorem Ext.refl(μ:List Addr)(H:Hp):Ext μ H μ H:=⟨⟨[],by simp⟩,λ_ _ h=>h,λ_ _ _ h=>h,λ_ _ h n=>⟨⟨_,h,.inl rfl⟩,n⟩⟩
theorem Ext.trans{μ c d:List Addr}{H e H2:Hp}(a:Ext μ H c e)(b:Ext c e d H2):Ext μ H d H2:=by
 obtain⟨⟨r,rfl⟩,y,i,m⟩:=a;obtain⟨⟨x,rfl⟩,z,j,q⟩:=b;exact⟨⟨r++x,by simp⟩,λp xs h=>z p xs (y p xs h),λp o u h=>j p o u (i p o u h),λp o h n=>let ⟨⟨v,k,f⟩,s⟩:=m p o h n;let ⟨⟨w,l,g⟩,t⟩:=q p v k s;⟨⟨w,l,f.trans g⟩,t⟩⟩
theorem Ext.yk{μ μ':List Addr}{H a:Hp}(e:Ext μ H μ' a)(p:Addr)(o:HO)(h:H p=some o)(n:p ∉ μ)(hd:(∀ kvs,o≠.dK kvs)/\∀ ps,o≠.Hu ps:=by exact⟨(λ_ z=>by cases z),(λ_ z=>by cases z)⟩):a p=some o/\p ∉ μ':=by
 obtain⟨⟨f,b,c⟩,d⟩:=e.keep p o h n;rcases c with rfl|⟨_,kvs,z,_⟩|⟨ps,_,z,_⟩
 ·exact⟨b,d⟩
 ·exact absurd z (hd.1 kvs)
 ·exact absurd z (hd.2 ps)
theorem Ext.rd{μ μ':List Addr}{H b:Hp}(e:Ext μ H μ' b)(p:Addr)(kvs:List (Key × V))(h:Rd H p (.dK kvs))(n:p ∉ μ):Rd b p (.dK kvs)/\p ∉ μ':=by
 rcases h with h|⟨a,h⟩
 ·obtain⟨⟨i,d,c⟩,g⟩:=e.keep p _ h n;rcases c with rfl|⟨a,f,z,rfl⟩|⟨_,_,z,_⟩
  ·exact⟨.inl d,g⟩
  ·cases z;exact⟨.inr ⟨a,d⟩,g⟩
  ·cases z
 ·exact⟨.inr ⟨a,e.Za _ _ _ h⟩,(e.keep p _ h n).2⟩
theorem Ext.get{μ μ':List Addr}{H b:Hp}(e:Ext μ H μ' b){n:Nat}{a:Addr}(h:μ[n]?=some a):μ'[n]?=some a:=by
 obtain⟨⟨r,rfl⟩,_,_⟩:=e;rw[Ta (ma.mp h).1];exact h
mutual
theorem Rep.mono{T:Tb}{μ μ':List Addr}{H r:Hp}(e:Ext μ H μ' r):∀ (d:D) (v:V),Rep T μ H d v->Rep T μ' r d v
 | .Jb,v,h=>by simpa [Rep]using h
 | .bl b,v,h=>by simpa [Rep]using h
 | .int i,v,h=>by simpa [Rep]using h
 | .str x,v,h=>by simpa [Rep]using h
 | .tup ds,v,h=>by
  rw[Rep]at h ⊢;obtain⟨p,k,g,f,j⟩:=h;exact⟨p,k,g,e.tup _ _ f,Wa.mono e ds k j⟩
 | .je ns,v,h=>by
  rw[Rep]at h ⊢;obtain⟨a,g,f⟩:=h;refine⟨a,g,?_⟩;rcases f with⟨o,f⟩|f
  ·exact .inl ⟨o,e.Za _ _ _ f⟩
  ·exact .inr f
 | .ref n,v,h=>by
  rw[Rep]at h ⊢;obtain⟨a,g,f⟩:=h;exact⟨a,g,e.get f⟩
 | .lst ds,v,h=>by
  rw[Rep]at h ⊢;obtain⟨a,k,g,f,j,l⟩:=h;exact⟨a,k,g,(e.yk _ _ j f).2,(e.yk _ _ j f).1,Wa.mono e ds k l⟩
 | .Ya w ds,v,h=>by
  rw[Rep]at h ⊢;obtain⟨a,k,g,f,j,m,l⟩:=h;exact⟨a,k,g,(e.rd _ _ j f).2,(e.rd _ _ j f).1,m,Wa.mono e ds _ l⟩
 | .obj c ns ds,v,h=>by
  rw[Rep]at h ⊢;obtain⟨a,u,k,g,f,j,m,l⟩:=h;exact⟨a,u,k,g,(e.yk _ _ j f).2,(e.yk _ _ j f).1,m,Wa.mono e ds _ l⟩
 | .ku c,v,h=>by
  rw[Rep]at h ⊢;obtain⟨a,t,g,f,j,l⟩:=h;exact⟨a,t,g,(e.yk _ _ j f).2,(e.yk _ _ j f).1,λn q=>let ⟨s,q1,q2,q3⟩:=l n q;⟨s,q1,(e.yk _ _ q3 q2).2,(e.yk _ _ q3 q2).1⟩⟩
 | .gt ss,v,h=>by rw[Rep]at h ⊢;exact h
theorem Wa.mono{T:Tb}{μ μ':List Addr}{H a:Hp}(e:Ext μ H μ' a):∀ (ds:List D) (vs:List V),Wa T μ H ds vs->Wa T μ' a ds vs
 |[],vs,h=>by simpa [Wa]using h
 |d::ds,vs,h=>by
  rw[Wa]at h ⊢;obtain⟨v,r,b,c,f⟩:=h;exact⟨v,r,b,Rep.mono e d v c,Wa.mono e ds r f⟩
end
theorem Wa.nil{T:Tb}{μ:List Addr}{H:Hp}:Wa T μ H [] []:=by rw[Wa]
theorem Wa.cons{T:Tb}{μ:List Addr}{H:Hp}{d:D}{v:V}{ds:List D}{vs:List V}(a:Rep T μ H d v)(b:Wa T μ H ds vs):Wa T μ H (d::ds) (v::vs):=by
 rw[Wa];exact⟨v,vs,rfl,a,b⟩
theorem Wa.length{T:Tb}{μ:List Addr}{H:Hp}:∀ {ds:List D} {vs:List V},Wa T μ H ds vs->ds.length=vs.length
 |[],vs,h=>by rw[Wa]at h;subst h;rfl
 |d::ds,vs,h=>by
  rw[Wa]at h;obtain⟨v,r,rfl,_,a⟩:=h;simp[Wa.length a]
theorem Wa.get{T:Tb}{μ:List Addr}{H:Hp}:∀ {ds:List D} {vs:List V} {i:Nat} {d:D},Wa T μ H ds vs->ds[i]?=some d->∃ v,vs[i]?=some v/\Rep T μ H d v
 |[],vs,i,d,h,e=>by simp at e
 |d::ds,vs,0,x,h,e=>by
  rw[Wa]at h;obtain⟨v,r,rfl,a,b⟩:=h;simp at e;subst e;exact⟨v,rfl,a⟩
 |d::ds,vs,i+1,x,h,e=>by
  rw[Wa]at h;obtain⟨v,r,rfl,a,b⟩:=h;simpa using Wa.get (i:=i) b (by simpa using e)
theorem Wa.append{T:Tb}{μ:List Addr}{H:Hp}:∀ {ds es:List D} {vs us:List V},Wa T μ H ds vs->Wa T μ H es us->Wa T μ H (ds++es) (vs++us)
 |[],es,vs,us,h,a=>by rw[Wa]at h;subst h;simpa using a
 |d::ds,es,vs,us,h,a=>by
  rw[Wa]at h;obtain⟨v,r,rfl,b,c⟩:=h;exact Wa.cons b (Wa.append c a)
theorem Wa.set{T:Tb}{μ:List Addr}{H:Hp}{d:D}{v:V}(hd:Rep T μ H d v):∀ {ds:List D} {vs:List V} (i:Nat),Wa T μ H ds vs->Wa T μ H (ds.set i d) (vs.set i v)
 |[],vs,i,h=>by rw[Wa]at h;subst h;simpa using Wa.nil
 |x::ds,vs,0,h=>by
  rw[Wa]at h;obtain⟨w,r,rfl,b,a⟩:=h;exact Wa.cons hd a
 |x::ds,vs,i+1,h=>by
  rw[Wa]at h;obtain⟨w,r,rfl,b,a⟩:=h;exact Wa.cons b (Wa.set hd i a)
theorem Wa.drop{T:Tb}{μ:List Addr}{H:Hp}:∀ {ds:List D} {vs:List V} (n:Nat),Wa T μ H ds vs->Wa T μ H (ds.drop n) (vs.drop n)
 |ds,vs,0,h=>by simpa using h
 |[],vs,n+1,h=>by rw[Wa]at h;subst h;simpa using Wa.nil
 |x::ds,vs,n+1,h=>by
  rw[Wa]at h;obtain⟨w,r,rfl,b,a⟩:=h;simpa using Wa.drop n a
theorem Wa.take{T:Tb}{μ:List Addr}{H:Hp}:∀ {ds:List D} {vs:List V} (n:Nat),Wa T μ H ds vs->Wa T μ H (ds.take n) (vs.take n)
 |ds,vs,0,h=>by simpa using Wa.nil
 |[],vs,n+1,h=>by rw[Wa]at h;subst h;simpa using Wa.nil
 |x::ds,vs,n+1,h=>by
  rw[Wa]at h;obtain⟨w,r,rfl,a,b⟩:=h;exact Wa.cons a (Wa.take n b)
noncomputable def Ut(T:Tb)(μ:List Addr)(H:Hp):List (qa × D)->List (qa × V)->Prop:=Paired λp q=>p.1=q.1/\Rep T μ H p.2 q.2
noncomputable def yh(T:Tb)(μ:List Addr)(H:Hp):List (Key × D)->List (Key × V)->Prop:=Paired λp q=>p.1=q.1/\Rep T μ H p.2 q.2
noncomputable def jq(T:Tb)(μ:List Addr)(H:Hp)(a:Addr):Ob->Prop
 | .lst ds=>∃ b,H a=some (.lst b)/\Wa T μ H ds b
 | .Ya d=>∃ b,H a=some (.dK b)/\yh T μ H d b
 | .ins c fs=>∃ e b,H a=some (.ins (T.ca c) e b)/\Ut T μ H fs b
 | .Kc d=>∃ g b,H a=some (.Za g (.dK b))/\yh T μ H d b
 | .eg f=>∃ b,H a=some (.dT b)/\b.map (·.1)=f
structure Rel(T:Tb)(μ:List Addr)(H:Hp)(σ:db):Prop where
 len:μ.length=σ.length
 nd:μ.Nodup
 obs:∀ (n:Nat) (o:Ob),σ[n]?=some o->∃ a,μ[n]?=some a/\jq T μ H a o
 tb:tt T μ H
noncomputable def Zh(T:Tb)(μ:List Addr)(H:Hp)(ρ:Ev)(a:St):Prop:=ρ.length=a.length/\∀ (i:Nat) (d:D),ρ[i]?=some (some d)->∃ v,a[i]?=some (some v)/\Rep T μ H d v
theorem Zh.mono{T:Tb}{μ μ':List Addr}{H a:Hp}{ρ:Ev}{st:St}(e:Ext μ H μ' a)(h:Zh T μ H ρ st):Zh T μ' a ρ st:=
 ⟨h.1,λi d q=>let ⟨v,b,c⟩:=h.2 i d q;⟨v,b,Rep.mono e d v c⟩⟩
theorem Zh.set{T:Tb}{μ:List Addr}{H:Hp}{ρ:Ev}{b:St}{d:D}{v:V}(h:Zh T μ H ρ b)(i:Nat)(r:Rep T μ H d v):Zh T μ H (ρ.set i (some d)) (b.set i (some v)):=by
 refine⟨by simpa using h.1,λj x q=>?_⟩;rw[Cb]at q;by_cases a:i=j
 ·subst a;rw[ia rfl]at q;split at q
  ·rename_i f
   cases q;exact⟨v,by rw[Cb,ia rfl,ia (by rw[<-h.1];exact f)],r⟩
  ·cases q
 ·rw[ja a]at q;obtain⟨w,c,e⟩:=h.2 j x q;exact⟨w,by rw[Cb,ja a];exact c,e⟩
noncomputable def Unt(e:Addr)(cls a0:Value)(h:Heap):Prop:=∃ b a,h.get? e=some b/\b.cls=cls/\b.data=.fields a/\1<a.size/\a[0]?=some a0/\a[1]?=some .none
noncomputable def zr(B:Heap)(l:List wh)(e:Addr)(cls a0:Value)(h:Heap):Prop:=B.StaysIn h/\B.get? e=none/\h.FunFrames B l/\((∃ a,h.TracedAtW B e cls a0 a)\/Unt e cls a0 h)
noncomputable def W3(o:Obj)(n:Nat):Prop:=∃ a b t,o.data=.dict a b/\StrKeys a/\nsFind a "pot" = some (.int n t)
noncomputable def HC(f:Option Nat)(e:Addr)(B h g:Heap)(d:Hp):Prop:=∀ n,f=some n->∃ a b c,h.get? e=some c/\c.dict=some a/\B.get? a=some b/\W3 b n/\d a=none/\g.get? a=none
structure uz(P:ra)(w:Ka)(outer:List wh)(H:Hp)(s:Shared)(cls:Value)(fd:Option Nat)(H':Hp)(e:Value)(s':Shared):Prop where
 ex:∃ (ea:Addr) (a0:Value) (B:Heap),e=.ref ea/\zr B outer ea cls a0 s'.heap/\H' ea=none/\s.heap.get? ea=none/\
  (∀ b o,H' b=some o->∃ ob,B.get? b=some ob)/\(∀ b o,s.heap.get? b=some o->H b=none->b ∉ yj outer->B.get? b=some o)/\(∀ b o,s.heap.get? b=some o->b ∉ yj outer->∃ o',B.get? b=some o')/\HC fd ea B s'.heap s.heap H'
 os:s'.os=s.os
 bare:yi s'.gens
 un:Un (yj outer) [] H H' s.heap s'.heap
 Rb:Pi P w H' s'.heap
noncomputable def Mm(P:ra)(w:Ka):ju:=λouter H s E e c=>∃ cls b a,uz P w outer H s cls b a e c/\E cls b a
structure IA(X:Cx)(st:St)(cls:Value)(fd:Option Nat)(H':Hp):Prop where
 AF:∀ (pins:List (Addr × Obj)) (H:Hp) (s:Shared) (e:Value) (s':Shared),Inv X pins st H s->uz X.prog X.w X.stack H s cls fd H' e s'->X.xe e s'
noncomputable abbrev XE(X:Cx)(c:St):XK:=λcls b a=>IA X c cls b a
noncomputable def Ib{d e:Type}(T:Tb)(E:XK)(R:List Addr->Hp->d->e->Prop)(μ:List Addr)(H:Hp)(o:Out d)(Q:e->Hp->Prop):Prop:=match o with
 | .ok a σ=>∀ b g c,Ext μ H b c->Rel T b c σ->R b c a g->Q g c
 | .ex x σ=>∀ b c,Ext μ H b c->Rel T b c σ->E (T.cv x) (nB x.cls) c
 | .bad=>False
theorem Ib.mono{j k:Type}{T:Tb}{E:XK}{R:List Addr->Hp->j->k->Prop}{μ c:List Addr}{H i:Hp}{o:Out j}{Q:k->Hp->Prop}(e:Ext μ H c i)(h:Ib T E R μ H o Q):Ib T E R c i o Q:=by
 cases o with
 |ok a σ=>exact λb g d f r q=>h b g d (e.trans f) r q
 |ex x σ=>exact λb d f r=>h b d (e.trans f) r
 |bad=>exact h
theorem Ib.imp{d e:Type}{T:Tb}{E:XK}{R:List Addr->Hp->d->e->Prop}{μ:List Addr}{H:Hp}{o:Out d}{Q Q':e->Hp->Prop}(h:Ib T E R μ H o Q)(k:∀ g b,Q g b->Q' g b):Ib T E R μ H o Q':=by
 cases o with
 |ok a σ=>exact λc g b f r q=>k _ _ (h c g b f r q)
 |ex x σ=>exact h
 |bad=>exact h
theorem Ib.bind{i o p s:Type}{T:Tb}{E:XK}{R:List Addr->Hp->i->p->Prop}{l:List Addr->Hp->o->s->Prop}{μ:List Addr}{H:Hp}{m:M i}{k:i->M o}{σ:db}{Q:s->Hp->Prop}{Q1:p->Hp->Prop}
  (h:Ib T E l μ H (qd m k σ) Q) (f:∀ a b c g d,m σ=.ok a b->Ext μ H c d->Rel T c d b->R c d a g->Ib T E l c d (k a b) Q->Q1 g d):Ib T E R μ H (m σ) Q1:=by
 unfold qd at h;cases e:m σ with
 |ok a b=>
  rw[e]at h;exact λj g t n r q=>f a b j g t e n r q (h.mono n)
 |ex x b=>rw[e]at h;exact h
 |bad=>rw[e]at h;exact h
theorem Ib.here{T:Tb}{E:XK}{b a:Type}{R:List Addr->Hp->b->a->Prop}{μ:List Addr}{H:Hp}{d:b}{σ:db}{g:a}{Q:a->Hp->Prop}(h:Ib T E R μ H (.ok d σ) Q)(r:Rel T μ H σ)(p:R μ H d g):Q g H:=h μ g H (Ext.refl _ _) r p
section
variable(T:Tb)(X:Cx)
noncomputable def tF(f:Ev->M D):TE:=λb H Q=>∃ a c d,Zh T a H c b/\Rel T a H d/\Ib T (XE X b) (Rep T) a H (f c d) Q
noncomputable def yI:List Addr->Hp->Bool->Bool->Prop:=λ_ _ a b=>b=a
noncomputable def tT(f:Ev->M Bool):TT:=λb H Q=>∃ a c d,Zh T a H c b/\Rel T a H d/\Ib T (XE X b) yI a H (f c d) Q
noncomputable def tL(f:Ev->M (List D)):TA:=λb H Q=>∃ a c d,Zh T a H c b/\Rel T a H d/\Ib T (XE X b) (Wa T) a H (f c d) Q
inductive Rm where
 |nx (st:St)|rt (v:V)|bk (st:St)|ct (st:St)|xc (st:St) (cls:Value) (fd:Option Nat)
noncomputable def Jl(T:Tb)(μ:List Addr)(H:Hp):Fl->Rm->Prop
 | .nx a,.nx st=>Zh T μ H a st
 | .rt d,.rt v=>Rep T μ H d v
 | .bk a,.bk st=>Zh T μ H a st
 | .ct a,.ct st=>Zh T μ H a st
 | .xc a x,.xc st cls fd=>Zh T μ H a st/\cls=T.cv x/\fd=nB x.cls
 |_,_=>False
noncomputable def wk(X:Cx)(D:Ends):Rm->Hp->Prop
 | .nx st,H=>D.nx st H
 | .rt v,H=>D.rt v H
 | .bk st,H=>D.bk st H
 | .ct st,H=>D.ct st H
 | .xc st cls fd,H=>IA X st cls fd H
noncomputable abbrev EN:XK:=λ_ _ _=>False
noncomputable def tS(g:Ev->M Fl):TS:=λD d H=>∃ a b c,Zh T a H b d/\Rel T a H c/\Ib T EN (Jl T) a H (g b c) (wk X D)
end
noncomputable def xs{c:Type}(ρ:Ev)(m:M c)(k:c->M Fl):M Fl:=λd=>match m d with
 | .ok a b=>k a b
 | .ex x b=>.ok (.xc ρ x) b
 | .bad=>.bad
theorem Ib.xs{o p:Type}{T:Tb}{X:Cx}{D:Ends}{R:List Addr->Hp->o->p->Prop}{μ:List Addr}{H:Hp}{ρ:Ev}{n:St}{m:M o}{k:o->M Fl}{σ:db}{Q1:p->Hp->Prop}(s:Zh T μ H ρ n)
  (h:Ib T EN (Jl T) μ H (L4.xs ρ m k σ) (wk X D)) (f:∀ a b c g i,m σ=.ok a b->Ext μ H c i->Rel T c i b->R c i a g->Ib T EN (Jl T) c i (k a b) (wk X D)->Q1 g i):Ib T (XE X n) R μ H (m σ) Q1:=by
 unfold L4.xs at h;cases e:m σ with
 |ok a b=>
  rw[e]at h;exact λd g l j r q=>f a b d g l e j r q (h.mono j)
 |ex x b=>
  rw[e]at h;intro d l j r;exact h d (.xc n (T.cv x) (nB x.cls)) l j r ⟨s.mono j,rfl,rfl⟩
 |bad=>rw[e]at h;exact h
noncomputable abbrev FE(T:Tb)(X:Cx)(e:Ja)(f:Ev->M D):Prop:=PE X e (tF T X f)
noncomputable abbrev FT(T:Tb)(X:Cx)(e:Ja)(f:Ev->M Bool):Prop:=PT X e (tT T X f)
noncomputable abbrev FW(T:Tb)(X:Cx)(e:Ja)(f:Ev->M Bool):Prop:=PW X e (tT T X f)
noncomputable abbrev FA(T:Tb)(X:Cx)(es:List Ja)(f:Ev->M (List D)):Prop:=PA X es (tL T X f)
noncomputable abbrev FS(T:Tb)(X:Cx)(a:Stmt)(g:Ev->M Fl):Prop:=PS X a (tS T X g)
noncomputable abbrev Hq(T:Tb)(X:Cx)(a:List Stmt)(g:Ev->M Fl):Prop:=At X a (tS T X g)
end L4
namespace L4
open PySem PySem.Spec PyProof.Rows L2
noncomputable def li:Nat:=1000
theorem wz{n:Nat}(h:n<=li):n<=sizeLine:=pd (LQ h)
theorem pT{n:Nat}(h:n<li):n<sizeLine:=LQ (pd h)
theorem HF{c:Type}{l:List c}(h:l.Nodup){i j:Nat}{a:c}(d:l[i]?=some a)(e:l[j]?=some a):i=j:=by
 obtain⟨q1,q2⟩:=ma.mp d;obtain⟨q3,q4⟩:=ma.mp e;have b:=oq.mp h;rcases Cw i j with z|z|z
 ·exact absurd (q2.trans q4.symm) (b i j q1 q3 z)
 ·exact z
 ·exact absurd (q4.trans q2.symm) (b j i q3 q1 z)
section
variable{T:Tb}{μ μ':List Addr}{H H':Hp}{σ:db}
theorem SK{a:Type}(e:Ext μ H μ' H'){xs:List (a × D)}{ys:List (a × V)}(h:Paired (λ(p:a × D) (q:a × V)=>p.1=q.1/\Rep T μ H p.2 q.2) xs ys) :
  Paired (λ(p:a × D) (q:a × V)=>p.1=q.1/\Rep T μ' H' p.2 q.2) xs ys:=L2.Paired.Es h λp q z=>⟨z.1,Rep.mono e _ _ z.2⟩
theorem jq.mono(e:Ext μ H μ' H'){a:Addr}(d:H' a=H a):∀ {o:Ob},jq T μ H a o->jq T μ' H' a o
 | .lst ds,⟨b,h,r⟩=>⟨b,d.trans h,Wa.mono e _ _ r⟩
 | .Ya f,⟨b,h,r⟩=>⟨b,d.trans h,SK e r⟩
 | .ins c fs,⟨g,b,h,r⟩=>⟨g,b,d.trans h,SK e r⟩
 | .Kc f,⟨i,b,h,r⟩=>⟨i,b,d.trans h,SK e r⟩
 | .eg j,⟨b,h,r⟩=>⟨b,d.trans h,r⟩
theorem jq.some{a:Addr}:∀ {o:Ob},jq T μ H a o->∃ u,H a=Option.some u/\(∀ xs,u≠.tup xs)
 | .lst ds,⟨b,h,r⟩=>⟨_,h,(λ_ z=>by cases z)⟩
 | .Ya d,⟨b,h,r⟩=>⟨_,h,(λ_ z=>by cases z)⟩
 | .ins c fs,⟨e,b,h,r⟩=>⟨_,h,(λ_ z=>by cases z)⟩
 | .Kc d,⟨g,b,h,r⟩=>⟨_,h,(λ_ z=>by cases z)⟩
 | .eg f,⟨b,h,r⟩=>⟨_,h,(λ_ z=>by cases z)⟩
theorem jq.WD{a:Addr}:∀ {o:Ob},(∀ kvs,o≠.Kc kvs)->jq T μ H a o->∃ u,H a=Option.some u/\(∀ xs,u≠.tup xs)/\(∀ ob w,u≠.Za ob w)
 | .lst ds,_,⟨b,h,r⟩=>⟨_,h,(λ_ z=>by cases z),(λ_ _ z=>by cases z)⟩
 | .Ya kvs,_,⟨b,h,r⟩=>⟨_,h,(λ_ z=>by cases z),(λ_ _ z=>by cases z)⟩
 | .ins c fs,_,⟨d,b,h,r⟩=>⟨_,h,(λ_ z=>by cases z),(λ_ _ z=>by cases z)⟩
 | .Kc kvs,n,_=>absurd rfl (n kvs)
 | .eg e,_,⟨b,h,r⟩=>⟨_,h,(λ_ z=>by cases z),(λ_ _ z=>by cases z)⟩
theorem Rel.keep(r:Rel T μ H σ)(e:Ext μ H μ H')(k:∀ a∈μ,H' a=H a)(t:tt T μ H'):Rel T μ H' σ:=
 ⟨r.len,r.nd,λn o h=>let ⟨a,b,c⟩:=r.obs n o h;⟨a,b,c.mono e (k a (Ga b))⟩,t⟩
theorem Rel.mem(r:Rel T μ H σ){a:Addr}(h:a∈μ):∃ u,H a=some u/\(∀ xs,u≠.tup xs):=by
 obtain⟨n,hn⟩:=Ft h;have d:n<σ.length:=by rw[<-r.len];exact(ma.mp hn).1
 obtain⟨e,b,c⟩:=r.obs n σ[n] (by simp[d]);rw[hn]at b;cases b;exact c.some
theorem Om{p:Addr}{o:HO}(a:H p=none):Ext μ H μ (upd H p o):=
 ⟨⟨[],by simp⟩,λq xs h=>by rw[qe (Wp h a)];exact h,λq b u h=>by rw[qe (Wp h a)];exact h,λq b h n=>⟨⟨b,by rw[qe (Wp h a)];exact h,.inl rfl⟩,n⟩⟩
theorem Rel.fresh(r:Rel T μ H σ){p:Addr}{o:HO}(c:H p=none):Rel T μ (upd H p o) σ:=
 r.keep (Om c) (λa d=>by obtain⟨u,h,_⟩:=r.mem d;rw[qe (Wp h c)]) (r.tb.grow λb u h=>by rw[qe (Wp h c)];exact h)
theorem Uy{p:Addr}{o:HO}(a:H p=none):Ext μ H (μ++[p]) (upd H p o):=
 ⟨⟨[p],rfl⟩,(Om (μ:=μ) a).tup,(Om (μ:=μ) a).Za,λq b h n=>⟨((Om (μ:=μ) a).keep q b h n).1,λz=>(Ud.mp z).elim n λz=>Wp h a (by simpa using z)⟩⟩
theorem Rel.push(r:Rel T μ H σ){p:Addr}{o:HO}{ob:Ob}(c:H p=none)(l:jq T (μ++[p]) (upd H p o) p ob):Rel T (μ++[p]) (upd H p o) (σ++[ob]):=by
 refine⟨by simp[r.len],?_,λn x h=>?_,(r.tb.more c).grow λb u h=>by rw[qe (Wp h c)];exact h⟩
 ·rw[ui];refine⟨r.nd,by simp,λa k b hb e=>?_⟩;have g:b=p:=by simpa using hb
  subst g;subst e;obtain⟨u,h,_⟩:=r.mem k;rw[c]at h;cases h
 ·by_cases hn:n<σ.length
  ·rw[Ta hn]at h;obtain⟨a,j,d⟩:=r.obs n x h;obtain⟨u,m,_⟩:=d.some;exact⟨a,by rw[Ta (by rw[r.len];exact hn)];exact j,d.mono (Uy c) (qe (Wp m c))⟩
  ·rw[Tf (by omega)]at h;have f:n - σ.length=0:=by
    have:=(ma.mp h).1;simp at this;omega
   rw[f]at h;simp at h;subst h;have i:n=μ.length:=by rw[r.len];omega
   subst i;exact⟨p,by simp,l⟩
theorem QD{p:Addr}{o:HO}(r:Rel T μ H σ):Rep T (μ++[p]) (upd H p o) (.ref σ.length) (.ref p):=by
 rw[Rep];exact⟨p,rfl,by rw[<-r.len];simp⟩
theorem Mu{a:Addr}{u o:HO}(hm:a∈μ)(b:H a=some u)(c:∀ xs,u≠.tup xs)(d:∀ ob w,u≠.Za ob w):Ext μ H μ (upd H a o):=
 ⟨⟨[],by simp⟩,λq xs h=>by rw[qe (UI h b (λz=>c xs z.symm))];exact h,λq ob w h=>by rw[qe (UI h b (λz=>d ob w z.symm))];exact h,λq ob h n=>⟨⟨ob,by rw[qe (λz=>n (by rw[z];exact hm))];exact h,.inl rfl⟩,n⟩⟩
theorem Rel.write(r:Rel T μ H σ){n:Nat}{a:Addr}{o:HO}{ob:Ob}(hn:μ[n]?=some a)(j:jq T μ (upd H a o) a ob)(l:∀ kvs,σ[n]?≠some (.Kc kvs):=by intro kvs z;simp_all [ek]):Ext μ H μ (upd H a o)/\Rel T μ (upd H a o) (σ.set n ob):=by
 obtain⟨u,k,c,d⟩:∃ u,H a=some u/\(∀ xs,u≠.tup xs)/\(∀ ob w,u≠.Za ob w):=by
  have g:n<σ.length:=by rw[<-r.len];exact(ma.mp hn).1
  obtain⟨p,c,d⟩:=r.obs n σ[n] (by simp[g]);rw[hn]at c;cases c;exact d.WD λkvs z=>l kvs (by rw[Pd g,z])
 have e:Ext μ H μ (upd H a o):=Mu (Ga hn) k c d;refine⟨e,by simp[r.len],r.nd,λm x h=>?_,r.tb.out (λb hb=>qe hb) (.inl (Ga hn))⟩;rw[Cb]at h;by_cases hm:n=m
 ·subst hm;rw[ia rfl]at h;split at h
  ·cases h;exact⟨a,hn,j⟩
  ·cases h
 ·rw[ja hm]at h;obtain⟨b,f,i⟩:=r.obs m x h;refine⟨b,f,i.mono e (qe λz=>hm ?_)⟩;subst z;exact HF r.nd hn f
theorem Rel.at(r:Rel T μ H σ){n:Nat}{v:V}{o:Ob}(h:Rep T μ H (.ref n) v)(e:σ[n]?=some o):∃ a,v=.ref a/\μ[n]?=some a/\jq T μ H a o:=by
 rw[Rep]at h;obtain⟨a,rfl,c⟩:=h;obtain⟨f,b,d⟩:=r.obs n o e;rw[c]at b;cases b;exact⟨a,rfl,c,d⟩
end
noncomputable def ga(i:Nat):Ev->M D:=λa b=>match a[i]? with
 |some (some d)=>.ok d b
 |_=>.bad
noncomputable def eC(d:D):Ev->M D:=λ_=>ret d
noncomputable def NI(o:D->D->M D)(m:M D)(x:D):M D:=qd m (o x)
noncomputable def Qa(o:D->D->M D)(a b:Ev->M D):Ev->M D:=λc=>qd (a c) (NI o (b c))
noncomputable def Vc(o:D->M D)(a:Ev->M D):Ev->M D:=λb=>qd (a b) o
noncomputable def QA(d:D):M Bool:=match d with
 | .bl b=>ret b
 |_=>bad
noncomputable def dk{α:Type}(p q:M α)(c:Bool):M α:=if c=true then p else q
noncomputable def eJ(c:Bool):M Bool:=ret (!c)
noncomputable def Ly{α:Type}(k:Bool->M α)(d:D):M α:=qd (QA d) k
noncomputable def eT(f:Ev->M D):Ev->M Bool:=λa=>qd (f a) QA
noncomputable def rB(a b:Ev->M Bool):Ev->M Bool:=λc=>qd (a c) (dk (b c) (ret false))
noncomputable def Fv(a b:Ev->M Bool):Ev->M Bool:=λc=>qd (a c) (dk (ret true) (b c))
noncomputable def Il(a:Ev->M Bool):Ev->M Bool:=λb=>qd (a b) eJ
noncomputable def Mi(a b:Ev->M D):Ev->M D:=λc=>qd (a c) (Ly (dk (b c) (ret (.bl false))))
noncomputable def TK(a b:Ev->M D):Ev->M D:=λc=>qd (a c) (Ly (dk (ret (.bl true)) (b c)))
noncomputable def gJ(c:Bool):M D:=ret (.bl (!c))
noncomputable def gK(a:Ev->M D):Ev->M D:=λb=>qd (a b) (Ly gJ)
noncomputable def iA(t:Ev->M Bool)(a b:Ev->M D):Ev->M D:=λc=>qd (t c) (dk (a c) (b c))
noncomputable def Na:Ev->M (List D):=λ_=>ret []
noncomputable def zI(x:D)(xs:List D):M (List D):=ret (x::xs)
noncomputable def mI(m:M (List D))(x:D):M (List D):=qd m (zI x)
noncomputable def za(e:Ev->M D)(r:Ev->M (List D)):Ev->M (List D):=λa=>qd (e a) (mI (r a))
noncomputable def Lx(ds:List D):M D:=if ds.length<=li then ret (.tup ds)else bad
noncomputable def Li(a:Ev->M (List D)):Ev->M D:=λb=>qd (a b) Lx
noncomputable def XA(ds:List D):M D:=λa=>.ok (.ref a.length) (a++[.lst ds])
noncomputable def ZD(ds:List D):M D:=if ds.length<=li then XA ds else bad
noncomputable def Tz(a:Ev->M (List D)):Ev->M D:=λb=>qd (a b) ZD
noncomputable def gB(ds:List D):M D:=if ds.length<=li then ret (.lst ds)else bad
noncomputable def sy(a:Ev->M (List D)):Ev->M D:=λb=>qd (a b) gB
noncomputable def Nk(T:Tb)(r:R2)(o:D->D->M D):Prop:=∀ (E:XK) a H b x y v u Q,Rel T a H b->Rep T a H x v->Rep T a H y u->Ib T E (Rep T) a H (o x y b) Q->r v u H Q
noncomputable def Ct(T:Tb)(r:List V->Hp->VK->Prop)(o:List D->M D):Prop:=∀ (E:XK) a H c xs b Q,Rel T a H c->Wa T a H xs b->Ib T E (Rep T) a H (o xs c) Q->r b H Q
section
variable{T:Tb}{X:Cx}{a b c:Ja}{fa fb:Ev->M D}{ta tb:Ev->M Bool}{pos:Ye}
theorem ka(i:Nat){x:qa}(hN:X.N[i]?=some x:=by rfl)(l:MC X.env.scope x:=by first|exact Or.inl rfl|exact Or.inr (Or.inl rfl)|exact Or.inr (Or.inr rfl))(hd:(x == ("__debug__" : qa))=false:=by decide)
  (c:(x == ("__classdict__" : qa))=false:=by decide):FE T X (.Name x pos) (ga i):=by
 intro b s m H Q I h;obtain⟨p,n,q,j,k,a⟩:=h;refine nQ hN l hd c b s m H Q I ?_;unfold ga at a;cases e:n[i]? with
 |none=>rw[e]at a;exact a.elim
 |some o=>
  cases o with
  |none=>rw[e]at a;exact a.elim
  |some d=>
   rw[e]at a;obtain⟨v,f,g⟩:=j.2 i d e;exact⟨v,f,a.here k g⟩
theorem FB{e:Ja}{v:V}{d:D}(h:PE X e (tC v))(r:∀ μ H,Rep T μ H d v):FE T X e (eC d):=by
 intro a s g H Q I c;obtain⟨μ,j,k,i,f,b⟩:=c;exact h a s g H Q I (Ib.here b f (r _ _))
theorem xb{i:Int}{j}:FE T X (.Constant (.int i) j pos) (eC (.int i)):=FB C3 λ_ _=>by rw[Rep]
theorem Pt{i:Bool}{j}:FE T X (.Constant (.bool i) j pos) (eC (.bl i)):=FB i0 λ_ _=>by rw[Rep]
theorem nw{j}:FE T X (.Constant .none j pos) (eC .Jb):=FB hZ λ_ _=>by rw[Rep]
theorem ap{i:qa}{j}:FE T X (.Constant (.str i) j pos) (eC (.str i)):=FB G9 λ_ _=>by rw[Rep]
theorem Dt{x:qa}{u:Value}{i:Int}(a:Gl X x)(hm:X.mg x=some u)(r:Td (.int i) u)(hd:(x == ("__debug__" : qa))=false:=by decide):FE T X (.Name x pos) (eC (.int i)):=FB (kK a hm r hd) λ_ _=>by rw[Rep]
theorem two{r:R2}{o:D->D->M D}(n:Nk T r o){f:St}{H:Hp}{Q:VK}(h:tF T X (Qa o fa fb) f H Q):aD r (tF T X fa) (tF T X fb) f H Q:=by
 obtain⟨s,g,t,e,m,l⟩:=h;exact⟨s,g,t,e,m,l.bind λx c a v w _ j p p1 q1=>⟨a,g,c,e.mono j,p,q1.bind λy d b u i _ k q p2 q2=>n _ b i d x y v u Q q (Rep.mono k _ _ p1) p2 q2⟩⟩
theorem ef{op:yl}{r:R2}{o:D->D->M D}(e:Gi X (xf op) r)(f:Nk T r o)(d:FE T X a fa)(hb:FE T X b fb):FE T X (.BinOp a op b pos) (Qa o fa fb):=
 λc s g H Q I h=>v8 e d hb c s g H Q I (two f h)
theorem mo{op:Pq}{r:R2}{o:D->D->M D}(e:Gi X (dc op) r)(f:Nk T r o)(d:FE T X a fa)(hb:FE T X b fb)(hm:lf op b=false):FE T X (.Compare a [op] [b] pos) (Qa o fa fb):=
 λc s g H Q I h=>U1 e d hb hm c s g H Q I (two f h)
theorem me{r:R2}{o:D->D->M D}(e:mx X r)(g:Nk T r o)(d:FE T X a fa)(hb:FE T X b fb)(f:bM b):FE T X (.Subscript a b pos) (Qa o fa fb):=
 λc s i H Q I h=>V6 e d hb f c s i H Q I (two g h)
theorem hH{E:XK}{d:D}{σ:db}{μ:List Addr}{H:Hp}{v:V}{b e:Type}{a:List Addr->Hp->b->e->Prop}{k:Bool->M b}{Q:e->Hp->Prop}(r:Rep T μ H d v)(h:Ib T E a μ H (qd (QA d) k σ) Q):∃ c,d=.bl c/\v=.bl c/\Ib T E a μ H (k c σ) Q:=by
 cases d with
 |bl c=>rw[Rep]at r;exact⟨c,rfl,r,h⟩
 |_=>exact h.elim
theorem cS{E:XK}{d:D}{σ:db}{μ:List Addr}{H:Hp}{v:V}{Q:Bool->Hp->Prop}(r:Rep T μ H d v)(h:Ib T E yI μ H (QA d σ) Q):∃ c,v=.bl c/\Ib T E yI μ H (.ok c σ) Q:=by
 cases d with
 |bl c=>rw[Rep]at r;exact⟨c,r,h⟩
 |_=>exact h.elim
theorem si{op:Pq}{r:R2}{o:D->D->M D}(i:Gi X (dc op) r)(m:Nk T r o)(f:FE T X a fa)(hb:FE T X b fb)(hm:lf op b=false):FT T X (.Compare a [op] [b] pos) (eT (Qa o fa fb)):=by
 intro c s p H Q I h;refine L3 i f hb hm c s p H Q I ?_;refine two (o:=o) m ?_;obtain⟨t,w,x,g,l,j⟩:=h;refine⟨t,w,x,g,l,j.bind λd y u v z _ A n p1 q1=>?_⟩;obtain⟨k,e,q⟩:=cS p1 q1;exact⟨k,e,q.here n rfl⟩
theorem Qk{e:Ja}{f:Ev->M D}(h:FE T X e f)(i:∀ a,CA e X.env a=(do let v <-a;hj e.pos;Ie [v] (truthy v)):=by intro _;rfl):FT T X e (eT f):=by
 intro b s o H Q I m;refine OY h i b s o H Q I ?_;obtain⟨p,t,u,g,l,j⟩:=m;refine⟨p,t,u,g,l,j.bind λd w r v x _ y n p1 q1=>?_⟩;obtain⟨k,c,q⟩:=cS p1 q1;exact⟨k,c,q.here n rfl⟩
theorem Dm(h:FT T X a ta):FT T X (.UnaryOp .Not a pos) (Il ta):=by
 intro b s j H Q I g;refine Q6 h b s j H Q I ?_;obtain⟨k,m,n,d,f,e⟩:=g;exact⟨k,m,n,d,f,e.bind λc o l v p _ q i p1 q1=>by cases p1;exact q1.here i rfl⟩
variable{vf:List Ja}
theorem UF(h:FT T X a ta):FW T X (.BoolOp .And [a] pos) ta:=yX h
theorem Fy(h:FT T X a ta):FW T X (.BoolOp .Or [a] pos) ta:=ym3 h
theorem wG(h:FT T X a ta)(hb:FW T X (.BoolOp .And (b::vf) pos) tb):FW T X (.BoolOp .And (a::b::vf) pos) (rB ta tb):=by
 intro p d s o H Q I n;refine PV h hb p d s o H Q I ?_;obtain⟨q,j,r,g,m,l⟩:=n;refine⟨q,j,r,g,m,l.bind λc f e v t _ k i p1 q1=>?_⟩;cases p1;cases c with
 |true=>unfold dk at q1;rw[ia rfl]at q1 ⊢;exact⟨e,j,f,g.mono k,i,q1⟩
 |false=>unfold dk at q1;rw[ja Xa]at q1 ⊢;exact q1.here i rfl
theorem vx(h:FT T X a ta)(hb:FW T X (.BoolOp .Or (b::vf) pos) tb):FW T X (.BoolOp .Or (a::b::vf) pos) (Fv ta tb):=by
 intro p d s o H Q I n;refine ysm h hb p d s o H Q I ?_;obtain⟨q,j,r,g,m,l⟩:=n;refine⟨q,j,r,g,m,l.bind λc f e v t _ k i p1 q1=>?_⟩;cases p1;cases c with
 |true=>unfold dk at q1;rw[ia rfl]at q1 ⊢;exact q1.here i rfl
 |false=>unfold dk at q1;rw[ja Xa]at q1 ⊢;exact⟨e,j,f,g.mono k,i,q1⟩
theorem dq{op}(h:FE T X a fa):FE T X (.BoolOp op [a] pos) fa:=DY h
theorem fj(h:FE T X a fa)(hb:FE T X (.BoolOp .And (b::vf) pos) fb):FE T X (.BoolOp .And (a::b::vf) pos) (Mi fa fb):=by
 intro e s r H Q I p;refine r8 h hb e s r H Q I ?_;obtain⟨t,k,u,i,o,n⟩:=p;refine⟨t,k,u,i,o,n.bind λd g f v w _ l j p1 q1=>?_⟩;obtain⟨c,rfl,m,q⟩:=hH p1 q1;refine⟨c,m,?_⟩;cases c with
 |true=>unfold dk at q;rw[ia rfl]at q ⊢;exact⟨f,k,g,i.mono l,j,q⟩
 |false=>unfold dk at q;rw[ja Xa]at q ⊢;exact Ib.here q j (by rw[Rep])
theorem RV(h:FE T X a fa)(hb:FE T X (.BoolOp .Or (b::vf) pos) fb):FE T X (.BoolOp .Or (a::b::vf) pos) (TK fa fb):=by
 intro e s r H Q I p;refine ysg h hb e s r H Q I ?_;obtain⟨t,k,u,i,o,n⟩:=p;refine⟨t,k,u,i,o,n.bind λd g f v w _ l j p1 q1=>?_⟩;obtain⟨c,rfl,m,q⟩:=hH p1 q1;refine⟨c,m,?_⟩;cases c with
 |true=>unfold dk at q;rw[ia rfl]at q ⊢;exact Ib.here q j (by rw[Rep])
 |false=>unfold dk at q;rw[ja Xa]at q ⊢;exact⟨f,k,g,i.mono l,j,q⟩
theorem ZU(h:FE T X a fa):FE T X (.UnaryOp .Not a pos) (gK fa):=by
 intro b s l H Q I j;refine m7 h b s l H Q I ?_;obtain⟨m,o,p,f,i,g⟩:=j;refine⟨m,o,p,f,i,g.bind λd r n v t _ u k p1 q1=>?_⟩;obtain⟨c,rfl,e,q⟩:=hH p1 q1;exact⟨c,e,Ib.here q k (by rw[Rep])⟩
theorem RF(m:FT T X c ta)(l:FE T X a fa)(hb:FE T X b fb):FE T X (.IfExp c a b pos) (iA ta fa fb):=by
 intro e s q H Q I p;refine zZ m l hb e s q H Q I ?_;obtain⟨r,i,t,h,o,n⟩:=p;refine⟨r,i,t,h,o,n.bind λd g f v u _ j k p1 q1=>?_⟩;cases p1;cases d with
 |true=>unfold dk at q1;rw[ia rfl]at q1 ⊢;exact⟨f,i,g,h.mono j,k,q1⟩
 |false=>unfold dk at q1;rw[ja Xa]at q1 ⊢;exact⟨f,i,g,h.mono j,k,q1⟩
variable{e:Ja}{es:List Ja}{fe:Ev->M D}{fs:Ev->M (List D)}
theorem qb:FA T X [] Na:=by
 intro pos a s e H Q I d;refine Yw pos a s e H Q I ?_;obtain⟨g,h,i,f,c,b⟩:=d;exact Ib.here b c Wa.nil
theorem Ca(k:FE T X e fe)(b:FA T X es fs)(m:pa (e::es) X.env=(false,Nb e X.env)::pa es X.env:=by rfl):FA T X (e::es) (za fe fs):=by
 intro pos a s q H Q I n;refine Iv k b m pos a s q H Q I ?_;obtain⟨r,h,u,g,b,l⟩:=n;exact⟨r,h,u,g,b,l.bind λd f c v x _ i o p1 q1=>⟨c,h,f,g.mono i,o,q1.bind λz w t A y _ j p p2 q2=>Ib.here q2 p (Wa.cons (Rep.mono j _ _ p1) p2)⟩⟩
theorem bB{E:XK}{μ:List Addr}{H:Hp}{σ:db}{ds:List D}{vs:List V}{Q:VK}{p:Addr}(h:Ib T E (Rep T) μ H (.ok (.tup ds) σ) Q)(r:Rel T μ H σ)(q:Wa T μ H ds vs)(a:H p=none):Q (.ref p) (upd H p (.tup vs)):=
 h μ (.ref p) _ (Om a) (r.fresh a) (by rw[Rep];exact⟨p,vs,rfl,kh,Wa.mono (Om a) _ _ q⟩)
theorem vD{E:XK}{μ:List Addr}{H:Hp}{σ:db}{ds:List D}{vs:List V}{Q:VK}{p:Addr}(h:Ib T E (Rep T) μ H (XA ds σ) Q)(r:Rel T μ H σ)(q:Wa T μ H ds vs)(a:H p=none):Q (.ref p) (upd H p (.lst vs)):=
 h (μ++[p]) (.ref p) _ (Uy a) (r.push a ⟨vs,kh,Wa.mono (Uy a) _ _ q⟩) (QD r)
theorem tj{x1}(h:FA T X es fs):FE T X (.Tuple es x1 pos) (Li fs):=by
 intro a s j H Q I g;refine X6 h a s j H Q I ?_;obtain⟨k,m,n,e,f,c⟩:=g;refine⟨k,m,n,e,f,c.bind λd o l t q _ r i p1 q1=>?_⟩;unfold Lx at q1;by_cases b:d.length<=li
 ·rw[ia b]at q1;exact⟨by rw[<-p1.length];exact wz b,λp c=>bB q1 i p1 c⟩
 ·rw[ja b]at q1;exact q1.elim
theorem wD(h:FA T X es fs):FE T X (.List es pos) (Tz fs):=by
 intro a s j H Q I g;refine MR h a s j H Q I ?_;obtain⟨k,m,n,e,f,c⟩:=g;refine⟨k,m,n,e,f,c.bind λd o l t q _ r i p1 q1=>?_⟩;unfold ZD at q1;by_cases b:d.length<=li
 ·rw[ia b]at q1;exact⟨by rw[<-p1.length];exact wz b,λp c=>vD q1 i p1 c⟩
 ·rw[ja b]at q1;exact q1.elim
theorem UE{E:XK}{μ:List Addr}{H:Hp}{σ:db}{ds:List D}{vs:List V}{Q:VK}{p:Addr}(h:Ib T E (Rep T) μ H (.ok (.lst ds) σ) Q)(r:Rel T μ H σ)(q:Wa T μ H ds vs)(a:H p=none):Q (.ref p) (upd H p (.lst vs)):=
 h μ (.ref p) _ (Om a) (r.fresh a) (by rw[Rep];exact⟨p,vs,rfl,λhm=>(by obtain⟨u,b,_⟩:=r.mem hm;rw[a]at b;cases b),kh,Wa.mono (Om a) _ _ q⟩)
theorem JA(h:FA T X es fs):FE T X (.List es pos) (sy fs):=by
 intro a s j H Q I g;refine MR h a s j H Q I ?_;obtain⟨k,m,n,e,f,c⟩:=g;refine⟨k,m,n,e,f,c.bind λd o l t q _ r i p1 q1=>?_⟩;unfold gB at q1;by_cases b:d.length<=li
 ·rw[ia b]at q1;exact⟨by rw[<-p1.length];exact wz b,λp c=>UE q1 i p1 c⟩
 ·rw[ja b]at q1;exact q1.elim
end
noncomputable def oI(g:Int->Int->Int):D->D->M D
 | .int i,.int j=>ret (.int (g i j))
 |_,_=>bad
noncomputable def oB(g:Int->Int->Bool):D->D->M D
 | .int i,.int j=>ret (.bl (g i j))
 |_,_=>bad
noncomputable def By(C:Int->Int->Bool)(g:Int->Int->Int):D->D->M D
 | .int i,.int j=>if C i j=true then ret (.int (g i j))else bad
 |_,_=>bad
noncomputable def LC(i j:Int):Bool:=hide ((decide (-(2 ^ 64)<i) && decide (i<2 ^ 64)) || (decide (-(2 ^ 64)<j) && decide (j<2 ^ 64)))
noncomputable def OK(_ j:Int):Bool:=hide (decide (0<j) && decide (j<1073741824))
noncomputable def WH(_ j:Int):Bool:=hide (decide (0<j))
noncomputable def kx(i j:Int):Bool:=hide (decide (0<=j) && decide (j<=1000000) && decide (i.natAbs<2 ^ 64))
noncomputable abbrev Bq:=oI (λi j=>i - j)
noncomputable abbrev CF:=By LC (λi j=>i * j)
noncomputable abbrev rs:=By OK (λi j=>i / j)
noncomputable abbrev zo:=By WH (λi j=>i % j)
noncomputable abbrev Fu:=By kx (λi j=>i ^ j.toNat)
noncomputable abbrev oLt:=oB (λi j=>decide (i<j))
noncomputable abbrev oLe:=oB (λi j=>decide (i<=j))
noncomputable abbrev vG:=oB (λi j=>decide (j<i))
noncomputable abbrev Gy:=oB (λi j=>decide (j<=i))
noncomputable def rD(T:Tb)(o:D->D->M D):R2:=λv u H Q=>∃ (E:XK) (a:List Addr) (σ:db) (x y:D),Rel T a H σ/\Rep T a H x v/\Rep T a H y u/\Ib T E (Rep T) a H (o x y σ) Q
theorem jg{T:Tb}{o:D->D->M D}:Nk T (rD T o) o:=λE a H b x y v u Q r p q h=>⟨E,a,b,x,y,r,p,q,h⟩
section
variable{T:Tb}{X:Cx}
theorem Cq{μ:List Addr}{H:Hp}{i:Int}{v:V}(h:Rep T μ H (.int i) v):v=.int i:=by simpa [Rep]using h
theorem l3{g:Int->Int->Int}:Nk T (Zr λi j=>.int (g i j)) (oI g):=by
 intro E a H b x y v u Q r p q h;cases x with
 |int i=>
  cases y with
  |int j=>exact⟨i,j,Cq p,Cq q,Ib.here h r (by rw[Rep])⟩
  |_=>exact h.elim
 |_=>exact h.elim
theorem NE{g:Int->Int->Bool}:Nk T (Zr λi j=>.bl (g i j)) (oB g):=by
 intro E a H b x y v u Q r p q h;cases x with
 |int i=>
  cases y with
  |int j=>exact⟨i,j,Cq p,Cq q,Ib.here h r (by rw[Rep])⟩
  |_=>exact h.elim
 |_=>exact h.elim
theorem YG{C:Int->Int->Bool}{b:Int->Int->Prop}{g:Int->Int->Int}(d:∀ i j,C i j=true->b i j):Nk T (rI b λi j=>.int (g i j)) (By C g):=by
 intro E f H k x y v u Q r p q h;cases x with
 |int i=>
  cases y with
  |int j=>
   by_cases a:C i j=true
   ·have c:Ib T E (Rep T) f H (ret (.int (g i j)) k) Q:=by
     have e:By C g (.int i) (.int j)=ret (.int (g i j)):=by show (if C i j=true then _ else _)=_;rw[ia a]
     rw[e]at h;exact h
    exact⟨i,j,Cq p,Cq q,d i j a,Ib.here c r (by rw[Rep])⟩
   ·have e:By C g (.int i) (.int j)=bad:=by show (if C i j=true then _ else _)=_;rw[ja a]
    rw[e]at h;exact h.elim
  |_=>exact h.elim
 |_=>exact h.elim
theorem jt:Nk T (Zr λi j=>.int (i - j)) Bq:=l3
theorem nN:Nk T (rI MF λi j=>.int (i * j)) CF:=YG λi j h=>by
 simp only[LC,Ul,zg,Fa,Lb]at h;exact h
theorem Pu:Nk T (rI YO λi j=>.int (i / j)) rs:=YG λi j h=>by
 simp only[OK,Ul,Fa,Lb]at h;exact h
theorem yq:Nk T (rI (λ_ j=>0<j) λi j=>.int (i % j)) zo:=YG λi j h=>by
 simp only[WH,Ul,Lb]at h;exact h
theorem OG:Nk T (rI IP λi j=>.int (i ^ j.toNat)) Fu:=YG λi j h=>by
 simp only[kx,Ul,Fa,Lb]at h;exact⟨h.1.1,h.1.2,h.2⟩
theorem GB:Nk T (Zr λi j=>.bl (decide (i<j))) oLt:=NE
theorem pO:Nk T (Zr λi j=>.bl (decide (i<=j))) oLe:=NE
theorem PK:Nk T (Zr λi j=>.bl (decide (j<i))) vG:=NE
theorem nF:Nk T (Zr λi j=>.bl (decide (j<=i))) Gy:=NE
end
noncomputable def sc:D->Option V
 | .Jb=>some .Jb
 | .bl b=>some (.bl b)
 | .int i=>some (.int i)
 | .str x=>some (.str x)
 |_=>none
noncomputable def ek(σ:db)(n:Nat):Option (List D):=match σ[n]? with
 |some (.lst xs)=>some xs
 |_=>none
theorem WX{σ:db}{n:Nat}{xs:List D}(h:ek σ n=some xs):σ[n]?=some (.lst xs):=by
 unfold ek at h;cases e:σ[n]? with
 |none=>rw[e]at h;cases h
 |some o=>rw[e]at h;cases o<;>simp at h;subst h;rfl
inductive Kd where
 |s (v:V)|t (xs:List D)|l (xs:List D)|o
noncomputable def kd(σ:db):D->Kd
 | .Jb=>.s .Jb
 | .bl b=>.s (.bl b)
 | .int i=>.s (.int i)
 | .str x=>.s (.str x)
 | .tup xs=>.t xs
 | .lst xs=>.l xs
 | .ref n=>match ek σ n with
  |some xs=>.l xs
  |none=>.o
 |_=>.o
noncomputable def Dp(f:D->D->Option Bool):List D->List D->Option Bool
 |[],[]=>some true
 |[],_::_=>some false
 |_::_,[]=>some false
 |x::xs,y::a=>match f x y,Dp f xs a with
  |some b,some c=>some (b && c)
  |_,_=>none
noncomputable def Ar(f:D->D->Option Bool):Kd->Kd->Option Bool
 | .s a,.s b=>some (Yk a b)
 | .t xs,.t c=>Dp f xs c
 | .l xs,.l c=>Dp f xs c
 | .s _,.t _=>some false
 | .t _,.s _=>some false
 | .s _,.l _=>some false
 | .l _,.s _=>some false
 | .t _,.l _=>some false
 | .l _,.t _=>some false
 |_,_=>none
noncomputable def qm(σ:db):Nat->D->D->Option Bool
 |0,x,y=>Ar (λ_ _=>none) (kd σ x) (kd σ y)
 |n+1,x,y=>Ar (qm σ n) (kd σ x) (kd σ y)
noncomputable def mu(f:D->D->Option Bool)(xs ys:List D)(j:Nat):Bool:=match xs[j]?,ys[j]? with
 |some a,some b=>(f a b).getD false
 |_,_=>false
theorem tR(f:D->D->Option Bool):∀ (xs ys:List D) (b:Bool),Dp f xs ys=some b->
  (∀ (j:Nat) (a c:D),xs[j]?=some a->ys[j]?=some c->∃ k,f a c=some k)/\b=((List.range (min xs.length ys.length)).all (mu f xs ys) && xs.length == ys.length)
 |[],[],b,h=>by simp[Dp]at h;subst h;simp
 |[],y::ys,b,h=>by simp[Dp]at h;subst h;simp
 |x::xs,[],b,h=>by simp[Dp]at h;subst h;simp
 |x::xs,y::ys,b,h=>by
  unfold Dp at h;cases d:f x y with
  |none=>rw[d]at h;cases h
  |some b1=>
   cases e:Dp f xs ys with
   |none=>rw[d,e]at h;cases h
   |some l=>
    rw[d,e]at h;cases h;obtain⟨r,s⟩:=tR f xs ys l e;refine⟨λj a c g i=>?_,?_⟩
    ·cases j with
     |zero=>simp at g i;subst g;subst i;exact⟨b1,d⟩
     |succ j=>exact r j a c (by simpa using g) (by simpa using i)
    ·have m:min (x::xs).length (y::ys).length=min xs.length ys.length+1:=by simp[Nat.succ_min_succ]
     have n:∀ j,mu f (x::xs) (y::ys) (j+1)=mu f xs ys j:=λj=>by simp[mu]
     have o:mu f (x::xs) (y::ys) 0=b1:=by simp[mu,d]
     rw[m,Qr,sg,Rr,o,s];have p:(mu f (x::xs) (y::ys) ∘ Nat.succ)=mu f xs ys:=funext λj=>n j;have q:((x::xs).length == (y::ys).length)=(xs.length == ys.length):=by simp
     rw[p,q,Bool.and_assoc]
section
variable{T:Tb}{μ:List Addr}{H:Hp}{σ:db}
theorem Rel.lst(r:Rel T μ H σ){n:Nat}{v:V}{xs:List D}(h:Rep T μ H (.ref n) v)(e:ek σ n=some xs):∃ a vs,v=.ref a/\μ[n]?=some a/\H a=some (.lst vs)/\Wa T μ H xs vs:=by
 obtain⟨a,rfl,b,vs,c,d⟩:=r.at h (WX e);exact⟨a,vs,rfl,b,c,d⟩
theorem iF{d:D}{v a:V}(h:Rep T μ H d v)(e:sc d=some a):v=a:=by
 cases d<;>simp[sc]at e<;>subst e<;>simpa [Rep]using h
theorem rN{d:D}{a:V}(e:sc d=some a):qj a=true:=by
 cases d<;>simp[sc]at e<;>subst e<;>rfl
theorem C4{a:V}(h:qj a=true):Yk a a=true:=by cases a<;>simp[qj,Yk]at h ⊢
theorem Vy(r:Rel T μ H σ){d:D}{v:V}(h:Rep T μ H d v):match kd σ d with
  | .s a=>v=a/\qj a=true
  | .t xs=>∃ p c,v=.ref p/\H p=some (.tup c)/\Wa T μ H xs c
  | .l xs=>∃ p c,v=.ref p/\H p=some (.lst c)/\Wa T μ H xs c
  | .o=>True:=by
 cases d with
 |Jb=>exact⟨by simpa [Rep]using h,rfl⟩
 |bl b=>exact⟨by simpa [Rep]using h,rfl⟩
 |int b=>exact⟨by simpa [Rep]using h,rfl⟩
 |str b=>exact⟨by simpa [Rep]using h,rfl⟩
 |tup xs=>rw[Rep]at h;exact h
 |lst xs=>rw[Rep]at h;obtain⟨a,c,f,_,g,i⟩:=h;exact⟨a,c,f,g,i⟩
 |ref n=>
  unfold kd;dsimp only;cases e:ek σ n with
  |none=>trivial
  |some xs=>obtain⟨a,c,f,_,g,i⟩:=r.lst h e;exact⟨a,c,f,g,i⟩
 |_=>trivial
theorem CI{f:D->D->Option Bool}(g:∀ (x y:D) (v:V) (b:Bool),Rep T μ H x v->Rep T μ H y v->f x y=some b->b=true):∀ (xs ys:List D) (vs:List V) (b:Bool),Wa T μ H xs vs->Wa T μ H ys vs->Dp f xs ys=some b->b=true
 |[],ys,vs,b,c,a,h=>by
  rw[Wa]at c;subst c;cases ys with
  |nil=>simp[Dp]at h;exact h
  |cons y ys=>rw[Wa]at a;obtain⟨_,_,z,_⟩:=a;cases z
 |x::xs,ys,vs,b,c,a,h=>by
  rw[Wa]at c;obtain⟨v,r,rfl,p1,q1⟩:=c;cases ys with
  |nil=>rw[Wa]at a;cases a
  |cons y ys=>
   rw[Wa]at a;obtain⟨l,k,z,p2,q2⟩:=a;cases z;unfold Dp at h;cases d:f x y with
   |none=>rw[d]at h;cases h
   |some i=>
    cases e:Dp f xs ys with
    |none=>rw[d,e]at h;cases h
    |some j=>
     rw[d,e]at h;cases h;rw[g x y v i p1 p2 d,CI g xs ys r j q1 q2 e];rfl
theorem yJ(r:Rel T μ H σ){f:D->D->Option Bool}(B:∀ (x y:D) (v:V) (b:Bool),Rep T μ H x v->Rep T μ H y v->f x y=some b->b=true){x y:D}{v:V}{b:Bool}(C:Rep T μ H x v)(E:Rep T μ H y v)(h:Ar f (kd σ x) (kd σ y)=some b):b=true:=by
 have u:=Vy r C;have g:=Vy r E;generalize kd σ x=F at h u;generalize kd σ y=w at h g;cases F with
 |s a=>
  obtain⟨rfl,i⟩:=u;cases w with
  |s c=>obtain⟨rfl,_⟩:=g;cases h;exact C4 i
  |t xs=>obtain⟨p,m,rfl,_⟩:=g;simp[qj]at i
  |l xs=>obtain⟨p,m,rfl,_⟩:=g;simp[qj]at i
  |o=>cases h
 |t xs=>
  obtain⟨p,m,rfl,j,z⟩:=u;cases w with
  |s c=>obtain⟨e,i⟩:=g;rw[<-e]at i;simp[qj]at i
  |t n=>
   obtain⟨q,A,e,d,k⟩:=g;cases e;rw[j]at d;cases d;exact CI B xs n m b z k h
  |l n=>obtain⟨q,A,e,d,k⟩:=g;cases e;rw[j]at d;cases d
  |o=>cases h
 |l xs=>
  obtain⟨p,m,rfl,j,z⟩:=u;cases w with
  |s c=>obtain⟨e,i⟩:=g;rw[<-e]at i;simp[qj]at i
  |t n=>obtain⟨q,A,e,d,k⟩:=g;cases e;rw[j]at d;cases d
  |l n=>
   obtain⟨q,A,e,d,k⟩:=g;cases e;rw[j]at d;cases d;exact CI B xs n m b z k h
  |o=>cases h
 |o=>cases h
theorem QM(r:Rel T μ H σ):∀ (n:Nat) (x y:D) (v:V) (b:Bool),Rep T μ H x v->Rep T μ H y v->qm σ n x y=some b->b=true
 |0,x,y,v,b,a,c,h=>yJ r (λ_ _ _ _ _ _ z=>by cases z) a c h
 |n+1,x,y,v,b,a,c,h=>yJ r (λx y v b d e f=>QM r n x y v b d e f) a c h
end
section
variable{T:Tb}{X:Cx}{pins:List (Addr × Obj)}{st:St}{μ:List Addr}{H:Hp}{s:Shared}{σ:db}
theorem XG{A:Ia}{a:V}{u:Value}{p:Addr}{its:Array Value}(e:qj a=true)(r:Td a u)(c:s.heap.IsTuple p its)(d:A.units<cLine):Oe A s u (.ref p) false/\Oe A s (.ref p) u false/\aj A s u (.ref p) false/\aj A s (.ref p) u false/\Jh A s u (.ref p) true/\Jh A s (.ref p) u true:=by
 cases a with
 |Jb=>cases r;exact⟨.none_tuple c d,.tuple_none c d,.none_tuple c d,.tuple_none c d,.none_tuple c d,.tuple_none c d⟩
 |bl b=>cases r;exact⟨.bool_tuple b c d,.tuple_bool b c d,.bool_tuple b c d,.tuple_bool b c d,.bool_tuple b c d,.tuple_bool b c d⟩
 |int b=>obtain⟨t,rfl⟩:=r;exact⟨.int_tuple b t c d,.tuple_int b t c d,.int_tuple b t c d,.tuple_int b t c d,.int_tuple b t c d,.tuple_int b t c d⟩
 |str b=>obtain⟨t,rfl⟩:=r;exact⟨.str_tuple b t c d,.tuple_str b t c d,.str_tuple b t c d,.tuple_str b t c d,.str_tuple b t c d,.tuple_str b t c d⟩
 |_=>simp[qj]at e
theorem oN{A:Ia}{a:V}{u:Value}{p:Addr}{its:Array Value}(e:qj a=true)(r:Td a u)(c:s.heap.IsList p its)(d:A.units<cLine):aj A s u (.ref p) false/\aj A s (.ref p) u false/\Jh A s u (.ref p) true/\Jh A s (.ref p) u true:=by
 cases a with
 |Jb=>cases r;exact⟨.none_list c d,.list_none c d,.none_list c d,.list_none c d⟩
 |bl b=>cases r;exact⟨.bool_list b c d,.list_bool b c d,.bool_list b c d,.list_bool b c d⟩
 |int b=>obtain⟨t,rfl⟩:=r;exact⟨.int_list b t c d,.list_int b t c d,.int_list b t c d,.list_int b t c d⟩
 |str b=>obtain⟨t,rfl⟩:=r;exact⟨.str_list b t c d,.list_str b t c d,.str_list b t c d,.list_str b t c d⟩
 |_=>simp[qj]at e
theorem gW{A:Ia}{a:V}{u:Value}{p:Addr}{its:Array Value}(e:qj a=true)(r:Td a u)(c:s.heap.IsList p its)(d:A.units<cLine):Oe A s u (.ref p) false:=by
 cases a with
 |Jb=>cases r;exact .none_list c d
 |bl b=>cases r;exact .bool_list b c d
 |int b=>obtain⟨t,rfl⟩:=r;exact .int_list b t c d
 |str b=>obtain⟨t,rfl⟩:=r;exact .str_list b t c d
 |_=>simp[qj]at e
theorem W8{A:Ia}{a:V}{u:Value}{p:Addr}{its:Array Value}(e:qj a=true)(r:Td a u)(c:s.heap.IsList p its)(d:A.units<cLine):Oe A s (.ref p) u false:=by
 cases a with
 |Jb=>cases r;exact .list_none c d
 |bl b=>cases r;exact .list_bool b c d
 |int b=>obtain⟨t,rfl⟩:=r;exact .list_int b t c d
 |str b=>obtain⟨t,rfl⟩:=r;exact .list_str b t c d
 |_=>simp[qj]at e
theorem O9{A:Ia}{a b:V}{u w:Value}(f:Td a u)(d:Td b w)(g:qj a=true)(e:qj b=true):aj A s u w (Yk a b)/\Jh A s u w (!Yk a b):=by
 cases a with
 |Jb=>
  cases f;cases b with
  |Jb=>cases d;exact⟨.none_none,.none_none⟩
  |bl y=>cases d;exact⟨.none_bool y,.none_bool y⟩
  |int y=>obtain⟨t,rfl⟩:=d;exact⟨.none_int y t,.none_int y t⟩
  |str y=>obtain⟨t,rfl⟩:=d;exact⟨.none_str y t,.none_str y t⟩
  |_=>simp[qj]at e
 |bl x=>
  cases f;cases b with
  |Jb=>cases d;exact⟨.bool_none x,.bool_none x⟩
  |bl y=>cases d;exact⟨.bool_bool x y,.bool_bool x y⟩
  |int y=>obtain⟨t,rfl⟩:=d;exact⟨.bool_int x y t,.bool_int x y t⟩
  |str y=>obtain⟨t,rfl⟩:=d;exact⟨.bool_str x y t,.bool_str x y t⟩
  |_=>simp[qj]at e
 |int x=>
  obtain⟨c,rfl⟩:=f;cases b with
  |Jb=>cases d;exact⟨.int_none x c,.int_none x c⟩
  |bl y=>cases d;exact⟨.int_bool x c y,.int_bool x c y⟩
  |int y=>obtain⟨t,rfl⟩:=d;exact⟨.int_int x c y t,.int_int x c y t⟩
  |str y=>obtain⟨t,rfl⟩:=d;exact⟨.int_str x c y t,.int_str x c y t⟩
  |_=>simp[qj]at e
 |str x=>
  obtain⟨c,rfl⟩:=f;cases b with
  |Jb=>cases d;exact⟨.str_none x c,.str_none x c⟩
  |bl y=>cases d;exact⟨.str_bool x c y,.str_bool x c y⟩
  |int y=>obtain⟨t,rfl⟩:=d;exact⟨.str_int x c y t,.str_int x c y t⟩
  |str y=>obtain⟨t,rfl⟩:=d;exact⟨.str_str x c y t,.str_str x c y t⟩
  |_=>simp[qj]at e
 |_=>simp[qj]at g
theorem rJ{xs:List V}{us:List Value}{i:Nat}{u:Value}(r:re xs us)(h:us[i]?=some u):∃ x,xs[i]?=some x/\Td x u:=by
 have d:=r.length;have c:=(ma.mp h).1;obtain⟨e,a,b⟩:=r.get (i:=i) (x:=xs[i]'(by omega)) (by simp);rw[h]at a;cases a;exact⟨_,by simp,b⟩
theorem rQ{ds:List D}{vs:List V}{i:Nat}{v:V}(r:Wa T μ H ds vs)(h:vs[i]?=some v):∃ d,ds[i]?=some d/\Rep T μ H d v:=by
 have e:=r.length;have c:=(ma.mp h).1;obtain⟨f,a,b⟩:=r.get (i:=i) (d:=ds[i]'(by omega)) (by simp);rw[h]at a;cases a;exact⟨_,by simp,b⟩
theorem CS{A:Ia}{f:D->D->Option Bool}(t:∀ (x y:D) (v w:V) (n o:Value) (b:Bool),Rep T μ H x v->Rep T μ H y w->Td v n->Td w o->f x y=some b->Oe A s n o b)
  {xs ys:List D} {vs ws:List V} {us a:List Value} {b:Bool} (r1:Wa T μ H xs vs) (r2:Wa T μ H ys ws) (q1:re vs us) (q2:re ws a) (h:Dp f xs ys=some b) :
  (∀ j (l:j<us.toArray.size) (m:j<a.toArray.size),Oe A s us.toArray[j] a.toArray[j] (mu f xs ys j))/\b=((List.range (min us.toArray.size a.toArray.size)).all (mu f xs ys) && us.toArray.size == a.toArray.size):=by
 obtain⟨l,m⟩:=tR f xs ys b h;have z:=r1.length;have B:=r2.length;have C:=q1.length;have E:=q2.length;refine⟨λj G g2=>?_,?_⟩
 ·obtain⟨v,p,F⟩:=rJ (i:=j) (u:=us.toArray[j]) q1 (by simp);obtain⟨w,q,c⟩:=rJ (i:=j) (u:=a.toArray[j]) q2 (by simp);obtain⟨x,d,p3⟩:=rQ r1 p;obtain⟨y,e,p4⟩:=rQ r2 q;obtain⟨k,g⟩:=l j x y d e;have r:mu f xs ys j=k:=by simp[mu,d,e,g]
  rw[r];exact t x y v w _ _ k p3 p4 F c g
 ·simp only[wa];rw[m,z,B,C,E]
noncomputable abbrev PR(A:Ia)(s:Shared)(v w:Value)(b:Bool):Prop:=aj A s v w b/\Jh A s v w (!b)
theorem CH{A:Ia}(I:Inv X pins st H s)(r:Rel T μ H σ)(hu:A.units+1<cLine){f:D->D->Option Bool}
  (hf:∀ (x y:D) (v w:V) (P Q:Value) (b:Bool),Rep T μ H x v->Rep T μ H y w->Td v P->Td w Q->f x y=some b->Oe A.in1 s P Q b)
  {x y:D} {v w:V} {P Q:Value} {b:Bool} (hx:Rep T μ H x v) (hy:Rep T μ H y w) (O:Td v P) (d:Td w Q) (h:Ar f (kd σ x) (kd σ y)=some b):PR A s P Q b:=by
 have g:A.units<cLine:=by omega
 have S:=Vy r hx;have m:=Vy r hy;generalize kd σ x=k1 at h S;generalize kd σ y=Y at h m;cases k1 with
 |o=>cases h
 |s a=>
  obtain⟨rfl,U⟩:=S;cases Y with
  |o=>cases h
  |s c=>obtain⟨rfl,L⟩:=m;cases h;exact O9 O d U L
  |t C=>
   obtain⟨q,R,rfl,j,z⟩:=m;cases h;cases d;obtain⟨k,_,u,_⟩:=L2.Inv.tuple I (Wh.of (K:=X.K) j);obtain⟨_,_,E,F,G,J⟩:=XG U O u g;exact⟨E,G⟩
  |l C=>
   obtain⟨q,R,rfl,j,z⟩:=m;cases h;cases d;obtain⟨k,_,pl,_⟩:=L2.Inv.list I (bg.of (K:=X.K) j);obtain⟨E,F,G,J⟩:=oN U O pl.isList g;exact⟨E,G⟩
 |t xs=>
  obtain⟨p,vs,rfl,W,Z⟩:=S;cases O;obtain⟨k,q1,N,_⟩:=L2.Inv.tuple I (Wh.of (K:=X.K) W);cases Y with
  |o=>cases h
  |s c=>
   obtain⟨rfl,L⟩:=m;cases h;obtain⟨_,_,E,F,G,J⟩:=XG L d N g;exact⟨F,J⟩
  |t C=>
   obtain⟨q,R,rfl,j,z⟩:=m;cases d;obtain⟨i,q2,u,_⟩:=L2.Inv.tuple I (Wh.of (K:=X.K) j);obtain⟨M,g2⟩:=CS (A:=A.in1) hf Z z q1 q2 h;rw[g2];exact⟨.tuples N u (by omega) M,.tuples N u (by omega) M⟩
  |l C=>
   obtain⟨q,R,rfl,j,z⟩:=m;cases h;cases d;obtain⟨i,_,pl,_⟩:=L2.Inv.list I (bg.of (K:=X.K) j);exact⟨.tuple_list N pl.isList g,.tuple_list N pl.isList g⟩
 |l xs=>
  obtain⟨p,vs,rfl,W,Z⟩:=S;cases O;obtain⟨k,q1,pl,_⟩:=L2.Inv.list I (bg.of (K:=X.K) W);cases Y with
  |o=>cases h
  |s c=>
   obtain⟨rfl,L⟩:=m;cases h;obtain⟨E,F,G,J⟩:=oN L d pl.isList g;exact⟨F,J⟩
  |t C=>
   obtain⟨q,R,rfl,j,z⟩:=m;cases h;cases d;obtain⟨i,_,u,_⟩:=L2.Inv.tuple I (Wh.of (K:=X.K) j);exact⟨.list_tuple pl.isList u g,.list_tuple pl.isList u g⟩
  |l C=>
   obtain⟨q,R,rfl,j,z⟩:=m;cases d;obtain⟨i,q2,n,_⟩:=L2.Inv.list I (bg.of (K:=X.K) j);obtain⟨M,g2⟩:=CS (A:=A.in1) hf Z z q1 q2 h;by_cases B:k.toArray.size=i.toArray.size
   ·have e:b=(List.range k.toArray.size).all (mu f xs C):=by rw[g2,<-B];simp
    rw[e];exact⟨.lists pl.isList n.isList B (by omega) M,.lists pl.isList n.isList B (by omega) M⟩
   ·have e:b=false:=by rw[g2,jc.mpr B,bz]
    rw[e];exact⟨.lists_lengths pl.isList n.isList (by simpa using B) (by omega),.lists_lengths pl.isList n.isList (by simpa using B) (by omega)⟩
theorem BO{A:Ia}(I:Inv X pins st H s)(r:Rel T μ H σ)(Y:A.units+1<cLine){f:D->D->Option Bool}
  (R:∀ (x y:D) (v w:V) (F G:Value) (b:Bool),Rep T μ H x v->Rep T μ H y w->Td v F->Td w G->f x y=some b->Oe A.in1 s F G b)
  (W:∀ (x y:D) (v:V) (b:Bool),Rep T μ H x v->Rep T μ H y v->f x y=some b->b=true)
  {x y:D} {v w:V} {F G:Value} {b:Bool} (J:Rep T μ H x v) (L:Rep T μ H y w) (n:Td v F) (d:Td w G) (h:Ar f (kd σ x) (kd σ y)=some b):Oe A s F G b:=by
 have k:A.units<cLine:=by omega
 have M:=(CH I r Y R J L n d h).1;by_cases i:v=w
 ·subst i;have hb:=yJ r W J L h;have m:=Vy r J;have g:=Vy r L;generalize kd σ x=P at h m;generalize kd σ y=E at h g;cases P with
  |o=>cases h
  |s a=>
   obtain⟨rfl,j⟩:=m;cases E with
   |o=>cases h
   |s c=>obtain⟨rfl,u⟩:=g;cases h;exact BI n d j u
   |t C=>obtain⟨q,B,e,_⟩:=g;rw[e]at j;simp[qj]at j
   |l C=>obtain⟨q,B,e,_⟩:=g;rw[e]at j;simp[qj]at j
  |t xs=>
   obtain⟨p,Q,rfl,_⟩:=m;cases n;cases d;rw[hb];exact Sk _
  |l xs=>
   obtain⟨p,Q,rfl,_⟩:=m;cases n;cases d;rw[hb];exact Sk _
 ·have m:=Vy r J;have g:=Vy r L;generalize kd σ x=P at h m;generalize kd σ y=E at h g;cases P with
  |o=>cases h
  |s a=>
   obtain⟨rfl,j⟩:=m;cases E with
   |o=>cases h
   |s c=>obtain⟨rfl,u⟩:=g;cases h;exact BI n d j u
   |t C=>
    obtain⟨q,B,rfl,O,r2⟩:=g;cases h;cases d;obtain⟨z,_,U,_⟩:=L2.Inv.tuple I (Wh.of (K:=X.K) O);exact(XG j n U k).1
   |l C=>
    obtain⟨q,B,rfl,O,r2⟩:=g;cases h;cases d;obtain⟨z,_,pl,_⟩:=L2.Inv.list I (bg.of (K:=X.K) O);exact gW j n pl.isList k
  |t xs=>
   obtain⟨p,Q,rfl,N,Z⟩:=m;cases n;cases E with
   |o=>cases h
   |s c=>
    obtain⟨rfl,u⟩:=g;cases h;obtain⟨z,_,S,_⟩:=L2.Inv.tuple I (Wh.of (K:=X.K) N);exact(XG u d S k).2.1
   |t C=>obtain⟨q,B,rfl,_⟩:=g;cases d;exact .of_refs (λe=>i (by rw[e])) M
   |l C=>obtain⟨q,B,rfl,_⟩:=g;cases d;exact .of_refs (λe=>i (by rw[e])) M
  |l xs=>
   obtain⟨p,Q,rfl,N,Z⟩:=m;cases n;cases E with
   |o=>cases h
   |s c=>
    obtain⟨rfl,u⟩:=g;cases h;obtain⟨z,_,pl,_⟩:=L2.Inv.list I (bg.of (K:=X.K) N);exact W8 u d pl.isList k
   |t C=>obtain⟨q,B,rfl,_⟩:=g;cases d;exact .of_refs (λe=>i (by rw[e])) M
   |l C=>obtain⟨q,B,rfl,_⟩:=g;cases d;exact .of_refs (λe=>i (by rw[e])) M
theorem IT(I:Inv X pins st H s)(r:Rel T μ H σ):∀ (n:Nat) (A:Ia) (x y:D) (v w:V) (c d:Value) (b:Bool),A.units+n+1<cLine->Rep T μ H x v->Rep T μ H y w->Td v c->Td w d->qm σ n x y=some b->Oe A s c d b
 |0,A,x,y,v,w,c,d,b,o,i,j,k,a,h=>BO I r (by omega) (λ_ _ _ _ _ _ _ _ _ _ _ z=>by cases z) (λ_ _ _ _ _ _ z=>by cases z) i j k a h
 |n+1,A,x,y,v,w,c,d,b,o,i,j,k,a,h=>BO I r (by omega) (λx y v w c d b e f g l m=>IT I r n A.in1 x y v w c d b (by show A.units+1+n+1<cLine;omega) e f g l m) (λx y v b e f g=>QM r n x y v b e f g) i j k a h
theorem LS{A:Ia}(I:Inv X pins st H s)(r:Rel T μ H σ)(n:Nat)(o:A.units+n+1<cLine){x y:D}{v w:V}{c d:Value}{b:Bool}(e:Rep T μ H x v)(f:Rep T μ H y w)(g:Td v c)(a:Td w d)(h:qm σ n x y=some b):PR A s c d b:=by
 cases n with
 |zero=>exact CH I r (by omega) (λ_ _ _ _ _ _ _ _ _ _ _ z=>by cases z) e f g a h
 |succ n=>exact CH I r (by omega) (λx y v w c d b i j k l m=>IT I r n A.in1 x y v w c d b (by show A.units+1+n+1<cLine;omega) i j k l m) e f g a h
end
section
variable{T:Tb}{X:Cx}{pins:List (Addr × Obj)}{st:St}{μ:List Addr}{H:Hp}{s:Shared}{σ:db}
noncomputable def oEq(x y:D):M D:=λσ=>match qm σ 8 x y with
 |some b=>.ok (.bl b) σ
 |none=>.bad
noncomputable def iq(x y:D):M D:=λσ=>match qm σ 8 x y with
 |some b=>.ok (.bl (!b)) σ
 |none=>.bad
theorem Vk(i:X.A.units+9<cLine):Gi X (dc .Eq) (rD T oEq):=by
 intro pins s st H v u k j Q I g f h;obtain⟨E,μ,σ,x,y,r,c,d,a⟩:=h;unfold oEq at a;cases e:qm σ 8 x y with
 |none=>rw[e]at a;exact a.elim
 |some b=>
  rw[e]at a;have:=(LS I r 8 (by omega) c d g f e).1 X.prog X.w X.xe (EP X pins st Q) ⟨.bl b,H,I,rfl,Ib.here a r (by rw[Rep])⟩;exact this
theorem Zz(i:X.A.units+9<cLine):Gi X (dc .NotEq) (rD T iq):=by
 intro pins s st H v u k j Q I g f h;obtain⟨E,μ,σ,x,y,r,c,d,a⟩:=h;unfold iq at a;cases e:qm σ 8 x y with
 |none=>rw[e]at a;exact a.elim
 |some b=>
  rw[e]at a;have:=(LS I r 8 (by omega) c d g f e).2 X.prog X.w X.xe (EP X pins st Q) ⟨.bl (!b),H,I,rfl,Ib.here a r (by rw[Rep])⟩;exact this
noncomputable def Ny(x y:D):M D:=λσ=>match y with
 | .Jb=>(match x with
  | .Jb=>.ok (.bl true) σ
  |_=>.ok (.bl false) σ)
 |_=>.bad
noncomputable def wx(x y:D):M D:=λσ=>match y with
 | .Jb=>(match x with
  | .Jb=>.ok (.bl false) σ
  |_=>.ok (.bl true) σ)
 |_=>.bad
theorem vQ{x:D}{v:V}(h:Rep T μ H x v):decide (v=.Jb)=(match x with | .Jb=>true|_=>false):=by
 cases x with
 |Jb=>rw[Rep]at h;subst h;rfl
 |tup ds=>rw[Rep]at h;obtain⟨p,_,rfl,_⟩:=h;simp
 |je ds=>rw[Rep]at h;obtain⟨p,rfl,_⟩:=h;simp
 |ref ds=>rw[Rep]at h;obtain⟨p,rfl,_⟩:=h;simp
 |lst ds=>rw[Rep]at h;obtain⟨p,_,rfl,_⟩:=h;simp
 |Ya a ds=>rw[Rep]at h;obtain⟨p,_,rfl,_⟩:=h;simp
 |obj c a ds=>rw[Rep]at h;obtain⟨p,_,_,rfl,_⟩:=h;simp
 |ku c=>rw[Rep]at h;obtain⟨p,_,rfl,_⟩:=h;simp
 |gt ds=>rw[Rep]at h;obtain⟨p,rfl,_⟩:=h;simp
 |_=>rw[Rep]at h;subst h;simp
theorem zL:Nk T (λx y H Q=>y=.Jb/\Q (.bl (decide (x=.Jb))) H) Ny:=by
 intro E μ H σ x y v u Q r p q h;cases y with
 |Jb=>
  refine⟨by rw[Rep]at q;exact q,?_⟩;rw[vQ p];cases x<;>exact Ib.here h r (by rw[Rep])
 |_=>exact h.elim
theorem rE:Nk T (λx y H Q=>y=.Jb/\Q (.bl (!decide (x=.Jb))) H) wx:=by
 intro E μ H σ x y v u Q r p q h;cases y with
 |Jb=>
  refine⟨by rw[Rep]at q;exact q,?_⟩;rw[vQ p];cases x<;>exact Ib.here h r (by rw[Rep]<;>rfl)
 |_=>exact h.elim
theorem Q7{ds:List D}{vs:List V}{k:Int}{d:D}(r:Wa T μ H ds vs)(h:Lm ds k=some d):∃ v,Lm vs k=some v/\Rep T μ H d v:=by
 unfold Lm at h ⊢;rw[<-r.length];cases e:Lr ds.length k with
 |none=>rw[e]at h;cases h
 |some j=>rw[e]at h;exact r.get h
theorem IC:∀ (ns:List Int),Wa T μ H (ns.map D.int) (ns.map V.int)
 |[]=>Wa.nil
 |n::ns=>Wa.cons (by rw[Rep]) (IC ns)
noncomputable def Wk(σ:db):D->Option (List D)
 | .tup xs=>some xs
 | .je ns=>some (ns.map D.int)
 | .ref n=>ek σ n
 | .lst xs=>some xs
 | .gt ss=>some (ss.map D.str)
 |_=>none
noncomputable def Qb(x i:D):M D:=λσ=>match i with
 | .int k=>(match Wk σ x with
  |some xs=>(match Lm xs k with
   |some d=>.ok d σ
   |none=>.bad)
  |none=>.bad)
 |_=>.bad
theorem KO:∀ (ss:List qa),Wa T μ H (ss.map D.str) (ss.map V.str)
 |[]=>Wa.nil
 |n::ns=>Wa.cons (by rw[Rep]) (KO ns)
theorem iB(r:Rel T μ H σ){x:D}{v:V}{xs:List D}(h:Rep T μ H x v)(e:Wk σ x=some xs):∃ p vs,v=.ref p/\Wa T μ H xs vs/\(bg T.K H p vs\/Wh T.K H p vs):=by
 cases x with
 |tup ds=>cases e;rw[Rep]at h;obtain⟨p,vs,rfl,b,c⟩:=h;exact⟨p,vs,rfl,c,.inr (Wh.of b)⟩
 |je ns=>cases e;rw[Rep]at h;obtain⟨p,rfl,b⟩:=h;exact⟨p,_,rfl,IC ns,.inl b.seq⟩
 |ref n=>obtain⟨a,vs,rfl,_,b,c⟩:=r.lst h e;exact⟨a,vs,rfl,c,.inl (bg.of b)⟩
 |lst ds=>cases e;rw[Rep]at h;obtain⟨p,vs,rfl,_,b,c⟩:=h;exact⟨p,vs,rfl,c,.inl (bg.of b)⟩
 |gt ss=>cases e;rw[Rep]at h;obtain⟨p,rfl,b⟩:=h;exact⟨p,_,rfl,KO ss,.inr (.inr b)⟩
 |_=>cases e
theorem ke(l:T.K=X.K):Nk T (λx y H Q=>vJ X.K x y H Q\/IH X.K x y H Q) Qb:=by
 intro E μ H σ x y v u Q r p q h;cases y with
 |int k=>
  unfold Qb at h;cases e:Wk σ x with
  |none=>simp only[e]at h;exact h.elim
  |some xs=>
   simp only[e]at h;cases c:Lm xs k with
   |none=>rw[c]at h;exact h.elim
   |some d=>
    rw[c]at h;obtain⟨a,i,rfl,j,b⟩:=iB r p e;obtain⟨w,f,g⟩:=Q7 j c;rw[l]at b;rcases b with b|b
    ·exact .inl ⟨a,i,k,w,rfl,Cq q,b,f,Ib.here h r g⟩
    ·exact .inr ⟨a,i,k,w,rfl,Cq q,b,f,Ib.here h r g⟩
 |_=>exact h.elim
theorem pe:mx X (λx y H Q=>vJ X.K x y H Q\/IH X.K x y H Q):=CW.or CV
noncomputable def fx(d:D):Bool:=(sc d).isSome
noncomputable def Ry(x y:D):Bool:=match sc x,sc y with
 |some a,some b=>Yk a b
 |_,_=>false
noncomputable def VA(neg:Bool)(x y:D):M D:=λσ=>match Wk σ y with
 |some xs=>if (fx x && xs.all fx)=true then .ok (.bl (if neg then !(xs.any λz=>Ry z x)else xs.any λz=>Ry z x)) σ else .bad
 |none=>.bad
theorem CQ:∀ {ds:List D} {vs:List V},Wa T μ H ds vs->ds.all fx=true->vs.all qj=true
 |[],vs,h,_=>by rw[Wa]at h;subst h;rfl
 |d::ds,vs,h,e=>by
  rw[Wa]at h;obtain⟨v,r,rfl,c,f⟩:=h;rw[sg,Fa]at e ⊢;obtain⟨a,b⟩:=Fd.mp e.1;exact⟨by rw[iF c b];exact rN b,CQ f e.2⟩
theorem eQ{x:D}{a:V}(ex:sc x=some a):∀ {ds:List D} {vs:List V},Wa T μ H ds vs->ds.all fx=true->(ds.any λz=>Ry z x)=vs.any λy=>Yk y a
 |[],vs,h,_=>by rw[Wa]at h;subst h;rfl
 |d::ds,vs,h,e=>by
  rw[Wa]at h;obtain⟨v,r,rfl,f,g⟩:=h;rw[sg,Fa]at e;obtain⟨c,b⟩:=Fd.mp e.1;rw[ee,ee,eQ ex g e.2];have:Ry d x=Yk v a:=by unfold Ry;rw[b,ex,iF f b]
  rw[this]
theorem uP(k:T.K=X.K)(neg:Bool):Nk T (iM X.K neg) (VA neg):=by
 intro E μ H σ x y v u Q r p q h;unfold VA at h;cases e:Wk σ y with
 |none=>rw[e]at h;exact h.elim
 |some xs=>
  rw[e]at h;by_cases c:(fx x && xs.all fx)=true
  ·simp only[c,Ee]at h;rw[Fa]at c;obtain⟨a,d⟩:=Fd.mp c.1;obtain⟨b,i,rfl,f,g⟩:=iB r q e;rw[k]at g;refine⟨b,i,rfl,g,by rw[iF p d];exact rN d,CQ f c.2,?_⟩;have j:UG v i=xs.any λz=>Ry z x:=by unfold UG;rw[eQ d f c.2,iF p d]
   rw[j];exact Ib.here h r (by rw[Rep])
  ·simp only[c]at h;exact h.elim
noncomputable def cq(xs:List D):M D:=λσ=>match xs with
 |[x]=>(match Wk σ x with
  |some a=>.ok (.int a.length) σ
  |none=>.bad)
 |_=>.bad
theorem Zv(f:T.K=X.K):Ct T (λxs H Q=>∃ p ys,xs=[.ref p]/\(bg X.K H p ys\/Wh X.K H p ys)/\Q (.int ys.length) H) cq:=by
 intro E μ H σ xs c Q r p h
 match xs with
 |[]=>exact h.elim
 |[x]=>
  rw[Wa]at p;obtain⟨v,w,rfl,p1,p2⟩:=p;rw[Wa]at p2;subst p2;unfold cq at h;cases e:Wk σ x with
  |none=>simp only[e]at h;exact h.elim
  |some ys=>
   simp only[e]at h;obtain⟨b,c,rfl,d,a⟩:=iB r p1 e;rw[f]at a;exact⟨b,c,rfl,a,by rw[<-d.length];exact Ib.here h r (by rw[Rep])⟩
 |_::_::_=>exact h.elim
noncomputable def Iu(xs:List D):M D:=λσ=>match xs with
 |[x]=>(match Wk σ x with
  |some a=>XA a σ
  |none=>.bad)
 |_=>.bad
theorem gF(f:T.K=X.K):Ct T (λxs H Q=>∃ p ys,xs=[.ref p]/\(bg X.K H p ys\/Wh X.K H p ys)/\∀ l,H l=none->Q (.ref l) (upd H l (.lst ys))) Iu:=by
 intro E μ H σ xs c Q r p h
 match xs with
 |[]=>exact h.elim
 |[x]=>
  rw[Wa]at p;obtain⟨v,w,rfl,p1,p2⟩:=p;rw[Wa]at p2;subst p2;unfold Iu at h;cases e:Wk σ x with
  |none=>simp only[e]at h;exact h.elim
  |some ys=>
   simp only[e]at h;obtain⟨b,c,rfl,d,a⟩:=iB r p1 e;rw[f]at a;exact⟨b,c,rfl,a,λl g=>vD h r d g⟩
 |_::_::_=>exact h.elim
noncomputable def tM:D->Bool
 | .gt _=>true
 |_=>false
noncomputable def dG(xs:List D):M D:=λσ=>match xs with
 |[x]=>(match Wk σ x with
  |some a=>if tM x=true then .bad else .ok (.tup a) σ
  |none=>.bad)
 |_=>.bad
theorem zp7(i:T.K=X.K):Ct T (λxs H Q=>∃ p ys,xs=[.ref p]/\((bg X.K H p ys/\∀ l,H l=none->Q (.ref l) (upd H l (.tup ys)))\/(Wh X.K H p ys/\Q (.ref p) H))) dG:=by
 intro E μ H σ xs d Q r p h
 match xs with
 |[]=>exact h.elim
 |[x]=>
  rw[Wa]at p;obtain⟨v,w,rfl,p1,p2⟩:=p;rw[Wa]at p2;subst p2;have h:Ib T E (Rep T) μ H (match Wk σ x with|some ys=>if tM x=true then .bad else .ok (.tup ys) σ|none=>.bad) Q:=h;cases e:Wk σ x with
  |none=>simp only[e]at h;exact h.elim
  |some ys=>
   simp only[e]at h;cases x with
   |gt ss=>exact h.elim
   |tup ds=>
    cases e;have p0:=p1;rw[Rep]at p1;obtain⟨b,d,rfl,c,g⟩:=p1;exact⟨b,d,rfl,.inr ⟨Wh.of c,Ib.here h r p0⟩⟩
   |je ns=>
    cases e;rw[Rep]at p1;obtain⟨b,rfl,c⟩:=p1;exact⟨b,_,rfl,.inl ⟨by rw[<-i];exact c.seq,λl f=>bB h r (IC ns) f⟩⟩
   |ref n=>
    obtain⟨a,d,rfl,_,c,g⟩:=r.lst p1 e;exact⟨a,d,rfl,.inl ⟨bg.of c,λl f=>bB h r g f⟩⟩
   |lst ds=>
    cases e;rw[Rep]at p1;obtain⟨b,d,rfl,_,c,g⟩:=p1;exact⟨b,d,rfl,.inl ⟨bg.of c,λl f=>bB h r g f⟩⟩
   |_=>cases e
 |_::_::_=>exact h.elim
end
noncomputable def rl(o:List D->M D)(fs:Ev->M (List D)):Ev->M D:=λa=>qd (fs a) o
section
variable{T:Tb}{X:Cx}{x:qa}{p pos:Ye}{e:Ja}{es:List Ja}{fs:Ev->M (List D)}{id ty:String}{r:List V->Hp->VK->Prop}{o:List D->M D}
theorem KR(j:Ct T r o){c:St}{H:Hp}{Q:VK}(h:tF T X (rl o fs) c H Q):qJ r (tL T X fs) c H Q:=by
 obtain⟨m,n,p,f,i,g⟩:=h;exact⟨m,n,p,f,i,g.bind λe b a l d _ q k p1 q1=>j _ a d b e l Q k p1 q1⟩
theorem xr(f:Qm X (.builtin id) r)(j:Ct T r o)(i:Gl X x)(hm:X.mg x=none)(k:bootBuiltins x=some (.builtin id))(d:FA T X (e::es) fs)(hn:x ≠ "__name__":=by decide)(b:(x == ("__debug__" : qa))=false:=by decide)
  (g:pa (e::es) X.env=(false,Nb e X.env)::pa es X.env:=by rfl) (c:(lc pos (pa es X.env)).any (·.1)=false:=by rfl):FE T X (.Call (.Name x p) (e::es) [] pos) (rl o fs):=
 λa s l H Q I h=>mD f i hm k d hn b g c a s l H Q I (KR j h)
theorem wB(f:Qm X (.type ty) r)(j:Ct T r o)(i:Gl X x)(hm:X.mg x=none)(k:bootBuiltins x=some (.type ty))(d:FA T X (e::es) fs)(hn:x ≠ "__name__":=by decide)(b:(x == ("__debug__" : qa))=false:=by decide)
  (g:pa (e::es) X.env=(false,Nb e X.env)::pa es X.env:=by rfl) (c:(lc pos (pa es X.env)).any (·.1)=false:=by rfl):FE T X (.Call (.Name x p) (e::es) [] pos) (rl o fs):=
 λa s l H Q I h=>QH f i hm k d hn b g c a s l H Q I (KR j h)
end
noncomputable def Oi(σ:db):D->Option (List D)
 | .ref n=>ek σ n
 | .lst xs=>some xs
 |_=>none
theorem Rel.ls{T:Tb}{μ:List Addr}{H:Hp}{σ:db}(r:Rel T μ H σ){x:D}{v:V}{xs:List D}(h:Rep T μ H x v)(e:Oi σ x=some xs):∃ a vs,v=.ref a/\H a=some (.lst vs)/\Wa T μ H xs vs:=by
 cases x with
 |ref n=>obtain⟨a,vs,b,_,c,d⟩:=r.lst h e;exact⟨a,vs,b,c,d⟩
 |lst f=>cases e;rw[Rep]at h;obtain⟨a,vs,b,_,c,d⟩:=h;exact⟨a,vs,b,c,d⟩
 |_=>cases e
noncomputable def YA(o:D->List D->M D)(m:M (List D))(x:D):M D:=λa=>match Oi a x with
 |some _=>qd m (o x) a
 |none=>.bad
noncomputable def uI(o:D->List D->M D)(f:Ev->M D)(fs:Ev->M (List D)):Ev->M D:=λa=>qd (f a) (YA o (fs a))
noncomputable def HA(T:Tb)(r:V->List V->Hp->VK->Prop)(o:D->List D->M D):Prop:=∀ (E:XK) a H c x xs v b Q,Rel T a H c->Rep T a H x v->Wa T a H xs b->Ib T E (Rep T) a H (o x xs c) Q->r v b H Q
noncomputable def Lu(x:D)(xs:List D):M D:=λb=>match x,xs with
 | .ref n,[y]=>(match ek b n with
  |some a=>if a.length<li then .ok .Jb (b.set n (.lst (a++[y])))else .bad
  |none=>.bad)
 |_,_=>.bad
section
variable{T:Tb}{X:Cx}{o e:Ja}{es:List Ja}{f:Ev->M D}{fs:Ev->M (List D)}{name:qa}{apos cpos:Ye}{id:String}{r:V->List V->Hp->VK->Prop}{g:D->List D->M D}
theorem A1(L:Zn "list")(slot:QL "list" name id)(n:Xs (.builtin id)=pure (.type "method_descriptor"))(hm:Rt X id r)(K:HA T r g)(F:FE T X o f)(E:FA T X (e::es) fs)
  (c:Ae o name X.env (Nb o X.env)=Nb o X.env:=by rfl)
  (i:((lc cpos (pa (e::es) X.env)).all (λx=>!x.1) && (Jj cpos (bh [] X.env)).all (λx=>x.1.isSome)
   && decide ((e::es).length+([]:List ck).length+(if ([]:List ck).isEmpty then 0 else 1)<30))=true:=by rfl)
  (d:(apos.endLine == cpos.line)=true:=by rfl) (m:pa (e::es) X.env=(false,Nb e X.env)::pa es X.env:=by rfl) (b:(lc cpos (pa es X.env)).any (·.1)=false:=by rfl) :
  FE T X (.Call (.Attribute o name apos) (e::es) [] cpos) (uI g f fs):=by
 intro j s N H Q I h;refine j8 L slot n hm F E c i d m b j s N H Q I ?_;obtain⟨R,y,S,u,J,G⟩:=h;refine⟨R,y,S,u,J,G.bind λx k p v U _ B w p1 q1=>?_⟩;unfold YA at q1;cases l:Oi k x with
 |none=>rw[l]at q1;exact q1.elim
 |some xs=>
  rw[l]at q1;obtain⟨a,O,rfl,D,V⟩:=w.ls p1 l;refine⟨.inl ⟨rfl,O,bg.of D⟩,p,y,k,u.mono B,w,q1.bind λA t q P z _ C M p2 q2=>?_⟩;exact K _ q z t x A (.ref a) P Q M (Rep.mono C _ _ p1) p2 q2
theorem X1:HA T pL Lu:=by
 intro E j H k x xs v b Q r p q h;cases x with
 |ref n=>
  match xs with
  |[]=>exact h.elim
  |[y]=>
   rw[Wa]at q;obtain⟨w,z,rfl,q1,q2⟩:=q;rw[Wa]at q2;subst q2;unfold Lu at h;cases c:ek k n with
   |none=>simp only[c]at h;exact h.elim
   |some i=>
    simp only[c]at h;by_cases d:i.length<li
    ·rw[ia d]at h;obtain⟨a,b,rfl,hn,e,f⟩:=r.lst p c;have g:=r.write (o:=.lst (b++[w])) (ob:=.lst (i++[y])) hn ⟨_,kh,by
      have ex:Ext j H j (upd H a (.lst (b++[w]))):=Mu (Ga hn) e (λ_ z=>by cases z) (λ_ _ z=>by cases z);exact Wa.append (Wa.mono ex _ _ f) (Wa.cons (Rep.mono ex _ _ q1) Wa.nil)⟩
     exact⟨a,b,w,rfl,rfl,e,by rw[<-f.length];exact pT d,h _ _ _ g.1 g.2 (by rw[Rep])⟩
    ·rw[ja d]at h;exact h.elim
  |_::_::_=>exact h.elim
 |_=>exact h.elim
end
inductive BT where
 |int|bool|str|tuple|list|dict
noncomputable def BT.nm:BT->String
 | .int=>"int" | .bool=>"bool" | .str=>"str" | .tuple=>"tuple" | .list=>"list" | .dict=>"dict"
noncomputable def NF(σ:db)(c:BT):D->Option Bool
 | .Jb=>some false
 | .bl _=>some (match c with | .int=>true | .bool=>true|_=>false)
 | .int _=>some (match c with | .int=>true|_=>false)
 | .str _=>some (match c with | .str=>true|_=>false)
 | .tup _=>some (match c with | .tuple=>true|_=>false)
 | .je _=>none
 | .lst _=>some (match c with | .list=>true|_=>false)
 | .Ya _ _=>some (match c with | .dict=>true|_=>false)
 | .obj _ _ _=>none
 | .ku _=>none
 | .gt _=>none
 | .ref n=>match σ[n]? with
  |some (.lst _)=>some (match c with | .list=>true|_=>false)
  |some (.Ya _)=>some (match c with | .dict=>true|_=>false)
  |_=>none
noncomputable def vr(c:BT)(x:D):M D:=λa=>match NF a c x with
 |some b=>.ok (.bl b) a
 |none=>.bad
section
variable{T:Tb}{X:Cx}
noncomputable def jM(K:W.Frag)(H:Hp)(x:V)(t:Value):Prop:=vl K H x t\/∃ a b,x=.ref a/\Rd H a (.dK b)/\t=.type "dict"
noncomputable def TX(K:W.Frag)(c:String):List V->Hp->VK->Prop:=λxs H Q=>∃ x t b,xs=[x,.ty c]/\jM K H x t/\W.kitOne K t (.type c)=some b/\Q (.bl b) H
theorem zq4(c:String):Qm X (.builtin "isinstance") (TX X.K c):=by
 intro g s v H xs y Q I r h;obtain⟨x,t,b,rfl,ty,e,q⟩:=h;obtain⟨u,u2,rfl,i,f⟩:=SJ r;cases f;rcases ty with ty|⟨a,d,rfl,rd,rfl⟩
 ·exact sP I i ty e λl=>⟨.bl b,H,I.tok _,rfl,q⟩
 ·cases (show u=Ua a from i);obtain⟨_,_,A,_,p⟩:=(show Xi X.prog X.w H s.heap a (.dK d)from rd.ok I.Rb)
  obtain⟨o,n,m,j,k,_⟩:=p;exact Of aw I.Cj ⟨o,j,k.1⟩ e (λz=>nomatch z) λl=>⟨.bl b,H,I.tok _,rfl,q⟩
theorem A5{μ:List Addr}{H:Hp}{σ:db}{x:D}{v:V}{c:BT}{b:Bool}(r:Rel T μ H σ)(p:Rep T μ H x v)(h:NF σ c x=some b):∃ t,jM X.K H v t/\W.kitOne X.K t (.type c.nm)=some b:=by
 cases x with
 |Jb=>rw[Rep]at p;subst p;refine⟨_,.inl (.Jb),?_⟩;cases c<;>cases h<;>rfl
 |bl i=>rw[Rep]at p;subst p;refine⟨_,.inl (.bl i),?_⟩;cases c<;>cases h<;>rfl
 |int i=>rw[Rep]at p;subst p;refine⟨_,.inl (.int i),?_⟩;cases c<;>cases h<;>rfl
 |str i=>rw[Rep]at p;subst p;refine⟨_,.inl (.str i),?_⟩;cases c<;>cases h<;>rfl
 |tup ds=>rw[Rep]at p;obtain⟨q,f,rfl,d,_⟩:=p;refine⟨_,.inl (.tup d),?_⟩;cases c<;>cases h<;>rfl
 |je ns=>cases h
 |lst ds=>rw[Rep]at p;obtain⟨q,f,rfl,_,d,_⟩:=p;refine⟨_,.inl (.lst d),?_⟩;cases c<;>cases h<;>rfl
 |Ya l ds=>rw[Rep]at p;obtain⟨q,f,rfl,_,d,_⟩:=p;refine⟨_,.inr ⟨q,_,rfl,d,rfl⟩,?_⟩;cases c<;>cases h<;>rfl
 |obj j l ds=>cases h
 |ku j=>cases h
 |gt ss=>cases h
 |ref n=>
  unfold NF at h;dsimp only at h;cases e:σ[n]? with
  |none=>rw[e]at h;cases h
  |some o=>
   rw[e]at h;obtain⟨a,rfl,_,k⟩:=r.at p e;cases o with
   |lst xs=>obtain⟨f,g,_⟩:=k;refine⟨_,.inl (.lst g),?_⟩;cases c<;>cases h<;>rfl
   |Ya xs=>obtain⟨f,g,_⟩:=k;refine⟨_,.inl (.dK g),?_⟩;cases c<;>cases h<;>rfl
   |ins j fs=>cases h
   |Kc xs=>cases h
   |eg _=>cases h
theorem Mw(c:BT){a:qa}{e:Ja}{f:Ev->M D}{p p2 g:Ye}(A:FE T X e f)(B:Gl X "isinstance")(hm:X.mg "isinstance" = none)(k:Gl X a)(l:X.mg a=none)(o:bootBuiltins a=some (.type c.nm))(m:a ≠ "__name__":=by decide)(j:(a == ("__debug__" : qa))=false:=by decide)
  (r:pa [e,.Name a p2] X.env=(false,Nb e X.env)::pa [.Name a p2] X.env:=by rfl) (n:(lc g (pa [.Name a p2] X.env)).any (·.1)=false:=by rfl) :
  FE T X (.Call (.Name "isinstance" p) [e,.Name a p2] [] g) (Vc (vr c) f):=by
 intro d s F H Q I h;refine mD (zq4 c.nm) B hm mH (Iv A (Iv (d9 k l o (v:=.ty c.nm) rfl m j) Yw) r) (by decide) (by decide) r n d s F H Q I ?_;obtain⟨G,K,L,z,E,C⟩:=h;refine⟨G,K,L,z,E,C.bind λx q J v N _ O u p1 q1=>?_⟩;unfold vr at q1;cases i:NF q c x with
 |none=>rw[i]at q1;exact q1.elim
 |some b=>
  rw[i]at q1;obtain⟨t,w,y⟩:=A5 (X:=X) u p1 i;exact⟨v,t,b,rfl,w,y,Ib.here q1 u (by rw[Rep])⟩
end
noncomputable def gh:Ev->M Fl:=λa=>ret (.nx a)
noncomputable def dC(h:Ev->M Fl):Fl->M Fl
 | .nx a=>h a
 | .rt d=>ret (.rt d)
 | .bk a=>ret (.bk a)
 | .ct a=>ret (.ct a)
 | .xc a x=>ret (.xc a x)
noncomputable def Kb(g h:Ev->M Fl):Ev->M Fl:=λa=>qd (g a) (dC h)
noncomputable def zK:D->M Fl:=λd=>ret (.rt d)
noncomputable def Ke(f:Ev->M D):Ev->M Fl:=λa=>xs a (f a) zK
noncomputable def lL(ρ:Ev):D->M Fl:=λ_=>ret (.nx ρ)
noncomputable def wj(f:Ev->M D):Ev->M Fl:=λa=>xs a (f a) (lL a)
noncomputable def ID(i:Nat)(ρ:Ev):D->M Fl:=λd=>ret (.nx (ρ.set i (some d)))
noncomputable def jh(i:Nat)(f:Ev->M D):Ev->M Fl:=λa=>xs a (f a) (ID i a)
noncomputable def Jg(t:Ev->M Bool)(a b:Ev->M Fl):Ev->M Fl:=λc=>xs c (t c) (dk (a c) (b c))
section
variable{T:Tb}{X:Cx}{st':Stmt}{vf:List Stmt}{g h:Ev->M Fl}{e:Ja}{f:Ev->M D}{pos:Ye}
theorem uh:Hq T X [] gh:=by
 intro a s b H D I f;obtain⟨h,i,j,c,e,d⟩:=f;exact MU a s b H D I (Ib.here (g:=Rm.nx b) d e c)
theorem xX{μ:List Addr}{H:Hp}{σ:db}{a:Fl}{gl:Rm}{D:Ends}{N:St->Hp->Prop}(r:Rel T μ H σ)(q:Jl T μ H a gl)(k:Fl->M Fl)
  (hn:∀ ρ,a=.nx ρ->∀ b,gl=.nx b->Zh T μ H ρ b->N b H) (e:(∀ ρ,a≠.nx ρ)->Ib T EN (Jl T) μ H (.ok a σ) (wk X D)):wk X { D with nx:=N } gl H:=by
 cases a with
 |nx ρ=>cases gl with
  |nx b=>exact hn ρ rfl b rfl q
  |_=>exact q.elim
 |rt d=>cases gl with
  |rt v=>have z:=Ib.here (g:=Rm.rt v) (e λ_ z=>by cases z) r q;exact z
  |_=>exact q.elim
 |bk ρ=>cases gl with
  |bk v=>have z:=Ib.here (g:=Rm.bk v) (e λ_ z=>by cases z) r q;exact z
  |_=>exact q.elim
 |ct ρ=>cases gl with
  |ct v=>have z:=Ib.here (g:=Rm.ct v) (e λ_ z=>by cases z) r q;exact z
  |_=>exact q.elim
 |xc ρ x=>cases gl with
  |xc v c fd=>have z:=Ib.here (g:=Rm.xc v c fd) (e λ_ z=>by cases z) r q;exact z
  |_=>exact q.elim
theorem ec(j:FS T X st' g)(k:Hq T X vf h):Hq T X (st'::vf) (Kb g h):=by
 intro b s q H D I p;refine Y4 j k b s q H D I ?_;obtain⟨t,u,v,l,o,n⟩:=p;refine⟨t,u,v,l,o,n.bind λi d c gl w _ x e q1 p1=>?_⟩;refine xX (X:=X) e q1 (λ_=>bad) (λa f r y m=>?_) (λhn=>?_)
 ·subst f;exact⟨c,a,d,m,e,p1⟩
 ·cases i with
  |nx a=>exact(hn a rfl).elim
  |_=>exact p1
theorem ic(a:FS T X st' g):Hq T X [st'] g:=X3 a
theorem Ve(c:FE T X e f):FS T X (.Return (some e) pos) (Ke f):=by
 intro a s l H D I j;refine QX c a s l H D I ?_;obtain⟨m,o,p,b,i,h⟩:=j;exact⟨m,o,p,b,i,h.xs b λd q n v r _ t k q1 p1=>Ib.here (g:=Rm.rt v) p1 k q1⟩
theorem ql(i:FE T X e f)(l:Ij e none pos.line X.env=pure false:=by rfl):FS T X (.Expr e pos) (wj f):=by
 intro a s c H D I m;refine OZ i l a s c H D I ?_;obtain⟨o,q,r,b,k,j⟩:=m;exact⟨o,q,r,b,k,j.xs b λd t p v u _ h n q1 p1=>Ib.here (g:=Rm.nx c) p1 n (b.mono h)⟩
theorem Kh{i:Nat}{x:qa}{a:Ye}(hN:X.N.Nodup)(m:X.N[i]?=some x)(r:Loc X.env.scope x)(k:FE T X e f)(p:Ij e (some (.Name x a)) pos.line X.env=pure false:=by rfl)(l:X.fn x=true\/X.env.scope.names.lookup x=some .local:=by first|exact .inl rfl|exact .inr rfl|assumption) :
  FS T X (.Assign [.Name x a] e pos) (jh i f):=by
 intro b s h H D I q;refine BY hN m r k p l b s h H D I ?_;obtain⟨u,y,z,c,o,n⟩:=q;exact⟨u,y,z,c,o,n.xs c λd A w v B _ j t q1 p1=>Ib.here (g:=Rm.nx (h.set i (some v))) p1 t ((c.mono j).set i q1)⟩
theorem lh{c:Ja}{a b:List Stmt}{m:Ev->M Bool}{j k:Ev->M Fl}(o:FT T X c m)(n:Hq T X a j)(hb:Hq T X b k):FS T X (.If c a b pos) (Jg m j k):=by
 intro d s t H D I r;refine rU o n hb d s t H D I ?_;obtain⟨u,h,w,g,q,p⟩:=r;refine⟨u,h,w,g,q,p.xs g λc f e v x _ i l q1 p1=>?_⟩;cases q1;cases c with
 |true=>unfold dk at p1;rw[ia rfl]at p1 ⊢;exact⟨e,h,f,g.mono i,l,p1⟩
 |false=>unfold dk at p1;rw[ja Xa]at p1 ⊢;exact⟨e,h,f,g.mono i,l,p1⟩
noncomputable def gD(T:Tb)(tg:D->Ev->Option Ev):TG:=λv e H Q=>∃ b f c d a,Zh T b H c e/\Rel T b H f/\Rep T b H d v/\tg d c=some a/\∀ st',Zh T b H a st'->Q st' H
noncomputable def l4(T:Tb)(tg:List D->Ev->Option Ev):yy:=λf e H Q=>∃ b g d c a,Zh T b H d e/\Rel T b H g/\Wa T b H c f/\tg c d=some a/\∀ st',Zh T b H a st'->Q st' H
noncomputable abbrev FG(T:Tb)(X:Cx)(t:Ja)(tg:D->Ev->Option Ev):Prop:=PG X t (gD T tg)
noncomputable abbrev wE(T:Tb)(X:Cx)(ts:List Ja)(tg:List D->Ev->Option Ev):Prop:=TD X ts (l4 T tg)
noncomputable def Zd(i:Nat):D->Ev->Option Ev:=λd a=>some (a.set i (some d))
noncomputable def io:List D->Ev->Option Ev
 |[],a=>some a
 |_::_,_=>none
noncomputable def Ah(t:D->Ev->Option Ev)(u:List D->Ev->Option Ev):List D->Ev->Option Ev
 |[],_=>none
 |d::ds,b=>(t d b).bind λa=>u ds a
noncomputable def Bn(n:Nat)(t:List D->Ev->Option Ev):D->Ev->Option Ev
 | .tup ds,a=>if ds.length=n then t ds a else none
 |_,_=>none
theorem mi{i:Nat}{x:qa}(hN:X.N.Nodup)(e:X.N[i]?=some x)(j:Loc X.env.scope x)(c:X.fn x=true\/X.env.scope.names.lookup x=some .local:=by first|exact .inl rfl|exact .inr rfl|assumption):FG T X (.Name x pos) (Zd i):=by
 intro a s k H v u Q I r h;obtain⟨n,p,o,d,l,b,m,hd,g,f⟩:=h;cases g;exact T4 hN e j c a s k H v u Q I r (f _ (b.set i hd))
theorem Ex:wE T X [] io:=by
 intro a s g H l i Q I r h;obtain⟨m,o,n,b,j,e,k,hd,c,f⟩:=h;cases b with
 |nil=>cases c;rw[Wa]at hd;subst hd;exact n4 a s g H [] i Q I r ⟨rfl,f _ e⟩
 |cons d b=>cases c
theorem lp{es:List Ja}{t:D->Ev->Option Ev}{u:List D->Ev->Option Ev}(q:FG T X e t)(x:wE T X es u)
  (A:(Ge (e::es) X.env).map (·.2)=gi e X.env::(Ge es X.env).map (·.2):=by rfl):wE T X (e::es) (Ah t u):=by
 intro a s B H G E Q I r h;obtain⟨m,n,F,c,j,y,k,hd,l,z⟩:=h;cases c with
 |nil=>cases l
 |cons d c=>
  rw[Wa]at hd;obtain⟨v,w,rfl,g,i⟩:=hd;obtain⟨b,o,p⟩:=Ag.mp l;refine R3 q x A a s B H (v::w) E Q I r ⟨v,w,rfl,m,n,F,d,b,y,k,g,o,λC f=>?_⟩;exact⟨m,n,b,c,j,f,k,i,p,z⟩
theorem Qw{es:List Ja}{k:Nat}{t:List D->Ev->Option Ev}{n:Nat}(l:X.calm=true)(h:wE T X es t)
  (hn:(Ge es X.env).length=n:=by rfl) (e:(Ge es X.env).findIdx? (·.1)=none:=by rfl):FG T X (.Tuple es k pos) (Bn n t):=by
 intro b s x H v u Q I r w;obtain⟨z,B,A,d,f,j,q,hd,a,o⟩:=w;cases d with
 |tup ds=>
  have m:=hd;rw[Rep]at hd;obtain⟨p,y,rfl,i,g⟩:=hd;unfold Bn at a;dsimp only at a;by_cases c:ds.length=n
  ·rw[ia c]at a;exact ymq l h hn e b s x H (.ref p) u Q I r ⟨p,y,rfl,Wh.of i,by rw[<-g.length];exact c,z,B,A,ds,f,j,q,g,a,o⟩
  ·rw[ja c]at a;cases a
 |_=>cases a
noncomputable def qy(x i d:D):M Unit:=λa=>match x,i with
 | .ref n,.int k=>(match ek a n with
  |some xs=>(match Lr xs.length k with
   |some j=>.ok () (a.set n (.lst (xs.set j d)))
   |none=>.bad)
  |none=>.bad)
 |_,_=>.bad
noncomputable def Eu(ρ:Ev)(d x i:D):M Fl:=λb=>match qy x i d b with
 | .ok _ a=>.ok (.nx ρ) a
 |_=>.bad
noncomputable def QI(ρ:Ev)(fi:Ev->M D)(d x:D):M Fl:=xs ρ (fi ρ) (Eu ρ d x)
noncomputable def GI(ρ:Ev)(a fi:Ev->M D)(d:D):M Fl:=xs ρ (a ρ) (QI ρ fi d)
noncomputable def sx(f b fi:Ev->M D):Ev->M Fl:=λa=>xs a (f a) (GI a b fi)
theorem jD{o i:Ja}{L fi:Ev->M D}{b:Ye}(R:FE T X e f)(U:FE T X o L)(S:FE T X i fi)
  (Q:∀ v,gi (.Subscript o i b) X.env v=(do
   let q <-Ie [v] (Nb o X.env);let w <-Ie [v,q] (Nb i X.env)
   hj b
   Ie [v,q,w] (Tr q w v)
   WB [v,q,w] []):=by intro _;rfl)
  (Z:bn [.Subscript o i b] e pos.line X.env=pure false:=by rfl) (hw:cn [.Subscript o i b] e X.env=pure none:=by rfl)
  (p:(Ge [.Subscript o i b] X.env).map (·.2)=[gi (.Subscript o i b) X.env]:=by rfl):FS T X (.Assign [.Subscript o i b] e pos) (sx f L fi):=by
 intro h s P H D I W;refine nJ R (JI U S zww Q) Z hw p h s P H D I ?_;obtain⟨μ,E,σ,c,Y,V⟩:=W;refine⟨μ,E,σ,c,Y,V.xs c λd F B v H1 _ g r1 q1 p1=>?_⟩;refine⟨B,E,F,c.mono g,r1,p1.xs (c.mono g) λx G C vo H2 _ m r2 q2 p2=>?_⟩;refine⟨C,E,G,(c.mono g).mono m,r2,p2.xs ((c.mono g).mono m) λk J l vi K _ r O q3 p3=>?_⟩;have hd:=Rep.mono r _ _ (Rep.mono m _ _ q1);have hx:=Rep.mono r _ _ q2;unfold Eu qy at p3;cases x with
 |ref n=>
  cases k with
  |int k=>
   dsimp only at p3;cases u:ek J n with
   |none=>rw[u]at p3;exact p3.elim
   |some xs=>
    rw[u]at p3;dsimp only at p3;cases t:Lr xs.length k with
    |none=>rw[t]at p3;exact p3.elim
    |some j=>
     rw[t]at p3;obtain⟨a,y,rfl,hn,p,N⟩:=O.lst hx u;have A:=O.write (o:=.lst (y.set j v)) (ob:=.lst (xs.set j d)) hn ⟨_,kh,by
      have ex:Ext l K l (upd K a (.lst (y.set j v))):=Mu (Ga hn) p (λ_ z=>by cases z) (λ_ _ z=>by cases z);exact Wa.set (Rep.mono ex _ _ hd) j (Wa.mono ex _ _ N)⟩
     exact⟨a,y,k,j,rfl,Cq q3,p,by rw[<-N.length];exact t,p3 _ (.nx P) _ A.1 A.2 (((c.mono g).mono m).mono r |>.mono A.1)⟩
  |_=>exact p3.elim
 |_=>exact p3.elim
end
inductive Src where
 |seq (ds:List D)
 |Yt (n:Nat)
noncomputable def Src.nx:Src->Nat->db->Option (Option D)
 | .seq ds,i,_=>some ds[i]?
 | .Yt n,i,σ=>(ek σ n).map λxs=>xs[i]?
noncomputable def Iw(T:Tb)(b:List Addr)(f:Hp)(src:Src)(J:It):Prop:=∀ a H e i,Ext b f a H->Rel T a H e->match src.nx i e with
 |none=>True
 |some none=>J.stop i H
 |some (some d)=>J.go i H/\∀ x c,J.hB i H x c->c=H/\Rep T a H d x
noncomputable def tI(T:Tb)(X:Cx)(f:Ev->M Src):TI:=λb H R=>∃ a c d,Zh T a H c b/\Rel T a H d/\Ib T (XE X b) (Iw T) a H (f c d) R
noncomputable abbrev FI(T:Tb)(X:Cx)(tg a:Ja)(f:Ev->M Src):Prop:=PI X tg a (tI T X f)
noncomputable def Gv(n:Nat):List D:=(List.range n).map λ(i:Nat)=>D.int (i:Int)
noncomputable def vw(d:D):M Src:=λa=>match d with
 | .tup ds=>.ok (.seq ds) a
 | .lst ds=>.ok (.seq ds) a
 | .je ns=>.ok (.seq (ns.map D.int)) a
 | .ref n=>(match ek a n with
  |some _=>.ok (.Yt n) a
  |none=>.bad)
 |_=>.bad
noncomputable def Dk(f:Ev->M D):Ev->M Src:=λa=>qd (f a) vw
noncomputable def cF(j:Int):Bool:=hide (decide (-(2 ^ 62)<=j) && decide (j<2 ^ 62))
noncomputable def ED(d:D):M Src:=λa=>match d with
 | .int j=>if cF j=true then .ok (.seq (Gv j.toNat)) a else .bad
 |_=>.bad
noncomputable def tz(f:Ev->M D):Ev->M Src:=λa=>qd (f a) ED
section
variable{T:Tb}{X:Cx}{tg iter:Ja}{f:Ev->M D}
noncomputable def GV(K:W.Frag)(tl:TE):TI:=λc H R=>tl c H λx b=>∃ a,x=.ref a/\(((∃ xs,bg K b a xs)/\R (AJ K a) b)\/((∃ xs,Wh K b a xs)/\R (fJ K a) b))
theorem HY{l:Ja}{tl:TE}(i:PE X l tl):PI X tg l (GV X.K tl):=by
 intro f s n H R I h;refine ge (i f s n H _ I h) λv s1 ⟨x,H1,c,k,q1⟩=>?_;obtain⟨a,e,q1⟩:=q1;subst e;cases k;rcases q1 with⟨⟨xs,g⟩,q⟩|⟨⟨xs,g⟩,q⟩
 ·obtain⟨d,m,p,j⟩:=c.list g;refine No p.isList ?_;refine⟨s1.heap.objs.size,[s1.heap.objs.size],_,_,H1,rfl,c.kept (t':=s1.toks) λb o e=>ba _ e,PY a _,⟨_,Ba _ rfl,rfl,rfl⟩,λb hb=>?_,q⟩;have e:b=s1.heap.objs.size:=by simpa using hb
  subst e;exact c.Hs (na _) (c.Rb.fresh (na _))
 ·obtain⟨d,m,p,j⟩:=c.tuple g;refine xA (show s1.heap.IsTuple a d.toArray from p) ?_;refine⟨s1.heap.objs.size,[s1.heap.objs.size],_,_,H1,rfl,c.kept (t':=s1.toks) λb o e=>ba _ e,V2 a _,⟨_,Ba _ rfl,rfl,rfl⟩,λb hb=>?_,q⟩;have e:b=s1.heap.objs.size:=by simpa using hb
  subst e;exact c.Hs (na _) (c.Rb.fresh (na _))
theorem NN{g:List Addr}{l:Hp}{a:Addr}{ds:List D}{K:W.Frag}(h:∀ b c,Ext g l b c->∃ vs,bg K c a vs/\Wa T b c ds vs):Iw T g l (.seq ds) (AJ K a):=by
 intro b c n i ex p;obtain⟨vs,j,m⟩:=h b c ex;show match some ds[i]? with|none=>True|some none=>_|some (some d)=>_
 cases e:ds[i]? with
 |none=>exact⟨vs,j,by rw[<-m.length];exact Eb.mp e⟩
 |some d=>
  obtain⟨v,f,k⟩:=m.get e;refine⟨⟨vs,v,j,f⟩,λx o y=>?_⟩;obtain⟨rfl,y⟩:=y;have:=y vs j;rw[f]at this;cases this;exact⟨rfl,k⟩
theorem FX{g:List Addr}{l:Hp}{a:Addr}{ds:List D}{K:W.Frag}(h:∀ b c,Ext g l b c->∃ vs,Wh K c a vs/\Wa T b c ds vs):Iw T g l (.seq ds) (fJ K a):=by
 intro b c n i ex p;obtain⟨vs,j,m⟩:=h b c ex;show match some ds[i]? with|none=>True|some none=>_|some (some d)=>_
 cases e:ds[i]? with
 |none=>exact⟨vs,j,by rw[<-m.length];exact Eb.mp e⟩
 |some d=>
  obtain⟨v,f,k⟩:=m.get e;refine⟨⟨vs,v,j,f⟩,λx o y=>?_⟩;obtain⟨rfl,y⟩:=y;have:=y vs j;rw[f]at this;cases this;exact⟨rfl,k⟩
theorem ar(M:T.K=X.K)(h:FE T X iter f):FI T X tg iter (Dk f):=by
 intro r s S H R I P;refine HY h r s S H R I ?_;obtain⟨U,W,Y,L,O,N⟩:=P;refine⟨U,W,Y,L,O,N.bind λd B A v E _ e1 t q1 p1=>?_⟩;cases d with
 |tup ds=>
  rw[Rep]at q1;obtain⟨p,l,rfl,g,k⟩:=q1;exact⟨p,rfl,.inr ⟨⟨l,Wh.of g⟩,Ib.here (R:=Iw T) p1 t (FX λb c ex=>⟨l,Wh.of (ex.tup _ _ g),Wa.mono ex _ _ k⟩)⟩⟩
 |lst ds=>
  rw[Rep]at q1;obtain⟨p,l,rfl,hn,g,k⟩:=q1;exact⟨p,rfl,.inl ⟨⟨l,bg.of g⟩,Ib.here (R:=Iw T) p1 t (NN λb c ex=>⟨l,bg.of (ex.yk _ _ g hn).1,Wa.mono ex _ _ k⟩)⟩⟩
 |je ns=>
  rw[Rep]at q1;obtain⟨p,rfl,g⟩:=q1;have o:∀ b c,Ext A E b c->bg X.K c p (ns.map V.int):=λb c ex=>by
   have k:Rep T b c (.je ns) (.ref p):=Rep.mono ex _ _ (by rw[Rep];exact⟨p,rfl,g⟩);rw[Rep]at k;obtain⟨p',F,m⟩:=k;cases F;rw[<-M];exact m.seq
  exact⟨p,rfl,.inl ⟨⟨_,o _ _ (Ext.refl _ _)⟩,Ib.here (R:=Iw T) p1 t (NN λb c ex=>⟨_,o b c ex,IC ns⟩)⟩⟩
 |ref n=>
  unfold vw at p1;dsimp only at p1;cases j:ek B n with
  |none=>rw[j]at p1;exact p1.elim
  |some xs=>
   rw[j]at p1;obtain⟨a,l,rfl,_,g,k⟩:=t.lst q1 j;refine⟨a,rfl,.inl ⟨⟨l,bg.of g⟩,Ib.here (R:=Iw T) p1 t λb c u i ex Q=>?_⟩⟩;show match (ek u n).map (λxs=>xs[i]?)with|none=>True|some none=>_|some (some d)=>_
   cases J:ek u n with
   |none=>trivial
   |some D=>
    obtain⟨a',z,G,_,m,C⟩:=Q.lst (Rep.mono ex _ _ q1) J;cases G;show match some (D[i]?)with|none=>True|some none=>_|some (some d)=>_
    cases e:D[i]? with
    |none=>exact⟨z,bg.of m,by rw[<-C.length];exact Eb.mp e⟩
    |some d=>
     obtain⟨v,q,w⟩:=C.get e;refine⟨⟨z,v,bg.of m,q⟩,λx Z y=>?_⟩;obtain⟨rfl,y⟩:=y;have:=y z (bg.of m);rw[q]at this;cases this;exact⟨rfl,w⟩
 |_=>exact p1.elim
theorem cX{n i:Nat}(h:i<n):(Gv n)[i]?=some (.int i):=by simp[Gv,h]
theorem A8(n:Nat):(Gv n).length=n:=by simp[Gv]
theorem KF{a:Ja}{p k:Ye}(g:Gl X "range")(hm:X.mg "range" = none)(m:FE T X a f)(c:pa [a] X.env=[(false,Nb a X.env)]:=by rfl):FI T X tg (.Call (.Name "range" p) [a] [] k) (tz f):=by
 intro e s t H R I q;refine zpc g hm (Iv m Yw c) c e s t H R I ?_;obtain⟨u,A,B,l,o,n⟩:=q;refine⟨u,A,B,l,o,n.bind λd C w v F _ J r q1 p1=>?_⟩;cases d with
 |int j=>
  rw[Rep]at q1;subst q1;unfold ED at p1;dsimp only at p1;by_cases b:cF j=true
  ·rw[ia b]at p1;simp only[cF,Ul,Fa,Lb]at b;refine⟨j,rfl,b.1,b.2,Ib.here (R:=Iw T) p1 r λz G D i ex K=>?_⟩;show match some (Gv j.toNat)[i]? with|none=>True|some none=>_|some (some d)=>_
   by_cases h:i<j.toNat
   ·rw[cX h];refine⟨h,λx E y=>?_⟩;obtain⟨rfl,rfl⟩:=y;exact⟨rfl,by rw[Rep,cE]⟩
   ·rw[Eb.mpr (by rw[A8];omega)];exact Nat.not_lt.mp h
  ·rw[ja b]at p1;exact p1.elim
 |_=>exact p1.elim
end
noncomputable def tw(k:Ev->M Fl):Fl->M Fl
 | .nx a=>k a
 | .ct a=>k a
 | .bk a=>ret (.nx a)
 | .rt d=>ret (.rt d)
 | .xc b x=>ret (.xc b x)
noncomputable def Pm(tg:D->Ev->Option Ev)(body:Ev->M Fl):List D->Ev->M Fl
 |[],a=>ret (.nx a)
 |d::ds,a=>match tg d a with
  |none=>bad
  |some b=>qd (body b) (tw (Pm tg body ds))
noncomputable def gu(tg:D->Ev->Option Ev)(body:Ev->M Fl)(n:Nat):Nat->Nat->Ev->M Fl
 |0,_,_=>bad
 |k+1,i,c=>λb=>match ek b n with
  |none=>.bad
  |some xs=>match xs[i]? with
   |none=>.ok (.nx c) b
   |some d=>match tg d c with
    |none=>.bad
    |some a=>qd (body a) (tw (gu tg body n k (i+1))) b
noncomputable def pF(tg:D->Ev->Option Ev)(body:Ev->M Fl)(ρ:Ev):Src->M Fl
 | .seq ds=>Pm tg body ds ρ
 | .Yt n=>gu tg body n 1001 0 ρ
noncomputable def Mr(src:Ev->M Src)(tg:D->Ev->Option Ev)(body:Ev->M Fl):Ev->M Fl:=λa=>xs a (src a) (pF tg body a)
section
variable{T:Tb}{X:Cx}
theorem lJ{e:List Addr}{H1:Hp}{f:db}{i:Fl}{gl:Rm}{D:Ends}{k:Ev->M Fl}{N:St->Hp->Prop}(r1:Rel T e H1 f)(q1:Jl T e H1 i gl)(p1:Ib T EN (Jl T) e H1 (tw k i f) (wk X D))
  (hN:∀ b a,Zh T e H1 b a->Ib T EN (Jl T) e H1 (k b f) (wk X D)->N a H1):wk X { D with nx:=N,ct:=N,bk:=D.nx } gl H1:=by
 cases i with
 |nx b=>cases gl with
  |nx a=>exact hN b a q1 p1
  |_=>exact q1.elim
 |ct b=>cases gl with
  |ct a=>exact hN b a q1 p1
  |_=>exact q1.elim
 |bk b=>cases gl with
  |bk a=>have z:wk X D (Rm.nx a) H1:=Ib.here (g:=Rm.nx a) (d:=Fl.nx b) p1 r1 q1;exact z
  |_=>exact q1.elim
 |rt j=>cases gl with
  |rt v2=>have z:wk X D (Rm.rt v2) H1:=Ib.here (g:=Rm.rt v2) (d:=Fl.rt j) p1 r1 q1;exact z
  |_=>exact q1.elim
 |xc b x=>cases gl with
  |xc a c h=>have z:wk X D (Rm.xc a c h) H1:=Ib.here (g:=Rm.xc a c h) (d:=Fl.xc b x) p1 r1 q1;exact z
  |_=>exact q1.elim
variable{tgt iter:Ja}{body:List Stmt}{src:Ev->M Src}{t:D->Ev->Option Ev}{g:Ev->M Fl}{pos:Ye}
theorem Bt(V:uq (model X.prog X.w) X.A X.env X.xe)(hc:X.calm=true)(hi:FI T X tgt iter src)(hg:FG T X tgt t)(hb:Hq T X body g)
  (hs:∀ x,ph iter X.env x=pure x:=by intro _;rfl):FS T X (.For tgt iter body [] pos) (Mr src t g):=by
 intro Q s st H D I hq;refine oP V hc hi hg hb hs Q s st H D I ?_;obtain⟨c,k,q,S,hr,V⟩:=hq;refine⟨c,k,q,S,hr,V.xs S λsrc B j J O _ e1 r1 q1 p1=>?_⟩;cases src with
 |seq ds=>
  have K:Ib T EN (Jl T) j O (Pm t g ds k B) (wk X D):=p1;refine⟨λi m o b=>m=ds.length - i/\∃ c k q,Ext j O c b/\Zh T c b k o/\Rel T c b q/\Ib T EN (Jl T) c b (Pm t g (ds.drop i) k q) (wk X D),⟨ds.length,by simp,j,k,B,Ext.refl _ _,S.mono e1,r1,by simpa using K⟩,?_⟩;rintro i m o b ⟨rfl,e,u,f,ex,r,z,p2⟩;have Z:=q1 e b f i ex z;have a:match (some ds[i]?:Option (Option L4.D))with|none=>True|some none=>J.stop i b|some (some d)=>J.go i b/\∀ x P,J.hB i b x P->P=b/\Rep T e b d x:=Z
  cases C:ds[i]? with
  |none=>
   rw[C]at a;rw[Sr (Eb.mp C)]at p2;exact .inl ⟨a,Ib.here (g:=Rm.nx o) p2 z r⟩
  |some d=>
   rw[C]at a;obtain⟨hl,ed⟩:=ma.mp C;have hd:ds.drop i=d::ds.drop (i+1):=by rw[<-ed];exact(pq hl)
   rw[hd]at p2;unfold Pm at p2;refine .inr ⟨a.1,λp l=>∃ c k q,Ext j O c l/\Zh T c l k p/\Rel T c l q/\Ib T EN (Jl T) c l (Pm t g (ds.drop (i+1)) k q) (wk X D),λp l h=>⟨ds.length - (i+1),by omega,rfl,h⟩,λx l y=>?_⟩;obtain⟨rfl,W⟩:=a.2 x l y;cases G:t d u with
   |none=>rw[G]at p2;exact p2.elim
   |some v=>
    rw[G]at p2;exact⟨e,f,u,d,v,r,z,W,G,λp E=>⟨e,v,f,E,z,p2.bind λfl N L gl H4 _ U R q4 p4=>lJ R q4 p4 λM a0 F Y=>⟨L,M,N,ex.trans U,F,R,Y⟩⟩⟩
 |Yt n=>
  have K:Ib T EN (Jl T) j O (gu t g n 1001 0 k B) (wk X D):=p1;refine⟨λi m o b=>∃ c k q,Ext j O c b/\Zh T c b k o/\Rel T c b q/\Ib T EN (Jl T) c b (gu t g n m i k q) (wk X D),⟨1001,j,k,B,Ext.refl _ _,S.mono e1,r1,K⟩,?_⟩;rintro i m o b ⟨e,u,f,ex,r,z,p2⟩;cases m with
  |zero=>exact p2.elim
  |succ m=>
   unfold gu at p2;have Z:=q1 e b f i ex z;have a:match ((ek f n).map λxs=>xs[i]?:Option (Option L4.D))with|none=>True|some none=>J.stop i b|some (some d)=>J.go i b/\∀ x P,J.hB i b x P->P=b/\Rep T e b d x:=Z
   cases el:ek f n with
   |none=>simp only[el]at p2;exact p2.elim
   |some xs=>
    simp only[el]at p2 a;cases C:xs[i]? with
    |none=>
     simp only[C,vh]at p2 a;exact .inl ⟨a,Ib.here (g:=Rm.nx o) p2 z r⟩
    |some d=>
     simp only[C,vh]at p2 a;refine .inr ⟨a.1,λp l=>∃ c k q,Ext j O c l/\Zh T c l k p/\Rel T c l q/\Ib T EN (Jl T) c l (gu t g n m (i+1) k q) (wk X D),λp l h=>⟨m,Gb _,h⟩,λx l y=>?_⟩;obtain⟨rfl,W⟩:=a.2 x l y;cases G:t d u with
     |none=>simp only[G]at p2;exact p2.elim
     |some v=>
      simp only[G]at p2;exact⟨e,f,u,d,v,r,z,W,G,λp E=>⟨e,v,f,E,z,p2.bind λfl N L gl H4 _ U R q4 p4=>lJ R q4 p4 λM a0 F Y=>⟨L,M,N,ex.trans U,F,R,Y⟩⟩⟩
end
mutual
noncomputable def cl:D->Bool
 | .tup xs=>cj xs
 | .lst xs=>cj xs
 | .Ya _ xs=>cj xs
 | .obj _ _ xs=>cj xs
 | .ref _=>false
 | .Jb=>true
 | .bl _=>true
 | .int _=>true
 | .str _=>true
 | .je _=>true
 | .ku _=>true
 | .gt _=>true
noncomputable def cj:List D->Bool
 |[]=>true
 |d::ds=>cl d && cj ds
end
noncomputable def Ds(f:D->Option D):List D->Option (List D)
 |[]=>some []
 |d::ds=>match f d,Ds f ds with
  |some x,some xs=>some (x::xs)
  |_,_=>none
noncomputable def fz(k:Nat)(σ:db):Nat->D->Option D
 |0,d=>if cl d=true then some d else match d with
  | .ref n=>if n<k then some (.ref n)else none
  |_=>none
 |m+1,d=>if cl d=true then some d else match d with
  | .ref n=>if n<k then some (.ref n)else match σ[n]? with
   |some (.lst xs)=>(Ds (fz k σ m) xs).map .lst
   |some (.Ya a)=>(Ds (fz k σ m) (a.map (·.2))).map (.Ya (a.map (·.1)))
   |some (.ins c fs)=>(Ds (fz k σ m) (fs.map (·.2))).map (.obj c (fs.map (·.1)))
   |some (.Kc _)=>none
   |some (.eg _)=>none
   |none=>none
  | .tup xs=>(Ds (fz k σ m) xs).map .tup
  | .lst xs=>(Ds (fz k σ m) xs).map .lst
  | .Ya b xs=>(Ds (fz k σ m) xs).map (.Ya b)
  | .obj c ns xs=>(Ds (fz k σ m) xs).map (.obj c ns)
  |_=>none
open Classical in
noncomputable def Eh(σ:db):Out D->Out D
 | .ok d a=>if a.take σ.length=σ then (match fz σ.length a 6 d with
  |some b=>.ok b σ
  |none=>.bad)else .bad
 | .ex x a=>if a.take σ.length=σ then .ex x σ else .bad
 | .bad=>.bad
noncomputable def Za(f:M D):M D:=λa=>Eh a (f a)
section
variable{T:Tb}{μ μ':List Addr}{H H':Hp}{σ σ':db}
mutual
theorem XI(e:∃ r,μ'=μ++r):∀ (d:D) (v:V),cl d=true->Rep T μ' H d v->Rep T μ H d v
 | .Jb,v,_,h=>by simpa [Rep]using h
 | .bl b,v,_,h=>by simpa [Rep]using h
 | .int i,v,_,h=>by simpa [Rep]using h
 | .str x,v,_,h=>by simpa [Rep]using h
 | .tup ds,v,c,h=>by
  rw[Rep]at h ⊢;obtain⟨p,l,f,g,j⟩:=h;exact⟨p,l,f,g,bC e ds l (by simpa [cl]using c) j⟩
 | .je ns,v,_,h=>by rw[Rep]at h ⊢;exact h
 | .ref n,v,c,h=>by simp[cl]at c
 | .lst ds,v,c,h=>by
  rw[Rep]at h ⊢;obtain⟨a,l,f,g,j,m⟩:=h;exact⟨a,l,f,λz=>g (by obtain⟨r,rfl⟩:=e;exact Oa _ z),j,bC e ds l (by simpa [cl]using c) m⟩
 | .Ya w ds,v,c,h=>by
  rw[Rep]at h ⊢;obtain⟨a,l,f,g,j,o,m⟩:=h;exact⟨a,l,f,λz=>g (by obtain⟨r,rfl⟩:=e;exact Oa _ z),j,o,bC e ds _ (by simpa [cl]using c) m⟩
 | .obj k ns ds,v,c,h=>by
  rw[Rep]at h ⊢;obtain⟨a,u,l,f,g,j,o,m⟩:=h;exact⟨a,u,l,f,λz=>g (by obtain⟨r,rfl⟩:=e;exact Oa _ z),j,o,bC e ds _ (by simpa [cl]using c) m⟩
 | .ku k,v,_,h=>by
  rw[Rep]at h ⊢;obtain⟨a,t,f,g,j,m⟩:=h;exact⟨a,t,f,λz=>g (by obtain⟨r,rfl⟩:=e;exact Oa _ z),j,λn q=>let ⟨s,q1,q2,q3⟩:=m n q;⟨s,q1,λz=>q2 (by obtain⟨r,rfl⟩:=e;exact Oa _ z),q3⟩⟩
 | .gt ss,v,_,h=>by rw[Rep]at h ⊢;exact h
theorem bC(e:∃ r,μ'=μ++r):∀ (ds:List D) (vs:List V),cj ds=true->Wa T μ' H ds vs->Wa T μ H ds vs
 |[],vs,_,h=>by simpa [Wa]using h
 |d::ds,vs,c,h=>by
  rw[Wa]at h ⊢;obtain⟨v,r,b,f,g⟩:=h;have a:cl d=true/\cj ds=true:=by simpa [cj,Fa]using c
  exact⟨v,r,b,XI e d v a.1 f,bC e ds r a.2 g⟩
end
mutual
theorem Rep.down(e:∃ r,μ'=μ++r):∀ (d:D) (v0 v:V),Rep T μ H d v0->Rep T μ' H' d v->Rep T μ H' d v
 | .Jb,v0,v,_,h=>by simpa [Rep]using h
 | .bl b,v0,v,_,h=>by simpa [Rep]using h
 | .int i,v0,v,_,h=>by simpa [Rep]using h
 | .str x,v0,v,_,h=>by simpa [Rep]using h
 | .tup ds,v0,v,c,h=>by
  rw[Rep]at h c ⊢;obtain⟨p,m,g,f,l⟩:=h;obtain⟨p0,j,_,_,w⟩:=c;exact⟨p,m,g,f,Wa.down e ds j m w l⟩
 | .je ns,v0,v,_,h=>by rw[Rep]at h ⊢;exact h
 | .ref n,v0,v,c,h=>by
  rw[Rep]at h c ⊢;obtain⟨a,g,f⟩:=h;obtain⟨b,_,u⟩:=c;refine⟨a,g,?_⟩;obtain⟨r,rfl⟩:=e;rw[Ta (ma.mp u).1]at f;exact f
 | .lst ds,v0,v,c,h=>by
  rw[Rep]at h c ⊢;obtain⟨a,m,g,f,l,o⟩:=h;obtain⟨_,j,_,_,_,s⟩:=c;exact⟨a,m,g,λz=>f (by obtain⟨r,rfl⟩:=e;exact Oa _ z),l,Wa.down e ds j m s o⟩
 | .Ya C ds,v0,v,c,h=>by
  rw[Rep]at h c ⊢;obtain⟨a,m,g,f,l,t,o⟩:=h;obtain⟨_,j,_,_,_,_,s⟩:=c;exact⟨a,m,g,λz=>f (by obtain⟨r,rfl⟩:=e;exact Oa _ z),l,t,Wa.down e ds _ _ s o⟩
 | .obj k ns ds,v0,v,c,h=>by
  rw[Rep]at h c ⊢;obtain⟨a,B,m,g,f,l,t,o⟩:=h;obtain⟨_,_,j,_,_,_,_,s⟩:=c;exact⟨a,B,m,g,λz=>f (by obtain⟨r,rfl⟩:=e;exact Oa _ z),l,t,Wa.down e ds _ _ s o⟩
 | .ku k,v0,v,_,h=>by
  rw[Rep]at h ⊢;obtain⟨a,A,g,f,l,o⟩:=h;exact⟨a,A,g,λz=>f (by obtain⟨r,rfl⟩:=e;exact Oa _ z),l,λn q=>let ⟨y,q1,q2,q3⟩:=o n q;⟨y,q1,λz=>q2 (by obtain⟨r,rfl⟩:=e;exact Oa _ z),q3⟩⟩
 | .gt ss,v0,v,_,h=>by rw[Rep]at h ⊢;exact h
theorem Wa.down(e:∃ r,μ'=μ++r):∀ (ds:List D) (a vs:List V),Wa T μ H ds a->Wa T μ' H' ds vs->Wa T μ H' ds vs
 |[],a,vs,_,h=>by simpa [Wa]using h
 |d::ds,a,vs,c,h=>by
  rw[Wa]at h c ⊢;obtain⟨v,r,g,i,j⟩:=h;obtain⟨l,k,_,b,f⟩:=c;exact⟨v,r,g,Rep.down e d l v b i,Wa.down e ds k r f j⟩
end
theorem pG{f:Type}(e:∃ r,μ'=μ++r):∀ {xs:List (f × D)} {ys g:List (f × V)},Paired (λ(p:f × D) (q:f × V)=>p.1=q.1/\Rep T μ H p.2 q.2) xs g->Paired (λ(p:f × D) (q:f × V)=>p.1=q.1/\Rep T μ' H' p.2 q.2) xs ys->Paired (λ(p:f × D) (q:f × V)=>p.1=q.1/\Rep T μ H' p.2 q.2) xs ys
 |_,_,_,.nil,.nil=>.nil
 |_,_,_,.cons a b,.cons c d=>.cons ⟨c.1,Rep.down e _ _ _ a.2 c.2⟩ (pG e b d)
theorem jq.down(e:∃ r,μ'=μ++r){a:Addr}:∀ {o:Ob},jq T μ H a o->jq T μ' H' a o->jq T μ H' a o
 | .lst ds,⟨_,_,c⟩,⟨b,h,r⟩=>⟨b,h,Wa.down e _ _ _ c r⟩
 | .Ya f,⟨_,_,c⟩,⟨b,h,r⟩=>⟨b,h,pG e c r⟩
 | .ins c fs,⟨_,_,_,d⟩,⟨g,b,h,r⟩=>⟨g,b,h,pG e d r⟩
 | .Kc f,⟨_,_,_,d⟩,⟨i,b,h,r⟩=>⟨i,b,h,pG e d r⟩
 | .eg j,_,⟨b,h,r⟩=>⟨b,h,r⟩
theorem Rel.down(c:Rel T μ H σ)(r:Rel T μ' H' σ')(e:Ext μ H μ' H')(m:σ'.take σ.length=σ):Rel T μ H' σ/\Ext μ H μ H':=by
 refine⟨⟨c.len,c.nd,λn o h=>?_,r.tb.sub λb hb=>by obtain⟨z,rfl⟩:=e.pre;exact Oa _ hb⟩,⟨⟨[],by simp⟩,e.tup,e.Za,λp o h n=>⟨(e.keep p o h n).1,n⟩⟩⟩;obtain⟨a,f,i⟩:=c.obs n o h;have g:σ'[n]?=some o:=by
  have l:=(ma.mp h).1;rw[<-m,Lq l]at h;exact h
 obtain⟨b,j,k⟩:=r.obs n o g;have d:=e.get f;rw[j]at d;cases d;exact⟨a,f,i.down e.pre k⟩
theorem eI{c:Type}:∀ {xs:List (c × D)} {ys:List (c × V)},Paired (λ(p:c × D) (q:c × V)=>p.1=q.1/\Rep T μ H p.2 q.2) xs ys->ys.map (·.1)=xs.map (·.1)/\Wa T μ H (xs.map (·.2)) (ys.map (·.2))
 |_,_,.nil=>⟨rfl,Wa.nil⟩
 |_,_,.cons a b=>by
  obtain⟨d,e⟩:=eI b;exact⟨by simp[d,a.1],Wa.cons a.2 e⟩
theorem ZL{f:D->Option D}(e:∀ d d' v,f d=some d'->Rep T μ' H d v->Rep T μ H d' v):∀ (ds a:List D) (vs:List V),Ds f ds=some a->Wa T μ' H ds vs->Wa T μ H a vs
 |[],a,vs,h,r=>by cases h;simpa [Wa]using r
 |d::ds,a,vs,h,r=>by
  unfold Ds at h;cases b:f d with
  |none=>rw[b]at h;cases h
  |some x=>
   cases c:Ds f ds with
   |none=>rw[b,c]at h;cases h
   |some xs=>
    rw[b,c]at h;cases h;rw[Wa]at r;obtain⟨v,w,rfl,g,i⟩:=r;exact Wa.cons (e d x v b g) (ZL e ds xs w c i)
theorem cN(e:∃ r,μ'=μ++r)(r:Rel T μ' H σ'):∀ (m:Nat) (d d':D) (v:V),fz μ.length σ' m d=some d'->Rep T μ' H d v->Rep T μ H d' v:=by
 have F:∀ n v,n<μ.length->Rep T μ' H (.ref n) v->Rep T μ H (.ref n) v:=λn v hn h=>by
  rw[Rep]at h ⊢;obtain⟨a,l,g⟩:=h;obtain⟨q,rfl⟩:=e;rw[Ta hn]at g;exact⟨a,l,g⟩
 intro m;induction m with
 |zero=>
  intro d d' v h s;unfold fz at h;by_cases y:cl d=true
  ·rw[ia y]at h;cases h;exact XI e _ _ y s
  ·rw[ja y]at h;cases d with
   |ref n=>
    dsimp only at h;by_cases hn:n<μ.length
    ·rw[ia hn]at h;cases h;exact F n v hn s
    ·rw[ja hn]at h;cases h
   |_=>cases h
 |succ m Q=>
  intro d d' v h s;unfold fz at h;by_cases y:cl d=true
  ·rw[ia y]at h;cases h;exact XI e _ _ y s
  ·rw[ja y]at h;have go:=ZL (T:=T) (μ:=μ) (μ':=μ') (H:=H) (f:=fz μ.length σ' m) (λd d' v a b=>Q d d' v a b);cases d with
   |ref n=>
    dsimp only at h;by_cases hn:n<μ.length
    ·rw[ia hn]at h;cases h;exact F n v hn s
    ·rw[ja hn]at h;cases J:σ'[n]? with
     |none=>rw[J]at h;cases h
     |some o=>
      rw[J]at h;obtain⟨a,rfl,O,A⟩:=r.at s J;have out:a ∉ μ:=λz=>by
       obtain⟨i,N⟩:=Ft z;obtain⟨q,rfl⟩:=e;have P:=(ma.mp N).1;have:=HF r.nd (i:=i) (j:=n) (by rw[Ta P];exact N) O;omega
      cases o with
      |lst xs=>
       obtain⟨t,l,g⟩:=Fb.mp h;subst g;obtain⟨k,C,E⟩:=A;rw[Rep];exact⟨a,k,rfl,out,C,go xs t k l E⟩
      |Ya M=>
       obtain⟨t,l,g⟩:=Fb.mp h;subst g;obtain⟨k,C,E⟩:=A;obtain⟨K,L⟩:=eI E;rw[Rep];exact⟨a,k,rfl,out,(.inl C),K,go _ t _ l L⟩
      |ins c fs=>
       obtain⟨t,l,g⟩:=Fb.mp h;subst g;obtain⟨G,k,C,E⟩:=A;obtain⟨K,L⟩:=eI E;rw[Rep];exact⟨a,G,k,rfl,out,C,K,go _ t _ l L⟩
      |Kc M=>cases h
      |eg _=>cases h
   |tup xs=>
    obtain⟨t,l,g⟩:=Fb.mp h;subst g;rw[Rep]at s ⊢;obtain⟨p,k,u,w,x⟩:=s;exact⟨p,k,u,w,go xs t k l x⟩
   |lst xs=>
    obtain⟨t,l,g⟩:=Fb.mp h;subst g;rw[Rep]at s ⊢;obtain⟨p,k,u,B,w,x⟩:=s;exact⟨p,k,u,λz=>B (by obtain⟨r,rfl⟩:=e;exact Oa _ z),w,go xs t k l x⟩
   |Ya R xs=>
    obtain⟨t,l,g⟩:=Fb.mp h;subst g;rw[Rep]at s ⊢;obtain⟨p,k,u,B,w,I,x⟩:=s;exact⟨p,k,u,λz=>B (by obtain⟨r,rfl⟩:=e;exact Oa _ z),w,I,go xs t _ l x⟩
   |obj c R xs=>
    obtain⟨t,l,g⟩:=Fb.mp h;subst g;rw[Rep]at s ⊢;obtain⟨p,G,k,u,B,w,I,x⟩:=s;exact⟨p,G,k,u,λz=>B (by obtain⟨r,rfl⟩:=e;exact Oa _ z),w,I,go xs t _ l x⟩
   |_=>cases h
theorem Ib.Za{E:XK}{f:M D}{Q:V->Hp->Prop}(r:Rel T μ H σ)(h:Ib T E (Rep T) μ H (Za f σ) Q):Ib T E (Rep T) μ H (f σ) Q:=by
 unfold L4.Za at h;cases e:f σ with
 |bad=>rw[e]at h;exact h
 |ex x a=>
  rw[e]at h;unfold Eh at h;dsimp only at h;by_cases b:a.take σ.length=σ
  ·rw[ia b]at h;intro m i c g;obtain⟨l,j⟩:=Rel.down r g c b;exact h μ i j l
  ·rw[ja b]at h;exact h.elim
 |ok d a=>
  rw[e]at h;unfold Eh at h;dsimp only at h;by_cases b:a.take σ.length=σ
  ·rw[ia b]at h;cases k:fz σ.length a 6 d with
   |none=>rw[k]at h;exact h.elim
   |some n=>
    rw[k]at h;intro m v i c g p1;obtain⟨l,j⟩:=Rel.down r g c b;exact h μ v i j l (cN c.pre g 6 d n v (by rw[r.len];exact k) p1)
  ·rw[ja b]at h;exact h.elim
end
noncomputable def cm(f:Ev->M D):Ev->M D:=λa=>Za (f a)
theorem Bs{T:Tb}{X:Cx}{e:Ja}{f:Ev->M D}(h:FE T X e f):FE T X e (cm f):=by
 intro a s i H Q I g;obtain⟨j,k,l,c,b,d⟩:=g;exact h a s i H Q I ⟨j,k,l,c,b,Ib.Za b d⟩
end L4
namespace L4
open PySem PySem.Spec PyProof.Rows L2
noncomputable def DK(h h':Heap):Prop:=∀ (a:Nat) o,h.objs[a]?=some o->∃ b:Obj,h'.objs[a]?=some b/\b.dict=o.dict
theorem DK.refl(h:Heap):DK h h:=λ_ o e=>⟨o,e,rfl⟩
theorem DK.trans{d f h3:Heap}(x:DK d f)(y:DK f h3):DK d h3:=λa o e=>by
 obtain⟨h,g,q⟩:=x a o e;obtain⟨c,b,i⟩:=y a h g;exact⟨c,b,i.trans q⟩
theorem DK.push(h:Heap)(o:Obj):DK h (h.push o):=λa u e=>by
 obtain⟨b,l⟩:=h;have e:b[a]?=some u:=e;have c:=(Zc.mp e).1;refine⟨u,?_,rfl⟩;show (b.push o)[a]?=some u;rw[Array.getElem?_push_lt c];exact(zb c).symm.trans e
theorem DK.update(h:Heap)(b:Addr){f:Obj->Obj}(d:∀ o,(f o).dict=o.dict):DK h (h.update b f):=λa u e=>by
 obtain⟨c,l⟩:=h;have e:c[a]?=some u:=e;show ∃ g:Obj,(c.modify b f)[a]?=some g/\_;rw[Array.getElem?_modify];by_cases hb:b=a
 ·rw[ia hb,e];exact⟨f u,rfl,d u⟩
 ·rw[ja hb];exact⟨u,e,rfl⟩
theorem DK.get{h h':Heap}(x:DK h h'){a:Addr}{o o':Obj}(e:h.get? a=some o)(b:h'.get? a=some o'):o'.dict=o.dict:=by
 obtain⟨u,q1,q2⟩:=x a o ((iw _ _ _).1 e).1;have:=((iw _ _ _).1 b).1;have z:some u=some o':=q1.symm.trans this;cases z;exact q2
structure KD{α:Type}(t:zp α):Prop where
 out:∀ (M:jk) (Γ:PySem.Ctx) (Q:α->Ye->Shared->Prop) (E:Value->Ye->Shared->Prop) (p:Ye) (s:Shared),Sem.wp M Γ t Q E p s->Sem.wp M Γ t (λa p' s'=>Q a p' s'/\DK s.heap s'.heap) (λe p' s'=>E e p' s'/\DK s.heap s'.heap) p s
namespace KD
variable{α β:Type}
theorem qu(a:α):KD (Pure.pure a:zp α):=⟨λ_ _ _ _ _ s h=>⟨h,.refl _⟩⟩
theorem Xv(w:String):KD (PySem.unsupported w:zp α):=⟨λ_ _ _ _ _ _ h=>h⟩
theorem qd{m:zp α}{f:α->zp β}(hm:KD m)(e:∀ a,KD (f a)):KD (m >>= f):=⟨λM b Q E p s h=>by
 rw[xm]at h ⊢;refine yu M b m (λa c d z=>?_) (λ_ _ _ z=>z) p s (hm.out M b _ _ p s h);exact yu M b (f a) (λ_ _ _ q=>⟨q.1,z.2.trans q.2⟩) (λ_ _ _ q=>⟨q.1,z.2.trans q.2⟩) c d ((e a).out M b _ _ c d z.1)⟩
theorem on{c:Prop}[Decidable c]{t u:zp α}(a:KD t)(b:KD u):KD (if c then t else u):=by split<;>assumption
theorem ld(a:Addr):KD (PySem.load a):=⟨λ_ _ _ _ _ _ h=>by obtain⟨o,b,h⟩:=h;exact⟨o,b,h,.refl _⟩⟩
theorem upd(a:Addr){f:Obj->Obj}(b:∀ o,(f o).dict=o.dict):KD (PySem.update a f):=⟨λ_ _ _ _ _ _ h=>⟨h.1,h.2,.update _ _ b⟩⟩
theorem Zp:KD PySem.stack:=⟨λM a Q E p s h=>by
 unfold PySem.stack at h ⊢;rw[Sem.wp_stack]at h ⊢;exact⟨h,.refl _⟩⟩
theorem yv(o:Obj):KD (PySem.alloc o):=⟨λ_ _ _ _ _ _ h=>⟨h,.push _ _⟩⟩
theorem fld(v:Value)(i:Nat):KD (PySem.field v i):=⟨λ_ g Q E p s h=>by
 rw[jw]at h ⊢;obtain⟨a,o,f,x,b,c,d,e,h⟩:=h;exact⟨a,o,f,x,b,c,d,e,h,.refl _⟩⟩
theorem set(v:Value)(i:Nat)(x:Value):KD (PySem.setField v i x):=⟨λ_ m Q E p s h=>by
 rw[nH]at h ⊢;obtain⟨a,o,k,e,f,g,j,h⟩:=h;exact⟨a,o,k,e,f,g,j,h,.update _ _ λo=>by obtain⟨c,d,b,l⟩:=o;cases b<;>rfl⟩⟩
end KD
theorem L6(env:wh)(l:List wh):KD (SL env l):=by unfold SL;(repeat' with_reducible first|assumption|exact KD.qu _|exact KD.Xv _|exact KD.fld _ _|exact KD.set _ _ _|exact KD.ld _|exact KD.upd _ (λ_=>rfl)|exact KD.Zp|exact KD.yv _|apply KD.on|apply KD.qd|intro _|split)
theorem mY:KD underTheClaimsCaller:=by unfold underTheClaimsCaller;(repeat' with_reducible first|assumption|exact KD.qu _|exact KD.Xv _|exact KD.fld _ _|exact KD.set _ _ _|exact KD.ld _|exact KD.upd _ (λ_=>rfl)|exact KD.Zp|exact KD.yv _|apply KD.on|apply KD.qd|intro _|split)
theorem UU(env:wh)(i:Bool)(l:List wh):KD (keptBack env i l):=by
 have:=mY;cases l<;>unfold keptBack<;>(repeat' with_reducible first|assumption|exact KD.qu _|exact KD.Xv _|exact KD.fld _ _|exact KD.set _ _ _|exact KD.ld _|exact KD.upd _ (λ_=>rfl)|exact KD.Zp|exact KD.yv _|apply KD.on|apply KD.qd|intro _|split)
theorem IS:∀ l:List wh,KD (readyFrames l)
 |[]=>KD.qu _
 |env::l=>by
  have c:=IS l;have b:=L6 env l;have a:=λi=>UU env i l;unfold readyFrames
  (repeat' with_reducible first|assumption|exact KD.qu _|exact KD.Xv _|exact KD.fld _ _|exact KD.set _ _ _|exact KD.ld _|exact KD.upd _ (λ_=>rfl)|exact KD.Zp|exact KD.yv _|apply KD.on|apply KD.qd|intro _|split)
  all_goals first|exact a _|skip
theorem ybk(l:List wh):KD (frameObject l):=by
 cases l with
 |nil=>exact KD.qu _
 |cons env l=>
  have:=IS (env::l);unfold frameObject
  (repeat' with_reducible first|assumption|exact KD.qu _|exact KD.Xv _|exact KD.fld _ _|exact KD.set _ _ _|exact KD.ld _|exact KD.upd _ (λ_=>rfl)|exact KD.Zp|exact KD.yv _|apply KD.on|apply KD.qd|intro _|split)
theorem R7:KD frameEnvs:=by unfold frameEnvs;(repeat' with_reducible first|assumption|exact KD.qu _|exact KD.Xv _|exact KD.fld _ _|exact KD.set _ _ _|exact KD.ld _|exact KD.upd _ (λ_=>rfl)|exact KD.Zp|exact KD.yv _|apply KD.on|apply KD.qd|intro _|split)
theorem F7(env:wh):KD (PySem.frameOf env):=by
 have b:=R7;have a:=ybk;unfold PySem.frameOf
 (repeat' with_reducible first|assumption|exact KD.qu _|exact KD.Xv _|exact KD.fld _ _|exact KD.set _ _ _|exact KD.ld _|exact KD.upd _ (λ_=>rfl)|exact KD.Zp|exact KD.yv _|apply KD.on|apply KD.qd|intro _|split)
 all_goals first|exact a _|skip
theorem D7(f:Addr)(b:Bool):KD (entryPlaceOf f b):=by unfold entryPlaceOf;(repeat' with_reducible first|assumption|exact KD.qu _|exact KD.Xv _|exact KD.fld _ _|exact KD.set _ _ _|exact KD.ld _|exact KD.upd _ (λ_=>rfl)|exact KD.Zp|exact KD.yv _|apply KD.on|apply KD.qd|intro _|split)
theorem zts(a b c d e:Value)(l:List Value):KD (wq a b c d e l):=by
 unfold wq pE newObj newObjAsIs;dsimp only
 (repeat' with_reducible first|assumption|exact KD.qu _|exact KD.Xv _|exact KD.fld _ _|exact KD.set _ _ _|exact KD.ld _|exact KD.upd _ (λ_=>rfl)|exact KD.Zp|exact KD.yv _|apply KD.on|apply KD.qd|intro _|split)
theorem ybl(e:Value)(env:wh):KD (dh e env):=by
 have c:=F7 env;have a:=D7;have b:=zts;unfold dh
 (repeat' with_reducible first|assumption|exact KD.qu _|exact KD.Xv _|exact KD.fld _ _|exact KD.set _ _ _|exact KD.ld _|exact KD.upd _ (λ_=>rfl)|exact KD.Zp|exact KD.yv _|apply KD.on|apply KD.qd|intro _|split)
 all_goals first|exact a _ _|exact b _ _ _ _ _ _|skip
theorem x4(e:Value)(f:Option Addr):KD (Bi e f):=by unfold Bi;(repeat' with_reducible first|assumption|exact KD.qu _|exact KD.Xv _|exact KD.fld _ _|exact KD.set _ _ _|exact KD.ld _|exact KD.upd _ (λ_=>rfl)|exact KD.Zp|exact KD.yv _|apply KD.on|apply KD.qd|intro _|split)
theorem QQ{e:Type}{M:jk}{A:Ia}{t:zp e}{Q:e->Shared->Prop}{E:Value->Shared->Prop}{s:Shared}(k:KD t)(h:wpAny M A t Q E s):wpAny M A t (λa d=>Q a d/\DK s.heap d.heap) E s:=
 λc p b=>yu M c t (λ_ _ _ z=>z) (λ_ _ _ z=>z.1) p s (k.out M c _ _ p s (h c p b))
section
variable{P:ra}{w:Ka}{H H':Hp}{h h':Heap}{a:Addr}{o:HO}
theorem kS(x:Xi P w H h a o):∃ u,h.get? a=some u:=by
 cases o with
 |lst xs=>obtain⟨_,_,_,_,e⟩:=x;exact⟨_,e⟩
 |tup xs=>obtain⟨_,_,_,c,e,_⟩:=x;exact⟨_,e⟩
 |dK b=>obtain⟨_,_,_,_,o,_,_,e,_⟩:=x;exact⟨_,e⟩
 |dT b=>obtain⟨_,_,_,_,o,_,_,e,_⟩:=x;exact⟨_,e⟩
 |set S n=>obtain⟨o,_,_,_,e,_⟩:=x;exact⟨_,e⟩
 |ins C d fs=>obtain⟨_,_,_,e,_⟩:=x;exact⟨_,e⟩
 |own y=>obtain⟨_,e⟩:=x;exact⟨_,e⟩
 |xd fs=>obtain⟨_,⟨_,_,_,e,_⟩,_⟩:=x;exact⟨_,e⟩
 |EE lo g=>obtain⟨_,_,_,e⟩:=x;exact⟨_,e⟩
 |Za c u=>obtain⟨e,_⟩:=x;exact⟨_,e⟩
 |Hu i=>exact⟨_,x⟩
 |met f y=>exact⟨_,x⟩
 |ext j=>obtain⟨_,⟨_,e⟩,_⟩:=x;exact⟨_,e⟩
theorem kJ(x:Pi P w H h)(k:∀ b o u,H b=some o->h.get? b=some u->h'.get? b=some u):Pi P w H h':=λb o e=>
 (x b o e).jm (λc v a q=>by
  rcases a with rfl|a
  ·exact k _ _ _ e q
  ·exact k _ _ _ a q) (λ_ q=>q) λ_ _ q=>q
end
section
variable{X:Cx}{pins:List (Addr × Obj)}{st:St}{H H':Hp}{s s':Shared}{cls:Value}{h':Heap}{ea:Addr}{args:List Value}{M:jk}{E:Value->Shared->Prop}{Q:Unit->Shared->Prop}
theorem zz4{B:Heap}{l:List wh}{a0:Value}{h:Heap}(x:ZB B l ea cls a0 h):zr B l ea cls a0 h:=⟨x.1,x.2.1,x.2.2.1,.inl ⟨.none,x.2.2.2.at⟩⟩
theorem zr.there{B:Heap}{l:List wh}{a0:Value}{h:Heap}(x:zr B l ea cls a0 h):∃ ob,h.get? ea=some ob/\ob.cls=cls:=by
 obtain⟨_,_,_,⟨b,q⟩|⟨a,c,q1,q2,_⟩⟩:=x
 ·exact q.there
 ·exact⟨a,q1,q2⟩
theorem zr.BL{B:Heap}{l:List wh}{a0:Value}{h:Heap}{o:Obj}(x:zr B l ea cls a0 h)(b:h.get? ea=some o):∃ vs,o.data=.fields vs:=by
 obtain⟨_,_,_,⟨e,d,vs,T,f,g,c,a,hd,_⟩|⟨d,vs,q1,q2,q3,_⟩⟩:=x
 ·cases c.symm.trans b;exact⟨vs,hd⟩
 ·cases q1.symm.trans b;exact⟨vs,q3⟩
theorem HC.next{a:Option Nat}{B h h' b:Heap}{H':Hp}(x:HC a ea B h b H')(k:DK h h')(e:∃ o,h'.get? ea=some o):HC a ea B h' b H':=λn q=>by
 obtain⟨c,d,f,q1,q2,q3⟩:=x n q;obtain⟨o,e⟩:=e;exact⟨c,d,o,e,(k.get q1 e).trans q2,q3⟩
theorem II{A:Ia}{B:Heap}{l:List wh}{a0:Value}(x:zr B l ea cls a0 s.heap)(h:∀ a,zr B l ea cls a0 a->s.heap.UpToSlots a->DK s.heap a->Q () { s with heap:=a }):wpAny M A (Bi (.ref ea) none) Q E s:=by
 obtain⟨d,f,g,⟨r,c⟩|c⟩:=x
 ·have k:wpAny M A (Bi (.ref ea) none) (λ_ s'=>∃ a,s'={ s with heap:=a }/\zr B l ea cls a0 a/\s.heap.UpToSlots a) E s:=
   wpAny_setFlight_noneW d g c λa j m p q=>⟨a,rfl,zz4 ⟨j,f,m,p⟩,λb o e n=>⟨o.slots,q b o e n⟩⟩
  exact rc (QQ (x4 _ _) k) (λ_ _ ⟨⟨a,e,q1,q2⟩,q3⟩=>by subst e;exact h a q1 q2 q3) λ_ _ z=>z
 ·obtain⟨w,y,i,u,hd,v,t,a⟩:=id c;unfold Bi;refine aa (wl i hd a ?_);rw[ja (show ¬ ((La != La)=true)from by decide)];exact da (h s.heap ⟨d,f,g,.inr c⟩ (.refl _) (.refl _))
theorem yb6{A:Ia}{B:Heap}{env:wh}{outer:List wh}{L:Addr}{a0:Value}(m:A.frames=some (env::outer))(l:env.frame=some L)(x:zr B (env::outer) ea cls a0 s.heap)
  (F:∀ f,Ap B (env::outer) ea cls a0 L f->s.heap.UpToSlots f->Q () { s with heap:=f }):wpAny M A (dh (.ref ea) env) Q E s:=by
 obtain⟨z,u,C,⟨w,i⟩|i⟩:=x
 ·by_cases hm:w=rawInt L
  ·subst hm;exact wpAny_noteFrame_againW l i (F s.heap ⟨z,u,C,i⟩ (.refl _))
  ·obtain⟨oe,K,T,V,t,h,G,hd,f,r,g,hT,a,P⟩:=i;have sz:3<t.size:=(Zc.mp P).1;have c:∀ b,b≠T->(s.heap.update T (Ue (·.setIfInBounds 3 La))).get? b=s.heap.get? b:=λb hb=>tf _ _ (De hb);have nr:∀ b o,s.heap.get? b=some o->(∀ v,o.data≠.fields v)->b≠T:=λb o hb hn q=>by
    rw[q,hT]at hb;cases hb;exact hn t a
   have d:=Cc (Ue (·.setIfInBounds 3 La)) hT (Kf (Xb a _));have up:s.heap.UpToSlots (s.heap.update T (Ue (·.setIfInBounds 3 La))):=λb o e n=>⟨o.slots,(c b (nr b o e n)).trans e⟩
   have W:ZB B (env::outer) ea cls a0 (s.heap.update T (Ue (·.setIfInBounds 3 La))):=
    ⟨λb o e=>(c b λq=>by rw[q,r]at e;cases e).trans (z b o e),u,C.of_keeps λb o e n=>⟨o,(c b (nr b o e n)).trans e,rfl⟩,
     oe,K,T,_,_,(c ea (De g)).trans h,G,hd,f,r,g,d,Xb a _,by simp[sz]⟩
   have I:=wpAny_looks_onW (M:=M) (E:=E) (Q:=Q) (s:={ s with heap:=s.heap.update T (Ue (·.setIfInBounds 3 La)) }) m l W λh2 q1 q2=>F h2 q1 (up.trans q2);intro Γ p H;have k:=I Γ p H;unfold dh at k ⊢;simp only[l]at k ⊢;rw[xm,jw]at k ⊢;obtain⟨a1,o1,v1,x1,Y,g1,O,R,k⟩:=k;cases Y;have j:s.heap.get? ea=some o1:=(c ea (De g)).symm.trans g1;have J:o1=oe:=by rw[h]at j;cases j;rfl
   subst J;rw[hd]at O;cases O;rw[f]at R;cases R;refine⟨ea,o1,K,.ref T,rfl,h,hd,f,?_⟩;have nn:(Ua T != La)=true:=by simp
   simp only[nn,Ee]at k ⊢;rw[xm,jw]at k ⊢;obtain⟨a2,o2,v2,x2,Z,g2,X,S,k⟩:=k;cases Z;have D:=d.symm.trans g2;cases D;have y:=(Xb a (·.setIfInBounds 3 La)).symm.trans X;cases y;have N:x2=La:=by
    have:(t.setIfInBounds 3 La)[3]?=some La:=by simp[sz]
    rw[this]at S;cases S;rfl
   subst N;refine⟨T,V,t,w,rfl,hT,a,P,?_⟩;have n1:(La == rawInt L)=false:=by simp[rawInt]
   have n2:(w == rawInt L)=false:=by
    cases q:w == rawInt L with
    |false=>rfl
    |true=>exact absurd (Eg.mp q) hm
   simp only[n1,n2,ue,Ch]at k ⊢;rw[xm,nH]at k ⊢;obtain⟨a3,o3,v3,e3,g3,d3,i3,k⟩:=k;cases e3;refine⟨T,V,t,rfl,hT,a,sz,?_⟩;simp only[Heap.update_setField_twice]at k;exact k
 ·obtain⟨oe,K,h,G,hd,hz,h0,f⟩:=i;unfold dh;simp only[l];refine aa (wl h hd f ?_);rw[ja (by decide)];refine wpAny_entryW (base:=B) (outer:=outer) (a0:=a0) m C l h z u hd hz h0 λh4 hN=>?_;obtain⟨k1,k2,U,k4⟩:=hN;rw[G]at U;exact F h4 ⟨k1,u,k2,U⟩ k4
theorem JR{A:Ia}{B:Heap}{env:wh}{outer:List wh}{L:Addr}{a0:Value}(b:A.frames=some (env::outer))(d:env.frame=some L)(x:zr B (env::outer) ea cls a0 s.heap)
  (c:∀ a,Ap B (env::outer) ea cls a0 L a->s.heap.UpToSlots a->DK s.heap a->Q () { s with heap:=a }):wpAny M A (dh (.ref ea) env) Q E s:=by
 have k:wpAny M A (dh (.ref ea) env) (λ_ s'=>∃ a,s'={ s with heap:=a }/\Ap B (env::outer) ea cls a0 L a/\s.heap.UpToSlots a) E s:=yb6 b d x λa q1 q2=>⟨a,rfl,q1,q2⟩
 exact rc (QQ (ybl _ _) k) (λ_ _ ⟨⟨a,e,q1,q2⟩,q3⟩=>by subst e;exact c a q1 q2 q3) λ_ _ z=>z
theorem VQ{B:Heap}{l:List wh}{a0:Value}{L:Addr}{h:Heap}(x:Ap B l ea cls a0 L h):zr B l ea cls a0 h:=⟨x.1,x.2.1,x.2.2.1,.inl ⟨_,x.2.2.2⟩⟩
theorem O3{A:Ia}{B:Heap}{env:wh}{outer:List wh}{L:Addr}{a0:Value}(b:A.frames=some (env::outer))(e:env.frame=some L)(x:zr B (env::outer) ea cls a0 s.heap)
  (d:∀ a,zr B outer ea cls a0 a->s.heap.UpToSlots a->DK s.heap a->Q () { s with heap:=a }):wpAny M A (XB env (.ref ea)) Q E s:=by
 unfold XB;refine aa (JR b e x λa q1 q2 q3=>?_);refine II (VQ q1) λc q4 j k=>?_;obtain⟨f,g,⟨_,_,h⟩,i⟩:=q4;exact d c ⟨f,g,h,i⟩ (q2.trans j) (q3.trans k)
theorem NG(c:X.stack=X.env::X.outer)(a:X.env.frame=some X.env.locals){b:Addr}:b∈yj X.stack ↔ b=X.env.locals\/b∈yj X.outer:=by
 rw[c];unfold yj;rw[dg,a];exact Ha
theorem WW(I:Inv X pins st H s)(j:X.stack=X.env::X.outer)(i:X.env.frame=some X.env.locals)(k:X.ex=[]){h'':Heap}(un:Un (yj X.stack) [] H H' s.heap h''):Un (yj X.outer) [] X.H₀ H' X.s₀.heap h'':=by
 have a:∀ b,b ∉ X.ex:=λb z=>by rw[k]at z;cases z
 have f:∀ b o,X.s₀.heap.get? b=some o->b≠X.env.locals:=λb o e=>va (Ea (ua e) I.ok.above);refine⟨λb o e n hb _=>?_,λb o e n hb _=>?_,λb o e n _=>?_,λb o e _=>?_,λb xs e=>un.Di b xs (I.base.Di b xs e),λb o u e=>un.Ph b o u (I.base.Ph b o u e),λb p e=>?_⟩
 ·exact un.keep b o (I.base.keep b o e n hb (a b)) (I.base.free b o e n (a b)) (λz=>((NG j i).mp z).elim (f b o e) hb) (by simp)
 ·obtain⟨q,c⟩:=I.base.slot b o e n hb (a b);obtain⟨h,d⟩:=un.slot b _ c (I.base.free b o e n (a b)) ((NG j i).mpr (.inr hb)) (by simp);exact⟨h,d⟩
 ·obtain⟨g,c⟩:=I.base.there b o e (a b);exact un.free b g c (I.base.free b o e n (a b)) (by simp)
 ·obtain⟨g,c⟩:=I.base.there b o e (a b);exact un.there b g c (by simp)
 ·obtain⟨l,c⟩:=I.base.Ci b p e;obtain⟨m,d⟩:=un.Ci b _ c;exact⟨l++m,by rw[d,Jk]⟩
theorem sJ{P:ra}{w:Ka}{outer:List wh}{e:Value}{m:Option Nat}(F:uz P w outer H s cls m H' e s'){h6:Heap}{B:Heap}(r:∀ b o,s.heap.get? b=some o->H b=none->b ∉ yj outer->B.get? b=some o)(hT:∀ b o,H' b=some o->∃ ob,B.get? b=some ob)
  (p:∀ b o,s.heap.get? b=some o->b ∉ yj outer->∃ d,B.get? b=some d) (k:∀ b o,B.get? b=some o->s'.heap.get? b=some o) (c:∀ b o,B.get? b=some o->h6.get? b=some o) (h:s'.heap.UpToSlots h6) (g:∀ b∈yj outer,∃ o,s.heap.get? b=some o/\(∀ vs,o.data≠.fields vs)/\H b=none) :
  Un (yj outer) [] H H' s.heap h6/\Pi P w H' h6:=by
 refine⟨⟨λb o e n hb _=>c b o (r b o e n hb),λb o e n hb l=>?_,F.un.free,λb o e l=>?_,F.un.Di,F.un.Ph,F.un.Ci⟩,kJ F.Rb λb o u e q=>?_⟩
 ·obtain⟨t,a⟩:=F.un.slot b o e n hb l;obtain⟨d,f,hd,_⟩:=g b hb;rw[e]at f;cases f;obtain⟨i,j⟩:=h b _ a hd;exact⟨i,j⟩
 ·by_cases hb:b∈yj outer
  ·obtain⟨d,f,hd,hn⟩:=g b hb;rw[e]at f;cases f;obtain⟨t,a⟩:=F.un.slot b o e hn hb l;obtain⟨i,j⟩:=h b _ a hd;exact⟨_,j⟩
  ·obtain⟨d,a⟩:=p b o e hb;exact⟨d,c b d a⟩
 ·obtain⟨ob,a⟩:=hT b o e;have:=k b ob a;rw[q]at this;cases this;exact c b _ a
theorem XH(I:Inv X pins st H s):∀ b∈yj X.stack,∃ o,s.heap.get? b=some o/\(∀ vs,o.data≠.fields vs)/\H b=none:=λb hb=>by
 obtain⟨_,o,e,hd⟩:=I.stack.mem hb;exact⟨o,e,hd,I.Nm b hb⟩
theorem k9(I:Inv X pins st H s)(f:X.stack=X.env::X.outer)(j:X.env.frame=some X.env.locals)(c:X.ex=[]){e:Value}{k:Option Nat}(F:uz X.prog X.w X.stack H s cls k H' e s')
  (K:∀ i,uz X.prog X.w X.outer X.H₀ X.s₀ cls k H' e i->Q () i):wpAny M X.A (XB X.env e) Q E s':=by
 obtain⟨ea,t,B,rfl,y,hn,d,hT,D,C,J⟩:=F.ex;have l:zr B (X.env::X.outer) ea cls t s'.heap:=by rw[<-f];exact y
 refine O3 (by rw[<-f];exact I.ok.frames) j l λm r P R=>K _ ?_;obtain⟨un,Rb⟩:=sJ F D hT C y.1 r.1 P (XH I);have a:∀ b,b ∉ X.ex:=λb z=>by rw[c]at z;cases z
 have g:∀ b o,X.s₀.heap.get? b=some o->b≠X.env.locals:=λb o e=>va (Ea (ua e) I.ok.above);have h:∀ b,s.heap.get? b=none->X.s₀.heap.get? b=none:=λb e=>by
  cases q:X.s₀.heap.get? b with
  |none=>rfl
  |some u=>obtain⟨v,x⟩:=I.base.there _ _ q (a _);rw[e]at x;cases x
 have p:HC k ea B m X.s₀.heap H':=λn q=>by
  obtain⟨G,N,O,S,T,U,V,W,Y⟩:=J.next R (let ⟨o,e,_⟩:=r.there;⟨o,e⟩) n q;exact⟨G,N,O,S,T,U,V,W,h _ Y⟩
 refine⟨⟨ea,t,B,rfl,r,hn,?_,hT,λb o e n hb=>?_,λb o e hb=>?_,p⟩,F.os.trans I.os,F.bare,WW I f j c un,Rb⟩
 ·cases q:X.s₀.heap.get? ea with
  |none=>rfl
  |some u=>obtain⟨v,e⟩:=I.base.there _ _ q (a _);rw[d]at e;cases e
 ·exact D b o (I.base.keep b o e n hb (a b)) (I.base.free b o e n (a b)) λz=>((NG f j).mp z).elim (g b o e) hb
 ·obtain⟨L,q⟩:=I.base.there b o e (a b);exact C b L q λz=>((NG f j).mp z).elim (g b o e) hb
end
theorem G7{P:ra}{w:Ka}{K:W.Frag}{mg:qa->Option Value}{base:Heap}{N:List qa}{qual:qa}{scope:Scope}{f:Addr}{d:Value}{A:Ia}{outer:List wh}{s:Shared}{H:Hp}{E:XK}{i:St}{cls:Value}{b:Option Nat}{a:Hp}
  (h:E cls b a):IA (Kr (Mm P w) P w K mg base N qual scope f d A outer s H E) i cls b a where
 AF:=λc j l e k I F=>k9 I rfl rfl rfl F λg G=>⟨cls,b,a,G,h⟩
theorem IA.made{X:Cx}{d:List (Addr × Obj)}{l:St}{h:Hp}{s:Shared}{cls:Value}{f:Addr}{h':Heap}{i:List Value}(t:IA X l cls none h)(I:Inv X d l h s)(c:Heap.MadeExcOf s.heap h' f cls i):X.xe (.ref f) { s with heap:=h' }:=by
 have m:s.heap.FunFrames (W.hideAll s.heap (yj X.stack)) X.stack:=W.funFrames_hide (as:=yj X.stack) I.stack (λenv j a p=>Rk.mpr ⟨env,j,p⟩);have g:∀ b o,s.heap.get? b=some o->b ∉ yj X.stack->(W.hideAll s.heap (yj X.stack)).get? b=some o:=λb o e n=>iH _ e n;obtain⟨w,j,r,x⟩:=c.there;have k:∀ b o,h b=some o->b ∉ yj X.stack:=λb o e z=>by rw[I.Nm b z]at e;cases e
 have hn:h f=none:=by
  cases q:h f with
  |none=>rfl
  |some u=>obtain⟨v,e⟩:=kS (I.Rb _ _ q);rw[c.new]at e;cases e
 refine t.AF d h s (.ref f) _ I ⟨⟨f,.ref w,W.hideAll s.heap (yj X.stack),rfl,⟨λb o q=>c.keeps b o (vu _ q),?_,m.of_keeps λb o e _=>⟨o,c.keeps b o e,rfl⟩,.inr ⟨_,_,j,rfl,rfl,by simp,rfl,rfl⟩⟩,hn,c.new,λb o e=>?_,λb o e n hb=>g b o e hb,λb o e hb=>⟨o,g b o e hb⟩,λn q=>by cases q⟩,rfl,I.bare,⟨λb o e n hb _=>c.keeps b o e,λb o e n hb _=>⟨o.slots,c.keeps b o e⟩,λb o e n _=>n,λb o e _=>⟨o,c.keeps b o e⟩,λ_ _ e=>e,λ_ _ _ e=>e,λb y e=>⟨#[],by rw[e];simp⟩⟩,kJ I.Rb λb o u e q=>c.keeps b u q⟩
 ·cases q:(W.hideAll s.heap (yj X.stack)).get? f with
  |none=>rfl
  |some u=>have:=vu _ q;rw[c.new]at this;cases this
 ·obtain⟨u,q⟩:=kS (I.Rb _ _ e);exact⟨u,g b u q (k b o e)⟩
theorem Dn{P:ra}{w:Ka}{K:W.Frag}{mg:qa->Option Value}{base:Heap}{N:List qa}{qual:qa}{scope:Scope}{f:Addr}{a:Value}{A:Ia}{outer:List wh}{s:Shared}{H:Hp}{E:XK} :
  uq (model P w) (Kr (Mm P w) P w K mg base N qual scope f a A outer s H E).A (Kr (Mm P w) P w K mg base N qual scope f a A outer s H E).env (Kr (Mm P w) P w K mg base N qual scope f a A outer s H E).xe:=zaC
noncomputable def FV:Fl->M D
 | .nx _=>ret .Jb
 | .rt d=>ret d
 | .xc _ x=>λa=>.ex x a
 |_=>bad
noncomputable def uk:Out Fl->Out D
 | .ok a σ=>FV a σ
 |_=>.bad
noncomputable def run(n:Nat)(g:Ev->M Fl)(ds:List D):M D:=λa=>uk (g (ds.map some++List.replicate (n - ds.length) none) a)
noncomputable def pp(T:Tb)(n:Nat)(f:List D->M D):Sp:=λd H Q E=>∃ b c a,Wa T b H a d/\a.length=n/\Rel T b H c/\Ib T E (Rep T) b H (f a c) Q
noncomputable def Iq(n:Nat)(f:List D->M D)(dds:List D)(ds:List D):M D:=if (ds++dds).length=n then f (ds++dds)else bad
noncomputable def ae(n:Nat)(f:List D->M D)(dds:List D)(fs:Ev->M (List D)):Ev->M D:=λa=>qd (fs a) (Iq n f dds)
section
variable{T:Tb}{X:Cx}
theorem QY{μ:List Addr}{H:Hp}{ds:List D}{vs:List V}{N:List qa}(h:Wa T μ H ds vs):Zh T μ H (ds.map some++List.replicate (N.length - ds.length) none) (L2.Yv N vs):=by
 have c:=h.length;refine⟨by simp[L2.Yv,c],λi d e=>?_⟩;by_cases b:i<ds.length
 ·rw[Ta (by simpa using b),eb]at e;cases a:ds[i]? with
  |none=>rw[a]at e;cases e
  |some x=>
   rw[a]at e;cases e;obtain⟨v,f,g⟩:=h.get a;refine⟨v,?_,g⟩;unfold L2.Yv;rw[Ta (by simpa [<-c]using b),eb,f];rfl
 ·rw[Tf (by simpa using b),Dr]at e;split at e<;>cases e
variable{k:Nat}{f C:Addr}{fd:He}{ps:List qa}{dvs:List V}{dval:List Value}{dds:List D}{x:qa}{p pos:Ye}{e:Ja}{es:List Ja}{fn:List D->M D}{fs:Ev->M (List D)}{sp:Sp}{t:TA}
theorem FC{a:List (Addr × Obj)}{d:St}{H:Hp}{s:Shared}{Q:VK}{us:List Value}{vs:List V}(F:Oh X.prog X.w X.K X.mg X.base (Mm X.prog X.w) k f fd ps sp)(l:Me k X.A)(hb:Yr X.K fd ps dval)(hd:re dvs dval)
  (I:Inv X a d H s) (r:re vs us) (h:sp (vs++dvs) H Q (XE X d)):wpAny (model X.prog X.w) X.A (call (.ref f) us) (EP X a d Q) X.xe s:=by
 have g:re (vs++dvs) (us++dval):=r.append hd;have j:(us++dval).length=ps.length:=by rw[<-g.length];exact F.len _ _ _ _ h
 refine yA (yg (F.run X.A X.stack s H ⟨us,[]⟩ (us++dval) (vs++dvs) Q (XE X d) l I.yC (hb s us I.Cj j) g h) λr n c=>?_);cases r with
 |error e=>obtain⟨cls,fd,o,b,m⟩:=c;exact m.AF a H s e n I b
 |ok i=>
  cases i with
  |ret u=>exact I.after c
  |next=>exact False.elim c
  |brk=>exact False.elim c
  |cont=>exact False.elim c
theorem eN(F:Oh X.prog X.w X.K X.mg X.base (Mm X.prog X.w) k f fd ps (pp T ps.length fn))(E:Me k X.A)(B:Gl X x)(hm:X.mg x=some (.ref f))(C:W.keepIn X.K (.ref f)=true)(hb:Yr X.K fd ps dval)(hd:re dvs dval)(d:∀ μ H,Wa T μ H dds dvs)
  (y:FA T X (e::es) fs) (c:(x == ("__debug__" : qa))=false:=by decide) (z:pa (e::es) X.env=(false,Nb e X.env)::pa es X.env:=by rfl) (i:(lc pos (pa es X.env)).any (·.1)=false:=by rfl) :
  FE T X (.Call (.Name x p) (e::es) [] pos) (ae ps.length fn dds fs):=by
 intro a s u H Q I h;refine Wg (dA I B hm ?_ c);obtain⟨μ,J,L,v,j,D⟩:=h;refine di (h₀:=X.base) I.ok.mod.qx C (ge (y pos a s u H (λl b=>pp T ps.length fn (l++dvs) b Q (XE X u)) I ⟨μ,J,L,v,j,D.bind λt n m l b _ M G p1 q1=>?_⟩) λus s1 ⟨l,b,o,r,q⟩=>⟨o.Cj,?_⟩) z i
 ·unfold Iq at q1;by_cases g:(t++dds).length=ps.length
  ·rw[ia g]at q1;exact⟨m,n,t++dds,p1.append (d _ _),g,G,q1⟩
  ·rw[ja g]at q1;exact q1.elim
 ·exact FC F E hb hd o r q
variable{P:ra}{w:Ka}{K:W.Frag}{mg:qa->Option Value}{base:Heap}
theorem TC{x qual:qa}{c:Stmt}{N:List qa}{g:Ev->M Fl}{a:Arguments}{B kV i F b ct Y:Value}{y od:Option Addr}{o:Array (Option Value)}
  (X:K.lookup f=some ⟨Y,od,.func (W.fnOf x qual a (oj c) (vc c) B kV i F y b ct),o⟩) (n:W.codeIn K b qual=true) (S:xa N ps (vc c))
  (hb:∀ (A:Ia) (outer:List wh) (s:Shared) (H:Hp) (E:XK),Me k (A.deeper (Ih qual (vc c) s.heap.objs.size f b))->Hq T (Kr (Mm P w) P w K mg base N qual (vc c) f b A outer s H E) (oj c) g) :
  Oh P w K mg base (Mm P w) (k+1) f (W.fnOf x qual a (oj c) (vc c) B kV i F y b ct) ps (pp T ps.length (run N.length g)):=by
 refine nR X n S (λZ H Q E h=>?_) (λA outer s H Z Q E U h=>?_)
 ·obtain⟨G,u,j,m,C,_⟩:=h;rw[<-m.length];exact C
 ·obtain⟨G,u,j,m,C,R,e⟩:=h;refine⟨_,hb A outer s H E U,G,_,u,QY m,R,?_⟩;unfold run at e;cases l:g (j.map some++List.replicate (N.length - j.length) none) u with
  |bad=>rw[l]at e;exact e
  |ex x v=>rw[l]at e;exact e.elim
  |ok O v=>
   rw[l]at e;intro r gl H1 J p q1;have p1:=e.mono J;cases O with
   |nx t=>cases gl with
    |nx q=>have z:Q V.Jb H1:=Ib.here (d:=D.Jb) p1 p (by rw[Rep]);exact z
    |_=>exact q1.elim
   |rt I=>cases gl with
    |rt v2=>have z:Q v2 H1:=Ib.here (d:=I) p1 p q1;exact z
    |_=>exact q1.elim
   |xc t x2=>cases gl with
    |xc q c2 L=>
     obtain⟨_,rfl,rfl⟩:=q1;exact G7 (p1 r H1 (Ext.refl _ _) p)
    |_=>exact q1.elim
   |_=>exact p1.elim
theorem DF(F:Oh P w K mg base (Mm P w) k f fd ps (pp T ps.length fn)):Oh P w K mg base (Mm P w) k f fd ps (pp T ps.length (λa=>Za (fn a))):=
 F.imp λj H Q E h=>by
  obtain⟨g,i,a,c,d,b,e⟩:=h;exact⟨g,i,a,c,d,b,Ib.Za b e⟩
end
noncomputable def Dq(env:wh)(names:List (qa × yf))(a:List (qa × Addr)):List (qa × Addr):=
 names.foldl (λb y=>if (y.2 == .free)=true then (match env.cells.lookup y.1 with|some c=>(y.1,c)::b|none=>b)else b) a
theorem DH(env:wh):∀ (names:List (qa × yf)) (acc:List (qa × Addr)),(∀ y∈names,y.2=.free->∃ c,env.cells.lookup y.1=some c)->
  (forIn names acc (λx (cs:List (qa × Addr))=>match x with|(name,kind)=>if (kind == .free)=true then (do let a <-cellOf env name;pure (ForInStep.yield ((name,a)::cs)))else pure (ForInStep.yield cs)):zp (List (qa × Addr)))=pure (Dq env names acc)
 |[],acc,_=>rfl
 |(n,k)::r,acc,h=>by
  rw[List.forIn_cons];by_cases b:(k == jb)=true
  ·obtain⟨c,f⟩:=h (n,k) Aa (by simpa using b);have g:cellOf env n=pure c:=by unfold cellOf;rw[f]
   simp only[b,Ee,g];show (forIn r ((n,c)::acc) _:zp (List (qa × Addr)))=_;rw[DH env r ((n,c)::acc) λy e=>h y (ya _ e)];have d:Dq env ((n,k)::r) acc=Dq env r ((n,c)::acc):=by
    unfold Dq;rw[Fe];simp only[b,Ee,f]
   rw[d]
  ·simp only[b];show (forIn r acc _:zp (List (qa × Addr)))=_;rw[DH env r acc λy e=>h y (ya _ e)];have d:Dq env ((n,k)::r) acc=Dq env r acc:=by
    unfold Dq;rw[Fe];simp only[b];rfl
   rw[d]
theorem xS(env:wh)(scope:Scope)(h:∀ y∈scope.names,y.2=.free->∃ c,env.cells.lookup y.1=some c):closureFor scope env=pure (Dq env scope.names []):=by
 have e:=DH env scope.names [] h;unfold closureFor;simp only[bind_pure];exact e
theorem yQ(env:wh):∀ (names:List (qa × yf)) (acc:List (qa × Addr)) (n:qa) (c:Addr),(∀ n c,acc.lookup n=some c->env.cells.lookup n=some c)->(Dq env names acc).lookup n=some c->env.cells.lookup n=some c
 |[],acc,n,c,h,e=>h n c e
 |(y,k)::r,acc,n,c,h,e=>by
  unfold Dq at e;rw[Fe]at e;refine yQ env r _ n c (λn c q=>?_) e;by_cases b:(k == jb)=true
  ·simp only[b,Ee]at q;cases a:env.cells.lookup y with
   |none=>rw[a]at q;exact h n c q
   |some d=>
    rw[a]at q;rw[Va]at q;cases hn:(n == y)with
    |true=>rw[hn]at q;cases q;rw[eq_of_beq hn];exact a
    |false=>rw[hn]at q;exact h n c q
  ·simp only[b]at q;exact h n c q
theorem MQ(env:wh):∀ (names:List (qa × yf)) (acc:List (qa × Addr)) (n:qa),(∃ c,acc.lookup n=some c)->∃ c,(Dq env names acc).lookup n=some c
 |[],acc,n,h=>h
 |(y,k)::r,acc,n,h=>by
  unfold Dq;rw[Fe];refine MQ env r _ n ?_;by_cases b:(k == jb)=true
  ·simp only[b,Ee];cases d:env.cells.lookup y with
   |none=>exact h
   |some a=>
    show ∃ c,List.lookup n ((y,a)::acc)=some c;rw[Va];cases hn:(n == y)with
    |true=>exact⟨a,rfl⟩
    |false=>exact h
  ·simp only[b];exact h
theorem ZJ(env:wh):∀ (names:List (qa × yf)) (acc:List (qa × Addr)) (n:qa),(n,jb)∈names->(∃ c,env.cells.lookup n=some c)->∃ c,(Dq env names acc).lookup n=some c
 |[],acc,n,h,_=>nomatch h
 |(y,k)::r,acc,n,h,a=>by
  unfold Dq;rw[Fe];rcases Ha.mp h with e|e
  ·cases e;refine MQ env r _ _ ?_;obtain⟨c,a⟩:=a;refine⟨c,?_⟩;simp[a]
  ·exact ZJ env r _ n e a
theorem NH{env:wh}:∀ {names:List (qa × yf)} {x:qa} {k:yf},
  (names.map λ(n,k)=>if (k == jb && env.scope.kind == .function && env.kindOf n == some .cell)then (n,wc)else (n,k)).lookup x=some k->∃ k0,names.lookup x=some k0/\(k=k0\/(k0=.free/\k=.cell))
 |[],_,_,h=>by simp at h
 |(n,k0)::r,x,k,h=>by
  have d:=@NH env r x k;have a:List.lookup x ((if (k0 == jb && env.scope.kind == .function && env.kindOf n == some .cell)=true then (n,wc)else (n,k0))::(r.map λ(n,k)=>if (k == jb && env.scope.kind == .function && env.kindOf n == some .cell)then (n,wc)else (n,k)))=some k:=h;cases c:x == n with
  |true=>
   by_cases b:(k0 == jb && env.scope.kind == .function && env.kindOf n == some .cell)=true
   ·rw[ia b]at a;simp only[Va,c]at a ⊢;cases a;simp only[Fa]at b;exact⟨k0,rfl,.inr ⟨by simpa using b.1.1,rfl⟩⟩
   ·rw[ja b]at a;simp only[Va,c]at a ⊢;cases a;exact⟨k0,rfl,.inl rfl⟩
  |false=>
   by_cases b:(k0 == jb && env.scope.kind == .function && env.kindOf n == some .cell)=true
   ·rw[ia b]at a;simp only[Va,c]at a ⊢;exact d a
   ·rw[ja b]at a;simp only[Va,c]at a ⊢;exact d a
theorem qR{env:wh}:∀ {names:List (qa × yf)} {x:qa},names.lookup x=some .free->
  (names.map λ(n,k)=>if (k == jb && env.scope.kind == .function && env.kindOf n == some .cell)then (n,wc)else (n,k)).lookup x=some .cell\/
  (names.map λ(n,k)=>if (k == jb && env.scope.kind == .function && env.kindOf n == some .cell)then (n,wc)else (n,k)).lookup x=some .free
 |[],_,h=>by simp at h
 |(n,k)::r,x,h=>by
  have d:=@qR env r x;have a:∀ z,List.lookup x ((if (k == jb && env.scope.kind == .function && env.kindOf n == some .cell)=true then (n,wc)else (n,k))::(r.map λ(n,k)=>if (k == jb && env.scope.kind == .function && env.kindOf n == some .cell)then (n,wc)else (n,k)))=z->
   (List.map (λ(n,k)=>if (k == jb && env.scope.kind == .function && env.kindOf n == some .cell)then (n,wc)else (n,k)) ((n,k)::r)).lookup x=z:=λz e=>e
  cases b:x == n with
  |true=>
   simp only[Va,b]at h;cases h;by_cases c:(jb == jb && env.scope.kind == .function && env.kindOf n == some .cell)=true
   ·exact .inl (a _ (by rw[ia c];simp only[Va,b]))
   ·exact .inr (a _ (by rw[ja c];simp only[Va,b]))
  |false=>
   simp only[Va,b]at h;have e:List.lookup x ((if (k == jb && env.scope.kind == .function && env.kindOf n == some .cell)=true then (n,wc)else (n,k))::(r.map λ(n,k)=>if (k == jb && env.scope.kind == .function && env.kindOf n == some .cell)then (n,wc)else (n,k))) =
     (r.map λ(n,k)=>if (k == jb && env.scope.kind == .function && env.kindOf n == some .cell)then (n,wc)else (n,k)).lookup x:=by
    by_cases c:(k == jb && env.scope.kind == .function && env.kindOf n == some .cell)=true
    ·rw[ia c];simp only[Va,b]
    ·rw[ja c];simp only[Va,b]
   rcases d h with q|q
   ·exact .inl (a _ (e.trans q))
   ·exact .inr (a _ (e.trans q))
theorem nC{names:List (qa × yf)}{x:qa}{k:yf}(h:names.lookup x=some k):(x,k)∈names:=We h
noncomputable def Su(X:Cx)(a:List qa)(scope:Scope)(cl:List (qa × Addr))(C:Addr)(s₀:Shared)(H₀:Hp)(ex:List Addr):Cx:=
 { X with N:=a,s₀:=s₀,H₀:=H₀,env:=compEnvC scope cl C X.env,outer:=X.stack,stack:=X.stack,ex:=ex,fn:=λ_=>false,pn:=[],xe:=λ_ _=>False }
structure Xr(X:Cx)(x:qa)(M':List qa)(ix:List Nat)(scope:Scope):Prop where
 kind:scope.kind=.function
 cell:(scope.names.all λy=>!(y.2 == .cell))=true
 names:(scope.names.all λy=>!(y.2 == .local) || scope.names.lookup y.1 == some .local)=true
 free:(scope.names.all λy=>!(y.2 == .free) || (X.env.scope.names.lookup y.1 == some .cell || X.env.scope.names.lookup y.1 == some .free))=true
 at_:ix.map (λi=>X.N[i]?)=M'.map some
 PJ:(M'.all λy=>(X.env.scope.names.lookup y == some .cell || X.env.scope.names.lookup y == some .free) && scope.names.lookup y == some .free)=true
noncomputable def kI(ix:List Nat)(ρ:Ev):Ev:=none::ix.map λi=>(ρ[i]?).getD none
noncomputable def MO(ix:List Nat)(a:St):St:=none::ix.map λi=>(a[i]?).getD none
theorem tW{T:Tb}{μ:List Addr}{H:Hp}{ρ:Ev}{f:St}(ix:List Nat)(h:Zh T μ H ρ f):Zh T μ H (kI ix ρ) (MO ix f):=by
 refine⟨by simp[kI,MO],λi d e=>?_⟩;cases i with
 |zero=>simp[kI]at e
 |succ j=>
  have a:(ix.map λi=>(ρ[i]?).getD none)[j]?=some (some d):=e;rw[eb]at a;cases g:ix[j]? with
  |none=>rw[g]at a;cases a
  |some b=>
   rw[g]at a;have c:(ρ[b]?).getD none=some d:=ub a;have k:ρ[b]?=some (some d):=by
    cases q:ρ[b]? with
    |none=>rw[q]at c;cases c
    |some o=>rw[q]at c;exact Wf some c
   obtain⟨v,l,m⟩:=h.2 b d k;refine⟨v,?_,m⟩;show (ix.map λi=>(f[i]?).getD none)[j]?=_;rw[eb,g];show some ((f[b]?).getD none)=_;rw[l];rfl
section
variable{X:Cx}{pins:List (Addr × Obj)}{st:St}{H:Hp}{s:Shared}{x:qa}{M':List qa}{ix:List Nat}{scope:Scope}{fp:List Addr}
theorem M2(L:Xr X x M' ix scope)(y:qa × yf)(a:y∈scope.names)(e:y.2=.free):X.env.kindOf y.1=some .cell\/X.env.kindOf y.1=some .free:=by
 have q:=pc.mp L.free y a;rw[e]at q;simp only[gk,ug,Kk,zg]at q;rcases q with q|q
 ·exact .inl (eq_of_beq q)
 ·exact .inr (eq_of_beq q)
theorem nG(I:Inv X pins st H s)(L:Xr X x M' ix scope):∀ y∈scope.names,y.2=.free->∃ c,X.env.cells.lookup y.1=some c:=λy a e=>I.ok.has y.1 (M2 L y a e)
theorem GK(L:Xr X x M' ix scope):∀ y∈scope.names,y.2≠.cell:=λy a e=>by
 have q:=pc.mp L.cell y a;rw[e]at q;simp at q
end
noncomputable def Fq{α:Type}(m:M α):M α:=λa=>match m a with
 | .ex _ _=>.bad
 |o=>o
theorem Ib.ky{i o p s:Type}{T:Tb}{E E0:XK}{R:List Addr->Hp->i->p->Prop}{l:List Addr->Hp->o->s->Prop}{μ:List Addr}{H:Hp}{m:M i}{k:i->M o}{σ:db}{Q:s->Hp->Prop}{Q1:p->Hp->Prop}
  (h:Ib T E l μ H (qd (Fq m) k σ) Q) (f:∀ a b c g d,m σ=.ok a b->Ext μ H c d->Rel T c d b->R c d a g->Ib T E l c d (k a b) Q->Q1 g d):Ib T E0 R μ H (m σ) Q1:=by
 unfold qd Fq at h;cases e:m σ with
 |ok a b=>
  simp only[e]at h;exact λj g t n r q=>f a b j g t e n r q (h.mono n)
 |ex x b=>simp only[e]at h;exact h.elim
 |bad=>simp only[e]at h;exact h
noncomputable def SC(T:Tb)(X:Cx)(b:List Ja)(f:Ev->M Bool):Prop:=
 ∀ (a:List (Addr × Obj)) (s:Shared) (st:St) (H:Hp) (Q:Bool->Hp->Prop),Inv X a st H s->tT T X f st H Q->
  wpAny (model X.prog X.w) X.A (forIn b true λc r=>if r=true then do let ok <-CA c X.env (Nb c X.env);pure (ForInStep.yield ok)else pure (ForInStep.yield r)) (TP X a st Q) X.xe s
noncomputable def Vq:Ev->M Bool:=λ_=>ret true
section
variable{T:Tb}{X:Cx}
theorem eB:SC T X [] Vq:=by
 intro a s e H Q I h;obtain⟨f,g,i,d,c,b⟩:=h;exact wpAny_tests_nil ⟨H,I,Ib.here b c rfl⟩
theorem aO{c:Ja}{f:Ev->M Bool}(h:FT T X c f):SC T X [c] f:=λa s d H Q I b=>wpAny_tests_one (h a s d H Q I b)
theorem l0{fs ex:List Addr}{H d:Hp}{h f h2:Heap}{C:Addr}(u:Un fs ex H d h f)(c:Ic C f h2)(g:h.objs.size<=C):Un fs ex H d h h2:=by
 have ne:∀ b o,h.get? b=some o->b≠C:=λb o e=>va (Ea (ua e) g);refine⟨λb o e n hb a=>(c.2 b (ne b o e)).trans (u.keep b o e n hb a),λb o e n hb a=>?_,u.free,λb o e a=>?_,u.Di,u.Ph,u.Ci⟩
 ·obtain⟨j,q⟩:=u.slot b o e n hb a;exact⟨j,(c.2 b (ne b o e)).trans q⟩
 ·obtain⟨i,q⟩:=u.there b o e a;exact⟨i,(c.2 b (ne b o e)).trans q⟩
theorem xU{P:ra}{w:Ka}{H:Hp}{d h2:Heap}{C:Addr}(ok:Pi P w H d)(g:Ic C d h2)(f:H C=none):Pi P w H h2:=λb h e=>by
 refine(ok b h e).jm (λc i a q=>(g.2 c ?_).trans q) (λ_ q=>q) λ_ _ q=>q;rintro rfl;rcases a with rfl|a
 ·rw[f]at e;cases e
 ·rw[f]at a;cases a
theorem fW{E:XK}{μ:List Addr}{H:Hp}{σ:db}{n:Nat}{a:Addr}{y:D}{v:V}{Q:VK}(r:Rel T μ H σ)(hn:μ[n]?=some a)(b:Rep T μ H y v)(h:Ib T E (Rep T) μ H (Lu (.ref n) [y] σ) Q):pL (.ref a) [v] H Q:=
 X1 E μ H σ (.ref n) [y] (.ref a) [v] Q r (by rw[Rep];exact⟨a,rfl,hn⟩) (Wa.cons b Wa.nil) h
theorem dH{a b:Type}{m m':M a}{k:a->M b}{σ:db}(h:m σ=m' σ):qd m k σ=qd m' k σ:=by unfold qd;rw[h]
theorem WI{b c d:Type}{m:M b}{k:b->M c}{l:c->M d}:qd (qd m k) l=qd m λa=>qd (k a) l:=by
 funext e;unfold qd;cases m e<;>rfl
end
noncomputable def ND(x y:D):M D:=λa=>match Oi a x,Oi a y with
 |some xs,some b=>if xs.length+b.length<=li then .ok (.lst (xs++b)) a else .bad
 |_,_=>.bad
noncomputable def ki(x y:D):M D:=match x,y with
 | .int i,.int j=>ret (.int (i+j))
 | .tup xs,.tup c=>if xs.length+c.length<=li then ret (.tup (xs++c))else bad
 | .str a,.str b=>if a.length+b.length<=100000 then ret (.str (a++b))else bad
 |x,y=>ND x y
theorem M4{n:Nat}(h:n<=100000):n<=sizeLine:=yb h (by decide)
section
variable{T:Tb}{X:Cx}{a b c:Ja}{fa fb fc:Ev->M D}{pos:Ye}
theorem O7{prog:ra}{w:Ka}{A:Ia}{F:Value->Shared->Prop}{s:Shared}{t b:Addr}{ws:List Value}{Q:Value->Shared->Prop}(o:Yu s.heap t (#[]:Array Value))(hb:Yu s.heap b ws.toArray)(m:Q (.ref b) s):wpAny (model prog w) A (xf .Add (.ref t) (.ref b)) Q F s:=by
 obtain⟨⟨cls,l,i,q⟩,k,j,n,hd⟩:=id o;obtain⟨⟨h,f,e,g⟩,d,a,p,c⟩:=id hb;simp only at j hd a c;subst j hd a c;exact bw ⟨_,k,rfl⟩ ⟨_,d,rfl⟩ nq xu Hi ti (bi _ _)
  (tuple_addW0 t b #[] ws.toArray n p l f q g rfl) ⟨k,d,m⟩
theorem FF{E:XK}{μ:List Addr}{H:Hp}{σ:db}{x y:D}{v u:V}{h g:Value}{Q:VK}{b:List (Addr × Obj)}{s:Shared}{f:St}(I:Inv X b f H s)(B:Td v h)(z:Td u g)(r:Rel T μ H σ)(o:Rep T μ H x v)(t:Rep T μ H y u)(a:Ib T E (Rep T) μ H (ND x y σ) Q) :
  wpAny (model X.prog X.w) X.A (xf .Add h g) (EP X b f Q) X.xe s:=by
 unfold ND at a;cases c:Oi σ x with
 |none=>rw[c]at a;exact a.elim
 |some xs=>
  cases d:Oi σ y with
  |none=>rw[c,d]at a;exact a.elim
  |some G=>
   rw[c,d]at a;dsimp only at a;by_cases e:xs.length+G.length<=li
   ·rw[ia e]at a;obtain⟨p,C,rfl,k,i⟩:=r.ls o c;obtain⟨q,F,rfl,m,j⟩:=r.ls t d;exact EZ b s f H _ _ h g Q I B z ⟨p,q,C,F,rfl,rfl,k,m,by rw[<-i.length,<-j.length];exact wz e,λl n=>UE a r (Wa.append i j) n⟩
   ·rw[ja e]at a;exact a.elim
theorem Ik(U:T.K=X.K):Gi X (xf .Add) (rD T ki):=by
 intro d s B H v u D C Q I m k h;obtain⟨E,W,Y,x,y,r,f,g,c⟩:=h;cases x with
 |int i=>
  cases y with
  |int j=>exact Y8 d s B H v u D C Q I m k ⟨i,j,Cq f,Cq g,Ib.here c r (by rw[Rep])⟩
  |_=>exact FF I m k r f g c
 |str a=>
  cases y with
  |str b=>
   unfold ki at c;dsimp only at c;by_cases n:a.length+b.length<=100000
   ·rw[ia n]at c;exact W6 d s B H v u D C Q I m k ⟨a,b,by simpa [Rep]using f,by simpa [Rep]using g,M4 n,Ib.here c r (by rw[Rep])⟩
   ·rw[ja n]at c;exact c.elim
  |_=>exact FF I m k r f g c
 |tup xs=>
  cases y with
  |tup L=>
   unfold ki at c;dsimp only at c;by_cases n:xs.length+L.length<=li
   ·rw[ia n]at c;have z:=f;have A:=g;rw[Rep]at f g;obtain⟨p,R,rfl,F,t⟩:=f;obtain⟨q,S,rfl,G,w⟩:=g;cases R with
    |nil=>
     have o:xs=[]:=by have:=t.length;simpa using this
     subst o;cases m;cases k;obtain⟨N,q1,O,_⟩:=L2.Inv.tuple I (Wh.of (K:=X.K) F);obtain⟨J,q2,P,_⟩:=L2.Inv.tuple I (Wh.of (K:=X.K) G);cases q1;exact O7 O P ⟨.ref q,H,I,rfl,Ib.here c r (by simpa using A)⟩
    |cons v0 V=>
     refine Z8 d s B H _ _ D C Q I m k ⟨p,q,_,S,rfl,rfl,Wh.of F,Wh.of G,by simp,?_,λe=>?_,λe l M=>?_⟩
     ·rw[<-t.length,<-w.length];exact wz n
     ·subst e;have o:L=[]:=by have:=w.length;simpa using this
      subst o;exact Ib.here c r (by simpa using z)
     ·exact bB c r (Wa.append t w) M
   ·rw[ja n]at c;exact c.elim
  |_=>exact FF I m k r f g c
 |_=>exact FF I m k r f g c
noncomputable def bK(a:D->D->M D)(c:M D)(y:D):D->M D:=Ly (dk (qd c (a y)) (ret (.bl false)))
noncomputable def fK(o a:D->D->M D)(c:M D)(x y:D):M D:=qd (o x y) (bK a c y)
noncomputable def oK(o a:D->D->M D)(b c:M D)(x:D):M D:=qd b (fK o a c x)
noncomputable def UK(o e:D->D->M D)(a b c:Ev->M D):Ev->M D:=λd=>qd (a d) (oK o e (b d) (c d))
theorem NY{op d:Pq}{r J:R2}{o G:D->D->M D}(U:Gi X (dc op) r)(Y:Nk T r o)(g:Gi X (dc d) J)(i:Nk T J G)(R:FE T X a fa)(hb:FE T X b fb)(S:FE T X c fc)
  (hm:lastMarks [op,d] [b,c]=false:=by with_unfolding_all rfl):FE T X (.Compare a [op,d] [b,c] pos) (UK o G fa fb fc):=by
 intro e s st H Q I h;refine F8 U g R hb S hm e s st H Q I ?_;obtain⟨μ,p,σ,f,W,V⟩:=h;refine⟨μ,p,σ,f,W,V.bind λx q j v H1 _ C r1 q1 p1=>⟨j,p,q,f.mono C,r1,p1.bind λy t l w L _ E r2 q2 p2=>?_⟩⟩;refine Y _ l L t x y v w _ r2 (Rep.mono E _ _ q1) q2 (p2.bind λz A m u H3 _ F K q3 p3=>?_);obtain⟨k,rfl,P,p4⟩:=hH q3 p3;refine⟨k,P,?_⟩;cases k with
 |true=>
  unfold dk at p4;rw[ia rfl]at p4 ⊢;exact⟨m,p,A,((f.mono C).mono E).mono F,K,p4.bind λz B n u5 N _ O r5 q5 Z=>i _ n N B y z w u5 Q r5 (Rep.mono O _ _ (Rep.mono F _ _ q2)) q5 Z⟩
 |false=>unfold dk at p4;rw[ja Xa]at p4 ⊢;exact Ib.here p4 K (by rw[Rep])
theorem Vg{k:Nat}{A:Ia}(a:Me k A):A.units+9<cLine:=by have:=a.un;omega
end
noncomputable def ii(K:W.Frag)(mg:qa->Option Value)(x:qa)(c:Stmt)(ps:List qa):Prop:=
 ∃ f b,mg x=some (.ref f)/\jz K x x c f b/\∀ a:List Value,a.length=ps.length->bindArgs b ⟨a,[]⟩=pure (ps.zip a)
noncomputable def Rc(T:Tb)(P:ra)(w:Ka)(mg:qa->Option Value)(base:Heap)(k:Nat)(x:qa)(ps:List qa)(fn:List D->M D):Prop:=
 ∃ f b,mg x=some (.ref f)/\W.keepIn T.K (.ref f)=true/\(∀ a:List Value,a.length=ps.length->bindArgs b ⟨a,[]⟩=pure (ps.zip a))/\Oh P w T.K mg base (Mm P w) k f b ps (pp T ps.length fn)
section
variable{T:Tb}{X:Cx}
theorem Qe{k:Nat}{ps:List qa}{fn:List D->M D}{x:qa}{p a:Ye}{e:Ja}{es:List Ja}{fs:Ev->M (List D)}(h:Rc T X.prog X.w X.mg X.base k x ps fn)(i:T.K=X.K)(n:Me k X.A)(m:Gl X x)
  (j:FA T X (e::es) fs) (b:(x == ("__debug__" : qa))=false:=by decide) (l:pa (e::es) X.env=(false,Nb e X.env)::pa es X.env:=by rfl) (c:(lc a (pa es X.env)).any (·.1)=false:=by rfl) :
  FE T X (.Call (.Name x p) (e::es) [] a) (ae ps.length fn [] fs):=by
 obtain⟨f,o,hm,g,hb,d⟩:=h;rw[i]at g d;exact eN (dds:=[]) (dvs:=[]) d n m hm g (.all hb) .nil (λ_ _=>Wa.nil) j b l c
variable{P:ra}{w:Ka}{K:W.Frag}{mg:qa->Option Value}{base:Heap}{ca:Nat->Addr}{tx:Tx}
theorem Ki{k:Nat}{x:qa}{b:Stmt}{ps N:List qa}{g:Ev->M Fl}(h:ii K mg x b ps)(S:xa N ps (vc b))
  (hb:∀ (f:Addr) (a:Value) (A:Ia) (outer:List wh) (s:Shared) (H:Hp) (E:XK),Me k (A.deeper (Ih x (vc b) s.heap.objs.size f a))->Hq ⟨K,ca,tx⟩ (Kr (Mm P w) P w K mg base N x (vc b) f a A outer s H E) (oj b) g) :
  Rc ⟨K,ca,tx⟩ P w mg base (k+1) x ps (run N.length g):=by
 obtain⟨f,m,hm,F,c⟩:=h;obtain⟨n,o,kV,e,p,l,a,ct,j,rfl,i,d⟩:=F.ex;exact⟨f,_,hm,F.kp,c,TC i d S (hb f a)⟩
theorem Rc.Za{k:Nat}{x:qa}{ps:List qa}{fn:List D->M D}(h:Rc T P w mg base k x ps fn):Rc T P w mg base k x ps (λa=>L4.Za (fn a)):=by
 obtain⟨f,b,c,d,e,g⟩:=h;exact⟨f,b,c,d,e,DF g⟩
theorem tV{h:Heap}{x:qa}{e:Stmt}{ps:List qa}{f:Addr}{m:Value}{od g:Option Addr}{j:Array (Option Value)}{kV d i b ct:Value}(X:K.In h)(G:h.Ns mainGlobals mg)
  (hb:∀ (kV d i:Value) (g:Option Addr) (b ct:Value) (us:List Value),us.length=ps.length->bindArgs (W.fnOf x x (km e) (oj e) (vc e) .none kV d i g b ct) ⟨us,[]⟩=pure (ps.zip us))
  (a:W.nsIn K mainGlobals x=some (some (.ref f))) (l:K.lookup f=some ⟨m,od,.func (W.fnOf x x (km e) (oj e) (vc e) .none kV d i g b ct),j⟩)
  (c:W.codeIn K b x=true) (k:W.keepIn K (.ref f)=true):ii K mg x e ps:=
 ⟨f,_,cz X G a,OQ l c k,hb kV d i g b ct⟩
theorem bV{h:Heap}{x:qa}{i:Int}{t:Tok}(X:K.In h)(G:h.Ns mainGlobals mg)(a:W.nsIn K mainGlobals x=some (some (.int i t))):∃ t,mg x=some (.int i t):=⟨t,cz X G a⟩
end
theorem ynf{K:W.Frag}{H:Hp}{a:Addr}{ns:List Int}(b:PD H)(h:bg K H a (ns.map V.int)):JG K H a ns:=by
 rcases h with(h|⟨o,h⟩)|h
 ·rcases b a with z|⟨o,xs,z⟩
  ·rw[z]at h;cases h
  ·rw[z]at h;cases h
 ·exact .inl ⟨o,h⟩
 ·exact .inr h
noncomputable def PN(K:W.Frag):Sp:=λc H Q E=>∃ (a:Addr) (ns:List Int),c=[.ref a]/\ns.length<=63/\PD H/\bg K H a (ns.map V.int)/\∀ v b,v=.bl true->Q v b
theorem N6{K:W.Frag}{ca:Nat->Addr}{fn:List D->M D}(j:∀ ns:List Int,ns.length<=63->∃ σ,fn [.je ns] []=.ok (.bl true) σ){vs:List V}{H:Hp}{Q:VK}{E:XK}(h:PN K vs H Q E):pp ⟨K,ca,⟨[],0⟩⟩ 1 fn vs H Q E:=by
 obtain⟨a,ns,rfl,f,c,d,g⟩:=h;obtain⟨σ,e⟩:=j ns f;refine⟨[],[],[.je ns],Wa.cons (by rw[Rep];exact⟨a,rfl,ynf c d⟩) Wa.nil,rfl,⟨rfl,Oj,λn o q=>by simp at q,λt i=>by cases i⟩,?_⟩;rw[e];intro k v b _ _ r;rw[Rep]at r;exact g v b r
noncomputable def CL(T:Tb)(P:ra)(w:Ka)(mg:qa->Option Value)(k:Nat)(x:qa)(ps:List qa)(fn:List D->M D):Prop:=
 ∃ f b,mg x=some (.ref f)/\(∀ a:List Value,a.length=ps.length->bindArgs b ⟨a,[]⟩=pure (ps.zip a))/\∀ base:Heap,Oh P w T.K mg base (Mm P w) k f b ps (pp T ps.length fn)
theorem S2{P:ra}{w:Ka}{K:W.Frag}{mg:qa->Option Value}{ca:Nat->Addr}{tx:Tx}{k:Nat}{x:qa}{b:Stmt}{ps N:List qa}{g:Ev->M Fl}(h:ii K mg x b ps)(S:xa N ps (vc b))
  (hb:∀ (base:Heap) (f:Addr) (a:Value) (A:Ia) (outer:List wh) (s:Shared) (H:Hp) (E:XK),Me k (A.deeper (Ih x (vc b) s.heap.objs.size f a))->Hq ⟨K,ca,tx⟩ (Kr (Mm P w) P w K mg base N x (vc b) f a A outer s H E) (oj b) g) :
  CL ⟨K,ca,tx⟩ P w mg (k+1) x ps (run N.length g):=by
 obtain⟨f,m,hm,F,c⟩:=h;obtain⟨n,o,kV,e,p,l,a,ct,j,rfl,i,d⟩:=F.ex;exact⟨f,_,hm,c,λbase=>TC i d S (hb base f a)⟩
theorem UV{l:W.OpenLaw}{q:ra}{b:List qa}{r:(qa->Option Value)->Heap->Prop}{j:Ka->Heap->Prop}{d:DefRec}{K:RL->W.Frag}{k:Nat}{x:qa}{fn:List D->M D}
  (hn:l.most=some 63) (g:d.params.defaults=[]) (I:Me k Nl) (B:∀ (w:Ka) (h:Heap),j w h->(K w.params).In h)
  (F:∀ (w:Ka) (mg:qa->Option Value) (h:Heap),(K w.params).In h->h.Ns mainGlobals mg->∃ ca,CL ⟨K w.params,ca,⟨[],0⟩⟩ l.prog w mg k d.name [x] fn)
  (J:∀ ns:List Int,ns.length<=63->∃ σ,fn [.je ns] []=.ok (.bl true) σ) :
  W.WalkO q b r j l.row.toRowW d [] (λf o=>PySem.call f o):=by
 refine L2.N2 (n:=63) (k:=k) (x:=x) (CX:=λw=>Mm l.prog w) (sp:=λw=>PN (K w.params)) hn (by decide) g I B (λw mg O h p G i=>?_) (λw H a ns C y A=>⟨a,ns,rfl,C,y,A,λ_ _ e=>e⟩) (λw H s e S z=>?_)
 ·obtain⟨ca,N,c,m,t,v⟩:=F w mg h p G;rw[i]at m;cases m;exact⟨c,λs u=>.of_eq (t [u] rfl),λbase hb R=>(v base).imp λo H Q E z=>N6 J z⟩
 ·obtain⟨cls,P,L,_,z⟩:=z;exact z
theorem zzj{K:W.Frag}{h:Heap}{C:Addr}{c:List Value}{a:String}(f:K.In h)(d:W.excIn K C c a=true) :
  ∃ bm N nm k bs hdct sn sub ab col dd k0 k1 k2 k3 k5 mN,h.get? C=some (excClassObj nm k C N bs bm hdct sn sub ab col dd k0 k1 k2 k3 k5 a)/\h.Ns N mN/\mN "__init__" = none/\OwnTail h c bm:=by
 unfold W.excIn at d;split at d
 ·rename_i dd b w u
  split at d
  ·rename_i n bm k0 k1 k2 k3 j k5 e g
   have i:((((n=C/\j=a)/\b.hasDel=false)/\W.tailIn K c bm=true)/\W.nsOkIn K b.ns=true)/\W.nsIn K b.ns "__init__" = some none:=by
    simpa [Fa,Bool.not_eq_true']using d
   obtain⟨⟨⟨⟨⟨o,p⟩,q⟩,r⟩,m⟩,s⟩:=i;subst o;subst p;obtain⟨nm,bs,v,ns,k,hd,sn,sub,ab,col,t⟩:=b;cases e;cases q;obtain⟨l⟩:=w;cases g;exact⟨bm,ns,nm,k,bs,hd,sn,sub,ab,col,dd,k0,k1,k2,k3,k5,_,f _ _ u,.of_isNs (W.isNs_of_in f m),W.nsMap_none_of_in f m s,W.tail_of_in f r⟩
  ·cases d
 ·cases d
noncomputable def sG(c:Nat)(ρ:Ev)(ds:List D):M Fl:=if ds.length<=li then ret (.xc ρ ⟨c⟩)else bad
noncomputable def ME(c:Nat)(fs:Ev->M (List D)):Ev->M Fl:=λa=>xs a (fs a) (sG c a)
section
variable{T:Tb}{X:Cx}
theorem ZO(c:Nat){x:qa}{B b d:String}{f:List Value}{V a u:Ye}{e:Ja}{es:List Ja}{fs:Ev->M (List D)}(z:ExcBaseFacts B b d f)(J:T.K=X.K)(C:W.excIn T.K (T.ca c) f b=true)(hm:X.mg x=some (.ref (T.ca c)))
  (P:Gl X x) (O:X.calm=true) (L:FA T X (e::es) fs) (n:(x == ("__debug__" : qa))=false:=by decide) (A:pa (e::es) X.env=(false,Nb e X.env)::pa es X.env:=by rfl)
  (t:(lc a (pa es X.env)).any (·.1)=false:=by rfl) (o:nB c=none:=by rfl):FS T X (.Raise (some (.Call (.Name x V) (e::es) [] a)) none u) (ME c fs):=by
 intro j s v H D I S;obtain⟨μ,ρ,σ,m,R,Q⟩:=S;rw[J]at C;obtain⟨bm,N,nm,Y,bs,hdct,sn,sub,ab,col,dd,k0,k1,k2,k3,k5,mN,G,hN,p,tl⟩:=zzj I.ok.mod.qx C;have i:(lc a (pa (e::es) X.env)).any (·.1)=false:=by
  rw[A];show (false || (lc a (pa es X.env)).any (·.1))=false;rw[t];rfl
 refine wpAny_Raise_call_subT (nm:=nm) (q:=Y) (N:=N) (bs:=bs) (bm:=bm) (hdct:=hdct) (sn:=sn) (sub:=sub) (ab:=ab) (col:=col) (dd:=dd) (k0:=k0) (k1:=k1) (k2:=k2) (k3:=k3) (k5:=k5) z (mN:=mN) (tl.hasType z.hasBase) (I.ok.hd O) i p (dA I P hm ⟨rfl,?_⟩ n);have step:=L a j s v H (λy l=>y.length<=li/\IA X v (T.cv ⟨c⟩) none l) I ⟨μ,ρ,σ,m,R,Q.xs m λE a1 a0 y l _ F Z q1 p1=>by
  unfold sG at p1;by_cases h:E.length<=li
  ·rw[ia h]at p1;exact⟨by rw[<-q1.length];exact h,Ib.here (g:=Rm.xc v (T.cv ⟨c⟩) none) p1 Z ⟨m.mono F,rfl,o.symm⟩⟩
  ·rw[ja h]at p1;exact p1.elim⟩
 rw[A]at step ⊢;refine Ej (ge step λus s1 ⟨y,l,k,r,h,w⟩=>?_);exact⟨rfl,by rw[<-r.length];exact wz h,k.bk _ _ G,hN.keeps k.bk,tl.keeps k.bk,λh' ea U=>w.made k U⟩
end
structure Hd where
 t:Nat->Option Bool
 nm:Option Nat
 g:Ev->M Fl
noncomputable def aQ(i:Nat):Fl->M Fl
 | .nx a=>ret (.nx (a.set i none))
 | .rt d=>ret (.rt d)
 | .bk a=>ret (.bk (a.set i none))
 | .ct a=>ret (.ct (a.set i none))
 | .xc _ _=>bad
noncomputable def OD:Fl->M Fl
 | .nx a=>ret (.nx a)
 | .rt d=>ret (.rt d)
 | .bk a=>ret (.bk a)
 | .ct a=>ret (.ct a)
 | .xc _ _=>bad
noncomputable def hit(h:Hd)(ρ:Ev)(x:Xn):M Fl:=match h.nm with
 |none=>qd (h.g ρ) OD
 |some i=>qd (h.g (ρ.set i (some (.ku x.cls)))) (aQ i)
noncomputable def zx(ρ:Ev)(x:Xn):List Hd->M Fl
 |[]=>bad
 |h::r=>match h.t x.cls with
  |some true=>hit h ρ x
  |some false=>zx ρ x r
  |none=>bad
noncomputable def OE(b:List Hd):Fl->M Fl
 | .xc a x=>zx a x b
 | .nx a=>ret (.nx a)
 | .rt d=>ret (.rt d)
 | .bk a=>ret (.bk a)
 | .ct a=>ret (.ct a)
noncomputable def jL(g:Ev->M Fl)(a:List Hd):Ev->M Fl:=λb=>qd (g b) (OE a)
noncomputable abbrev Cx.Lv(X:Cx)(e:Value):Cx:={ X with A:=X.A.mark (some e),calm:=false,xe:=λ_ _=>False }
noncomputable abbrev Cx.ou(X:Cx)(a:List (Addr × Obj))(xe:Value->Shared->Prop):Cx:={ X with xe:=xe,pn:=X.pn++a }
section
variable{T:Tb}{X:Cx}{pins:List (Addr × Obj)}{st:St}{H:Hp}{s:Shared}{e:Value}{xe:Value->Shared->Prop}
theorem T8(I:Inv X pins st H s):Inv (Cx.ou X pins xe) [] st H s:=
 ⟨⟨I.ok.mod,I.ok.kind,I.ok.glob,I.ok.blt,I.ok.above,I.ok.inj,I.ok.has,I.ok.uy,I.ok.hd,I.ok.frames,I.ok.Zp,I.ok.Mz,I.ok.bs,I.ok.au,I.ok.tr,I.ok.jr,I.ok.zj,I.ok.uv⟩,I.os,I.bare,I.base,I.loc,I.cell,I.free,I.Kg,λp a=>I.pin p (by simpa using a),I.Rb,I.len⟩
theorem CC{p1:List (Addr × Obj)}(I:Inv (Cx.ou X pins xe) p1 st H s):Inv X pins st H s:=
 ⟨⟨I.ok.mod,I.ok.kind,I.ok.glob,I.ok.blt,I.ok.above,I.ok.inj,I.ok.has,I.ok.uy,I.ok.hd,I.ok.frames,I.ok.Zp,I.ok.Mz,I.ok.bs,I.ok.au,I.ok.tr,I.ok.jr,I.ok.zj,I.ok.uv⟩,I.os,I.bare,I.base,I.loc,I.cell,I.free,I.Kg,λp a=>I.pin p (Oa _ a),I.Rb,I.len⟩
theorem gG(I:Inv X pins st H s):Inv (Cx.Lv X e) pins st H s:=
 ⟨⟨I.ok.mod,I.ok.kind,I.ok.glob,I.ok.blt,I.ok.above,I.ok.inj,I.ok.has,I.ok.uy,λz=>(by cases z),I.ok.frames,I.ok.Zp,I.ok.Mz,I.ok.bs,I.ok.au,I.ok.tr,I.ok.jr,I.ok.zj,I.ok.uv⟩,I.os,I.bare,I.base,I.loc,I.cell,I.free,I.Kg,I.pin,I.Rb,I.len⟩
theorem jC(ok:X.Ok)(I:Inv (Cx.Lv X e) pins st H s):Inv X pins st H s:=
 ⟨ok,I.os,I.bare,I.base,I.loc,I.cell,I.free,I.Kg,I.pin,I.Rb,I.len⟩
theorem vU{D:Ends}{f:Flow}{s':Shared}(h:SP (Cx.ou X pins xe) [] D f s'):SP X pins D f s':=by
 cases f with
 |next=>obtain⟨a,b,I,q⟩:=h;exact⟨a,b,CC I,q⟩
 |brk=>obtain⟨a,b,I,q⟩:=h;exact⟨a,b,CC I,q⟩
 |cont=>obtain⟨a,b,I,q⟩:=h;exact⟨a,b,CC I,q⟩
 |ret u=>obtain⟨v,a,b,I,r,q⟩:=h;exact⟨v,a,b,CC I,r,q⟩
theorem NU(ok:X.Ok){D:Ends}{f:Flow}{s':Shared}(h:SP (Cx.Lv X e) pins D f s'):SP X pins D f s':=by
 cases f with
 |next=>obtain⟨a,b,I,q⟩:=h;exact⟨a,b,jC ok I,q⟩
 |brk=>obtain⟨a,b,I,q⟩:=h;exact⟨a,b,jC ok I,q⟩
 |cont=>obtain⟨a,b,I,q⟩:=h;exact⟨a,b,jC ok I,q⟩
 |ret u=>obtain⟨v,a,b,I,r,q⟩:=h;exact⟨v,a,b,jC ok I,r,q⟩
end
noncomputable def Du(X:Cx)(a:List (Addr × Obj))(f:St)(H:Hp)(s:Shared)(d:Addr)(cls:Value)(e:Option Nat):Prop:=∃ b c,Inv X a f b c/\uz X.prog X.w X.stack b c cls e H (.ref d) s
section
variable{T:Tb}{X:Cx}{pins:List (Addr × Obj)}{st:St}{H:Hp}{s:Shared}{ea:Addr}{cls:Value}{fd:Option Nat}
theorem Du.inv(L:Du X pins st H s ea cls fd):Inv X pins st H s:=by
 obtain⟨a,c,I,F⟩:=L;exact L2.Inv.vv (ch:=[]) I F.os F.un F.Rb F.bare λb z=>absurd z (by simp)
theorem Du.next(L:Du X pins st H s ea cls fd){M:jk}{A:Ia}{E:Value->Shared->Prop}{Q:Unit->Shared->Prop}(h:∀ s',Du X pins st H s' ea cls fd->Q () s'):wpAny M A (Bi (.ref ea) none) Q E s:=by
 obtain⟨j,n,I,F⟩:=L;obtain⟨l,k,B,e,f,hn,b,hT,i,g,m⟩:=F.ex;cases e;refine II f λp a d c=>h _ ?_;obtain⟨un,Rb⟩:=sJ F i hT g f.1 a.1 d (XH I);exact⟨j,n,I,⟨ea,k,B,rfl,a,hn,b,hT,i,g,m.next c (let ⟨o,e,_⟩:=a.there;⟨o,e⟩)⟩,F.os,F.bare,un,Rb⟩
theorem Du.obj(L:Du X pins st H s ea cls fd):H ea=none/\(∃ o,s.heap.get? ea=some o/\o.cls=cls)/\∃ s0:Shared,s0.heap.get? ea=none/\∃ b,Inv X pins st b s0:=by
 obtain⟨b,s0,I,F⟩:=L;obtain⟨c,f,B,e,d,hn,a,hT,h,g,i⟩:=F.ex;cases e;exact⟨hn,d.there,s0,a,b,I⟩
theorem IK{t:Hp}{j:Shared}{a:Addr}{o:Obj}{φ:Heap->Prop}(I:Inv X pins st H s)(f:Inv X pins st t j)(d:j.heap.get? a=none)(hn:H a=none)(y:s.heap.get? a=some o)(i:φ s.heap)
  (A:∀ k l:Heap,φ k->(∀ u,k.get? a=some u->l.get? a=some u)->φ l):Inv X pins st (upd H a (.ext φ)) s:=by
 have ne:∀ b u,j.heap.get? b=some u->b≠a:=λb u e z=>by rw[z,d]at e;cases e
 have nt:∀ b u,H b=some u->b≠a:=λb u e z=>by rw[z,hn]at e;cases e
 have B:∀ b u,X.s₀.heap.get? b=some u->b ∉ X.ex->b≠a:=λb u e g=>by obtain⟨E,w⟩:=f.base.there b u e g;exact ne b E w
 refine⟨I.ok,I.os,I.bare,⟨I.base.keep,I.base.slot,λb u e n g=>?_,I.base.there,λb xs e=>?_,λb C u e=>?_,λb D e=>?_⟩,I.loc,I.cell,?_,λx c e=>?_,λp r=>?_,λb u e=>?_,I.len⟩
 ·rw[qe (B b u e g)];exact I.base.free b u e n g
 ·have q:=I.base.Di b xs e;rw[qe (nt b _ q)];exact q
 ·have q:=I.base.Ph b C u e;rw[qe (nt b _ q)];exact q
 ·obtain⟨more,q⟩:=I.base.Ci b D e;exact⟨more,by rw[qe (nt b _ q)];exact q⟩
 ·obtain⟨m,⟨u,_,_,h,_⟩,_⟩:=f.loc;rw[qe (ne _ u h)];exact I.free
 ·obtain⟨v,u,h,_⟩:=f.cell x c e;rw[qe (ne _ u h)];exact I.Kg x c e
 ·obtain⟨p1,p2,p3⟩:=I.pin p r;refine⟨p1,?_,p3⟩;rw[qe (ne _ _ (f.pin p r).1)];exact p2
 ·by_cases hb:b=a
  ·subst hb;rw[kh]at e;cases e;exact⟨i,⟨o,y⟩,A⟩
  ·rw[qe hb]at e;exact(I.Rb b u e).jm (λc v _ q=>q) (λc q=>by rw[qe (nt c _ q)];exact q) λc xs q=>by rw[qe (nt c _ q)];exact q
theorem cM{C a:Addr}{dd:Option Addr}:∀ b h2:Heap,xy C dd a b->(∀ u,b.get? a=some u->h2.get? a=some u)->xy C dd a h2:=λb h2 ⟨u,c,q⟩ k=>⟨u,k u c,q⟩
theorem zvr{a:Addr}{n:Nat}:∀ b h2:Heap,WC a n b->(∀ u,b.get? a=some u->h2.get? a=some u)->WC a n h2:=λb h2 ⟨u,c,q⟩ k=>⟨u,k u c,q⟩
theorem Du.zD(L:Du X pins st H s ea (.ref C) fd):∃ dd f,Inv X pins st f s/\f ea=some (.ext (xy C dd ea))/\(∀ n,fd=some n->∃ a,dd=some a/\H a=none/\f a=some (.ext (WC a n)))/\(∀ b u,H b=some u->f b=some u)/\∀ b u,f b=some u->H b=some u\/H b=none:=by
 have I:=L.inv;obtain⟨E,M,k,F⟩:=L;obtain⟨y,G,B,e,i,hn,c,hT,K,J,A⟩:=F.ex;cases e;obtain⟨o,d,t⟩:=i.there;cases p:fd with
 |none=>
  have l:=IK (φ:=xy C none ea) I k c hn d ⟨o,d,t,λ_ z=>by cases z⟩ cM;refine⟨none,_,l,kh,(λn q=>by cases q),λb u e=>?_,λb u e=>?_⟩
  ·rw[qe (λz=>by rw[z,hn]at e;cases e)];exact e
  ·by_cases hb:b=ea
   ·rw[hb];exact .inr hn
   ·rw[qe hb]at e;exact .inl e
 |some n=>
  obtain⟨a,v,w,q1,q2,q3,q4,j,D⟩:=A n p;have r:w=o:=by rw[d]at q1;cases q1;rfl
  subst r;have g:=i.1 a v q3;have h:a≠ea:=λz=>by
   have:=i.2.1;rw[<-z,q3]at this;cases this
  have l:=IK (φ:=xy C (some a) ea) I k c hn d ⟨w,d,t,λ_ z=>by cases z;exact⟨q2,i.BL d⟩⟩ cM;have x:=IK (φ:=WC a n) l k D (by rw[qe h];exact j) g ⟨v,g,q4⟩ zvr;refine⟨some a,_,x,by rw[qe (De h)];exact kh,λm q=>?_,λb u e=>?_,λb u e=>?_⟩
  ·cases q;exact⟨a,rfl,j,kh⟩
  ·rw[qe (λz=>by rw[z,j]at e;cases e),qe (λz=>by rw[z,hn]at e;cases e)];exact e
  ·by_cases hd:b=a
   ·rw[hd];exact .inr j
   ·rw[qe hd]at e;by_cases hb:b=ea
    ·rw[hb];exact .inr hn
    ·rw[qe hb]at e;exact .inl e
theorem yb4(I:Inv X pins st H s)(l:X.stack=X.env::X.outer)(v:X.env.frame=some X.env.locals){s':Shared}{p:Hp}{e:Value}(F:uz X.prog X.w X.stack H s cls fd p e s'){M:jk}{E:Value->Shared->Prop}{Q:Value->Shared->Prop}
  (h:∀ ea d,e=.ref ea->Du X pins st p d ea cls fd->Q e d):wpAny M X.A (dh e X.env) (λ_ x=>wpAny M X.A (Bi e none) (λ_ y=>Q e y) E x) E s':=by
 obtain⟨ea,f,B,rfl,q,hn,c,hT,t,r,u⟩:=F.ex;have j:zr B (X.env::X.outer) ea cls f s'.heap:=by rw[<-l];exact q
 refine JR (by rw[<-l];exact I.ok.frames) v j λz b m g=>?_;refine II (VQ b) λh5 k n i=>h ea _ rfl ?_;have a:zr B X.stack ea cls f h5:=by rw[l];exact k
 obtain⟨un,Rb⟩:=sJ F t hT r q.1 a.1 (m.trans n) (XH I);exact⟨H,s,I,⟨ea,f,B,rfl,a,hn,c,hT,t,r,u.next (g.trans i) (let ⟨o,e,_⟩:=a.there;⟨o,e⟩)⟩,F.os,F.bare,un,Rb⟩
end
noncomputable def EI(X:Cx)(x:qa)(cv:Value):Prop:=X.mg x=some cv\/(X.mg x=none/\bootBuiltins x=some cv/\x ≠ "__name__")
inductive Hz(T:Tb)(X:Cx):List Nh->List Hd->Prop where
 |nil:Hz T X [] []
 |cons {x:qa} {np pos:Ye} {cv:Value} {b₀:Stmt} {suite:List Stmt} {t:Nat->Option Bool} {g:Ev->M Fl} {r:List Nh} {hs:List Hd} (hg:Gl X x) (hd:(x == ("__debug__" : qa))=false) (hm:EI X x cv) (ht:∀ c b,t c=some b->W.exmOne X.K (.ref (T.ca c)) cv=some b)
   (hb:∀ e,Hq T (Cx.Lv X e) (b₀::suite) g) (hr:Hz T X r hs):Hz T X (.ExceptHandler (some (.Name x np)) none (b₀::suite) pos::r) (⟨t,none,g⟩::hs)
 |rz {x n:qa} {i:Nat} {np pos:Ye} {cv:Value} {b₀:Stmt} {suite:List Stmt} {t:Nat->Option Bool} {g:Ev->M Fl} {r:List Nh} {hs:List Hd} (hg:Gl X x) (hd:(x == ("__debug__" : qa))=false) (hm:EI X x cv) (ht:∀ c b,t c=some b->W.exmOne X.K (.ref (T.ca c)) cv=some b)
   (hN:X.N.Nodup) (hi:X.N[i]?=some n) (hl:X.env.scope.names.lookup n=some .local)
   (hb:∀ e,Hq T (Cx.Lv X e) (b₀::suite) g) (hr:Hz T X r hs):Hz T X (.ExceptHandler (some (.Name x np)) (some n) (b₀::suite) pos::r) (⟨t,some i,g⟩::hs)
section
variable{T:Tb}{X:Cx}
theorem VO{a:List (Addr × Obj)}{e:St}{H:Hp}{s:Shared}{x:qa}{cv:Value}{b:Ye}{E:Value->Shared->Prop}{Q:Value->Shared->Prop}(I:Inv X a e H s)(c:Gl X x)(hd:(x == ("__debug__" : qa))=false)(hm:EI X x cv)(h:Q cv s):wpAny (model X.prog X.w) X.A (Nb (.Name x b) X.env) Q E s:=by
 rcases hm with hm|⟨hm,d,hn⟩
 ·exact dA I c hm h hd
 ·exact kB I c hm d h hn hd
theorem bX{e:Value}{μ:List Addr}{H:Hp}{o:Out Fl}{D:Ends}(b:Ib T EN (Jl T) μ H (o.bind OD) (wk X D)):Ib T EN (Jl T) μ H o (wk (Cx.Lv X e) D):=by
 cases o with
 |bad=>exact b
 |ex x σ=>exact b
 |ok h σ=>
  intro a gl c d f q1;cases h with
  |nx g=>cases gl with
   |nx st=>exact b a (.nx st) c d f q1
   |_=>exact q1.elim
  |rt g=>cases gl with
   |rt st=>exact b a (.rt st) c d f q1
   |_=>exact q1.elim
  |bk g=>cases gl with
   |bk st=>exact b a (.bk st) c d f q1
   |_=>exact q1.elim
  |ct g=>cases gl with
   |ct st=>exact b a (.ct st) c d f q1
   |_=>exact q1.elim
  |xc g x=>exact b.elim
theorem VI{μ:List Addr}{H:Hp}{ρ:Ev}{b:St}(h:Zh T μ H ρ b)(i:Nat):Zh T μ H (ρ.set i none) (b.set i none):=by
 refine⟨by simpa using h.1,λj d q=>?_⟩;rw[Cb]at q;by_cases a:i=j
 ·subst a;rw[ia rfl]at q;split at q<;>cases q
 ·rw[ja a]at q;obtain⟨v,c,e⟩:=h.2 j d q;exact⟨v,by rw[Cb,ja a];exact c,e⟩
theorem cZ{e:Value}{μ:List Addr}{H:Hp}{o:Out Fl}{D:Ends}{i:Nat}(c:Ib T EN (Jl T) μ H (o.bind (aQ i)) (wk X D)):Ib T EN (Jl T) μ H o (wk (Cx.Lv X e) ⟨λa H=>D.nx (a.set i none) H,D.rt,λa H=>D.bk (a.set i none) H,λa H=>D.ct (a.set i none) H⟩):=by
 cases o with
 |bad=>exact c
 |ex x σ=>exact c
 |ok j σ=>
  intro b gl d f g q1;cases j with
  |nx h=>cases gl with
   |nx a=>exact c b (.nx (a.set i none)) d f g (VI q1 i)
   |_=>exact q1.elim
  |rt h=>cases gl with
   |rt a=>exact c b (.rt a) d f g q1
   |_=>exact q1.elim
  |bk h=>cases gl with
   |bk a=>exact c b (.bk (a.set i none)) d f g (VI q1 i)
   |_=>exact q1.elim
  |ct h=>cases gl with
   |ct a=>exact c b (.ct (a.set i none)) d f g (VI q1 i)
   |_=>exact q1.elim
  |xc h x=>exact c.elim
theorem X5{a:List (Addr × Obj)}{K:St}{H:Hp}{s:Shared}{n:qa}{i t:Nat}{h':Heap}{m:qa->Option Value}(I:Inv X a K H s)(hN:X.N.Nodup)(R:X.N[i]?=some n)(hl:X.env.scope.names.lookup n=some .local)(hn:s.heap.Ns X.env.locals m){w:Option Value}(E:h'.Ns X.env.locals λy=>if y=n then w else m y)(d:Ic X.env.locals s.heap h'):Inv X a (K.set i none) H { s with heap:=h',toks:=t }:=by
 have f:∀ b o,X.s₀.heap.get? b=some o->b≠X.env.locals:=λb o e=>va (Ea (ua e) I.ok.above);obtain⟨G,D,l⟩:=I.loc;have M:G=m:=by
  obtain⟨o,es,Z,T,hd,hk,Q⟩:=D;obtain⟨J,P,O,x,h,S,B⟩:=hn;rw[T]at x;cases x;rw[hd]at h;cases h;funext y;rw[<-Q y,<-B y]
 subst M;refine⟨I.ok,I.os,I.bare,⟨λb o e n hb A=>(d.2 b (f b o e)).trans (I.base.keep b o e n hb A),λb o e n hb A=>?_,I.base.free,λb o e A=>?_,I.base.Di,I.base.Ph,I.base.Ci⟩,⟨_,E,λj y v F g L=>?_⟩,λy c e=>?_,I.free,I.Kg,λp U=>?_,kJ I.Rb λb o u e q=>?_,by simpa using I.len⟩
 ·obtain⟨Y,q⟩:=I.base.slot b o e n hb A;exact⟨Y,(d.2 b (f b o e)).trans q⟩
 ·obtain⟨J,q⟩:=I.base.there b o e A;exact⟨J,(d.2 b (f b o e)).trans q⟩
 ·rw[Cb]at g;by_cases C:i=j
  ·subst C;rw[ia rfl]at g;split at g<;>cases g
  ·rw[ja C]at g;obtain⟨u,r,W⟩:=l j y v F g L;refine⟨u,r,?_⟩;have V:y≠n:=λz=>C (DL hN R (z ▸ F));rcases W with⟨k,q⟩|⟨k,c,q,z⟩
   ·exact .inl ⟨k,by show (if y=n then w else G y)=some u;rw[ja V];exact q⟩
   ·exact .inr ⟨k,c,q,z.sameBut d (I.Hx y c q)⟩
 ·obtain⟨v,z⟩:=I.cell y c e;exact⟨v,z.sameBut d (I.Hx y c e)⟩
 ·obtain⟨q1,q2,q3,q4⟩:=I.pin p U;exact⟨(d.2 p.1 q3).trans q1,q2,q3,q4⟩
 ·exact(d.2 b λz=>by rw[z,I.free]at e;cases e).trans q
theorem o7{D:Ends}{c:List (Addr × Obj)}{G:St}{H:Hp}{d:Addr}{x:Xn}{μ:List Addr}{ρ:Ev}{σ:db}{V:List Nh}{hs:List Hd}(h:Hz T X V hs)(hE:Zh T μ H ρ G)(hr:Rel T μ H σ)(j:Ib T EN (Jl T) μ H (zx ρ x hs σ) (wk X D)) :
  ∀ s,Du X c G H s d (T.cv x) (nB x.cls)->wpAny (model X.prog X.w) X.A (TL (.ref d) X.env V) (SP X c D) X.xe s:=by
 induction h with
 |nil=>exact j.elim
 |@cons y np pos cv S Q t g r hs hg hd hm ht hb P ih=>
  intro s L;have I:=L.inv;obtain⟨_,⟨o,ho,hc⟩,_⟩:=L.obj;refine dz (Dw (VO (X:=Cx.Lv X (.ref d)) (gG I) hg hd hm ?_)) (by intro q;cases q);unfold zx at j;dsimp only at j;cases N:t x.cls with
  |none=>rw[N]at j;exact j.elim
  |some b=>
   rw[N]at j;have LT:W.Looks (model X.prog X.w) s.heap (Xs (.ref d)) (T.cv x):=by rw[<-hc];exact(zA ho).andThen .now
   refine(W.exm_one I.Cj LT (ht x.cls b N)).here ?_;cases b with
   |false=>exact ih j s L
   |true=>
    refine codeAny_handlers_suite (L.next λs' L'=>?_);exact rc (hb (.ref d) c s' G H D (gG L'.inv) ⟨μ,ρ,σ,hE,hr,bX j⟩) (λf s2 q=>NU I.ok q) λ_ _ z=>z.elim
 |@rz y n i np pos cv S Q t g r hs hg hd hm ht hN hi hl hb P ih=>
  intro s L;have I:=L.inv;obtain⟨_,⟨o,ho,hc⟩,_⟩:=L.obj;refine dz (Dw (VO (X:=Cx.Lv X (.ref d)) (gG I) hg hd hm ?_)) (by intro q;cases q);unfold zx at j;dsimp only at j;cases N:t x.cls with
  |none=>rw[N]at j;exact j.elim
  |some b=>
   rw[N]at j;have LT:W.Looks (model X.prog X.w) s.heap (Xs (.ref d)) (T.cv x):=by rw[<-hc];exact(zA ho).andThen .now
   refine(W.exm_one I.Cj LT (ht x.cls b N)).here ?_;cases b with
   |false=>exact ih j s L
   |true=>
    refine codeAny_handlers_suite_as (L.next λs' L'=>?_);have hn:H d=none:=L'.obj.1;obtain⟨dd,H1,I1,a1,a0,C,a4⟩:=Du.zD L';have B:∀ b,b∈μ->∃ u,H b=some u:=λb z=>by obtain⟨u,E,_⟩:=hr.mem z;exact⟨u,E⟩
    have O:Ext μ H μ H1:=⟨⟨[],by simp⟩,λp xs e=>C _ _ e,λp o u e=>C _ _ e,λp o e n=>⟨⟨o,C _ _ e,.inl rfl⟩,n⟩⟩
    have out:d ∉ μ:=λz=>by obtain⟨u,E⟩:=B _ z;rw[hn]at E;cases E
    have rp:Rep T μ H1 (.ku x.cls) (.ref d):=by
     rw[Rep];refine⟨d,dd,rfl,out,a1,λn q=>?_⟩;obtain⟨dN,z1,z2,z3⟩:=a0 n q;exact⟨dN,z1,λz=>(by obtain⟨u,E⟩:=B _ z;rw[z2]at E;cases E),z3⟩
    refine YE (X:=Cx.Lv X (.ref d)) (v:=.ref d) (gG I1) hN hi (.inl hl) rfl (λs2 I2=>?_) (.inr hl);refine rc (hb (.ref d) c s2 _ _ ⟨λG H=>D.nx (G.set i none) H,D.rt,λG H=>D.bk (G.set i none) H,λG H=>D.ct (G.set i none) H⟩ I2 ⟨μ,ρ.set i (some (.ku x.cls)),σ,(hE.mono O).set i rp,hr.keep O (λa ha=>by obtain⟨u,E⟩:=B a ha;rw[C _ _ E,E]) (hr.tb.grow C),cZ (Ib.mono O j)⟩) (λf s3 q=>?_) λ_ _ z=>z.elim;have U:(X.env.scope.kind == .class || (X.env.scope.kind == .module && X.env.locals != X.env.globals))=false:=by rw[I.ok.kind];rfl
    have go:∀ {l:St} {K:Hp},Inv (Cx.Lv X (.ref d)) c l K s3->(∀ R,Inv X c (l.set i none) K R->SP X c D f R)->wpAny (model X.prog X.w) X.A (do bindName X.env n .none;unbindBehindTheSuite X.env n pos) (λ_ Z=>SP X c D f Z) X.xe s3:=fun {l K} F k=>by
     have J:=jC I.ok F;obtain⟨m,Y,_⟩:=id J.loc;exact wpAny_nameGoes_keeps hl Y U λh4 v4 a2 a3=>k _ (X5 J hN hi hl Y a2 a3)
    cases f with
    |next=>obtain⟨l,K,F,q3⟩:=q;exact go F λR M=>⟨_,_,M,q3⟩
    |brk=>obtain⟨l,K,F,q3⟩:=q;exact go F λR M=>⟨_,_,M,q3⟩
    |cont=>obtain⟨l,K,F,q3⟩:=q;exact go F λR M=>⟨_,_,M,q3⟩
    |ret u=>obtain⟨v,l,K,F,r3,q3⟩:=q;exact go F λR M=>⟨v,_,_,M,r3,q3⟩
theorem X8{body:List Stmt}{h₀:Nh}{d:List Nh}{t:List Hd}{g:Ev->M Fl}{y:Ye}(v:X.stack=X.env::X.outer)(R:X.env.frame=some X.env.locals)
  (hb:∀ a xe,uq (model X.prog X.w) X.A X.env xe->Hq T (Cx.ou X a xe) body g) (S:Hz T X (h₀::d) t):FS T X (.Try body (h₀::d) [] [] y) (jL g t):=by
 intro a s h H D I W;obtain⟨G,j,C,P,V,U⟩:=W;refine wpAny_Try_except ?_;refine rc (hb a (λe l=>wpAny (model X.prog X.w) X.A (dh e X.env) (λ_ m=>wpAny (model X.prog X.w) X.A (Bi e none) (λ_ c=>wpAny (model X.prog X.w) X.A (TL e X.env (h₀::d)) (SP X a D) X.xe c) X.xe m) X.xe l) zaD [] s h H D (T8 I)
  ⟨G,j,C,P,V,?_⟩) (λf s1 q=>?_) λ_ _ z=>z
 ·have b:Ib T EN (Jl T) G H ((g j C).bind (OE t)) (wk X D):=U;cases p:g j C with
  |bad=>rw[p]at b;exact b
  |ex x E=>rw[p]at b;exact b
  |ok O E=>
   rw[p]at b;intro i gl n K k q1;have p1:=b.mono K;cases O with
   |nx j=>cases gl with
    |nx h=>exact p1 i (.nx h) n (Ext.refl _ _) k q1
    |_=>exact q1.elim
   |rt j=>cases gl with
    |rt h=>exact p1 i (.rt h) n (Ext.refl _ _) k q1
    |_=>exact q1.elim
   |bk j=>cases gl with
    |bk h=>exact p1 i (.bk h) n (Ext.refl _ _) k q1
    |_=>exact q1.elim
   |ct j=>cases gl with
    |ct h=>exact p1 i (.ct h) n (Ext.refl _ _) k q1
    |_=>exact q1.elim
   |xc Z x=>cases gl with
    |xc Y cls fd=>
     obtain⟨r,rfl,rfl⟩:=q1;refine⟨λp0 H0 s0 e s' J F=>?_⟩;exact yb4 (CC J) v R F (Q:=λe c=>wpAny (model X.prog X.w) X.A (TL e X.env (h₀::d)) (SP X a D) X.xe c) λea B N L=>by subst N;exact o7 S r k p1 B L
    |_=>exact q1.elim
 ·have o:=vU q;cases f with
  |next=>exact fk o
  |brk=>exact o
  |cont=>exact o
  |ret u=>exact o
end
theorem yam{T:Tb}{X:Cx}{r:Stmt}{i:Nat}{f:Ev->M D}(h:FS T X r (jh i f)):FS T X r (jh i (cm f)):=by
 intro q s U H D I R;obtain⟨t,c,g,F,y,Q⟩:=R;refine h q s U H D I ⟨t,c,g,F,y,?_⟩;have a:Ib T EN (Jl T) t H (xs c (Za (f c)) (ID i c) g) (wk X D):=Q;show Ib T EN (Jl T) t H (xs c (f c) (ID i c) g) (wk X D);unfold xs Za at a;unfold xs;cases e:f c g with
 |bad=>rw[e]at a;exact a
 |ex x k=>
  rw[e]at a;unfold Eh at a;dsimp only at a ⊢;by_cases l:k.take g.length=g
  ·rw[ia l]at a;intro u gl w n z q1;cases gl with
   |xc st1 N C=>
    obtain⟨J,A⟩:=Rel.down y z n l;obtain⟨L,S⟩:=q1;refine a t (.xc st1 N C) w A J ⟨⟨L.1,λj d b=>?_⟩,S⟩;obtain⟨v,o,p⟩:=L.2 j d b;obtain⟨K,_,E⟩:=F.2 j d b;exact⟨v,o,Rep.down n.pre d K v E p⟩
   |_=>exact q1.elim
  ·rw[ja l]at a;exact a.elim
 |ok d k=>
  rw[e]at a;unfold Eh at a;dsimp only at a ⊢;by_cases l:k.take g.length=g
  ·rw[ia l]at a;cases B:fz g.length k 6 d with
   |none=>rw[B]at a;exact a.elim
   |some O=>
    rw[B]at a;intro u gl w n z q1;cases gl with
    |nx st1=>
     obtain⟨J,A⟩:=Rel.down y z n l;have m:Zh T u w (c.set i (some d)) st1:=q1;refine a t (.nx st1) w A J ⟨by simpa using m.1,λj x b=>?_⟩;rw[Cb]at b;by_cases G:i=j
     ·subst G;rw[ia rfl]at b;split at b
      ·rename_i P
       cases b;obtain⟨v,o,p⟩:=m.2 i d (by rw[Cb,ia rfl,ia P]);exact⟨v,o,cN n.pre z 6 d O v (by rw[y.len];exact B) p⟩
      ·cases b
     ·rw[ja G]at b;obtain⟨v,o,p⟩:=m.2 j x (by rw[Cb,ja G];exact b);obtain⟨K,_,E⟩:=F.2 j x b;exact⟨v,o,Rep.down n.pre x K v E p⟩
    |_=>exact q1.elim
  ·rw[ja l]at a;exact a.elim
noncomputable def RA:List D->Option (List Bool)
 |[]=>some []
 | .bl b::r=>(RA r).map (b::·)
 |_::_=>none
noncomputable def nu:List D->Option (List Int)
 |[]=>some []
 | .int b::r=>(nu r).map (b::·)
 |_::_=>none
theorem wR{T:Tb}{μ:List Addr}{H:Hp}:∀ {ds:List D} {vs:List V} {bs:List Bool},Wa T μ H ds vs->RA ds=some bs->vs=bs.map V.bl
 |[],vs,bs,r,h=>by cases h;rw[Wa]at r;exact r
 |d::ds,vs,bs,r,h=>by
  rw[Wa]at r;obtain⟨v,w,rfl,a,f⟩:=r;cases d with
  |bl b=>
   obtain⟨g,c,e⟩:=Fb.mp h;subst e;rw[Rep]at a;subst a;rw[wR f c];rfl
  |_=>cases h
theorem DC{T:Tb}{μ:List Addr}{H:Hp}:∀ {ds:List D} {vs:List V} {bs:List Int},Wa T μ H ds vs->nu ds=some bs->vs=bs.map V.int
 |[],vs,bs,r,h=>by cases h;rw[Wa]at r;exact r
 |d::ds,vs,bs,r,h=>by
  rw[Wa]at r;obtain⟨v,w,rfl,a,f⟩:=r;cases d with
  |int b=>
   obtain⟨g,c,e⟩:=Fb.mp h;subst e;rw[Rep]at a;subst a;rw[DC f c];rfl
  |_=>cases h
noncomputable def fD(xs:List D):M D:=λa=>match xs with
 |[x]=>(match (Wk a x).bind RA with
  |some bs=>.ok (.bl (bs.all id)) a
  |none=>.bad)
 |_=>.bad
noncomputable def yx(xs:List D):M D:=λa=>match xs with
 |[x]=>(match (Wk a x).bind nu with
  |some bs=>.ok (.int bs.sum) a
  |none=>.bad)
 |_=>.bad
section
variable{T:Tb}{X:Cx}
noncomputable def WS(K:W.Frag)(g:List Bool->Bool):List V->Hp->VK->Prop:=λxs H Q=>∃ p bs,xs=[.ref p]/\(bg K H p (bs.map V.bl)\/Wh K H p (bs.map V.bl))/\Q (.bl (g bs)) H
noncomputable def fO(K:W.Frag):List V->Hp->VK->Prop:=λxs H Q=>∃ (p:Addr) (bs:List Int),xs=[.ref p]/\(bg K H p (bs.map V.int)\/Wh K H p (bs.map V.int))/\Q (.int bs.sum) H
theorem zS:∀ {bs:List Bool} {us:List Value},re (bs.map V.bl) us->us=bs.map Cg
 |[],us,h=>by cases h;rfl
 |b::bs,us,h=>by
  cases h with
  |cons r t=>cases r;rw[zS t];rfl
theorem yO{a:Type}(g:a->Bool)(d:a):∀ (bs:List a),(List.range bs.length).all (λi=>g (bs.getD i d))=bs.all g
 |[]=>rfl
 |b::bs=>by
  rw[Ma,Qr,sg,Rr,sg];congr 1;rw[<-yO g d bs];congr 1
theorem zX{prog:ra}{w:Ka}{A:Ia}(bs:List Bool):TruthOf prog w A (λi v=>(bs.map Cg).toArray[i]?=some v) (λi=>bs.getD i false):=by
 intro i v s Q E a d;simp only[Df,eb]at a;cases e:bs[i]? with
 |none=>rw[e]at a;cases a
 |some b=>
  rw[e]at a;cases a;have c:Q (bs.getD i false) s:=d;rw[Uf,e]at c;exact Gc c
theorem LP{s:Shared}{o:Obj}{h':Heap}(k:∀ b u,b ∉ [s.heap.objs.size]->(s.heap.push o).get? b=some u->h'.get? b=some u):∀ b u,s.heap.get? b=some u->h'.get? b=some u:=λb u e=>
 k b u (λz=>absurd (ua e) (by rw[Jd.mp z];exact Te _)) (ba _ e)
theorem iN{c:List (Addr × Obj)}{s:Shared}{n:St}{H:Hp}{p:Addr}{vs:List V}{E:Value->Shared->Prop}{Q:Value->Shared->Prop}(m:X.A.handled=none)(I:Inv X c n H s)(d:bg X.K H p vs\/Wh X.K H p vs)
  (h:∀ (its:List Value) (It:Addr) (l:List Addr) (St:Nat->Heap->Prop) (f:Shared),re vs its->Walks X.prog X.w X.A.in1 It l [It] its.toArray.size (λi v=>its.toArray[i]?=some v) St->St 0 f.heap->(∀ b∈l,b<f.heap.objs.size)->
   (∀ h' k,(∀ b o,b ∉ [It]->f.heap.get? b=some o->h'.get? b=some o)->Inv X c n H { f with heap:=h',toks:=k })->Q (.ref It) f):wpAny (model X.prog X.w) X.A.in1 (pyIter (.ref p)) Q E s:=by
 rcases d with d|d
 ·obtain⟨its,j,pl,q⟩:=I.list d;have a:p<s.heap.objs.size:=by obtain⟨_,e,_⟩:=pl.isList;exact ua e
  refine No pl.isList (h its s.heap.objs.size [s.heap.objs.size,p] _ _ j (dE (A:=X.A.in1) m _ p (va a) its.toArray) ⟨⟨_,Ba _ rfl,rfl,rfl⟩,pl.isList.push _⟩ (λb hb=>?_) (λh' k g=>I.kept (LP g)));show b<(s.heap.push _).objs.size;rw[Fc];simp only[Ha,ie,Vm]at hb;rcases hb with rfl|rfl
  ·exact Gb _
  ·exact Hb a
 ·obtain⟨its,j,pl,q⟩:=I.tuple d;have a:p<s.heap.objs.size:=pl.lt;refine xA (show s.heap.IsTuple p _ from pl) (h its s.heap.objs.size [s.heap.objs.size,p] _ _ j (Walks.tuple (A:=X.A.in1) m _ p (va a) its.toArray) ⟨⟨_,Ba _ rfl,rfl,rfl⟩,oH (show s.heap.IsTuple p _ from pl) _⟩ (λb hb=>?_) (λh' k g=>I.kept (LP g)));show b<(s.heap.push _).objs.size;rw[Fc];simp only[Ha,ie,Vm]at hb;rcases hb with rfl|rfl
  ·exact Gb _
  ·exact Hb a
theorem HU(f:X.calm=true):Qm X (.builtin "all") (WS X.K λbs=>bs.all id):=by
 intro a s w H xs x Q I r h;obtain⟨p,bs,rfl,j,q⟩:=h;obtain⟨u,rfl,l⟩:=Ot r;cases l;refine call_all_walk (iN (I.ok.hd f) I j λk It o St v m W d t e=>?_);have b:=zS m;subst b;refine⟨_,_,_,_,_,_,λi=>bs.getD i false,rfl,W,d,zX bs,λc n g=>⟨.bl (bs.all id),H,e c n g,?_,q⟩⟩;show Cg _=Cg _;rw[wa,pb];exact Wf Cg (yO id false bs)
theorem DQ:∀ (bs:List Int) (n:Nat),n<=bs.length->preSum (λi=>bs.getD i 0) n=(bs.take n).sum
 |bs,0,_=>by simp[preSum]
 |bs,n+1,h=>by
  rw[preSum,DQ bs n (by omega),List.take_succ_eq_append_getElem (by omega),List.sum_append];simp[Uf,show n<bs.length by omega]
theorem bJ(o:X.calm=true):Qm X (.builtin "sum") (fO X.K):=by
 intro f s F H xs G Q I r h;obtain⟨p,bs,rfl,z,q⟩:=h;obtain⟨u,rfl,A⟩:=Ot r;cases A;refine call_sum_walkG (iN (I.ok.hd o) I z λc It D St E g W l w n=>?_);refine⟨_,_,_,_,_,_,λi=>bs.getD i 0,rfl,W,l,w,λi v d=>?_,λk C B y=>⟨.int bs.sum,H,n k C y,⟨B,?_⟩,q⟩⟩
 ·simp only[Df]at d;obtain⟨x,a,m⟩:=rJ g d;rw[eb]at a;cases e:bs[i]? with
  |none=>rw[e]at a;cases a
  |some b=>
   rw[e]at a;cases a;obtain⟨t,rfl⟩:=m;exact⟨t,by show Sd b t=Sd (bs.getD i 0) t;rw[Uf,e];rfl⟩
 ·have j:c.toArray.size=bs.length:=by rw[wa,<-g.length,pb]
  rw[j,DQ bs _ (na _),Wm]
theorem nT{a:Type}{σ:db}{x:D}{g:List D->Option a}{bs:a}(h:(Wk σ x).bind g=some bs):∃ ys,Wk σ x=some ys/\g ys=some bs:=Ag.mp h
theorem g5(g:T.K=X.K):Ct T (WS X.K λbs=>bs.all id) fD:=by
 intro E l H j xs i Q r p h
 match xs with
 |[]=>exact h.elim
 |[x]=>
  rw[Wa]at p;obtain⟨v,w,rfl,p1,p2⟩:=p;rw[Wa]at p2;subst p2;unfold fD at h;cases e:(Wk j x).bind RA with
  |none=>simp only[e]at h;exact h.elim
  |some bs=>
   simp only[e]at h;obtain⟨k,c,d⟩:=nT e;obtain⟨b,i,rfl,f,a⟩:=iB r p1 c;rw[g,wR f d]at a;exact⟨b,bs,rfl,a,Ib.here h r (by rw[Rep])⟩
 |_::_::_=>exact h.elim
theorem aJ(g:T.K=X.K):Ct T (fO X.K) yx:=by
 intro E l H j xs i Q r p h
 match xs with
 |[]=>exact h.elim
 |[x]=>
  rw[Wa]at p;obtain⟨v,w,rfl,p1,p2⟩:=p;rw[Wa]at p2;subst p2;unfold yx at h;cases e:(Wk j x).bind nu with
  |none=>simp only[e]at h;exact h.elim
  |some bs=>
   simp only[e]at h;obtain⟨k,c,d⟩:=nT e;obtain⟨b,i,rfl,f,a⟩:=iB r p1 c;rw[g,DC f d]at a;exact⟨b,bs,rfl,a,Ib.here h r (by rw[Rep])⟩
 |_::_::_=>exact h.elim
noncomputable def vS(xs:List D):M D:=match xs with
 |[.int i,.int j]=>ret (.int (max i j))
 |_=>bad
noncomputable def sE(xs:List D):M D:=match xs with
 |[.int i,.int j]=>ret (.int (min i j))
 |_=>bad
theorem tO{μ:List Addr}{H:Hp}{x y:D}{vs:List V}(p:Wa T μ H [x,y] vs):∃ v u,vs=[v,u]/\Rep T μ H x v/\Rep T μ H y u:=by
 rw[Wa]at p;obtain⟨v,w,rfl,p1,p2⟩:=p;rw[Wa]at p2;obtain⟨u,a,rfl,p3,p4⟩:=p2;rw[Wa]at p4;subst p4;exact⟨v,u,rfl,p1,p3⟩
theorem zw1:Ct T (λxs H Q=>∃ i j,xs=[.int i,.int j]/\Q (.int (if j > i then j else i)) H) vS:=by
 intro E b H c xs a Q r p h;unfold vS at h;split at h
 ·rename_i i j
  obtain⟨v,u,rfl,p1,p2⟩:=tO p;refine⟨i,j,by rw[Cq p1,Cq p2],?_⟩;have e:(if j > i then j else i)=max i j:=by rw[Int.max_def];split<;>split<;>omega
  rw[e];exact Ib.here h r (by rw[Rep])
 ·exact h.elim
theorem mZ:Ct T (λxs H Q=>∃ i j,xs=[.int i,.int j]/\Q (.int (if j<i then j else i)) H) sE:=by
 intro E b H c xs a Q r p h;unfold sE at h;split at h
 ·rename_i i j
  obtain⟨v,u,rfl,p1,p2⟩:=tO p;refine⟨i,j,by rw[Cq p1,Cq p2],?_⟩;have e:(if j<i then j else i)=min i j:=by rw[Int.min_def];split<;>split<;>omega
  rw[e];exact Ib.here h r (by rw[Rep])
 ·exact h.elim
noncomputable def sm(ns:List Int):List Int:=ns.foldl DA []
theorem iI(ns:List Int):Ig (λi=>ns.getD i 0) ns.length=sm ns:=by
 unfold Ig sm;congr 1;apply Lf;intro i;by_cases h:i<ns.length
 ·simp[h]
 ·simp[h]
noncomputable def xD(x:D):M D:=λa=>match (Oi a x).bind nu with
 |some ns=>if ns.length<=li then .ok (.int (sm ns).length) a else .bad
 |none=>.bad
noncomputable def g9(K:W.Frag):List V->Hp->VK->Prop:=λxs H Q=>∃ (p:Addr) (ns:List Int),xs=[.ref p]/\bg K H p (ns.map V.int)/\ns.length<=li/\∀ l,H l=none->Q (.ref l) (upd H l (.set (λk=>(sm ns).any (·== k)) (sm ns).length))
theorem ZS{n:Nat}(h:n<=li):n+1<scanBound:=ci (Nat.succ_le_succ h) (by decide)
theorem j1(i:X.calm=true):Qm X (.type "set") (g9 X.K):=by
 intro f s x H xs y Q I r h;obtain⟨p,ns,rfl,m,l,q⟩:=h;obtain⟨u,rfl,n⟩:=Ot r;cases n;obtain⟨a,g,pl,w⟩:=I.list m;have c:a.length=ns.length:=by rw[<-g.length,pb]
 refine call_set_list (I.ok.hd i) pl.isList (ns:=ns) (xH g) (by rw[wa,c];exact ZS l) λv t d j=>?_;rw[show a.toArray.size=ns.length by rw[wa,c],iI]at d;refine⟨.ref s.heap.objs.size,_,I.laid (t':=t) (o:=.set (λk=>(sm ns).any (·== k)) (sm ns).length) (λb o e=>j b o (ua e) e) (na _) ?_,rfl,q _ (I.Rb.fresh (na _))⟩;exact d
theorem D8 : Qm X (.builtin "len") (λxs H Q => ∃ (p : Addr) (S : Int -> Bool) (n : Nat), xs = [.ref p] /\ H p = some (.set S n) /\ Q (.int n) H) := by
  intro a s x H xs y Q I r h;obtain ⟨p, S, n, rfl, g, q⟩ := h;obtain ⟨u, rfl, i⟩ := Ot r;cases i;obtain ⟨o, k, j, t, b, c, d, l, m, v, e, f⟩ := (show Xi X.prog X.w H s.heap p (.set S n) from I.Rb p _ g)
  refine call_len_set b c d e (by have : scanBound <= 2 ^ 62 := (by decide);omega) ⟨.int n, H, I.tok _, ⟨_, by rw [f]⟩, q⟩
theorem WY{e:Ja}{f:Ev->M D}{p p2 j b:Ye}(V:T.K=X.K)(E:X.calm=true)(G:Gl X "len")(hm:X.mg "len" = none)(m:Gl X "set")(o:X.mg "set" = none)(F:FE T X e f)
  (u:pa [e] X.env=(false,Nb e X.env)::pa [] X.env:=by rfl) (q:(lc b (pa [] X.env)).any (·.1)=false:=by rfl)
  (g:pa [.Call (.Name "set" p2) [e] [] b] X.env=(false,Nb (.Call (.Name "set" p2) [e] [] b) X.env)::pa [] X.env:=by rfl) (c:(lc j (pa [] X.env)).any (·.1)=false:=by rfl) :
  FE T X (.Call (.Name "len" p) [.Call (.Name "set" p2) [e] [] b] [] j) (Vc xD f):=by
 intro i s N H Q I h;refine mD D8 G hm Dc (Iv (QH (j1 E) m o rfl (Iv F Yw u) (by decide) (by decide) u q) Yw g) (by decide) (by decide) g c i s N H Q I ?_;obtain⟨O,P,R,C,L,J⟩:=h;refine⟨O,P,R,C,L,J.bind λd t r v S _ U w q1 p1=>?_⟩;unfold xD at p1;cases k:(Oi t d).bind nu with
 |none=>rw[k]at p1;exact p1.elim
 |some ns=>
  rw[k]at p1;dsimp only at p1;by_cases n:ns.length<=li
  ·rw[ia n]at p1;obtain⟨Y,x,y⟩:=Ag.mp k;obtain⟨a,W,rfl,A,B⟩:=w.ls q1 x;have z:=DC B y;subst z;refine⟨a,ns,rfl,bg.of A,n,λl hn=>?_⟩;exact⟨l,_,_,rfl,kh,p1 r (.int (sm ns).length) _ (Om hn) (w.fresh hn) (by rw[Rep])⟩
  ·rw[ja n]at p1;exact p1.elim
noncomputable def xw(xs:List D)(a b:Option Int):List D:=(xs.drop (HT.Sf xs.length 0 a)).take (HT.Sf xs.length xs.length b - HT.Sf xs.length 0 a)
theorem GW{xs:List D}{b a:Option Int}(h:HT.Sf xs.length 0 b=0/\HT.Sf xs.length xs.length a=xs.length):xw xs b a=xs:=by
 unfold xw;rw[h.1,h.2];simp
theorem aL{μ:List Addr}{H:Hp}{xs:List D}{vs:List V}(r:Wa T μ H xs vs)(b a:Option Int):Wa T μ H (xw xs b a) (my vs b a):=by
 unfold xw my;rw[r.length];exact Wa.take _ (Wa.drop _ r)
end
end L4
namespace HT
open PySem PySem.Spec PyProof.Rows
variable{prog:ra}{w:Ka}{A:Ia}{E:Value->Shared->Prop}{s:Shared}
theorem pk{t j:Addr}{a:Array Value}{m n:Value}{c e:Option Int}{Q:Value->Shared->Prop}(b:Yu s.heap t a)(k:s.heap.IsSliceOf j m n .none)(pl:zl m c)(q:zl n e)
  (l:Sf a.size 0 c=0/\Sf a.size a.size e=a.size) (h:Q (.ref t) s):wpAny (model prog w) A (ij (.ref t) (.ref j)) Q E s:=by
 obtain⟨os,i,g,p⟩:=id k;have f:s.TypeIs (.ref j) "slice":=⟨os,i,g⟩
 unfold ij;try with_reducible refine Nc ?_
 first|refine aa (da ?_)|skip
 refine aa (KB b.typeIs (by decide) ?_);refine aa (be (name:=ag "__getitem__") b.typeIs bc
  (cc bc b.typeIs az ?_ (vA _ _)))
 show wpAny _ _ (fh (.ref t) >>= _) _ _ s;refine aa (UT b ?_);refine aa (Yj f ?_);rw[ia (by decide)];refine aa (JP k pl q ?_);have d:(((Sf a.size 0 c:Nat):Int) == 0 && (1:Int) == 1 && (Sf a.size a.size e - Sf a.size 0 c) == a.size)=true:=by
  rw[l.1,l.2];simp
 show wpAny _ _ (if (((Sf a.size 0 c:Nat):Int) == 0 && (1:Int) == 1 && (Sf a.size a.size e - Sf a.size 0 c) == a.size)=true then _ else _) _ _ s;rw[ia d];obtain⟨o,u,r,v⟩:=id b;unfold qE;refine aa (aa (Yj b.typeIs ?_));refine da ?_;rw[ia (by decide)];refine aa (Zj ?_);first
  |exact da ⟨_,rfl,da h⟩
  |exact da (da ⟨_,rfl,da h⟩)
  |exact aa (da (da ⟨_,rfl,da h⟩))
end HT
namespace L4
open PySem PySem.Spec PyProof.Rows L2
section
variable{T:Tb}{X:Cx}
noncomputable def GQ(K:W.Frag):V->Option Int->Option Int->Hp->VK->Prop:=λx c b H Q=>∃ a xs,x=.ref a/\Wh K H a xs/\(HT.Sf xs.length 0 c=0/\HT.Sf xs.length xs.length b=xs.length)/\Q (.ref a) H
theorem ynh:ow X (GQ X.K):=by
 intro e s p H x v t u n l o Q I k f pl j h;obtain⟨a,xs,rfl,i,g,q⟩:=h;cases k;obtain⟨c,r,d,m⟩:=I.tuple i;have b:c.toArray.size=xs.length:=by rw[wa];exact r.length.symm
 exact⟨"tuple",_,bc.lookup,d.typeIs,HT.pk d f pl j (by rw[b];exact g) ⟨.ref a,H,I,rfl,q⟩⟩
noncomputable abbrev PF:=Option (Ev->M D)
noncomputable def yH(d:D):M (Option Int):=match d with
 | .int i=>ret (some i)
 |_=>bad
noncomputable def fA(p:PF):Ev->M (Option Int):=match p with
 |none=>λ_=>ret none
 |some f=>λa=>qd (f a) yH
noncomputable def tP(T:Tb)(X:Cx)(f:Ev->M (Option Int)):TO:=λd H Q=>∃ c e g,Zh T c H e d/\Rel T c H g/\Ib T (XE X d) (λ_ _ a b=>b=a) c H (f e g) Q
noncomputable abbrev FO(T:Tb)(X:Cx)(e:Option Ja)(p:PF):Prop:=PO X e (tP T X (fA p))
theorem HM:FO T X none none:=by
 intro a s d H Q I h;obtain⟨f,g,i,e,c,b⟩:=h;exact S3 a s d H Q I (Ib.here b c rfl)
theorem oR{e:Ja}{f:Ev->M D}(c:FE T X e f):FO T X (some e) (some f):=by
 intro a s l H Q I h;refine RY c a s l H Q I ?_;obtain⟨m,o,p,b,j,g⟩:=h;refine⟨m,o,p,b,j,Ib.bind g λd q n v r _ t k q1 p1=>?_⟩;cases d with
 |int i=>exact⟨i,Cq q1,Ib.here p1 k rfl⟩
 |_=>exact p1.elim
noncomputable def bP(x:D)(c b:Option Int):M D:=λa=>match x with
 | .tup xs=>.ok (.tup (xw xs c b)) a
 | .je ns=>.ok (.lst (xw (ns.map D.int) c b)) a
 |x=>(match Oi a x with
  |some xs=>.ok (.lst (xw xs c b)) a
  |none=>.bad)
noncomputable def Iz(x:D)(b:Option Int)(a:Option Int):M D:=bP x b a
noncomputable def hI(x:D)(a:M (Option Int))(b:Option Int):M D:=qd a (Iz x b)
noncomputable def cK(b a:M (Option Int))(x:D):M D:=qd b (hI x a)
noncomputable def gH(f:Ev->M D)(c b:PF):Ev->M D:=λa=>qd (f a) (cK (fA c a) (fA b a))
theorem PQ{e:Ja}{U S:Option Ja}{f:Ev->M D}{pl V:PF}{B p2:Ye}(Z:T.K=X.K)(he:FE T X e f)(hl:FO T X U pl)(hh:FO T X S V):FE T X (.Subscript e (.Slice U S none p2) B) (gH f pl V):=by
 intro w s W H Q I h;refine eW (ow.or yni (ow.or ynh F3)) he hl hh w s W H Q I ?_;obtain⟨μ,L,σ,z,hr,hp⟩:=h;refine⟨μ,L,σ,z,hr,hp.bind λd N G v H1 _ P r1 q1 p1=>⟨G,L,N,z.mono P,r1,p1.bind λl O J c H2 _ R r2 q2 p2=>⟨J,L,O,(z.mono P).mono R,r2,p2.bind λu m y g r _ Y x q3 p3=>?_⟩⟩⟩;have C:c=l:=q2;have E:g=u:=q3;subst C;subst E;have rd:Rep T y r d v:=Rep.mono Y _ _ (Rep.mono R _ _ q1);have b:∀ k,Oi m d=some k->Ib T (XE X W) (Rep T) y r (.ok (.lst (xw k c g)) m) Q->YQ X.K v c g r Q\/GQ X.K v c g r Q\/oQ X.K v c g r Q:=λk t p4=>by
  obtain⟨a,i,rfl,o,j⟩:=x.ls rd t;exact .inr (.inr ⟨a,i,rfl,bg.of o,λp hn=>UE p4 x (aL j c g) hn⟩)
 cases d with
 |tup xs=>
  have F:=rd;rw[Rep]at rd;obtain⟨p,i,rfl,o,j⟩:=rd;by_cases A:HT.Sf i.length 0 c=0/\HT.Sf i.length i.length g=i.length
  ·refine .inr (.inl ⟨p,i,rfl,Wh.of o,A,Ib.here (d:=D.tup (xw xs c g)) p3 x ?_⟩);rw[GW (by rw[j.length];exact A)];exact F
  ·exact .inl ⟨p,i,rfl,Wh.of o,A,λq hn=>bB p3 x (aL j c g) hn⟩
 |ref n=>
  unfold Iz bP at p3;dsimp only at p3;cases t:Oi m (.ref n)with
  |none=>rw[t]at p3;exact p3.elim
  |some k=>rw[t]at p3;exact b k t p3
 |lst k=>exact b k rfl p3
 |je ns=>
  rw[Rep]at rd;obtain⟨p,rfl,o⟩:=rd;have j:=o.seq;rw[Z]at j;exact .inr (.inr ⟨p,_,rfl,j,λp hn=>UE p3 x (aL (IC ns) c g) hn⟩)
 |_=>exact p3.elim
end
noncomputable def bL(K:W.Frag)(mg:qa->Option Value)(x:qa)(e:Stmt)(ps:List qa)(h:List Value):Prop:=
 ∃ f b,mg x=some (.ref f)/\W.keepIn K (.ref f)=true/\(∃ (i:Value) (j:Option Addr) (g kV c k:Value) (an:Option Addr) (a ct:Value) (d:Array (Option Value)),
  b=W.fnOf x x (km e) (oj e) (vc e) g kV c k an a ct/\K.lookup f=some ⟨i,j,.func b,d⟩/\W.codeIn K a x=true)/\Yr K b ps []/\Yr K b ps h
noncomputable def sv(T:Tb)(P:ra)(w:Ka)(mg:qa->Option Value)(base:Heap)(k:Nat)(x:qa)(ps:List qa)(b:List Value)(fn:List D->M D):Prop:=
 ∃ f a,mg x=some (.ref f)/\W.keepIn T.K (.ref f)=true/\Yr T.K a ps []/\Yr T.K a ps b/\Oh P w T.K mg base (Mm P w) k f a ps (pp T ps.length fn)
section
variable{T:Tb}{X:Cx}
theorem tU{k:Nat}{ps:List qa}{g:List Value}{dds:List D}{dvs:List V}{fn:List D->M D}{x:qa}{p a:Ye}{e:Ja}{es:List Ja}{fs:Ev->M (List D)}(h:sv T X.prog X.w X.mg X.base k x ps g fn)(l:T.K=X.K)(q:Me k X.A)(o:Gl X x)(r:re dvs g)(c:∀ μ H,Wa T μ H dds dvs)
  (m:FA T X (e::es) fs) (b:(x == ("__debug__" : qa))=false:=by decide) (n:pa (e::es) X.env=(false,Nb e X.env)::pa es X.env:=by rfl) (d:(lc a (pa es X.env)).any (·.1)=false:=by rfl) :
  FE T X (.Call (.Name x p) (e::es) [] a) (ae ps.length fn dds fs):=by
 obtain⟨f,s,hm,j,_,hb,i⟩:=h;rw[l]at j i hb;exact eN (dds:=dds) (dvs:=dvs) i q o hm j hb r c m b n d
theorem zY:re [V.Jb] [La]:=.cons rfl .nil
theorem MY{T:Tb}(μ:List Addr)(H:Hp):Wa T μ H [D.Jb] [V.Jb]:=Wa.cons (by rw[Rep]) Wa.nil
variable{P:ra}{w:Ka}{K:W.Frag}{mg:qa->Option Value}{base:Heap}{ca:Nat->Addr}{tx:Tx}
theorem ZY{k:Nat}{x:qa}{b:Stmt}{ps N:List qa}{d:List Value}{g:Ev->M Fl}(h:bL K mg x b ps d)(S:xa N ps (vc b))
  (hb:∀ (f:Addr) (a:Value) (A:Ia) (outer:List wh) (s:Shared) (H:Hp) (E:XK),Me k (A.deeper (Ih x (vc b) s.heap.objs.size f a))->Hq ⟨K,ca,tx⟩ (Kr (Mm P w) P w K mg base N x (vc b) f a A outer s H E) (oj b) g) :
  sv ⟨K,ca,tx⟩ P w mg base (k+1) x ps d (run N.length g):=by
 obtain⟨f,q,hm,l,⟨r,t,p,kV,j,u,o,a,ct,n,rfl,m,c⟩,e,i⟩:=h;exact⟨f,_,hm,l,e,i,TC m c S (hb f a)⟩
theorem sv.Za{k:Nat}{x:qa}{ps:List qa}{a:List Value}{fn:List D->M D}(h:sv T P w mg base k x ps a fn):sv T P w mg base k x ps a (λb=>L4.Za (fn b)):=by
 obtain⟨f,c,d,e,g,i,j⟩:=h;exact⟨f,c,d,e,g,i,DF j⟩
theorem A3{h:Heap}{x:qa}{g:Stmt}{ps:List qa}{f t:Addr}{dv:List Value}{y u:Value}{od i v:Option Addr}{m w:Array (Option Value)}{kV e j b ct:Value}{r:Nat}(X:K.In h)(G:h.Ns mainGlobals mg)
  (hb:∀ (t:Addr) (kV e j:Value) (i:Option Addr) (b ct:Value) (s:Shared) (o:Obj) (n:Nat) (us:List Value),s.heap.get? t=some o->o.data=.seq dv.toArray n->((us++[]).length=ps.length->uf s (W.fnOf x x (km g) (oj g) (vc g) (.ref t) kV e j i b ct) ⟨us,[]⟩ (ps.zip (us++[])))/\
   ((us++dv).length=ps.length->uf s (W.fnOf x x (km g) (oj g) (vc g) (.ref t) kV e j i b ct) ⟨us,[]⟩ (ps.zip (us++dv))))
  (a:W.nsIn K mainGlobals x=some (some (.ref f))) (l:K.lookup f=some ⟨y,od,.func (W.fnOf x x (km g) (oj g) (vc g) (.ref t) kV e j i b ct),m⟩)
  (c:W.codeIn K b x=true) (k:W.keepIn K (.ref f)=true) (d:K.lookup t=some ⟨u,v,.seq dv.toArray r,w⟩):bL K mg x g ps dv:=
 ⟨f,_,cz X G a,k,⟨y,od,_,kV,e,j,i,b,ct,m,rfl,l,c⟩,λs us p q=>(hb t kV e j i b ct s _ r us (p _ _ d) rfl).1 q,λs us p q=>(hb t kV e j i b ct s _ r us (p _ _ d) rfl).2 q⟩
end
noncomputable def Ax(l:List (Nat × Bool)):Nat->Option Bool:=λc=>l.lookup c
abbrev Q9:List Value:=[.type "ValueError",.type "Exception",.type "BaseException",.type "object"]
noncomputable def uG(K:W.Frag)(ca:Nat->Addr)(cv:Value)(l:List (Nat × Bool)):Prop:=∀ p∈l,W.exmOne K (.ref (ca p.1)) cv=some p.2
theorem ykb{K:W.Frag}{ca:Nat->Addr}{cv:Value}:uG K ca cv []:=λ_ h=>nomatch h
theorem gY{K:W.Frag}{ca:Nat->Addr}{cv:Value}{c:Nat}{b:Bool}{l:List (Nat × Bool)}(h:W.exmOne K (.ref (ca c)) cv=some b)(r:uG K ca cv l):uG K ca cv ((c,b)::l):=λp a=>by
 rcases Ha.mp a with rfl|a
 ·exact h
 ·exact r p a
theorem MI:∀ {l:List (Nat × Bool)} {c:Nat} {b:Bool},l.lookup c=some b->(c,b)∈l
 |[],_,_,h=>by simp at h
 |(n,d)::r,c,b,h=>by
  rw[Va]at h;cases e:c == n with
  |true=>rw[e]at h;cases h;rw[eq_of_beq e];exact Aa
  |false=>rw[e]at h;exact ya _ (MI h)
theorem i6{K:W.Frag}{ca:Nat->Addr}{cv:Value}{l:List (Nat × Bool)}(h:uG K ca cv l):∀ c b,Ax l c=some b->W.exmOne K (.ref (ca c)) cv=some b:=λc b e=>h (c,b) (MI e)
theorem Rc.hide{T:Tb}{P:ra}{w:Ka}{mg:qa->Option Value}{base:Heap}{k:Nat}{x:qa}{ps:List qa}{fn:List D->M D}(h:Rc T P w mg base k x ps fn):Rc T P w mg base k x ps (L4.hide fn):=by rw[Ul];exact h
theorem sv.hide{T:Tb}{P:ra}{w:Ka}{mg:qa->Option Value}{base:Heap}{k:Nat}{x:qa}{ps:List qa}{a:List Value}{fn:List D->M D}(h:sv T P w mg base k x ps a fn):sv T P w mg base k x ps a (L4.hide fn):=by rw[Ul];exact h
section
variable{T:Tb}{X:Cx}{μ:List Addr}{H:Hp}{σ:db}
noncomputable def Km(σ:db):D->Option (Nat × List (qa × D))
 | .obj c ns ds=>if ns.length=ds.length then some (c,ns.zip ds)else none
 | .ref n=>match σ[n]? with
  |some (.ins c fs)=>some (c,fs)
  |_=>none
 |_=>none
theorem vO:∀ {ns:List qa} {ds:List D} {fs:List (qa × V)},fs.map (·.1)=ns->Wa T μ H ds (fs.map (·.2))->Ut T μ H (ns.zip ds) fs
 |[],ds,[],_,h=>by
  rw[ce]at h;cases ds with
  |nil=>exact Paired.nil
  |cons d ds=>have:=h.length;simp at this
 |[],ds,f::fs,e,_=>by simp at e
 |n::ns,ds,[],e,_=>by simp at e
 |n::ns,[],f::fs,e,h=>by have:=h.length;simp at this
 |n::ns,d::ds,f::fs,e,h=>by
  simp only[Da,Ht]at e;rw[Da,Wa]at h;obtain⟨v,r,a,g,i⟩:=h;simp only[Ht]at a;obtain⟨b,c⟩:=a;subst c;exact Paired.cons ⟨e.1.symm,by rw[b];exact g⟩ (vO e.2 i)
theorem ZA(r:Rel T μ H σ){d:D}{v:V}{c:Nat}{fs:List (qa × D)}(h:Rep T μ H d v)(e:Km σ d=some (c,fs)):∃ a b vs,v=.ref a/\H a=some (.ins (T.ca c) b vs)/\Ut T μ H fs vs:=by
 cases d with
 |obj k ns ds=>
  unfold Km at e;by_cases j:ns.length=ds.length
  ·simp only[j,Ee,kg,Prod.mk.injEq]at e;obtain⟨rfl,rfl⟩:=e;rw[Rep]at h;obtain⟨a,b,vs,rfl,_,g,i,p⟩:=h;exact⟨a,b,vs,rfl,g,vO i p⟩
  ·simp[j]at e
 |ref n=>
  unfold Km at e;dsimp only at e;cases f:σ[n]? with
  |none=>rw[f]at e;cases e
  |some o=>
   rw[f]at e;obtain⟨a,rfl,_,m⟩:=r.at h f;cases o with
   |ins k l=>cases e;obtain⟨b,vs,g,i⟩:=m;exact⟨a,b,vs,rfl,g,i⟩
   |lst _=>cases e
   |Ya _=>cases e
   |Kc _=>cases e
   |eg _=>cases e
 |_=>cases e
theorem jB{f:qa}:∀ {fs:List (qa × D)} {vs:List (qa × V)},Ut T μ H fs vs->(∀ d,fs.lookup f=some d->∃ v,vs.lookup f=some v/\Rep T μ H d v)/\(fs.lookup f=none->vs.lookup f=none)
 |_,_,.nil=>⟨λd e=>by simp at e,λ_=>rfl⟩
 |(g,x)::fs,(g',v)::vs,.cons ⟨e,h⟩ t=>by
  have c:g=g':=e;subst c;obtain⟨i,j⟩:=jB t;by_cases b:(f == g)=true
  ·refine⟨λd q=>?_,λq=>?_⟩
   ·rw[Va,b]at q;cases q;exact⟨v,by rw[Va,b],h⟩
   ·rw[Va,b]at q;cases q
  ·have a:(f == g)=false:=by simpa using b
   refine⟨λd q=>?_,λq=>?_⟩
   ·rw[Va,a]at q;obtain⟨w,q1,q2⟩:=i d q;exact⟨w,by rw[Va,a];exact q1,q2⟩
   ·rw[Va,a]at q;rw[Va,a];exact j q
noncomputable def Lj(T:Tb)(cs:List Nat)(f:qa):Prop:=∀ c,cs.contains c=true->il T.K (T.ca c)/\Vf T.K (T.ca c) f
theorem El{f:qa}:Lj T [] f:=λc h=>by simp at h
theorem Hg{f:qa}{c:Nat}{cs:List Nat}(a:il T.K (T.ca c))(b:Vf T.K (T.ca c) f)(h:Lj T cs f):Lj T (c::cs) f:=λd hd=>by
 rw[List.contains_cons,zg,Eg]at hd;rcases hd with rfl|hd
 ·exact⟨a,b⟩
 ·exact h d hd
noncomputable def gc(cs:List Nat)(f:qa)(x:D):M D:=λσ=>match Km σ x with
 |some (c,fs)=>if cs.contains c=true then (match fs.lookup f with
  |some d=>.ok d σ
  |none=>.bad)else .bad
 |none=>.bad
theorem Ze{e:Ja}{f:qa}{g:Ev->M D}{l:Ye}{cs:List Nat}(B:T.K=X.K)(C:Lj T cs f)(E:FE T X e g)
  (hb:Ae e f X.env (Nb e X.env)=Nb e X.env:=by rfl):FE T X (.Attribute e f l) (Vc (gc cs f) g):=by
 intro i s J H Q I h;refine rV E hb i s J H Q I ?_;obtain⟨μ,O,σ,A,G,F⟩:=h;refine⟨μ,O,σ,A,G,Ib.bind F λd m N v P _ R q q1 p1=>?_⟩;unfold gc at p1;cases j:Km m d with
 |none=>rw[j]at p1;exact p1.elim
 |some p=>
  obtain⟨c,fs⟩:=p;rw[j]at p1;dsimp only at p1;by_cases b:cs.contains c=true
  ·rw[ia b]at p1;obtain⟨a,r,L,rfl,t,u⟩:=ZA q q1 j;cases k:fs.lookup f with
   |none=>rw[k]at p1;exact p1.elim
   |some y=>
    rw[k]at p1;obtain⟨w,x,z⟩:=(jB u).1 y k;obtain⟨n,o⟩:=C c b;rw[B]at n o;exact⟨a,_,r,L,w,rfl,t,n,o,x,Ib.here p1 q z⟩
  ·rw[ja b]at p1;exact p1.elim
noncomputable def lj(f:qa)(v:D):List (qa × D)->List (qa × D)
 |[]=>[(f,v)]
 |(g,x)::r=>if g=f then (g,v)::r else (g,x)::lj f v r
theorem zJ{f:qa}{d:D}{v:V}(hd:Rep T μ H d v):∀ {fs:List (qa × D)} {vs:List (qa × V)},Ut T μ H fs vs->Ut T μ H (lj f d fs) (wn f v vs)
 |_,_,.nil=>Paired.cons ⟨rfl,hd⟩ Paired.nil
 |(g,x)::fs,(g',w)::vs,.cons ⟨e,h⟩ t=>by
  have b:g=g':=e;subst b;unfold lj wn;by_cases a:g=f
  ·rw[ia a,ia a];exact Paired.cons ⟨rfl,hd⟩ t
  ·rw[ja a,ja a];exact Paired.cons ⟨rfl,h⟩ (zJ hd t)
theorem Ut.mono{μ':List Addr}{a:Hp}(e:Ext μ H μ' a){fs:List (qa × D)}{vs:List (qa × V)}(h:Ut T μ H fs vs):Ut T μ' a fs vs:=Paired.Es h λ_ _ q=>⟨q.1,Rep.mono e _ _ q.2⟩
theorem Ut.length{fs:List (qa × D)}{vs:List (qa × V)}(h:Ut T μ H fs vs):fs.length=vs.length:=Paired.length h
noncomputable def Sy(cs:List Nat)(f:qa)(d x:D):M Unit:=λσ=>match x with
 | .ref n=>(match σ[n]? with
  |some (.ins c fs)=>if (cs.contains c && decide (fs.length<1000))=true then .ok () (σ.set n (.ins c (lj f d fs)))else .bad
  |_=>.bad)
 |_=>.bad
noncomputable def Xt(ρ:Ev)(cs:List Nat)(f:qa)(d x:D):M Fl:=λσ=>match Sy cs f d x σ with
 | .ok _ a=>.ok (.nx ρ) a
 |_=>.bad
noncomputable def QK(ρ:Ev)(cs:List Nat)(f:qa)(a:Ev->M D)(d:D):M Fl:=xs ρ (a ρ) (Xt ρ cs f d)
noncomputable def Ai(cs:List Nat)(f:qa)(c b:Ev->M D):Ev->M Fl:=λa=>xs a (c a) (QK a cs f b)
theorem Aj{o b:Ja}{f:qa}{C B:Ev->M D}{j g:Ye}{cs:List Nat}(P:T.K=X.K)(Q:Lj T cs f)(R:FE T X o B)(Y:FE T X b C)
  (W:Ij b (some (.Attribute o f g)) j.line X.env=pure false:=by rfl):FS T X (.Assign [.Attribute o f g] b j) (Ai cs f C B):=by
 intro i s N H D I U;refine n9 R Y W i s N H D I ?_;obtain⟨μ,O,σ,h,V,S⟩:=U;refine⟨μ,O,σ,h,V,S.xs h λd u t v H1 _ m Z q1 p1=>?_⟩;refine⟨t,O,u,h.mono m,Z,p1.xs (h.mono m) λx w k vo y _ A L q2 p2=>?_⟩;have hd:=Rep.mono A _ _ q1;unfold Xt Sy at p2;cases x with
 |ref n=>
  dsimp only at p2;cases p:w[n]? with
  |none=>rw[p]at p2;exact p2.elim
  |some ob=>
   rw[p]at p2;cases ob with
   |lst _=>exact p2.elim
   |Ya _=>exact p2.elim
   |Kc _=>exact p2.elim
   |eg _=>exact p2.elim
   |ins c fs=>
    dsimp only at p2;by_cases e:(cs.contains c && decide (fs.length<1000))=true
    ·rw[ia e]at p2;rw[Fa,Lb]at e;obtain⟨a,rfl,hn,l,q,E,F⟩:=L.at q2 p;have ex:Ext k y k (upd y a (.ins (T.ca c) l (wn f v q))):=Mu (Ga hn) E (λ_ z=>by cases z) (λ_ _ z=>by cases z);have r:=L.write (o:=.ins (T.ca c) l (wn f v q)) (ob:=.ins c (lj f d fs)) hn ⟨l,_,kh,zJ (Rep.mono ex _ _ hd) (Ut.mono ex F)⟩;obtain⟨G,J⟩:=Q c e.1;rw[P]at G J;exact⟨a,_,l,q,rfl,E,G,J,by rw[<-F.length];exact e.2,p2 _ (.nx N) _ r.1 r.2 ((h.mono m).mono A |>.mono r.1)⟩
    ·rw[ja e]at p2;exact p2.elim
 |_=>exact p2.elim
noncomputable def lv(n:Nat):Out D->Out D
 | .ok .Jb a=>.ok (.ref n) a
 | .ok _ _=>.bad
 | .ex x a=>.ex x a
 | .bad=>.bad
noncomputable def jp(c n:Nat)(fn:List D->M D)(ds:List D):M D:=λσ=>if ds.length+1=n then lv σ.length (fn (.ref σ.length::ds) (σ++[.ins c []]))else .bad
noncomputable def As(c n:Nat)(fn:List D->M D)(fs:Ev->M (List D)):Ev->M D:=λa=>qd (fs a) (jp c n fn)
noncomputable def Pc(T:Tb)(P:ra)(w:Ka)(mg:qa->Option Value)(base:Heap)(k:Nat)(f:Addr)(ps:List qa)(fn:List D->M D):Prop:=
 ∃ b,(∀ a:List Value,a.length=ps.length->bindArgs b ⟨a,[]⟩=pure (ps.zip a))/\Oh P w T.K mg base (Mm P w) k f b ps (pp T ps.length fn)
noncomputable def S8(T:Tb)(P:ra)(w:Ka)(mg:qa->Option Value)(base:Heap)(k:Nat)(x:qa)(c:Nat)(ps:List qa)(fn:List D->M D):Prop:=
 ∃ f,mg x=some (.ref (T.ca c))/\Mk T.K (T.ca c) f/\Pc T P w mg base k f ps fn
theorem IN{E:XK}{c:Nat}{ps:List qa}{fn:List D->M D}{ds:List D}{vs:List V}{Q:VK}(r:Rel T μ H σ)(q:Wa T μ H ds vs)(p:Ib T E (Rep T) μ H (jp c ps.length fn ds σ) Q) :
  ∀ x a,H x=none->H a=none->a≠x->pp T ps.length fn (.ref x::(vs++[])) (upd (upd H a (.own x)) x (.ins (T.ca c) a [])) (λv u=>v=.Jb/\Q (.ref x) u) E:=by
 intro x a z h m;unfold jp at p;by_cases l:ds.length+1=ps.length
 ·rw[ia l]at p;have b:Ext μ H μ (upd H a (.own x)):=Om h;have o:Rel T μ (upd H a (.own x)) σ:=r.fresh h;have i:upd H a (.own x) x=none:=by unfold upd;rw[ja (De m)];exact z
  have f:Ext μ (upd H a (.own x)) (μ++[x]) (upd (upd H a (.own x)) x (.ins (T.ca c) a [])):=Uy i;have A:Rel T (μ++[x]) (upd (upd H a (.own x)) x (.ins (T.ca c) a [])) (σ++[.ins c []]):=o.push i ⟨a,[],kh,Paired.nil⟩;refine⟨μ++[x],σ++[.ins c []],.ref σ.length::ds,Wa.cons (QD o) (by rw[zf];exact Wa.mono (b.trans f) _ _ q),by rw[Ma];exact l,A,?_⟩;cases e:fn (.ref σ.length::ds) (σ++[.ins c []])with
  |bad=>rw[e]at p;exact p.elim
  |ex y s=>rw[e]at p;exact λg k j n=>p g k ((b.trans f).trans j) n
  |ok d s=>
   rw[e]at p;intro g v k j n t;have w:d=.Jb:=by cases d<;>first|rfl|exact p.elim
   subst w;rw[Rep]at t;refine⟨t,p g (.ref x) k ((b.trans f).trans j) n ?_⟩;exact Rep.mono j _ _ (QD o)
 ·rw[ja l]at p;exact p.elim
theorem cR{k:Nat}{C f:Addr}{j:He}{ps:List qa}{sp:Sp}{dvs:List V}{ds:List Value}{b:List (Addr × Obj)}{i:St}{H:Hp}{s:Shared}{Q:VK}{us:List Value}{vs:List V}(M:Mk X.K C f)(F:Oh X.prog X.w X.K X.mg X.base (Mm X.prog X.w) k f j ps sp)(z:Me (k+1) X.A)(hb:Yr X.K j ps ds)(hd:re dvs ds)
  (I:Inv X b i H s) (r:re vs us)
  (h:∀ x g,H x=none->H g=none->g≠x->sp (.ref x::(vs++dvs)) (upd (upd H g (.own x)) x (.ins C g [])) (λv o=>v=.Jb/\Q (.ref x) o) (XE X i)) :
  wpAny (model X.prog X.w) X.A (call (.ref C) us) (EP X b i Q) X.xe s:=by
 have m:=h (s.heap.objs.size+1) s.heap.objs.size (I.Rb.fresh (ak _)) (I.Rb.fresh (na _)) (va (Gb _));have d:=Inv.made (C:=C) I;have n:re (V.ref (s.heap.objs.size+1)::(vs++dvs)) (Ua (s.heap.objs.size+1)::(us++ds)):=.cons rfl (r.append hd);have y:(Ua (s.heap.objs.size+1)::us++ds).length=ps.length:=by
  have e:=n.length;rw[F.len _ _ _ _ m]at e;exact e.symm
 refine yA (l6 (f:=f) I.Cj M.makes M.init (Eg.mp M.fn) (yg (F.run _ X.stack _ _ ⟨Ua (s.heap.objs.size+1)::us,[]⟩ (Ua (s.heap.objs.size+1)::(us++ds)) _ _ (XE X i) (z.make C us [])
  (d.yC.make C us []) (hb _ (Ua (s.heap.objs.size+1)::us) d.Cj y) n m) λr E a=>?_))
 cases r with
 |error e=>obtain⟨cls,j,l,c,B⟩:=a;exact B.AF b _ _ e E d c
 |ok t=>
  cases t with
  |ret u=>
   obtain⟨v,l,p,D,q,q3⟩:=d.after a;subst q;exact⟨D,⟨V.ref (s.heap.objs.size+1),l,p,rfl,q3⟩⟩
  |next=>exact False.elim a
  |brk=>exact False.elim a
  |cont=>exact False.elim a
theorem AC{k c:Nat}{ps:List qa}{fn:List D->M D}{x:qa}{p a:Ye}{e:Ja}{es:List Ja}{fs:Ev->M (List D)}(h:S8 T X.prog X.w X.mg X.base k x c ps fn)(B:T.K=X.K)(L:Me (k+1) X.A)(F:Gl X x)
  (C:FA T X (e::es) fs) (j:(x == ("__debug__" : qa))=false:=by decide) (E:pa (e::es) X.env=(false,Nb e X.env)::pa es X.env:=by rfl) (l:(lc a (pa es X.env)).any (·.1)=false:=by rfl) :
  FE T X (.Call (.Name x p) (e::es) [] a) (As c ps.length fn fs):=by
 obtain⟨f,hm,i,U,hb,t⟩:=h;rw[B]at i t;intro d s u H Q I J;obtain⟨μ,P,σ,z,m,G⟩:=J;refine Wg (dA I F hm ?_ j);refine di (h₀:=X.base) I.ok.mod.qx i.kp (ge (C a d s u H (λn b=>∀ x g,b x=none->b g=none->g≠x->pp T ps.length fn (.ref x::(n++[])) (upd (upd b g (.own x)) x (.ins (T.ca c) g [])) (λv y=>v=.Jb/\Q (.ref x) y) (XE X u)) I ⟨μ,P,σ,z,m,G.bind λds R O n b _ S N p1 q1=>IN N p1 q1⟩) λus s1 ⟨n,b,o,r,q⟩=>⟨o.Cj,?_⟩) E l;exact cR (ds:=[]) (dvs:=[]) i t L (.all hb) .nil o r q
structure zH(T:Tb)(P:ra)(w:Ka)(mg:qa->Option Value)(base:Heap)(k:Nat)(m:qa)(c:Nat)(ps:List qa)(fn:List D->M D):Prop where
 cl:il T.K (T.ca c)
 ex:∃ f,Je T.K (T.ca c) m f/\Pc T P w mg base k f ps fn
noncomputable abbrev Mt:=List (Nat × (List D->M D))
noncomputable def bu:Mt->Nat->Option (List D->M D)
 |[],_=>none
 |(c,fn)::r,d=>if c == d then some fn else bu r d
noncomputable def Kj(n:Nat)(fn:List D->M D)(x:D)(ds:List D):M D:=if ds.length+1=n then fn (x::ds)else bad
noncomputable def eo(tb:Mt)(n:Nat)(m:qa)(fs:M (List D))(x:D):M D:=λσ=>match Km σ x with
 |some (c,a)=>(match bu tb c,a.lookup m with
  |some fn,none=>qd fs (Kj n fn x) σ
  |_,_=>.bad)
 |none=>.bad
noncomputable def Od(tb:Mt)(n:Nat)(m:qa)(f:Ev->M D)(fs:Ev->M (List D)):Ev->M D:=λa=>qd (f a) (eo tb n m (fs a))
theorem cL:∀ {tb:Mt} {c:Nat} {fn:List D->M D},bu tb c=some fn->(c,fn)∈tb
 |[],_,_,h=>by cases h
 |(d,g)::r,c,fn,h=>by
  unfold bu at h;by_cases e:(d == c)=true
  ·rw[ia e]at h;cases h;rw[Eg.mp e];exact Aa
  ·rw[ja e]at h;exact ya _ (cL h)
theorem Hh{pl:zp Bool}{k:Nat}{tb:Mt}{ps:List qa}{m:qa}{o e:Ja}{es:List Ja}{f:Ev->M D}{fs:Ev->M (List D)}{b g:Ye}(hK:T.K=X.K)(he:FE T X o f)(h:∀ q∈tb,zH T X.prog X.w X.mg X.base k m q.1 ps q.2)(hr:Me k X.A)(ha:FA T X (e::es) fs)
  (O:pa (e::es) X.env=(false,Nb e X.env)::pa es X.env:=by rfl) (L:(lc b (pa es X.env)).any (·.1)=false:=by rfl)
  (ht:Nb (.Call (.Attribute o m g) (e::es) [] b) X.env=(do
   let ov <-Nb o X.env
   hj g.atName
   let (f,first) <-Ie [ov] (Ml ov m pl)
   ay b f first (lc b (pa (e::es) X.env)) (Jj b (bh [] X.env))):=by rfl) :
  FE T X (.Call (.Attribute o m g) (e::es) [] b) (Od tb ps.length m f fs):=by
 intro i s B H Q I hq;obtain⟨μ,ρ,σ,hE,N,hp⟩:=hq;have F:=hE;refine Pj (pl:=pl) (ge (he i s B H (λx l=>∃ a c t vs fn,x=.ref a/\l a=some (.ins (T.ca c) t vs)/\bu tb c=some fn/\vs.lookup m=none/\tL T X fs B l λus C=>pp T ps.length fn (x::(us++[])) C Q (XE X B)) I ⟨μ,ρ,σ,hE,N,hp.bind λd p P v l _ e1 r1 q1 p1=>?_⟩) λu s1 ⟨x,l,U,rx,a,c,t,vs,fn,ex,ea,j,n,q⟩=>?_) ht
 ·unfold eo at p1;cases E:Km p d with
  |none=>rw[E]at p1;exact p1.elim
  |some z=>
   obtain⟨c,gs⟩:=z;rw[E]at p1;dsimp only at p1;cases j:bu tb c with
   |none=>rw[j]at p1;exact p1.elim
   |some fn=>
    cases n:gs.lookup m with
    |some y=>rw[j,n]at p1;exact p1.elim
    |none=>
     rw[j,n]at p1;dsimp only at p1;obtain⟨a,t,vs,rfl,h1,h2⟩:=ZA r1 q1 E;refine⟨a,c,t,vs,fn,rfl,h1,j,(jB h2).2 n,P,ρ,p,F.mono e1,r1,p1.bind λY S R us C _ e2 r2 q2 p2=>?_⟩;unfold Kj at p2;by_cases J:Y.length+1=ps.length
     ·rw[ia J]at p2;exact⟨R,S,d::Y,Wa.cons (Rep.mono e2 _ _ q1) (by rw[zf];exact q2),by rw[Ma];exact J,r2,p2⟩
     ·rw[ja J]at p2;exact p2.elim
 ·subst ex;obtain rfl:u=Ua a:=rx;obtain⟨Z,f',G,fd,hb,hF⟩:=h _ (cL j);rw[hK]at Z G hF;refine sK U ea Z G n ?_;refine di (first:=[.ref a]) (h₀:=X.base) I.ok.mod.qx G.kp (ge (ha b i s1 B l _ U q) λus s2 ⟨vs,C,V,r,q2⟩=>⟨V.Cj,?_⟩) O L;exact FC (us:=.ref a::us) (vs:=.ref a::vs) hF hr (.all hb) .nil V (.cons rfl r) q2
theorem kl{pl:zp Bool}{k:Nat}{tb:Mt}{ps:List qa}{m:qa}{o:Ja}{f:Ev->M D}{e b:Ye}(Y:T.K=X.K)(Z:FE T X o f)(h:∀ q∈tb,zH T X.prog X.w X.mg X.base k m q.1 ps q.2)(hr:Me k X.A)
  (ht:Nb (.Call (.Attribute o m b) [] [] e) X.env=(do
   let N <-Nb o X.env
   hj b.atName
   let (f,first) <-Ie [N] (Ml N m pl)
   ay e f first (lc e (pa [] X.env)) (Jj e (bh [] X.env))):=by rfl) :
  FE T X (.Call (.Attribute o m b) [] [] e) (Od tb ps.length m f Na):=by
 intro n s G H Q I hq;obtain⟨μ,ρ,σ,V,F,hp⟩:=hq;refine Pj (pl:=pl) (ge (Z n s G H (λx j=>∃ a c r vs fn,x=.ref a/\j a=some (.ins (T.ca c) r vs)/\bu tb c=some fn/\vs.lookup m=none/\pp T ps.length fn (x::([]++[])) j Q (XE X G)) I ⟨μ,ρ,σ,V,F,hp.bind λd g p v j _ e1 O q1 p1=>?_⟩) λu s1 ⟨x,j,t,rx,a,c,r,vs,fn,ex,P,i,l,q⟩=>?_) ht
 ·unfold eo at p1;cases B:Km g d with
  |none=>rw[B]at p1;exact p1.elim
  |some z=>
   obtain⟨c,R⟩:=z;rw[B]at p1;dsimp only at p1;cases i:bu tb c with
   |none=>rw[i]at p1;exact p1.elim
   |some fn=>
    cases l:R.lookup m with
    |some y=>rw[i,l]at p1;exact p1.elim
    |none=>
     rw[i,l]at p1;dsimp only at p1;obtain⟨a,r,vs,rfl,S,U⟩:=ZA O q1 B;have p2:Ib T (XE X G) (Rep T) p j (Kj ps.length fn d [] g) Q:=p1;unfold Kj at p2;by_cases E:([]:List D).length+1=ps.length
     ·rw[ia E]at p2;exact⟨a,c,r,vs,fn,rfl,S,i,(jB U).2 l,p,g,[d],Wa.cons q1 Wa.nil,E,O,p2⟩
     ·rw[ja E]at p2;exact p2.elim
 ·subst ex;obtain rfl:u=Ua a:=rx;obtain⟨J,f',C,fd,hb,L⟩:=h _ (cL i);rw[Y]at J C L;refine sK t P J C l ?_;exact W.callWith_K0 (first:=[.ref a]) t.Cj C.kp (FC (us:=[.ref a]) (vs:=[.ref a]) L hr (.all hb) .nil t (.cons rfl .nil) q)
structure Q4(T:Tb)(P:ra)(w:Ka)(mg:qa->Option Value)(base:Heap)(k:Nat)(x m:qa)(c:Nat)(ps:List qa)(fn:List D->M D):Prop where
 gl:mg x=some (.ref (T.ca c))
 sp:W.specialIn T.K (.ref (T.ca c)) (ag "__getattribute__")=some (some (.builtin "type.__getattribute__"))
 ex:∃ f mc,W.readsIn T.K (T.ca c) mc=true/\W.findCls T.K (.ref (T.ca c)) mc m=some (.val (.ref f))/\W.keepIn T.K (.ref f)=true/\Pc T P w mg base k f ps fn
theorem RN{pl:zp Bool}{k c:Nat}{ps:List qa}{fn:List D->M D}{x m:qa}{p a b:Ye}{e:Ja}{es:List Ja}{fs:Ev->M (List D)}(h:Q4 T X.prog X.w X.mg X.base k x m c ps fn)(O:T.K=X.K)(V:Me k X.A)(R:Gl X x)(P:FA T X (e::es) fs)
  (i:(x == ("__debug__" : qa))=false:=by decide) (o:pa (e::es) X.env=(false,Nb e X.env)::pa es X.env:=by rfl) (l:(lc a (pa es X.env)).any (·.1)=false:=by rfl)
  (Y:Nb (.Call (.Attribute (.Name x p) m b) (e::es) [] a) X.env=(do
   let G <-Nb (.Name x p) X.env
   hj b.atName
   let (f,first) <-Ie [G] (Ml G m pl)
   ay a f first (lc a (pa (e::es) X.env)) (Jj a (bh [] X.env))):=by rfl) :
  FE T X (.Call (.Attribute (.Name x p) m b) (e::es) [] a) (ae ps.length fn [] fs):=by
 intro g s J H Q I U;obtain⟨μ,ρ,σ,N,n,S⟩:=U;obtain⟨hm,d,f,mc,B,C,E,fd,hb,F⟩:=h;rw[O]at d B C E F;refine Pj (pl:=pl) (dA I R hm ?_ i) Y;refine W.method_cls I.Cj d (W.cls_value I.Cj B C rfl ?_);have L:=I.tok (s.toks+1);refine di (first:=[]) (h₀:=X.base) I.ok.mod.qx E (ge (P a g _ J H (λq v=>pp T ps.length fn (q++[]) v Q (XE X J)) L ⟨μ,ρ,σ,N,n,S.bind λz u t q v _ e1 Z p1 q1=>?_⟩) λus s2 ⟨q,H2,y,r,q2⟩=>⟨y.Cj,?_⟩) o l
 ·unfold Iq at q1;by_cases j:(z++[]).length=ps.length
  ·rw[ia j]at q1;exact⟨t,u,z++[],p1.append Wa.nil,j,Z,q1⟩
  ·rw[ja j]at q1;exact q1.elim
 ·exact FC F V (.all hb) .nil y r q2
end
structure Be(K:W.Frag)(C:Addr)(x qual:qa)(st:Stmt)(ps:List qa)(f:Addr):Prop where
 ex:∃ fd,jz K x qual st f fd/\∀ us:List Value,us.length=ps.length->bindArgs fd ⟨us,[]⟩=pure (ps.zip us)
section
variable{P:ra}{w:Ka}{K:W.Frag}{mg:qa->Option Value}{base:Heap}{ca:Nat->Addr}{tx:Tx}
theorem ji{k:Nat}{C f:Addr}{x qual:qa}{b:Stmt}{ps N:List qa}{g:Ev->M Fl}(h:Be K C x qual b ps f)(S:xa N ps (vc b))
  (hb:∀ (a:Value) (A:Ia) (outer:List wh) (s:Shared) (H:Hp) (E:XK),Me k (A.deeper (Ih qual (vc b) s.heap.objs.size f a))->Hq ⟨K,ca,tx⟩ (Kr (Mm P w) P w K mg base N qual (vc b) f a A outer s H E) (oj b) g) :
  Pc ⟨K,ca,tx⟩ P w mg base (k+1) f ps (run N.length g):=by
 obtain⟨m,F,c⟩:=h.ex;obtain⟨n,o,kV,e,p,l,a,ct,j,rfl,i,d⟩:=F.ex;exact⟨_,c,TC i d S (hb a)⟩
theorem Pc.Za{T:Tb}{k:Nat}{f:Addr}{ps:List qa}{fn:List D->M D}(h:Pc T P w mg base k f ps fn):Pc T P w mg base k f ps (λa=>L4.Za (fn a)):=by
 obtain⟨b,c,d⟩:=h;exact⟨b,c,DF d⟩
theorem Pc.hide{T:Tb}{k:Nat}{f:Addr}{ps:List qa}{fn:List D->M D}(h:Pc T P w mg base k f ps fn):Pc T P w mg base k f ps (L4.hide fn):=by rw[Ul];exact h
end
noncomputable def ze(s:Stmt)(j:Nat):Stmt:=match s with
 | .ClassDef _ _ _ b _ _ _ _ _ _ _=>b.getD j (.Pass ⟨0,0,0,0⟩)
 |s=>s
theorem yV{K:W.Frag}{C f:Addr}{x qual:qa}{d:Stmt}{ps:List qa}{i:Value}{od e:Option Addr}{h:Array (Option Value)}{kV b g a ct:Value}
  (hb:∀ (kV b g:Value) (e:Option Addr) (a ct:Value) (us:List Value),us.length=ps.length->bindArgs (W.fnOf x qual (km d) (oj d) (vc d) .none kV b g e a ct) ⟨us,[]⟩=pure (ps.zip us))
  (l:K.lookup f=some ⟨i,od,.func (W.fnOf x qual (km d) (oj d) (vc d) .none kV b g e a ct),h⟩)
  (c:W.codeIn K a qual=true) (k:W.keepIn K (.ref f)=true):Be K C x qual d ps f:=⟨⟨_,OQ l c k,hb kV b g e a ct⟩⟩
section
variable{T:Tb}{P:ra}{w:Ka}{mg:qa->Option Value}{base:Heap}
noncomputable def bj(T:Tb)(P:ra)(w:Ka)(mg:qa->Option Value)(base:Heap)(k:Nat)(m:qa)(ps:List qa)(tb:Mt):Prop:=∀ q∈tb,zH T P w mg base k m q.1 ps q.2
theorem vj{k:Nat}{m:qa}{ps:List qa}:bj T P w mg base k m ps []:=λq h=>nomatch h
theorem Wi{j k:Nat}{m:qa}{ps:List qa}{tb:Mt}{c:Nat}{f:Addr}{fn:List D->M D}(g:il T.K (T.ca c))(i:Je T.K (T.ca c) m f)(l:Pc T P w mg base j f ps fn)(n:j<=k)(h:bj T P w mg base k m ps tb):bj T P w mg base k m ps ((c,fn)::tb):=λq d=>by
 rcases Ha.mp d with rfl|d
 ·obtain⟨e,a,b⟩:=l;exact⟨g,f,i,e,a,b.mono n⟩
 ·exact h q d
end
section
variable{T:Tb}{X:Cx}
end
end L4
namespace L4
open PySem L2
theorem nr{c:Type}{a b:c}(h:a=b):a=b:=h
section
variable{α β:Type}{ρ:Ev}{σ:db}
@[simp] theorem nc(a:α)(σ:db)(k:α->M β):(Out.ok a σ).bind k=k a σ:=nr rfl
@[simp] theorem ym8(a:α)(σ:db):ret a σ=.ok a σ:=nr rfl
@[simp] theorem Up(m:M α)(k:α->M β)(σ:db):qd m k σ=(m σ).bind k:=nr rfl
@[simp] theorem Hy(d:D):eC d ρ σ=.ok d σ:=nr rfl
@[simp] theorem gj(d:D)(r:Ev):ga 0 (some d::r) σ=.ok d σ:=nr rfl
@[simp] theorem gn(i:Nat)(o:Option D)(r:Ev):ga (i+1) (o::r) σ=ga i r σ:=nr rfl
@[simp] theorem Av(o:D->D->M D)(a b:Ev->M D):Qa o a b ρ σ=(a ρ σ).bind (NI o (b ρ)):=nr rfl
@[simp] theorem QJ(o:D->D->M D)(m:M D)(x:D):NI o m x σ=(m σ).bind (o x):=nr rfl
@[simp] theorem Rv(o:D->M D)(a:Ev->M D):Vc o a ρ σ=(a ρ σ).bind o:=nr rfl
@[simp] theorem YP(b:Bool):QA (.bl b) σ=.ok b σ:=nr rfl
@[simp] theorem yqn(p q:M α):dk p q true σ=p σ:=nr rfl
@[simp] theorem QG(p q:M α):dk p q false σ=q σ:=nr rfl
@[simp] theorem qU(c:Bool):eJ c σ=.ok (!c) σ:=nr rfl
@[simp] theorem zxe(k:Bool->M α)(b:Bool):Ly k (.bl b) σ=k b σ:=nr rfl
@[simp] theorem zuo(c:Bool):gJ c σ=.ok (.bl (!c)) σ:=nr rfl
@[simp] theorem jx(f:Ev->M D):eT f ρ σ=(f ρ σ).bind QA:=nr rfl
@[simp] theorem zye(a b:Ev->M Bool):rB a b ρ σ=(a ρ σ).bind (dk (b ρ) (ret false)):=nr rfl
@[simp] theorem lM(a b:Ev->M Bool):Fv a b ρ σ=(a ρ σ).bind (dk (ret true) (b ρ)):=nr rfl
@[simp] theorem m9(a:Ev->M Bool):Il a ρ σ=(a ρ σ).bind eJ:=nr rfl
@[simp] theorem OR(a b:Ev->M D):Mi a b ρ σ=(a ρ σ).bind (Ly (dk (b ρ) (ret (.bl false)))):=nr rfl
@[simp] theorem yim(a b:Ev->M D):TK a b ρ σ=(a ρ σ).bind (Ly (dk (ret (.bl true)) (b ρ))):=nr rfl
@[simp] theorem zzb(a:Ev->M D):gK a ρ σ=(a ρ σ).bind (Ly gJ):=nr rfl
@[simp] theorem yij(t:Ev->M Bool)(a b:Ev->M D):iA t a b ρ σ=(t ρ σ).bind (dk (a ρ) (b ρ)):=nr rfl
@[simp] theorem bo:Na ρ σ=.ok [] σ:=nr rfl
@[simp] theorem kt(e:Ev->M D)(r:Ev->M (List D)):za e r ρ σ=(e ρ σ).bind (mI (r ρ)):=nr rfl
@[simp] theorem Zs(m:M (List D))(x:D):mI m x σ=(m σ).bind (zI x):=nr rfl
@[simp] theorem ot(x:D)(xs:List D):zI x xs σ=.ok (x::xs) σ:=nr rfl
@[simp] theorem ZN(a:Ev->M (List D)):Li a ρ σ=(a ρ σ).bind Lx:=nr rfl
@[simp] theorem yn4:Lx [] σ=.ok (.tup []) σ:=nr rfl
@[simp] theorem yn5(a:D):Lx [a] σ=.ok (.tup [a]) σ:=nr rfl
@[simp] theorem SR(a b:D):Lx [a,b] σ=.ok (.tup [a,b]) σ:=nr rfl
@[simp] theorem yn7(a b c:D):Lx [a,b,c] σ=.ok (.tup [a,b,c]) σ:=nr rfl
@[simp] theorem yn8(a b c d:D):Lx [a,b,c,d] σ=.ok (.tup [a,b,c,d]) σ:=nr rfl
@[simp] theorem yn9(a b c d e:D):Lx [a,b,c,d,e] σ=.ok (.tup [a,b,c,d,e]) σ:=nr rfl
@[simp] theorem yik(a:Ev->M (List D)):sy a ρ σ=(a ρ σ).bind gB:=nr rfl
@[simp] theorem YK(a:Ev->M (List D)):Tz a ρ σ=(a ρ σ).bind ZD:=nr rfl
@[simp] theorem nI:ZD [] σ=.ok (.ref σ.length) (σ++[.lst []]):=nr rfl
@[simp] theorem yry(g:Int->Int->Int)(i j:Int):oI g (.int i) (.int j) σ=.ok (.int (g i j)) σ:=nr rfl
@[simp] theorem yrw(g:Int->Int->Bool)(i j:Int):oB g (.int i) (.int j) σ=.ok (.bl (g i j)) σ:=nr rfl
theorem LA{C:Int->Int->Bool}{g:Int->Int->Int}{i j:Int}(h:C i j=true):By C g (.int i) (.int j) σ=.ok (.int (g i j)) σ:=by
 show (if C i j=true then ret _ else bad) σ=_;rw[ia h];rfl
@[simp] theorem LF(i j:Int)(h:0<j)(a:j<1073741824):rs (.int i) (.int j) σ=.ok (.int (i / j)) σ:=LA (by simp[OK,h,a])
@[simp] theorem yS(i j:Int)(h:0<j):zo (.int i) (.int j) σ=.ok (.int (i % j)) σ:=LA (by simp[WH,h])
theorem WE{i j:Int}(h:kx i j=true):Fu (.int i) (.int j) σ=.ok (.int (i ^ j.toNat)) σ:=LA h
@[simp] theorem uC:Fu (.int 10) (.int 12) σ=.ok (.int 1000000000000) σ:=WE (by simp[kx])
@[simp] theorem p6:Fu (.int 10) (.int 6) σ=.ok (.int 1000000) σ:=WE (by simp[kx])
@[simp] theorem p4:Fu (.int 10) (.int 4) σ=.ok (.int 10000) σ:=WE (by simp[kx])
@[simp] theorem p40:Fu (.int 10) (.int 40) σ=.ok (.int (10 ^ 40)) σ:=WE (by simp[kx])
@[simp] theorem zuv(i j:Int):ki (.int i) (.int j) σ=.ok (.int (i+j)) σ:=nr rfl
theorem KI{xs ys:List D}(h:xs.length+ys.length<=li):ki (.tup xs) (.tup ys) σ=.ok (.tup (xs++ys)) σ:=by show (if _ then _ else _:M D) σ=_;rw[ia h];rfl
theorem qV{xs ys:List D}(h:xs.length+ys.length<=li):ki (.lst xs) (.lst ys) σ=.ok (.lst (xs++ys)) σ:=by
 show ND (.lst xs) (.lst ys) σ=_;unfold ND;simp only[Oi];rw[ia h]
@[simp] theorem zu6(σ:db):Ny .Jb .Jb σ=.ok (.bl true) σ:=nr rfl
@[simp] theorem g7(b:List D):Ny (.lst b) .Jb σ=.ok (.bl false) σ:=nr rfl
@[simp] theorem zo2(σ:db):wx .Jb .Jb σ=.ok (.bl false) σ:=nr rfl
@[simp] theorem zo1(b:Int):wx (.int b) .Jb σ=.ok (.bl true) σ:=nr rfl
theorem VG{x y:D}{b:Bool}(h:qm σ 8 x y=some b):oEq x y σ=.ok (.bl b) σ:=by unfold oEq;rw[h]
theorem SF{x y:D}{b:Bool}(h:qm σ 8 x y=some b):iq x y σ=.ok (.bl (!b)) σ:=by unfold iq;rw[h]
@[simp] theorem yc7(i j:Int):oEq (.int i) (.int j) σ=.ok (.bl (i == j)) σ:=VG (by simp[qm,kd,Ar,Yk])
@[simp] theorem ydl(i j:Int):iq (.int i) (.int j) σ=.ok (.bl (!(i == j))) σ:=SF (by simp[qm,kd,Ar,Yk])
@[simp] theorem yc8(i j:qa):oEq (.str i) (.str j) σ=.ok (.bl (i == j)) σ:=VG (by simp[qm,kd,Ar,Yk])
theorem tD{xs:List D}{k:Int}{d:D}(h:Lm xs k=some d):Qb (.tup xs) (.int k) σ=.ok d σ:=by simp[Qb,Wk,h]
theorem ydf{xs:List D}{k:Int}{d:D}(h:Lm xs k=some d):Qb (.lst xs) (.int k) σ=.ok d σ:=by simp[Qb,Wk,h]
@[simp] theorem yqx(a:D)(r:List D):Qb (.tup (a::r)) (.int 0) σ=.ok a σ:=tD (show Lm _ ((0:Nat):Int)=_ from Pw rfl)
@[simp] theorem yqy(a b:D)(r:List D):Qb (.tup (a::b::r)) (.int 1) σ=.ok b σ:=tD (show Lm _ ((1:Nat):Int)=_ from Pw rfl)
@[simp] theorem yqz(a b c:D)(r:List D):Qb (.tup (a::b::c::r)) (.int 2) σ=.ok c σ:=tD (show Lm _ ((2:Nat):Int)=_ from Pw rfl)
@[simp] theorem yq0(a b c d:D)(r:List D):Qb (.tup (a::b::c::d::r)) (.int 3) σ=.ok d σ:=tD (show Lm _ ((3:Nat):Int)=_ from Pw rfl)
@[simp] theorem zu8(xs:List D):cq [.tup xs] σ=.ok (.int xs.length) σ:=nr rfl
@[simp] theorem zu7(xs:List Int):cq [.je xs] σ=.ok (.int xs.length) σ:=by simp[cq,Wk]
@[simp] theorem YU(o:List D->M D)(fs:Ev->M (List D)):rl o fs ρ σ=(fs ρ σ).bind o:=nr rfl
@[simp] theorem CG(n:Nat)(f:List D->M D)(dds:List D)(fs:Ev->M (List D)):ae n f dds fs ρ σ=(fs ρ σ).bind (Iq n f dds):=nr rfl
@[simp] theorem O8(f:List D->M D)(a:D):Iq 1 f [] [a] σ=f [a] σ:=by unfold Iq;rw[ia (by simp)];simp
@[simp] theorem m5(f:List D->M D)(a b:D):Iq 2 f [] [a,b] σ=f [a,b] σ:=by unfold Iq;rw[ia (by simp)];simp
@[simp] theorem sU(f:List D->M D)(a b c:D):Iq 3 f [] [a,b,c] σ=f [a,b,c] σ:=by unfold Iq;rw[ia (by simp)];simp
@[simp] theorem yji(f:List D->M D)(a b c:D):Iq 3 f [c] [a,b] σ=f [a,b,c] σ:=by unfold Iq;rw[ia (by simp)];simp
@[simp] theorem yp5(f:List D->M D)(a b c d:D):Iq 4 f [] [a,b,c,d] σ=f [a,b,c,d] σ:=by unfold Iq;rw[ia (by simp)];simp
@[simp] theorem yp6(f:List D->M D)(a b c d e:D):Iq 5 f [] [a,b,c,d,e] σ=f [a,b,c,d,e] σ:=by unfold Iq;rw[ia (by simp)];simp
@[simp] theorem yp7(f:List D->M D)(a b c d e g:D):Iq 6 f [] [a,b,c,d,e,g] σ=f [a,b,c,d,e,g] σ:=by unfold Iq;rw[ia (by simp)];simp
@[simp] theorem RQ:gh ρ σ=.ok (.nx ρ) σ:=nr rfl
@[simp] theorem cg(g h:Ev->M Fl):Kb g h ρ σ=(g ρ σ).bind (dC h):=nr rfl
@[simp] theorem ig(h:Ev->M Fl)(ρ:Ev):dC h (.nx ρ) σ=h ρ σ:=nr rfl
@[simp] theorem yfc(h:Ev->M Fl)(d:D):dC h (.rt d) σ=.ok (.rt d) σ:=nr rfl
@[simp] theorem yfd(h:Ev->M Fl)(ρ:Ev)(x:Xn):dC h (.xc ρ x) σ=.ok (.xc ρ x) σ:=nr rfl
noncomputable def rm(ρ:Ev)(k:α->M Fl):Out α->Out Fl
 | .ok a b=>k a b
 | .ex x b=>.ok (.xc ρ x) b
 | .bad=>.bad
@[simp] theorem ip(ρ:Ev)(m:M α)(k:α->M Fl):xs ρ m k σ=rm ρ k (m σ):=by unfold xs rm;cases m σ<;>rfl
@[simp] theorem Lh(ρ:Ev)(k:α->M Fl)(a:α):rm ρ k (.ok a σ)=k a σ:=nr rfl
@[simp] theorem yod(ρ:Ev)(k:α->M Fl)(x:Xn):rm ρ k (.ex x σ)=.ok (.xc ρ x) σ:=nr rfl
@[simp] theorem Kx(f:Ev->M D):Ke f ρ σ=rm ρ zK (f ρ σ):=ip ..
@[simp] theorem Ez(d:D):zK d σ=.ok (.rt d) σ:=nr rfl
@[simp] theorem mF(f:Ev->M D):wj f ρ σ=rm ρ (lL ρ) (f ρ σ):=ip ..
@[simp] theorem fH(d:D):lL ρ d σ=.ok (.nx ρ) σ:=nr rfl
@[simp] theorem Tu(i:Nat)(f:Ev->M D):jh i f ρ σ=rm ρ (ID i ρ) (f ρ σ):=ip ..
@[simp] theorem WA(i:Nat)(d:D):ID i ρ d σ=.ok (.nx (ρ.set i (some d))) σ:=nr rfl
@[simp] theorem Qy(t:Ev->M Bool)(a b:Ev->M Fl):Jg t a b ρ σ=rm ρ (dk (a ρ) (b ρ)) (t ρ σ):=ip ..
@[simp] theorem zpq(c:Nat)(fs:Ev->M (List D)):ME c fs ρ σ=rm ρ (sG c ρ) (fs ρ σ):=ip ..
@[simp] theorem zvx(c:Nat)(d:D):sG c ρ [d] σ=.ok (.xc ρ ⟨c⟩) σ:=nr rfl
@[simp] theorem ye5(g:Ev->M Fl)(a:List Hd):jL g a ρ σ=(g ρ σ).bind (OE a):=nr rfl
@[simp] theorem ygt(a:List Hd)(x:Xn):OE a (.xc ρ x) σ=zx ρ x a σ:=nr rfl
theorem zte{h:Hd}{r:List Hd}{x:Xn}(e:h.t x.cls=some true):zx ρ x (h::r) σ=hit h ρ x σ:=by unfold zx;rw[e]
@[simp] theorem yj5(t:Nat->Option Bool)(g:Ev->M Fl)(x:Xn):hit ⟨t,none,g⟩ ρ x σ=(g ρ σ).bind OD:=nr rfl
@[simp] theorem yll:OD (.nx ρ) σ=.ok (.nx ρ) σ:=nr rfl
@[simp] theorem wt(n:Nat)(g:Ev->M Fl)(ds:List D):run n g ds σ=uk (g (ds.map some++List.replicate (n - ds.length) none) σ):=nr rfl
@[simp] theorem vy(d:D):uk (.ok (.rt d) σ)=.ok d σ:=nr rfl
@[simp] theorem yes:uk (.ok (.nx ρ) σ)=.ok .Jb σ:=nr rfl
@[simp] theorem yeu(x:Xn):uk (.ok (.xc ρ x) σ)=.ex x σ:=nr rfl
@[simp] theorem Gz(f:M D):Za f σ=Eh σ (f σ):=nr rfl
@[simp] theorem HB(f:Ev->M D):cm f ρ σ=Eh σ (f ρ σ):=nr rfl
theorem BH{k m:Nat}{σ:db}{d:D}(h:cl d=true):fz k σ m d=some d:=by cases m<;>(unfold fz;rw[ia h])
theorem vI{σ':db}{d:D}(h:cl d=true)(a:σ'.take σ.length=σ):Eh σ (.ok d σ')=.ok d σ:=by
 unfold Eh;dsimp only;rw[ia a,BH h]
@[simp] theorem dI{d:D}(h:cl d=true):Eh σ (.ok d σ)=.ok d σ:=vI h Wm
theorem iQ{j j':db}{xs:List D}(h:cj xs=true):Eh σ (.ok (.ref σ.length) (σ++[.lst xs]++j))=.ok (.lst xs) σ:=by
 unfold Eh;dsimp only;rw[ia (by simp)];have e:fz σ.length (σ++[.lst xs]++j) 6 (.ref σ.length)=some (.lst xs):=by
  unfold fz;rw[ja (by simp[cl])];dsimp only;rw[ja (Te _)];have:(σ++[Ob.lst xs]++j)[σ.length]?=some (.lst xs):=by simp
  rw[this];dsimp only;have c:∀ (ys:List D) (m:Nat),cj ys=true->Ds (fz σ.length (σ++[.lst xs]++j) m) ys=some ys:=by
   intro ys m;induction ys with
   |nil=>intro _;rfl
   |cons y ys d=>
    intro b;have a:cl y=true/\cj ys=true:=by simpa [cj,Fa]using b
    unfold Ds;rw[BH a.1,d a.2]
  rw[c xs 5 h];rfl
 rw[e]
@[simp] theorem B9(i:Int):cl (.int i)=true:=by simp[cl]
@[simp] theorem yo9(i:Bool):cl (.bl i)=true:=by simp[cl]
@[simp] theorem yh2(i:qa):cl (.str i)=true:=by simp[cl]
@[simp] theorem yh0:cl .Jb=true:=by simp[cl]
@[simp] theorem yh4(xs:List D):cl (.tup xs)=cj xs:=by simp[cl]
@[simp] theorem yhz(xs:List D):cl (.lst xs)=cj xs:=by simp[cl]
@[simp] theorem yh1(n:Nat):cl (.ref n)=false:=by simp[cl]
@[simp] theorem zyp:cj []=true:=by simp[cj]
@[simp] theorem bZ(d:D)(ds:List D):cj (d::ds)=(cl d && cj ds):=by simp[cj]
theorem GE:∀ {ds:List D},(∀ d∈ds,cl d=true)->cj ds=true
 |[],_=>by simp
 |d::ds,h=>by rw[bZ,h d Aa,GE λx a=>h x (ya _ a)];rfl
theorem sX{a:Type}{f:a->D}{l:List a}(h:∀ x,cl (f x)=true):cj (l.map f)=true:=GE λd hd=>by obtain⟨x,_,rfl⟩:=Db.mp hd;exact h x
@[simp] theorem zrf(l:List Int):cj (l.map D.int)=true:=sX B9
theorem XN{i j:Int}(h:LC i j=true):CF (.int i) (.int j) σ=.ok (.int (i * j)) σ:=LA h
theorem NR{i j:Int}(h:-(2 ^ 64)<i)(a:i<2 ^ 64):LC i j=true:=by simp only[LC,Ul,zg,Fa,Lb];exact .inl ⟨h,a⟩
theorem V7{xs:List D}{k:Int}(a:0<=k)(h:k<xs.length):Lm xs k=some (xs.getD k.toNat .Jb):=by
 obtain⟨n,rfl⟩:=Int.eq_ofNat_of_zero_le a;have hn:n<xs.length:=by omega
 refine Pw ?_;show xs[n]?=some (xs.getD n .Jb);rw[Uf,Pd hn];rfl
theorem i9{a:List Int}{k:Int}(b:0<=k)(h:k<a.length):Lm (a.map D.int) k=some (.int (a.getD k.toNat 0)):=by
 rw[V7 b (by simpa using h)];have hn:k.toNat<a.length:=by omega
 simp[hn]
@[simp] theorem yrf(a:D):gB [a] σ=.ok (.lst [a]) σ:=nr rfl
@[simp] theorem yre:gB [] σ=.ok (.lst []) σ:=nr rfl
@[simp] theorem yrg(a b:D):gB [a,b] σ=.ok (.lst [a,b]) σ:=nr rfl
@[simp] theorem NA(xs:List D):ek (σ++[.lst xs]) σ.length=some xs:=by simp[ek]
@[simp] theorem wS(a b:Ob):(σ++[a]).set σ.length b=σ++[b]:=by
 rw[Ss _ _ (na _)];simp
@[simp] theorem zrt(o:D->List D->M D)(f:Ev->M D)(fs:Ev->M (List D)):uI o f fs ρ σ=(f ρ σ).bind (YA o (fs ρ)):=nr rfl
theorem tX{o:D->List D->M D}{m:M (List D)}{x:D}{xs:List D}(h:Oi σ x=some xs):YA o m x σ=(m σ).bind (o x):=by unfold YA;rw[h];rfl
@[simp] theorem zoo(o:D->List D->M D)(m:M (List D))(xs:List D):YA o m (.ref σ.length) (σ++[.lst xs])=(m (σ++[.lst xs])).bind (o (.ref σ.length)):=tX (xs:=xs) (by simp[Oi])
theorem V3{xs:List D}{d:D}(h:xs.length<1000):Lu (.ref σ.length) [d] (σ++[.lst xs])=.ok .Jb (σ++[.lst (xs++[d])]):=by
 unfold Lu;simp only[NA];rw[ia (show xs.length<li from h),wS]
theorem OP{neg:Bool}{w:Int}{x:D}{ws:List Int}(h:Wk σ x=some (ws.map D.int)):VA neg (.int w) x σ=.ok (.bl (if neg then !(ws.any (·== w))else ws.any (·== w))) σ:=by
 have a:∀ l:List Int,(l.map D.int).all fx=true:=λl=>by simp[fx,sc]
 have b:∀ l:List Int,((l.map D.int).any λz=>Ry z (.int w))=l.any (·== w):=λl=>by simp[Ry,sc,Yk,NB,ik]
 unfold VA;rw[h];simp only[a,b,show fx (.int w)=true from rfl,Bool.and_self,Ee]
@[simp] theorem JT(xs:List D):Wk (σ++[.lst xs]) (.ref σ.length)=some xs:=NA xs
@[simp] theorem vP(xs:List D):Wk σ (.lst xs)=some xs:=nr rfl
@[simp] theorem zp4(xs:List D):Wk σ (.tup xs)=some xs:=nr rfl
@[simp] theorem JC(f:Ev->M D):Dk f ρ σ=(f ρ σ).bind vw:=nr rfl
@[simp] theorem qQ(ds:List D):vw (.tup ds) σ=.ok (.seq ds) σ:=nr rfl
@[simp] theorem zE(ds:List D):vw (.lst ds) σ=.ok (.seq ds) σ:=nr rfl
@[simp] theorem eS(f:Ev->M D):tz f ρ σ=(f ρ σ).bind ED:=nr rfl
theorem IE{j:Int}(h:-(2 ^ 62)<=j)(a:j<2 ^ 62):ED (.int j) σ=.ok (.seq (Gv j.toNat)) σ:=by
 unfold ED;dsimp only;rw[ia (by simp only[cF,Ul,Fa,Lb];exact⟨h,a⟩)]
@[simp] theorem Ky(src:Ev->M Src)(tg:D->Ev->Option Ev)(body:Ev->M Fl):Mr src tg body ρ σ=rm ρ (pF tg body ρ) (src ρ σ):=ip ..
@[simp] theorem oA(tg:D->Ev->Option Ev)(body:Ev->M Fl)(ds:List D):pF tg body ρ (.seq ds) σ=Pm tg body ds ρ σ:=nr rfl
@[simp] theorem zy(tg:D->Ev->Option Ev)(body:Ev->M Fl):Pm tg body [] ρ σ=.ok (.nx ρ) σ:=nr rfl
theorem uR{tg:D->Ev->Option Ev}{body:Ev->M Fl}{d:D}{ds:List D}{ρ1:Ev}(h:tg d ρ=some ρ1):Pm tg body (d::ds) ρ σ=(body ρ1 σ).bind (tw (Pm tg body ds)):=by
 show (match tg d ρ with|none=>bad|some ρ1=>qd (body ρ1) (tw (Pm tg body ds))) σ=_;rw[h];rfl
@[simp] theorem Ks(i:Nat)(body:Ev->M Fl)(d:D)(ds:List D):Pm (Zd i) body (d::ds) ρ σ=(body (ρ.set i (some d)) σ).bind (tw (Pm (Zd i) body ds)):=uR rfl
@[simp] theorem Rl(k:Ev->M Fl):tw k (.nx ρ) σ=k ρ σ:=nr rfl
theorem DG(n:Nat):Gv n=(List.range' 0 n).map λ(k:Nat)=>D.int k:=by unfold Gv;rw[List.range_eq_range']
theorem zG{m:M α}{a:α}{σ':db}(h:m σ=.ok a σ'):Fq m σ=.ok a σ':=by unfold Fq;rw[h]
end
section
variable{α β:Type}{ρ:Ev}{σ:db}
@[simp] theorem o5(ns:List Int):Wk σ (.je ns)=some (ns.map D.int):=nr rfl
theorem S9{ns:List Int}{k:Int}(a:0<=k)(h:k<ns.length):Qb (.je ns) (.int k) σ=.ok (.int (ns.getD k.toNat 0)) σ:=by
 simp only[Qb,o5,i9 a h]
@[simp] theorem zu1(c:BT)(i:Int):vr c (.int i) σ=.ok (.bl (match c with | .int=>true|_=>false)) σ:=nr rfl
@[simp] theorem ydc(c:BT)(i:Bool):vr c (.bl i) σ=.ok (.bl (match c with | .int=>true | .bool=>true|_=>false)) σ:=nr rfl
@[simp] theorem zu4(xs:List D):vr .tuple (.tup xs) σ=.ok (.bl true) σ:=nr rfl
@[simp] theorem zm4(o d:D->D->M D)(a b c:Ev->M D):UK o d a b c ρ σ=(a ρ σ).bind (oK o d (b ρ) (c ρ)):=nr rfl
noncomputable def pl:Nat->D->Bool
 |_,.Jb=>true
 |_,.bl _=>true
 |_,.int _=>true
 |_,.str _=>true
 |n+1,.tup xs=>xs.all (pl n)
 |n+1,.lst xs=>xs.all (pl n)
 |_,_=>false
theorem ZI{f:D->D->Option Bool}:∀ {xs:List D},(∀ x∈xs,f x x=some true)->Dp f xs xs=some true
 |[],_=>rfl
 |x::xs,h=>by unfold Dp;rw[h x Aa,ZI λy a=>h y (ya _ a)];rfl
theorem JE:∀ (n:Nat) (x:D),pl n x=true->qm σ n x x=some true
 |0,x,h=>by cases x<;>simp[pl]at h<;>simp[qm,kd,Ar,Yk]
 |n+1,x,h=>by
  cases x with
  |Jb=>simp[qm,kd,Ar,Yk]
  |bl b=>simp[qm,kd,Ar,Yk]
  |int b=>simp[qm,kd,Ar,Yk]
  |str b=>simp[qm,kd,Ar,Yk]
  |tup xs=>
   simp only[pl,pc]at h;unfold qm;simp only[kd,Ar];exact ZI λy a=>JE n y (h y a)
  |lst xs=>
   simp only[pl,pc]at h;unfold qm;simp only[kd,Ar];exact ZI λy a=>JE n y (h y a)
  |_=>simp[pl]at h
theorem QC{x:D}(h:pl 8 x=true):oEq x x σ=.ok (.bl true) σ:=VG (JE 8 x h)
theorem EK{x:D}(h:pl 8 x=true):iq x x σ=.ok (.bl false) σ:=SF (JE 8 x h)
@[simp] theorem zwe(f a fi:Ev->M D):sx f a fi ρ σ=rm ρ (GI ρ a fi) (f ρ σ):=ip ..
@[simp] theorem zmv(o a:D->D->M D)(b c:M D)(x:D):oK o a b c x σ=(b σ).bind (fK o a c x):=nr rfl
@[simp] theorem zmx(o a:D->D->M D)(c:M D)(x y:D):fK o a c x y σ=(o x y σ).bind (bK a c y):=nr rfl
@[simp] theorem zmw(a:D->D->M D)(c:M D)(y:D)(b:Bool):bK a c y (.bl b) σ=dk (qd c (a y)) (ret (.bl false)) b σ:=nr rfl
@[simp] theorem zwq(a fi:Ev->M D)(d:D):GI ρ a fi d σ=rm ρ (QI ρ fi d) (a ρ σ):=ip ..
@[simp] theorem zwr(fi:Ev->M D)(d x:D):QI ρ fi d x σ=rm ρ (Eu ρ d x) (fi ρ σ):=ip ..
@[simp] theorem yfh(d a:D)(r:List D):Eu ρ d (.ref σ.length) (.int 0) (σ++[.lst (a::r)])=.ok (.nx ρ) (σ++[.lst (d::r)]):=by
 have:qy (.ref σ.length) (.int 0) d (σ++[.lst (a::r)])=.ok () (σ++[.lst (d::r)]):=by
  simp only[qy,NA];rw[show Lr (a::r).length 0=some 0 by simp[Lr]];simp
 unfold Eu;rw[this]
@[simp] theorem yfi(d a b:D)(r:List D):Eu ρ d (.ref σ.length) (.int 1) (σ++[.lst (a::b::r)])=.ok (.nx ρ) (σ++[.lst (a::d::r)]):=by
 have:qy (.ref σ.length) (.int 1) d (σ++[.lst (a::b::r)])=.ok () (σ++[.lst (a::d::r)]):=by
  simp only[qy,NA];rw[show Lr (a::b::r).length 1=some 1 by simp[Lr];omega];simp
 unfold Eu;rw[this]
theorem lK{xs:List D}{k:Int}{d:D}(h:Lm xs k=some d):Qb (.ref σ.length) (.int k) (σ++[.lst xs])=.ok d (σ++[.lst xs]):=by simp[Qb,JT,h]
@[simp] theorem yqr(a:D)(r:List D):Qb (.ref σ.length) (.int 0) (σ++[.lst (a::r)])=.ok a (σ++[.lst (a::r)]):=lK (show Lm _ ((0:Nat):Int)=_ from Pw rfl)
@[simp] theorem yqs(a b:D)(r:List D):Qb (.ref σ.length) (.int 1) (σ++[.lst (a::b::r)])=.ok b (σ++[.lst (a::b::r)]):=lK (show Lm _ ((1:Nat):Int)=_ from Pw rfl)
theorem zs2{a:Ob}{d:D}(h:cl d=true):Eh σ (.ok d (σ++[a]))=.ok d σ:=vI h (by simp)
@[simp] theorem dW{a:Type}(f:a->Bool)(l:List a):RA (l.map λx=>D.bl (f x))=some (l.map f):=by
 induction l with
 |nil=>rfl
 |cons x l b=>simp[RA,b]
@[simp] theorem wM(l:List Int):nu (l.map D.int)=some l:=by
 induction l with
 |nil=>rfl
 |cons x l a=>simp[nu,a]
theorem S4{a:Type}{f:a->Bool}{l:List a}:fD [.lst (l.map λx=>D.bl (f x))] σ=.ok (.bl (l.all f)) σ:=by
 simp only[fD,vP,ah,dW];simp[Rr,ik]
theorem d7{l:List Int}(h:l.length<=1000):xD (.lst (l.map D.int)) σ=.ok (.int (sm l).length) σ:=by
 simp only[xD,Oi,ah,wM];rw[ia (show l.length<=li from h)]
theorem DJ:∀ (l s:List Int),(l.foldl PyProof.Rows.step_dedup s).length<=s.length+l.length/\((l.foldl PyProof.Rows.step_dedup s).length=s.length+l.length ↔ (l.Nodup/\∀ x∈l,x ∉ s))
 |[],s=>by simp
 |x::l,s=>by
  rw[Fe];by_cases h:s.any (·== x)=true
  ·have i:x∈s:=by simpa using h
   rw[show PyProof.Rows.step_dedup s x=s by unfold PyProof.Rows.step_dedup;rw[ia h]];obtain⟨j,g⟩:=DJ l s;refine⟨by simp only[Ma];omega,λe=>?_,λe=>absurd i (e.2 x Aa)⟩;simp only[Ma]at e;omega
  ·have i:x ∉ s:=by simpa using h
   rw[show PyProof.Rows.step_dedup s x=s++[x] by unfold PyProof.Rows.step_dedup;rw[ja h]];obtain⟨j,g⟩:=DJ l (s++[x]);simp only[Gd,Ma,mj]at j g;refine⟨by simp only[Ma];omega,?_⟩;rw[Ma,show s.length+(l.length+1)=s.length+(0+1)+l.length by omega,g,xg];constructor
   ·rintro ⟨a,b⟩;refine⟨⟨λhm=>(b x hm) (by simp),a⟩,λy f=>?_⟩;rcases Ha.mp f with rfl|f
    ·exact i
    ·exact λd=>b y f (by simp[d])
   ·rintro ⟨⟨a,b⟩,c⟩;refine⟨b,λy f d=>?_⟩;rcases Ud.mp d with d|d
    ·exact c y (ya _ f) d
    ·rw[Jd.mp d]at f;exact a f
theorem M6(l:List Int):((sm l).length:Int)=(l.length:Int) ↔ l.Nodup:=by
 have:=(DJ l []).2;simp only[mj,Nat.zero_add,ie,not_false_eq_true,implies_true,and_true]at this;unfold sm;rw[<-this];omega
end
section
variable{ρ:Ev}{σ:db}
@[simp] theorem bQ(c n:Nat)(fn:List D->M D)(fs:Ev->M (List D)):As c n fn fs ρ σ=(fs ρ σ).bind (jp c n fn):=nr rfl
theorem oD{c n:Nat}{fn:List D->M D}{ds:List D}(h:ds.length+1=n):jp c n fn ds σ=lv σ.length (fn (.ref σ.length::ds) (σ++[.ins c []])):=by unfold jp;rw[ia h]
@[simp] theorem YH(c:Nat)(fn:List D->M D)(a:D):jp c 2 fn [a] σ=lv σ.length (fn [.ref σ.length,a] (σ++[.ins c []])):=oD rfl
@[simp] theorem nP(c:Nat)(fn:List D->M D)(a b:D):jp c 3 fn [a,b] σ=lv σ.length (fn [.ref σ.length,a,b] (σ++[.ins c []])):=oD rfl
@[simp] theorem gO(c:Nat)(fn:List D->M D)(a b d e f:D):jp c 6 fn [a,b,d,e,f] σ=lv σ.length (fn [.ref σ.length,a,b,d,e,f] (σ++[.ins c []])):=oD rfl
@[simp] theorem Fz(n:Nat):lv n (.ok .Jb σ)=.ok (.ref n) σ:=nr rfl
@[simp] theorem wy(cs:List Nat)(f:qa)(b a:Ev->M D):Ai cs f b a ρ σ=rm ρ (QK ρ cs f a) (b ρ σ):=ip ..
@[simp] theorem ry(cs:List Nat)(f:qa)(a:Ev->M D)(d:D):QK ρ cs f a d σ=rm ρ (Xt ρ cs f d) (a ρ σ):=ip ..
theorem oF{cs:List Nat}{f:qa}{d:D}{c:Nat}{fs:List (qa × D)}(h:cs.contains c=true)(a:fs.length<1000):Xt ρ cs f d (.ref σ.length) (σ++[.ins c fs])=.ok (.nx ρ) (σ++[.ins c (lj f d fs)]):=by
 have e:Sy cs f d (.ref σ.length) (σ++[.ins c fs])=.ok () (σ++[.ins c (lj f d fs)]):=by
  have:(σ++[Ob.ins c fs])[σ.length]?=some (.ins c fs):=by simp
  unfold Sy;simp only[this];rw[ia (by rw[h];simpa using a)];simp
 unfold Xt;rw[e]
theorem uu{c:Nat}{ns:List qa}{ds:List D}(h:ns.length=ds.length):Km σ (.obj c ns ds)=some (c,ns.zip ds):=by unfold Km;dsimp only;rw[ia h]
theorem dj{cs:List Nat}{f:qa}{x d:D}{c:Nat}{fs:List (qa × D)}(h:Km σ x=some (c,fs))(a:cs.contains c=true)(b:fs.lookup f=some d):gc cs f x σ=.ok d σ:=by
 unfold gc;rw[h];dsimp only;rw[ia a,b]
@[simp] theorem Nu(tb:Mt)(n:Nat)(m:qa)(f:Ev->M D)(fs:Ev->M (List D)):Od tb n m f fs ρ σ=(f ρ σ).bind (eo tb n m (fs ρ)):=nr rfl
theorem zt{tb:Mt}{n:Nat}{m:qa}{fs:M (List D)}{x:D}{c:Nat}{a:List (qa × D)}{fn:List D->M D}(h:Km σ x=some (c,a))(d:bu tb c=some fn)(b:a.lookup m=none):eo tb n m fs x σ=(fs σ).bind (Kj n fn x):=by
 unfold eo;rw[h];dsimp only;rw[d,b];rfl
theorem Ey{n:Nat}{fn:List D->M D}{x:D}{ds:List D}(h:ds.length+1=n):Kj n fn x ds σ=fn (x::ds) σ:=by unfold Kj;rw[ia h]
@[simp] theorem Ww(fn:List D->M D)(x:D):Kj 1 fn x [] σ=fn [x] σ:=Ey rfl
@[simp] theorem cB(fn:List D->M D)(x a:D):Kj 2 fn x [a] σ=fn [x,a] σ:=Ey rfl
@[simp] theorem RJ(fn:List D->M D)(x a b:D):Kj 3 fn x [a,b] σ=fn [x,a,b] σ:=Ey rfl
@[simp] theorem ycr(fn:List D->M D)(x a b c d:D):Kj 5 fn x [a,b,c,d] σ=fn [x,a,b,c,d] σ:=Ey rfl
theorem sF{c:Nat}{fs:List (qa × D)}(h:cj (fs.map (·.2))=true):Eh σ (.ok (.ref σ.length) (σ++[.ins c fs]))=.ok (.obj c (fs.map (·.1)) (fs.map (·.2))) σ:=by
 unfold Eh;dsimp only;rw[ia (by simp)];have e:fz σ.length (σ++[.ins c fs]) 6 (.ref σ.length)=some (.obj c (fs.map (·.1)) (fs.map (·.2))):=by
  unfold fz;rw[ja (by simp)];dsimp only;rw[ja (Te _)];have:(σ++[Ob.ins c fs])[σ.length]?=some (.ins c fs):=by simp
  rw[this];dsimp only;have d:∀ (ys:List D) (m:Nat),cj ys=true->Ds (fz σ.length (σ++[.ins c fs]) m) ys=some ys:=by
   intro ys m;induction ys with
   |nil=>intro _;rfl
   |cons y ys f=>
    intro b;have a:cl y=true/\cj ys=true:=by simpa [cj,Fa]using b
    unfold Ds;rw[BH a.1,f a.2]
  rw[d _ 5 h];rfl
 rw[e]
@[simp] theorem zu9(i j:Int):sE [.int i,.int j] σ=.ok (.int (min i j)) σ:=nr rfl
@[simp] theorem zu3(i:qa):vr .str (.str i) σ=.ok (.bl true) σ:=nr rfl
@[simp] theorem zu2(c:BT):vr c .Jb σ=.ok (.bl false) σ:=by cases c<;>rfl
end
end L4
namespace L4
open PySem PySem.Spec PySem.Calls PyProof.Rows PySem.Builtin PySem.Builtin.ObjectAttr PySem.Builtin.Getset_descriptor L2
structure ExK(K:W.Frag)(C:Addr):Prop where
 g:W.findIn K (.ref C) "__getattribute__" = some (some (.builtin "BaseException.__getattribute__"))
 g2:W.findIn K (.ref C) "__getattr__" = some none
 mb:W.mroIn K C (.type "BaseException")=some true
 d:W.hasDictIn K C=true
 a:W.findIn K (.ref C) "__class__" = some (some (.builtin "object.__class__"))
 n:W.specialIn K (.builtin "object.__class__") "__get__" = some (some (.builtin "getset_descriptor.__get__"))
 t:W.takesIn K (.builtin "object.__class__")=some true
 m:W.mroIn K C (.type "object")=some true
section
variable{prog:ra}{w:Ka}{A:Ia}{E:Value->Shared->Prop}{s:Shared}{K:W.Frag}{C ea:Addr}{hp:Heap}{Mo:jk}
theorem xy.plain{dd:Option Addr}(p:xy C dd ea hp):jW C ea hp:=let ⟨o,a,b,_⟩:=p;⟨o,a,b⟩
end
section
variable{T:Tb}{X:Cx}
inductive Ox(X:Cx)(y:qa):V->Value->Prop where
 |own {a:Addr} (h:X.mg y=some (.ref a)):Ox X y (.ref a) (.ref a)
 |bt {n:String} (h:X.mg y=none) (hv:bootBuiltins y=some (.type n)) (hn:y ≠ "__name__"):Ox X y (.ty n) (.type n)
theorem Ox.rel{y:qa}{a:V}{cv:Value}(h:Ox X y a cv):∀ u,Td a u->u=cv:=by
 cases h with
 |own h=>exact λu q=>q
 |bt h b hn=>exact λu q=>q
end
section
variable{ρ:Ev}{σ:db}
end
end L4
namespace L4
open PySem PySem.Spec PySem.Calls PyProof.Rows L2
section
variable{T:Tb}{X:Cx}
end
end L4
namespace HT
open PySem Builtin
open Sem (wp)
end HT
namespace L4
open PySem PySem.Spec PyProof.Rows L2
end L4
namespace HT
open PySem Builtin
open Sem (wp)
end HT
namespace L4
open PySem PySem.Spec PyProof.Rows L2
section
variable{T:Tb}{X:Cx}
end
end L4
namespace L2
open PySem PySem.Spec PyProof.Rows
section
variable{κ:Type}[DecidableEq κ]
noncomputable def Hm(kvs:List (κ × V))(k:κ):Option V:=(kvs.find? λa=>decide (a.1=k)).map (·.2)
noncomputable def Kl(kvs:List (κ × V))(k:κ)(v:V):List (κ × V):=
 if (kvs.any λa=>decide (a.1=k))=true then kvs.map (λa=>if a.1=k then (a.1,v)else a)else kvs++[(k,v)]
noncomputable def fM(kvs:List (κ × V))(k:κ):List (κ × V):=kvs.filter λa=>decide (a.1≠k)
theorem U6{k:κ}:Hm ([]:List (κ × V)) k=none:=rfl
theorem EC{p:κ × V}{r:List (κ × V)}{k:κ}(e:p.1=k):Hm (p::r) k=some p.2:=by simp[Hm,Hc,e]
theorem RD{p:κ × V}{r:List (κ × V)}{k:κ}(e:¬ p.1=k):Hm (p::r) k=Hm r k:=by simp[Hm,Hc,e]
theorem HS(k:κ):∀ kvs:List (κ × V),(kvs.any λa=>decide (a.1=k))=(Hm kvs k).isSome
 |[]=>rfl
 |p::r=>by
  rw[ee];by_cases e:p.1=k
  ·simp only[EC e,Um e,Bool.true_or,Option.isSome_some]
  ·rw[RD e,Xc e,Kk];exact HS k r
theorem VE(kvs:List (κ × V))(k:κ)(v:V):(Kl kvs k v).length<=kvs.length+1:=by
 unfold Kl;split
 ·rw[pb];omega
 ·rw[Gd,Ma,mj];omega
theorem gp.ri{o:Option V}{u:Option Value}(r:gp o u):o.isSome=u.isSome:=by
 cases o with
 |none=>cases u with
  |none=>rfl
  |some _=>exact(show False from r).elim
 |some _=>cases u with
  |none=>exact(show False from r).elim
  |some _=>rfl
theorem gp.getD{o:Option V}{u:Option Value}{d:V}{d':Value}(r:gp o u)(rd:Td d d'):Td (o.getD d) (u.getD d'):=by
 cases o with
 |none=>cases u with
  |none=>exact rd
  |some _=>exact(show False from r).elim
 |some _=>cases u with
  |none=>exact(show False from r).elim
  |some _=>exact r
theorem KV.val{kvs:List (κ × V)}{vs:List (κ × Value)}(r:KV kvs vs)(k:κ):gp (Hm kvs k) (To vs k):=by
 unfold KV at r;induction r with
 |nil=>exact True.intro
 |@cons p q i c h t g=>
  obtain⟨d,f⟩:=h;by_cases e:p.1=k
  ·have a:q.1=k:=d.symm.trans e;have b:To (q::c) k=some q.2:=by simp[To,Hc,a]
   rw[EC e,b];exact f
  ·have a:¬ q.1=k:=λz=>e (d.trans z);have b:To (q::c) k=To c k:=by simp[To,Hc,a]
   rw[RD e,b];exact g
theorem KV.any{kvs:List (κ × V)}{vs:List (κ × Value)}(r:KV kvs vs)(k:κ):(kvs.any λa=>decide (a.1=k))=vs.any λa=>decide (a.1=k):=by
 unfold KV at r;induction r with
 |nil=>rfl
 |cons h t b=>rw[ee,ee,b,h.1]
theorem KV.Kz{kvs:List (κ × V)}{vs:List (κ × Value)}(r:KV kvs vs)(k:κ){y:V}{u:Value}(f:Td y u) :
  KV (kvs.map λa=>if a.1=k then (a.1,y)else a) (vs.map λa=>if a.1=k then (a.1,u)else a):=by
 unfold KV at r ⊢;induction r with
 |nil=>exact .nil
 |@cons p q g i h t d=>
  rw[Da,Da];refine .cons ?_ d;obtain⟨b,c⟩:=h;by_cases e:p.1=k
  ·rw[ia e,ia (b.symm.trans e)];exact⟨b,f⟩
  ·rw[ja e,ja (λz=>e (b.trans z))];exact⟨b,c⟩
theorem KV.put{kvs:List (κ × V)}{vs:List (κ × Value)}(r:KV kvs vs)(k:κ){y:V}{u:Value}(a:Td y u):KV (Kl kvs k y) (stored vs k u):=by
 unfold Kl stored;rw[r.any k];by_cases e:(vs.any λb=>decide (b.1=k))=true
 ·rw[ia e,ia e];exact r.Kz k a
 ·rw[ja e,ja e];exact Paired.snoc r ⟨rfl,a⟩
theorem KV.drop{kvs:List (κ × V)}{vs:List (κ × Value)}(r:KV kvs vs)(k:κ):KV (fM kvs k) (without vs k):=by
 unfold KV at r ⊢;unfold fM without;induction r with
 |nil=>exact .nil
 |@cons p q i j h t d=>
  obtain⟨c,g⟩:=h;rw[Qi,Qi];by_cases e:p.1=k
  ·have a:¬ decide (p.1≠k)=true:=by simp[e]
   have b:¬ decide (q.1≠k)=true:=by simp[c.symm.trans e]
   rw[ja a,ja b];exact d
  ·have f:¬ q.1=k:=λz=>e (c.trans z);have a:decide (p.1≠k)=true:=by simp[e]
   have b:decide (q.1≠k)=true:=by simp[f]
   rw[ia a,ia b];exact .cons ⟨c,g⟩ d
theorem KV.keys{kvs:List (κ × V)}{vs:List (κ × Value)}(r:KV kvs vs):kvs.map (·.1)=vs.map (·.1):=by
 unfold KV at r;induction r with
 |nil=>rfl
 |cons h t a=>rw[Da,Da,a,h.1]
theorem KV.length{kvs:List (κ × V)}{vs:List (κ × Value)}(r:KV kvs vs):kvs.length=vs.length:=Paired.length r
end
theorem gx{P:ra}{w:Ka}{k:Key}{u:Value}(r:Td (kV k) u):(ni P w).is k u=true:=by
 cases k with
 |inl i=>obtain⟨t,e⟩:=(show ∃ t,u=Sd i t from r);subst e;exact OX P w i t
 |inr x=>obtain⟨t,e⟩:=(show ∃ t,u=Bm x t from r);subst e;exact y6 P w x t
theorem JN{P:ra}{w:Ka}:∀ {a:List Key} {us:List Value},re (a.map kV) us->ItemsAre (ni P w) a us
 |[],_,r=>by rw[ce]at r;cases r;exact .nil
 |k::a,_,r=>by
  rw[Da]at r;cases r with
  |cons h t=>exact .cons (gx h) (JN t)
noncomputable abbrev KT(H:Hp):List (List Key × V)->List (List Key × Addr × Value)->Prop:=Paired λp q=>p.1=q.1/\H q.2.1=some (.tup (p.1.map kV))/\Td p.2 q.2.2
theorem KT.val{H:Hp}{kvs:List (List Key × V)}{xs:List (List Key × Addr × Value)}(r:KT H kvs xs)(k:List Key):gp (Hm kvs k) ((Uo xs k).map (·.2)):=by
 induction r with
 |nil=>exact True.intro
 |@cons p q i c h t g=>
  obtain⟨d,_,f⟩:=h;by_cases e:p.1=k
  ·have a:q.1=k:=d.symm.trans e;have b:Uo (q::c) k=some q.2:=by simp[Uo,Hc,a]
   rw[EC e,b];exact f
  ·have a:¬ q.1=k:=λz=>e (d.trans z);have b:Uo (q::c) k=Uo c k:=by simp[Uo,Hc,a]
   rw[RD e,b];exact g
theorem KT.Kz{H:Hp}{kvs:List (List Key × V)}{xs:List (List Key × Addr × Value)}(r:KT H kvs xs)(k:List Key){y:V}{u:Value}(g:Td y u) :
  KT H (kvs.map λb=>if b.1=k then (b.1,y)else b) (xs.map (putAt k u)):=by
 induction r with
 |nil=>exact .nil
 |@cons p q i j h t f=>
  rw[Da,Da];refine .cons ?_ f;obtain⟨a,c,d⟩:=h;unfold putAt;by_cases e:p.1=k
  ·rw[ia e,ia (a.symm.trans e)];exact⟨a,c,g⟩
  ·rw[ja e,ja (λz=>e (a.trans z))];exact⟨a,c,d⟩
theorem KT.put{H:Hp}{kvs:List (List Key × V)}{xs:List (List Key × Addr × Value)}(r:KT H kvs xs)(k:List Key){b:Addr}{y:V}{u:Value}(hb:H b=some (.tup (k.map kV)))(a:Td y u) :
  KT H (Kl kvs k y) (storedH xs k b u):=by
 have e:(kvs.any λc=>decide (c.1=k))=(Uo xs k).isSome:=by
  rw[HS,(r.val k).ri,Tk]
 unfold Kl storedH;rw[e];by_cases q:(Uo xs k).isSome=true
 ·rw[ia q,ia q];exact r.Kz k a
 ·rw[ja q,ja q];exact Paired.snoc r ⟨rfl,hb,a⟩
theorem KT.keeps{H a:Hp}{kvs:List (List Key × V)}{xs:List (List Key × Addr × Value)}(r:KT H kvs xs)(c:∀ b ys,H b=some (.tup ys)->a b=some (.tup ys)):KT a kvs xs:=
 Paired.Es r λ_ _ z=>⟨z.1,c _ _ z.2.1,z.2.2⟩
section
variable{P:ra}{w:Ka}{H:Hp}{h:Heap}{a:Addr}
theorem XM{u:HO}(ok:Pi P w H h)(e:Rd H a u):Xi P w H h a u:=e.ok ok
theorem Ku{kvs:List (Key × V)}(ok:Pi P w H h)(e:Rd H a (.dK kvs)):kvs.length<=sizeLine/\(a == lg)=false/\∃ vs,KV kvs vs/\h.DictOf (ni P w) a vs:=
 show Xi P w H h a (.dK kvs)from XM ok e
theorem FJ{kvs:List (Key × V)}(ok:Pi P w H h)(e:H a=some (.dK kvs)):kvs.length<=sizeLine/\(a == lg)=false/\∃ vs,KV kvs vs/\h.DictOf (ni P w) a vs:=Ku ok (.inl e)
theorem wC{c:List Key}(ok:Pi P w H h)(e:H a=some (.tup (c.map kV))):(tq (ni P w)).is h c a:=by
 obtain⟨_,b,r,o,d,f,n,g⟩:=(show Xi P w H h a (.tup (c.map kV))from ok a _ e)
 exact⟨o,b.toArray,n,d,f,g,by simpa using JN r⟩
theorem lD{kvs:List (List Key × V)}(ok:Pi P w H h)(e:Rd H a (.dT kvs)):kvs.length<=sizeLine/\(a == lg)=false/\
  ∃ xs,KT H kvs xs/\h.DictOfH (tq (ni P w)) a xs:=by
 obtain⟨z,y,xs,r,o,f,d,g,i,j,k,n⟩:=(show Xi P w H h a (.dT kvs)from XM ok e)
 refine⟨z,y,xs,r,o,f,d,g,i,j,k,λx b=>?_,n⟩;have all:∀ {l:List (List Key × V)} {m:List (List Key × Addr × Value)},KT H l m->∀ x∈m,(tq (ni P w)).is h x.1 x.2.1:=by
  intro l m q;induction q with
  |nil=>intro x b;exact nomatch b
  |@cons p q u v c t s=>
   intro x b;rcases Ha.mp b with e|b
   ·subst e;exact wC ok (by rw[<-c.1];exact c.2.1)
   ·exact s x b
 exact all r x b
theorem AS{kvs:List (List Key × V)}(ok:Pi P w H h)(e:H a=some (.dT kvs)):kvs.length<=sizeLine/\(a == lg)=false/\
  ∃ xs,KT H kvs xs/\h.DictOfH (tq (ni P w)) a xs:=lD ok (.inl e)
end
noncomputable def Yi(H:Hp)(a:Addr)(y:V)(r:Option V):Prop:=
 (∃ c k,Rd H a (.dK c)/\y=kV k/\r=Hm c k)\/∃ c k b,Rd H a (.dT c)/\y=.ref b/\H b=some (.tup (k.map kV))/\r=Hm c k
noncomputable def Iy(H:Hp)(a:Addr)(y v:V)(d:Hp):Prop:=
 (∃ c k,H a=some (.dK c)/\y=kV k/\c.length<sizeLine/\d=upd H a (.dK (Kl c k v)))\/
 ∃ c k b,H a=some (.dT c)/\y=.ref b/\H b=some (.tup (k.map kV))/\c.length<sizeLine/\d=upd H a (.dT (Kl c k v))
theorem Yi.k{H:Hp}{a:Addr}{kvs:List (Key × V)}{k:Key}(e:H a=some (.dK kvs)):Yi H a (kV k) (Hm kvs k):=.inl ⟨kvs,k,.inl e,rfl,rfl⟩
theorem Yi.t{H:Hp}{a b:Addr}{kvs:List (List Key × V)}{k:List Key}(e:H a=some (.dT kvs))(c:H b=some (.tup (k.map kV))):Yi H a (.ref b) (Hm kvs k):=.inr ⟨kvs,k,b,.inl e,rfl,c,rfl⟩
theorem Iy.k{H:Hp}{a:Addr}{kvs:List (Key × V)}{k:Key}{v:V}(e:H a=some (.dK kvs))(b:kvs.length<sizeLine):Iy H a (kV k) v (upd H a (.dK (Kl kvs k v))):=.inl ⟨kvs,k,e,rfl,b,rfl⟩
theorem Iy.t{H:Hp}{a b:Addr}{kvs:List (List Key × V)}{k:List Key}{v:V}(e:H a=some (.dT kvs))(c:H b=some (.tup (k.map kV)))(d:kvs.length<sizeLine) :
  Iy H a (.ref b) v (upd H a (.dT (Kl kvs k v))):=.inr ⟨kvs,k,b,e,rfl,c,d,rfl⟩
section
variable{X:Cx}{pins:List (Addr × Obj)}{σ:St}{H:Hp}{s:Shared}{a:Addr}{y v:V}{u r:Value}{o:Option V}{A:Ia}{E:Value->Shared->Prop}
theorem Inv.iK(I:Inv X pins σ H s):lg<s.heap.objs.size:=by
 have h:mainGlobals<s.heap.objs.size:=(I.mod.glob.keeps I.bk).lt;exact ym (by decide) h
theorem X9{Q:Value->Shared->Prop}(x:A.units+1<cLine)(I:Inv X pins σ H s)(g:Yi H a y (some v))(q:Td y u)(h:∀ d s',Inv X pins σ H s'->Td v d->Q d s') :
  wpAny (model X.prog X.w) A (ij (.ref a) u) Q E s:=by
 rcases g with⟨n,k,e,i,l⟩|⟨n,k,b,e,i,r,l⟩
 ·subst i;obtain⟨z,hd,B,rel,f⟩:=Ku I.Rb e;obtain⟨d,m,c⟩:=gp.some_of (v:=v) (o:=To B k) (by rw[l];exact rel.val k);exact wpAny_getItem_of (gx q) f.mapOf m (h d _ (I.tok _) c)
 ·subst i;cases (show u=Ua b from q);obtain⟨z,hd,xs,rel,f⟩:=lD I.Rb e;obtain⟨d,m,c⟩:=gp.some_of (v:=v) (o:=(Uo xs k).map (·.2)) (by rw[l];exact rel.val k);obtain⟨p,t,j⟩:=Fb.mp m;refine wpAny_getItem_heap (Ii x) (wC I.Rb r) f t ?_;rw[j];exact h d _ (I.tok _) c
theorem z7{Q:Value->Shared->Prop}(m:A.units+1<cLine)(I:Inv X pins σ H s)(g:Yi H a y o)(i:Td y u)(h:∀ s',Inv X pins σ H s'->Q (.bool o.isSome) s') :
  wpAny (model X.prog X.w) A (dc .In u (.ref a)) Q E s:=by
 rcases g with⟨f,k,e,d,l⟩|⟨f,k,b,e,d,j,l⟩
 ·subst d;obtain⟨z,hd,n,rel,c⟩:=Ku I.Rb e;refine wpAny_in_of (gx i) hd c.mapOf ?_;rw[<-(rel.val k).ri,<-l];exact h _ (I.tok _)
 ·subst d;cases (show u=Ua b from i);obtain⟨z,hd,xs,rel,c⟩:=lD I.Rb e;refine kU (Ii m) (wC I.Rb j) hd c ?_;have q:=(rel.val k).ri;rw[Tk]at q;rw[<-q,<-l];exact h _ (I.tok _)
theorem g8{Q:Value->Shared->Prop}(m:A.units+1<cLine)(I:Inv X pins σ H s)(g:Yi H a y o)(i:Td y u)(h:∀ s',Inv X pins σ H s'->Q (.bool (!o.isSome)) s') :
  wpAny (model X.prog X.w) A (dc .NotIn u (.ref a)) Q E s:=by
 rcases g with⟨f,k,e,d,l⟩|⟨f,k,b,e,d,j,l⟩
 ·subst d;obtain⟨z,hd,n,rel,c⟩:=Ku I.Rb e;refine wpAny_notIn_of (gx i) hd c.mapOf ?_;rw[<-(rel.val k).ri,<-l];exact h _ (I.tok _)
 ·subst d;cases (show u=Ua b from i);obtain⟨z,hd,xs,rel,c⟩:=lD I.Rb e;refine wpAny_notIn_heap (Ii m) (wC I.Rb j) hd c ?_;have q:=(rel.val k).ri;rw[Tk]at q;rw[<-q,<-l];exact h _ (I.tok _)
theorem qF{h':Heap}{t':Nat}{ob:HO}(I:Inv X pins σ H s)(g:eD (H a))(f:Ic a s.heap h')(d:∃ q,h'.get? a=some q)(c:Xi X.prog X.w (upd H a ob) h' a ob) :
  Inv X pins σ (upd H a ob) { s with heap:=h',toks:=t' }:=
 I.write (x:=a) (e:=a) g (.inl rfl) (λb q hb z=>(f.2 b hb).trans z) d c
theorem fF{P:ra}{w:Ka}{b:Hp}{h':Heap}{kvs:List (Key × V)}{vs:List (Key × Value)}(z:kvs.length<=sizeLine)(hd:(a == lg)=false)(rel:KV kvs vs)(dd:h'.DictOf (ni P w) a vs) :
  Xi P w b h' a (.dK kvs):=⟨z,hd,vs,rel,dd⟩
theorem aY{x:Hp}{Q:Unit->Shared->Prop}(R:A.units+1<cLine)(I:Inv X pins σ H s)(g:Iy H a y v x)(G:Td y u)(F:Td v r)(h:∀ s',Inv X pins σ x s'->Q () s') :
  wpAny (model X.prog X.w) A (Tr (.ref a) u r) Q E s:=by
 rcases g with⟨d,k,e,n,l,m⟩|⟨d,k,b,e,n,B,l,m⟩
 ·subst n m;obtain⟨z,hd,S,rel,j⟩:=FJ I.Rb e;have t:S.length<=sizeLine:=by rw[<-rel.length];exact z
  have o:(Kl d k v).length<=sizeLine:=by have:=VE d k v;omega
  refine wpAny_setItem_pairs (hsz:=t) (gx G) j λD f p=>h _ ?_;have P:∃ q,D.get? a=some q:=let ⟨q,_,_,i,_⟩:=f;⟨q,i⟩;exact qF I (by rw[e];exact True.intro) p P (fF o hd (rel.put k F) f)
 ·subst n m;cases (show u=Ua b from G);obtain⟨z,hd,xs,rel,j⟩:=AS I.Rb e;have t:xs.length<=sizeLine:=by rw[<-Paired.length rel];exact z
  have o:(Kl d k v).length<=sizeLine:=by have:=VE d k v;omega
  refine wpAny_setItem_heap (hsz:=t) (Ii R) (wC I.Rb B) j λD f p=>h _ ?_;obtain⟨q,K,J,i,L,M,N,_,O⟩:=f;refine qF I (by rw[e];exact True.intro) p ⟨q,i⟩ ⟨o,hd,_,(rel.put k B F).keeps λc T C=>?_,q,K,J,i,L,M,N,O⟩;rw[qe (UI C e (λz=>nomatch z))];exact C
end
section
variable{X:Cx}{pins:List (Addr × Obj)}{σ:St}{H:Hp}{s:Shared}{a:Addr}{kvs:List (Key × V)}{k:Key}{u:Value}{A:Ia}{E:Value->Shared->Prop}
end
noncomputable def OH(i:Ja):Prop:=∀ b a,Rq i false b a=operate [b,a] (ij b a)
theorem i5{prog:ra}{w:Ka}{A:Ia}{E:Value->Shared->Prop}{s:Shared}{env:wh}{b a:Ja}{k:Ye}{T n:String}{Q:Value->Shared->Prop}
  (l:typeLookup (.type T) "__getitem__" = pure (some (.builtin n))) (m:OH a)
  (h:wpAny (model prog w) A (Nb b env) (λo d=>wpAny (model prog w) A (Nb a env) (λi s₂=>s₂.TypeIs o T/\wpAny (model prog w) A (ij o i) Q E s₂) E d) E s) :
  wpAny (model prog w) A (Nb (.Subscript b a k) env) Q E s:=by
 refine wA (rc h (λo d g=>rc g (λi s₂ c=>?_) λ_ _ x=>x) λ_ _ x=>x);obtain⟨hT,c⟩:=c;unfold Bu;refine aa ?_;rw[getitemInPython_of_ne hT.not_modules];refine aa (ei hT l ?_);have f:wpAny (model prog w) A (Rq a false o i) (λr e=>wpAny (model prog w) A (letTemporaryGo b o r >>= λ_=>pure r) Q E e) E s₂:=by
  rw[m o i];exact wpAny_operating (rc c (λr e j=>aa (wpAny_letTemporaryGo (da j))) λ_ _ x=>x)
 first
  |exact da (aa f)
  |exact aa (da (aa f))
  |exact aa f
theorem zhv{X:Cx}{c:List (Addr × Obj)}{σ:St}{H:Hp}{s:Shared}{a:Addr}{y:V}{o:Option V}(I:Inv X c σ H s)(g:Yi H a y o):s.TypeIs (.ref a) "dict":=by
 rcases g with⟨f,k,e,_,_⟩|⟨f,k,b,e,_,_,_⟩
 ·obtain⟨_,_,h,_,d⟩:=Ku I.Rb e;exact d.typeIs
 ·obtain⟨_,_,xs,_,d⟩:=lD I.Rb e;exact d.typeIs
noncomputable def Z5(e ty:TE):TE:=λc H Q=>e c H λx d=>ty c d λy b=>∃ a v,x=.ref a/\Yi b a y (some v)/\Q v b
section
variable{X:Cx}{o i e value:Ja}{pos pos' tpos:Ye}{td ty tv:TE}
theorem D1(p:X.A.units+1<cLine)(m:PE X o td)(l:PE X i ty)(n:OH i):PE X (.Subscript o i pos) (Z5 td ty):=by
 intro b s e H Q I h;refine i5 PySem.F.slot_dict_getitem.lookup n (ge (m b s e H _ I h) λu s1 ⟨x,H1,j,q,q1⟩=>ge (l b s1 e H1 _ j q1) λt s2 ⟨y,f,d,r,a,v,ex,g,q2⟩=>?_);subst ex;obtain rfl:u=Ua a:=q;exact⟨zhv d g,X9 p d g r λz w k c=>⟨v,f,k,c,q2⟩⟩
end
theorem S7{P:ra}{w:Ka}{H:Hp}(h:Heap)(hb:lg<h.objs.size):Xi P w H (h.push { cls:=.type "dict",data:=.dict #[] }) h.objs.size (.dK []):=
 ⟨Xj _,jc.mpr (De (va hb)),[],.nil,GL h⟩
theorem M3{P:ra}{w:Ka}{H:Hp}(h:Heap)(hb:lg<h.objs.size):Xi P w H (h.push { cls:=.type "dict",data:=.dict #[] }) h.objs.size (.dT []):=
 ⟨Xj _,jc.mpr (De (va hb)),[],.nil,_,#[],0,Ba _ rfl,⟨rfl,rfl,rfl⟩,rfl,rfl,Oj⟩
noncomputable def UY:TE:=λ_ H Q=>∀ p,H p=none->Q (.ref p) (upd H p (.dK []))
noncomputable def Y7:TE:=λ_ H Q=>∀ p,H p=none->Q (.ref p) (upd H p (.dT []))
section
variable{X:Cx}{pos:Ye}
theorem jO:PE X (.Dict [] [] pos) UY:=λb s c H Q I h=>
 eE ⟨.ref s.heap.objs.size,_,I.laid (a:=s.heap.objs.size) (o:=.dK []) (t':=s.toks) (λ_ _ q=>ba _ q) (na _) (S7 s.heap I.iK),rfl,h _ (I.Rb.fresh (na _))⟩
theorem TY:PE X (.Dict [] [] pos) Y7:=λb s c H Q I h=>
 eE ⟨.ref s.heap.objs.size,_,I.laid (a:=s.heap.objs.size) (o:=.dT []) (t':=s.toks) (λ_ _ q=>ba _ q) (na _) (M3 s.heap I.iK),rfl,h _ (I.Rb.fresh (na _))⟩
end
section
variable{X:Cx}{pins:List (Addr × Obj)}{σ:St}{H:Hp}{s:Shared}{a:Addr}{kvs:List (Key × V)}{A:Ia}{E:Value->Shared->Prop}
theorem zrj{Q:Value->Shared->Prop}(I:Inv X pins σ H s)(e:Rd H a (.dK kvs))(h:∀ p s',H p=none->Inv X pins σ (upd H p (.dK kvs)) s'->Q (.ref p) s'):wpAny (model X.prog X.w) A (call (.type "dict") [.ref a]) Q E s:=by
 obtain⟨z,hd,j,rel,f⟩:=Ku I.Rb e;refine kt_call_dict hd f (by rw[<-rel.length];exact z) λi c g=>?_;refine h _ _ (I.Rb.fresh (na _)) (I.laid (a:=s.heap.objs.size) (o:=.dK kvs) (t':=s.toks) (λb q d=>?_) (na _) (fF z (jc.mpr (De (va I.iK))) rel c));exact(g.2 b (va (ua d))).trans (ba _ d)
end
end L2
namespace L4
open PySem PySem.Spec PyProof.Rows L2
noncomputable def Pk:D->Option Key
 | .int i=>some (.inl i)
 | .str x=>some (.inr x)
 |_=>none
noncomputable def ej(σ:db):D->Option (List (Key × D))
 | .Ya b xs=>if b.length=xs.length then some (b.zip xs)else none
 | .ref n=>(match σ[n]? with
  |some (.Ya a)=>some a
  |some (.Kc a)=>some a
  |_=>none)
 |_=>none
noncomputable def Cu(kvs:List (Key × D))(k:Key):Option D:=(kvs.find? λa=>decide (a.1=k)).map (·.2)
noncomputable def Fm(kvs:List (Key × D))(k:Key)(d:D):List (Key × D):=
 if kvs.any (λa=>decide (a.1=k))then kvs.map λa=>if a.1=k then (a.1,d)else a else kvs++[(k,d)]
section
variable{T:Tb}{X:Cx}{μ:List Addr}{H:Hp}
theorem Dx{y:D}{v:V}{k:Key}(h:Rep T μ H y v)(e:Pk y=some k):v=kV k:=by
 cases y<;>simp[Pk]at e<;>subst e<;>rw[Rep]at h<;>exact h
theorem IG:∀ {c:List Key} {ds:List D} {kvs:List (Key × V)},kvs.map (·.1)=c->Wa T μ H ds (kvs.map (·.2))->yh T μ H (c.zip ds) kvs
 |c,[],kvs,b,a=>by
  rw[Wa]at a;have:kvs=[]:=by simpa using a
  subst this;rw[<-b];exact .nil
 |c,d::ds,kvs,b,a=>by
  rw[Wa]at a;obtain⟨v,r,e,q1,q2⟩:=a;cases kvs with
  |nil=>cases e
  |cons p kvs=>
   rw[Da]at e b;cases e;rw[<-b];exact .cons ⟨rfl,q1⟩ (IG rfl q2)
theorem aA{σ:db}(r:Rel T μ H σ){x:D}{v:V}{kvs:List (Key × D)}(h:Rep T μ H x v)(e:ej σ x=some kvs):∃ a vs,v=.ref a/\Rd H a (.dK vs)/\yh T μ H kvs vs:=by
 cases x with
 |Ya i xs=>
  rw[Rep]at h;obtain⟨a,vs,rfl,_,b,c,f⟩:=h;unfold ej at e;dsimp only at e;split at e
  ·cases e;exact⟨a,vs,rfl,b,IG c f⟩
  ·cases e
 |ref n=>
  unfold ej at e;dsimp only at e;cases q:σ[n]? with
  |none=>rw[q]at e;cases e
  |some o=>
   rw[q]at e;cases o with
   |Ya d=>
    cases e;obtain⟨a,rfl,_,vs,b,c⟩:=r.at h q;exact⟨a,vs,rfl,.inl b,c⟩
   |Kc d=>
    cases e;obtain⟨a,rfl,_,g,vs,b,c⟩:=r.at h q;exact⟨a,vs,rfl,.inr ⟨g,b⟩,c⟩
   |_=>cases e
 |_=>cases e
theorem sD{kvs:List (Key × D)}{vs:List (Key × V)}(h:yh T μ H kvs vs)(k:Key):(Cu kvs k=none/\Hm vs k=none)\/∃ d v,Cu kvs k=some d/\Hm vs k=some v/\Rep T μ H d v:=by
 unfold yh at h;induction h with
 |nil=>exact .inl ⟨rfl,rfl⟩
 |@cons p q c j h t i=>
  obtain⟨b,g⟩:=h;by_cases e:p.1=k
  ·have a:q.1=k:=b.symm.trans e;exact .inr ⟨p.2,q.2,by unfold Cu;rw[Hc,Um e];rfl,EC a,g⟩
  ·have a:¬ q.1=k:=λz=>e (b.trans z);have f:Cu (p::c) k=Cu c k:=by unfold Cu;rw[Hc,Xc e]
   rw[f,RD a];exact i
theorem lY{kvs:List (Key × D)}{vs:List (Key × V)}(h:yh T μ H kvs vs)(k:Key):(kvs.any λa=>decide (a.1=k))=(vs.any λa=>decide (a.1=k)):=by
 unfold yh at h;induction h with
 |nil=>rfl
 |@cons p q c d h t b=>rw[ee,ee,b,h.1]
theorem aR{d e:Type}{F:d->e->Prop}{f:d->d}{g:e->e}(c:∀ a b,F a b->F (f a) (g b)):∀ {l:List d} {m:List e},Paired F l m->Paired F (l.map f) (m.map g)
 |_,_,.nil=>.nil
 |_,_,.cons h t=>.cons (c _ _ h) (aR c t)
theorem aP{d e:Type}{F:d->e->Prop}{a:d}{b:e}(c:F a b):∀ {l:List d} {m:List e},Paired F l m->Paired F (l++[a]) (m++[b])
 |_,_,.nil=>.cons c .nil
 |_,_,.cons h t=>.cons h (aP c t)
theorem OJ{kvs:List (Key × D)}{vs:List (Key × V)}(h:yh T μ H kvs vs)(k:Key){d:D}{v:V}(hd:Rep T μ H d v):yh T μ H (Fm kvs k d) (Kl vs k v):=by
 unfold Fm Kl;rw[lY h k];split
 ·refine aR (λp q h=>?_) h;by_cases e:p.1=k
  ·rw[ia e,ia (h.1.symm.trans e)];exact⟨h.1,hd⟩
  ·rw[ja e,ja (λz=>e (h.1.trans z))];exact h
 ·exact aP ⟨rfl,hd⟩ h
theorem yh.mono{μ':List Addr}{a:Hp}(e:Ext μ H μ' a){kvs:List (Key × D)}{vs:List (Key × V)}(h:yh T μ H kvs vs):yh T μ' a kvs vs:=Paired.Es h λ_ _ z=>⟨z.1,Rep.mono e _ _ z.2⟩
theorem _root_.L2.Yi.kr{H:Hp}{a:Addr}{kvs:List (Key × V)}{k:Key}(e:Rd H a (.dK kvs)):Yi H a (kV k) (Hm kvs k):=.inl ⟨kvs,k,e,rfl,rfl⟩
noncomputable def Wv(x y:D):M D:=λb=>match Pk y with
 |some k=>(match ej b x with
  |some a=>(match Cu a k with
   |some d=>.ok d b
   |none=>.bad)
  |none=>.bad)
 |none=>.bad
theorem mG{o i:Ja}{n fi:Ev->M D}{f:Ye}(Y:X.A.units+9<cLine)(F:FE T X o n)(E:FE T X i fi)(K:OH i):FE T X (.Subscript o i f) (Qa Wv n fi):=by
 intro b s O H Q I h;refine D1 (by omega) F E K b s O H Q I ?_;obtain⟨μ,r,U,p,J,G⟩:=h;refine⟨μ,r,U,p,J,G.bind λx l j v V _ t N q1 p1=>⟨j,r,l,p.mono t,N,p1.bind λy m S u W _ z q q2 p2=>?_⟩⟩;unfold Wv at p2;cases e:Pk y with
 |none=>rw[e]at p2;exact p2.elim
 |some k=>
  rw[e]at p2;dsimp only at p2;cases c:ej m x with
  |none=>rw[c]at p2;exact p2.elim
  |some L=>
   rw[c]at p2;dsimp only at p2;obtain⟨a,Z,rfl,B,C⟩:=aA q (Rep.mono z _ _ q1) c;obtain rfl:=Dx q2 e;rcases sD C k with⟨g,_⟩|⟨d,w,g,P,R⟩
   ·rw[g]at p2;exact p2.elim
   ·rw[g]at p2;exact⟨a,w,rfl,by rw[<-P];exact Yi.kr B,Ib.here p2 q R⟩
noncomputable def nK:R2:=λy x H Q=>∃ a o,x=.ref a/\Yi H a y o/\Q (.bl o.isSome) H
theorem BF(f:X.A.units+9<cLine):Gi X (dc .In) nK:=by
 intro b s k H y x i u Q I e d h;obtain⟨a,o,rfl,g,q⟩:=h;obtain rfl:u=Ua a:=d;exact z7 (by omega) I g e λj c=>⟨.bl o.isSome,H,c,rfl,q⟩
noncomputable def Cy(y x:D):M D:=λb=>match Pk y with
 |some k=>(match ej b x with
  |some a=>.ok (.bl (Cu a k).isSome) b
  |none=>.bad)
 |none=>.bad
theorem gL:Nk T nK Cy:=by
 intro E μ H m y x u v Q r q p h;unfold Cy at h;cases c:Pk y with
 |none=>rw[c]at h;exact h.elim
 |some k=>
  rw[c]at h;dsimp only at h;cases b:ej m x with
  |none=>rw[b]at h;exact h.elim
  |some j=>
   rw[b]at h;obtain⟨a,l,rfl,g,i⟩:=aA r p b;obtain rfl:=Dx q c;refine⟨a,Hm l k,rfl,Yi.kr g,Ib.here h r ?_⟩;rw[Rep];rcases sD i k with⟨e,f⟩|⟨d,w,e,f,n⟩
   ·rw[e,f];rfl
   ·rw[e,f];rfl
noncomputable def o6:bF:=λx y v H Q=>∃ a b,x=.ref a/\Iy H a y v b/\Q b
theorem nM(l:X.A.units+9<cLine):wK X o6:=by
 intro b s p H o i v e m u Q I j f k h;obtain⟨a,c,rfl,g,q⟩:=h;obtain rfl:e=Ua a:=j;exact aY (by omega) I g f k λn d=>⟨c,d,q⟩
noncomputable def ft(ρ:Ev)(d x:D)(y:D):M Fl:=λb=>match x with
 | .ref n=>(match Pk y with
  |some k=>(match b[n]? with
   |some (.Ya a)=>if a.length<li then .ok (.nx ρ) (b.set n (.Ya (Fm a k d)))else .bad
   |_=>.bad)
  |none=>.bad)
 |_=>.bad
noncomputable def LK(ρ:Ev)(fi:Ev->M D)(d x:D):M Fl:=xs ρ (fi ρ) (ft ρ d x)
noncomputable def mL(ρ:Ev)(a fi:Ev->M D)(d:D):M Fl:=xs ρ (a ρ) (LK ρ fi d)
noncomputable def Ov(f b fi:Ev->M D):Ev->M Fl:=λa=>xs a (f a) (mL a b fi)
theorem lx{e o i:Ja}{f Q fi:Ev->M D}{m b:Ye}(hu:X.A.units+9<cLine)(Y:FE T X e f)(ho:FE T X o Q)(Z:FE T X i fi)
  (W:∀ v,gi (.Subscript o i b) X.env v=(do
   let r <-Ie [v] (Nb o X.env);let C <-Ie [v,r] (Nb i X.env)
   hj b
   Ie [v,r,C] (Tr r C v)
   WB [v,r,C] []):=by intro _;rfl)
  (hs:bn [.Subscript o i b] e m.line X.env=pure false:=by rfl) (hw:cn [.Subscript o i b] e X.env=pure none:=by rfl)
  (V:(Ge [.Subscript o i b] X.env).map (·.2)=[gi (.Subscript o i b) X.env]:=by rfl):FS T X (.Assign [.Subscript o i b] e m) (Ov f Q fi):=by
 intro l s U H D I hq;refine nJ Y (JI ho Z (nM hu) W) hs hw V l s U H D I ?_;obtain⟨μ,K,σ,c,hr,hp⟩:=hq;refine⟨μ,K,σ,c,hr,hp.xs c λd L G v H1 _ h r1 q1 p1=>?_⟩;refine⟨G,K,L,c.mono h,r1,p1.xs (c.mono h) λx N J vo H2 _ q r2 q2 p2=>?_⟩;refine⟨J,K,N,(c.mono h).mono q,r2,p2.xs ((c.mono h).mono q) λy O p vi P _ t S q3 p3=>?_⟩;have hd:=Rep.mono t _ _ (Rep.mono q _ _ q1);have hx:=Rep.mono t _ _ q2;unfold ft at p3;cases x with
 |ref n=>
  dsimp only at p3;cases u:Pk y with
  |none=>rw[u]at p3;exact p3.elim
  |some k=>
   rw[u]at p3;dsimp only at p3;cases w:O[n]? with
   |none=>rw[w]at p3;exact p3.elim
   |some ob=>
    rw[w]at p3;cases ob with
    |Ya g=>
     dsimp only at p3;by_cases B:g.length<li
     ·rw[ia B]at p3;obtain⟨a,rfl,hn,E,R,g2⟩:=S.at hx w;obtain rfl:=Dx q3 u;have F:=S.write (o:=.dK (Kl E k v)) (ob:=.Ya (Fm g k d)) hn ⟨_,kh,by
       have ex:Ext p P p (upd P a (.dK (Kl E k v))):=Mu (Ga hn) R (λ_ z=>by cases z) (λ_ _ z=>by cases z);exact OJ (yh.mono ex g2) k (Rep.mono ex _ _ hd)⟩
      have j:E.length=g.length:=by unfold yh at g2;exact(Paired.length g2).symm
      exact⟨a,_,rfl,Iy.k R (by rw[j];exact Ea B (by decide)),p3 _ (.nx U) _ F.1 F.2 (((c.mono h).mono q).mono t |>.mono F.1)⟩
     ·rw[ja B]at p3;exact p3.elim
    |_=>exact p3.elim
 |_=>exact p3.elim
noncomputable def Nr:Ev->M D:=λ_ a=>.ok (.ref a.length) (a++[.Ya []])
theorem fv{b:Ye}:FE T X (.Dict [] [] b) Nr:=by
 intro a s e H Q I h;obtain⟨μ,g,i,f,c,d⟩:=h;refine jO a s e H Q I λp hn=>?_;exact d (μ++[p]) (.ref p) _ (Uy hn) (c.push hn ⟨[],kh,.nil⟩) (QD c)
theorem hO{b:Ye}:FE T X (.Dict [] [] b) (eC (.Ya [] [])):=by
 intro a s f H Q I h;obtain⟨μ,i,j,g,c,e⟩:=h;refine jO a s f H Q I λp hn=>?_;exact e μ (.ref p) _ (Om hn) (c.fresh hn) (by rw[Rep];exact⟨p,[],rfl,λhm=>(by obtain⟨u,d,_⟩:=c.mem hm;rw[hn]at d;cases d),(.inl kh),rfl,Wa.nil⟩)
noncomputable def AQ:List V->Hp->VK->Prop:=λxs H Q=>∃ a b,xs=[.ref a]/\Rd H a (.dK b)/\∀ p,H p=none->Q (.ref p) (upd H p (.dK b))
theorem J2:Qm X (.type "dict") AQ:=by
 intro b s i H xs j Q I r h;obtain⟨a,d,rfl,e,q⟩:=h;obtain⟨u,rfl,f⟩:=Ot r;cases f;exact zrj I e λp g hn c=>⟨.ref p,_,c,rfl,q p hn⟩
noncomputable def SG(ds:List D):M D:=λb=>match ds with
 |[x]=>(match ej b x with
  |some a=>.ok (.Ya (a.map (·.1)) (a.map (·.2))) b
  |none=>.bad)
 |_=>.bad
theorem wQ:∀ {kvs:List (Key × D)} {vs:List (Key × V)},yh T μ H kvs vs->vs.map (·.1)=kvs.map (·.1)/\Wa T μ H (kvs.map (·.2)) (vs.map (·.2))
 |_,_,.nil=>⟨rfl,Wa.nil⟩
 |_,_,.cons h t=>by
  obtain⟨a,b⟩:=wQ t;exact⟨by rw[Da,Da,a,h.1],Wa.cons h.2 b⟩
theorem yfy:Ct T AQ SG:=by
 intro E μ H m e o Q r p h
 match e with
 |[]=>exact h.elim
 |[x]=>
  unfold SG at h;dsimp only at h;cases b:ej m x with
  |none=>rw[b]at h;exact h.elim
  |some i=>
   rw[b]at h;rw[Wa]at p;obtain⟨v,n,rfl,q1,q2⟩:=p;rw[Wa]at q2;subst q2;obtain⟨a,d,rfl,f,g⟩:=aA r q1 b;refine⟨a,d,rfl,f,λl hn=>?_⟩;obtain⟨j,k⟩:=wQ g;exact h μ (.ref l) _ (Om hn) (r.fresh hn) (by rw[Rep];exact⟨l,d,rfl,λhm=>(by obtain⟨u,c,_⟩:=r.mem hm;rw[hn]at c;cases c),(.inl kh),j,Wa.mono (Om hn) _ _ k⟩)
 |_::_::_=>exact h.elim
end
section
variable{T:Tb}{X:Cx}
structure InK(K:W.Frag)(C:Addr):Prop where
 cl:L2.il K C
 a:W.findIn K (.ref C) "__class__" = some (some (.builtin "object.__class__"))
 n:W.specialIn K (.builtin "object.__class__") "__get__" = some (some (.builtin "getset_descriptor.__get__"))
 t:W.takesIn K (.builtin "object.__class__")=some true
 m:W.mroIn K C (.type "object")=some true
noncomputable def FY(K:W.Frag)(cv:Addr):List V->Hp->VK->Prop:=λxs H Q=>∃ a C c fs b,xs=[.ref a,.ref cv]/\H a=some (.ins C c fs)/\InK K C/\W.kitOne K (.ref C) (.ref cv)=some b/\Q (.bl b) H
theorem EY{cv:Addr}:Qm X (.builtin "isinstance") (FY X.K cv):=by
 intro d s j H xs l Q I r h;obtain⟨a,C,i,fs,b,rfl,f,Z,e,q⟩:=h;obtain⟨u,u2,rfl,g,c⟩:=SJ r;cases c;exact sP I g (.ins f Z.cl Z.a Z.n Z.t Z.m) e λk=>⟨.bl b,H,I.tok _,rfl,q⟩
noncomputable def DB(t:Nat->Option Bool)(x:D):M D:=λa=>match Km a x with
 |some (c,_)=>(match t c with|some b=>.ok (.bl b) a|none=>.bad)
 |none=>.bad
noncomputable def uF(K:W.Frag)(ca:Nat->Addr)(cv:Addr)(l:List (Nat × Bool)):Prop:=∀ p∈l,InK K (ca p.1)/\W.kitOne K (.ref (ca p.1)) (.ref cv)=some p.2
theorem G0{K:W.Frag}{ca:Nat->Addr}{cv:Addr}:uF K ca cv []:=λ_ h=>nomatch h
theorem yw{K:W.Frag}{ca:Nat->Addr}{cv:Addr}{c:Nat}{b:Bool}{l:List (Nat × Bool)}(z:InK K (ca c))(h:W.kitOne K (.ref (ca c)) (.ref cv)=some b)(r:uF K ca cv l):uF K ca cv ((c,b)::l):=λp a=>by
 rcases Ha.mp a with rfl|a
 ·exact⟨z,h⟩
 ·exact r p a
theorem yi3{y:qa}{cv:Addr}{l:List (Nat × Bool)}{e:Ja}{f:Ev->M D}{p p2 g:Ye}(Y:T.K=X.K)(B:FE T X e f)(C:Gl X "isinstance")(hm:X.mg "isinstance" = none)(m:Gl X y)(k:(y == ("__debug__" : qa))=false)(A:X.mg y=some (.ref cv))
  (G:uF X.K T.ca cv l)
  (q:pa [e,.Name y p2] X.env=(false,Nb e X.env)::pa [.Name y p2] X.env:=by rfl) (n:(lc g (pa [.Name y p2] X.env)).any (·.1)=false:=by rfl) :
  FE T X (.Call (.Name "isinstance" p) [e,.Name y p2] [] g) (Vc (DB (Ax l)) f):=by
 intro d s J H Q I h;refine mD (EY (cv:=cv)) C hm mH (Iv B (Iv (kK (v:=.ref cv) m A rfl k) Yw) q) (by decide) (by decide) q n d s J H Q I ?_;obtain⟨P,S,U,z,F,E⟩:=h;refine⟨P,S,U,z,F,E.bind λx o R v V _ W r p1 q1=>?_⟩;unfold DB at q1;cases i:Km o x with
 |none=>rw[i]at q1;exact q1.elim
 |some t=>
  obtain⟨c,fs⟩:=t;rw[i]at q1;dsimp only at q1;cases j:Ax l c with
  |none=>rw[j]at q1;exact q1.elim
  |some b=>
   rw[j]at q1;obtain⟨a,u,L,rfl,w,_⟩:=ZA r p1 i;obtain⟨N,O⟩:=G (c,b) (MI j);exact⟨a,T.ca c,u,L,b,rfl,w,N,O,Ib.here q1 r (by rw[Rep])⟩
theorem E2{l:List (Nat × Bool)}{x:D}{c:Nat}{fs:List (qa × D)}{b:Bool}{σ:db}(h:Km σ x=some (c,fs))(a:Ax l c=some b):DB (Ax l) x σ=.ok (.bl b) σ:=by
 unfold DB;rw[h];dsimp only;rw[a]
noncomputable def vF:List (Key × D)->List (Key × D)->Bool
 |[],[]=>true
 |(k,.int i)::r,(a,.int j)::b=>decide (k=a) && (i == j) && vF r b
 |_,_=>false
theorem bW:∀ {l:List (Key × D)},(∀ p∈l,∃ i,p.2=.int i)->vF l l=true
 |[],_=>rfl
 |(k,d)::r,h=>by
  obtain⟨i,e⟩:=h (k,d) Aa;dsimp only at e;subst e;unfold vF;rw[bW λp a=>h p (ya _ a)];simp
noncomputable def yw8(x y:D):M D:=λa=>match ej a x with
 |some b=>(match ej a y with
  |some c=>if vF b c=true then .ok (.bl true) a else .bad
  |none=>.bad)
 |none=>.bad
end
section
variable{T:Tb}{X:Cx}
inductive GC(X:Cx):List (Option Ja)->List Ja->List (qa × qa)->Prop
 |nil:GC X [] [] []
 |cons {k v:Ja} {x y:qa} {ks:List (Option Ja)} {vs:List Ja} {l:List (qa × qa)}:PE X k (tC (.str x))->PE X v (tC (.str y))->GC X ks vs l->GC X (some k::ks) (v::vs) ((x,y)::l)
theorem GC.all{ks vs l}(h:GC X ks vs l):ks.all (·.isSome)=true/\ks.length=vs.length/\ks.length=l.length:=by
 induction h with
 |nil=>exact⟨rfl,rfl,rfl⟩
 |cons _ _ _ a=>exact⟨by simpa using a.1,by simpa using a.2.1,by simpa using a.2.2⟩
end
noncomputable def eF(o:Int->Int->Int)(i:Nat)(ρ:Ev)(x d:D):M Fl:=λc=>match x,d with
 | .int a,.int b=>.ok (.nx (ρ.set i (some (.int (o a b))))) c
 |_,_=>.bad
noncomputable def IB(o:Int->Int->Int)(i:Nat)(f:Ev->M D):Ev->M Fl:=λa=>match a[i]? with
 |some (some x)=>xs a (f a) (eF o i a x)
 |_=>λ_=>.bad
theorem e4{o:Int->Int->Int}{i:Nat}{f:Ev->M D}{ρ:Ev}{σ:db}{x:D}(h:ρ[i]?=some (some x)):IB o i f ρ σ=rm ρ (eF o i ρ x) (f ρ σ):=by
 unfold IB;rw[h];exact ip ..
@[simp] theorem zyd(o:Int->Int->Int)(i:Nat)(ρ:Ev)(a b:Int)(σ:db):eF o i ρ (.int a) (.int b) σ=.ok (.nx (ρ.set i (some (.int (o a b))))) σ:=nr rfl
section
variable{T:Tb}{X:Cx}{e:Ja}{f:Ev->M D}{pos:Ye}
theorem G5{i:Nat}{x:qa}{j:Ye}{op:yl}{o:Int->Int->Int}(A:mJ X op (KP o))(hN:X.N.Nodup)(z:X.N[i]?=some x)(E:Loc X.env.scope x)(u:FE T X e f)(w:X.fn x=true\/X.env.scope.names.lookup x=some .local:=by first|exact .inl rfl|exact .inr rfl|assumption) :
  FS T X (.AugAssign (.Name x j) op e pos) (IB o i f):=by
 intro h s n H D I C;refine fY hN z E u A w h s n H D I ?_;obtain⟨G,p,K,l,B,c⟩:=C;unfold IB at c;cases k:p[i]? with
 |none=>rw[k]at c;exact c.elim
 |some q=>
  cases q with
  |none=>rw[k]at c;exact c.elim
  |some d=>
   rw[k]at c;obtain⟨v,t,m⟩:=l.2 i d k;refine⟨v,t,G,p,K,l,B,c.xs l λy L J O M _ r F q1 p1=>?_⟩;cases d with
   |int a=>
    cases y with
    |int b=>
     rw[Rep]at m q1;subst m q1;exact⟨a,b,rfl,rfl,Ib.here (g:=Rm.nx (n.set i (some (.int (o a b))))) p1 F ((l.mono r).set i (by rw[Rep]))⟩
    |_=>exact p1.elim
   |_=>exact p1.elim
end
end L4
namespace L4
open PySem PySem.Spec PySem.Calls PyProof.Rows L2
section
variable{T:Tb}{X:Cx}
end
end L4
namespace L4
open PySem PySem.Spec PyProof.Rows L2
noncomputable def pA(o:D->List D->M D)(m:M (List D))(x:D):M D:=λa=>match ej a x with
 |some _=>qd m (o x) a
 |none=>.bad
noncomputable def kA(o:D->List D->M D)(f:Ev->M D)(fs:Ev->M (List D)):Ev->M D:=λa=>qd (f a) (pA o (fs a))
noncomputable def GR:V->List V->Hp->VK->Prop:=λx c H Q=>∃ a b k d,x=.ref a/\c=[kV k,d]/\H a=some (.dK b)/\b.length<sizeLine/\
 (∀ v,Hm b k=some v->Q v H)/\(Hm b k=none->Q d (upd H a (.dK (Kl b k d))))
noncomputable def YC(x:D)(xs:List D):M D:=λb=>match x,xs with
 | .ref n,[y,d]=>(match Pk y with
  |some k=>(match b[n]? with
   |some (.Ya a)=>if a.length<li then (match Cu a k with
    |some e=>.ok e b
    |none=>.ok d (b.set n (.Ya (Fm a k d))))else .bad
   |_=>.bad)
  |none=>.bad)
 |_,_=>.bad
section
variable{T:Tb}{X:Cx}{o e:Ja}{es:List Ja}{f:Ev->M D}{fs:Ev->M (List D)}{name:qa}{apos cpos:Ye}{id:String}{r:V->List V->Hp->VK->Prop}{g:D->List D->M D}
theorem h9:Rt X "dict.setdefault" GR:=by
 intro j s K H x M v L Q I G E h;obtain⟨a,b,k,d,rfl,rfl,i,J,o,p⟩:=h;cases G;obtain⟨u,r,rfl,D,l⟩:=E.two;obtain⟨z,hd,m,rel,g⟩:=FJ I.Rb i;have C:m.length<=sizeLine:=by rw[<-rel.length];exact z
 have f:(Kl b k d).length<=sizeLine:=by have:=VE b k d;omega
 refine Oo zm g.typeIs PySem.F.entry_dict_setdefault (PySem.F.args_dict_setdefault_3 _ _ _) (kt_meets_setdefault (ni X.prog X.w) a (gx D) hd r) ⟨m,g,C,λw B=>?_,λhn n c A=>?_⟩
 ·have q:=rel.val k;rw[B]at q;cases e:Hm b k with
  |none=>rw[e]at q;exact absurd q (by simp[gp])
  |some x=>rw[e]at q;exact⟨x,H,I.tok _,q,o x e⟩
 ·have q:=rel.val k;rw[hn]at q;cases e:Hm b k with
  |some x=>rw[e]at q;exact absurd q (by simp[gp])
  |none=>
   have t:∃ q,n.get? a=some q:=let ⟨q,_,_,y,_⟩:=c;⟨q,y⟩;exact⟨d,_,qF I (by rw[i];exact True.intro) A t (fF f hd (rel.put k l) c),l,p e⟩
theorem qS{p:Addr}{kvs:List (Key × V)}{b:List (Addr × Obj)}{σ:St}{H:Hp}{s:Shared}(I:Inv X b σ H s)(d:Rd H p (.dK kvs)):s.TypeIs (.ref p) "dict"/\∀ a,Ua p=.ref a->∃ ob,s.heap.get? a=some ob/\ob.dict=none:=by
 obtain⟨_,_,_,_,o,_,_,e,ex,_⟩:=Ku I.Rb d;refine⟨⟨o,e,ex.1⟩,λa c=>?_⟩;cases c;exact⟨o,e,ex.2.1⟩
noncomputable def E9(r:V->List V->Hp->VK->Prop)(to:TE):TE:=λd H Q=>to d H λx c=>(∃ a b,x=.ref a/\Rd c a (.dK b))/\r x [] c Q
noncomputable def cY(r:V->List V->Hp->VK->Prop)(to:TE)(t:TA):TE:=λd H Q=>to d H λx c=>(∃ a b,x=.ref a/\Rd c a (.dK b))/\t d c λxs e=>r x xs e Q
theorem eR{to:TE}(n:Zn "dict")(slot:QL "dict" name id)(e:Xs (.builtin id)=pure (.type "method_descriptor"))(hm:Rt X id r)(l:PE X o to)
  (c:Ae o name X.env (Nb o X.env)=Nb o X.env:=by rfl) (d:(apos.endLine == cpos.line)=true:=by rfl):PE X (.Call (.Attribute o name apos) [] [] cpos) (E9 r to):=by
 intro b s g H Q I h;refine wpAny_Call_method0_late c d (ge (l b s g H _ I h) λv s1 ⟨x,H1,f,p,ty,q1⟩=>?_);obtain⟨a,m,rfl,k⟩:=ty;cases p;obtain⟨i,j⟩:=qS f k;exact⟨"dict",id,n,slot,e,i,j,Zi rfl (PySem.evalArgs_none (hm b s1 g H1 (.ref a) [] (.ref a) [] Q f rfl .nil q1))⟩
theorem D4{to:TE}{t:TA}(B:Zn "dict")(slot:QL "dict" name id)(i:Xs (.builtin id)=pure (.type "method_descriptor"))(hm:Rt X id r)(y:PE X o to)(u:PA X (e::es) t)
  (d:Ae o name X.env (Nb o X.env)=Nb o X.env:=by rfl)
  (g:((lc cpos (pa (e::es) X.env)).all (λx=>!x.1) && (Jj cpos (bh [] X.env)).all (λx=>x.1.isSome)
   && decide ((e::es).length+([]:List ck).length+(if ([]:List ck).isEmpty then 0 else 1)<30))=true:=by rfl)
  (f:(apos.endLine == cpos.line)=true:=by rfl) (z:pa (e::es) X.env=(false,Nb e X.env)::pa es X.env:=by rfl) (c:(lc cpos (pa es X.env)).any (·.1)=false:=by rfl) :
  PE X (.Call (.Attribute o name apos) (e::es) [] cpos) (cY r to t):=by
 intro b s j H Q I h;refine gw d g f rfl (ge (y b s j H _ I h) λv s1 ⟨x,H1,k,C,ty,q1⟩=>?_);obtain⟨a,A,rfl,w⟩:=ty;cases C;obtain⟨p,q⟩:=qS k w;refine⟨"dict",id,B,slot,i,p,q,?_⟩;have l:=u cpos b s1 j H1 _ k q1;rw[z]at l ⊢;refine Zi (by show (false || (lc cpos (pa es X.env)).any (·.1))=false;rw[c]<;>rfl) (Ej ?_);exact ge l λus s2 ⟨E,m,n,D,q2⟩=>hm b s2 j m (.ref a) E (.ref a) us Q n rfl D q2
theorem DM(L:Zn "dict")(slot:QL "dict" name id)(n:Xs (.builtin id)=pure (.type "method_descriptor"))(hm:Rt X id r)(K:HA T r g)(F:FE T X o f)(E:FA T X (e::es) fs)
  (c:Ae o name X.env (Nb o X.env)=Nb o X.env:=by rfl)
  (i:((lc cpos (pa (e::es) X.env)).all (λx=>!x.1) && (Jj cpos (bh [] X.env)).all (λx=>x.1.isSome)
   && decide ((e::es).length+([]:List ck).length+(if ([]:List ck).isEmpty then 0 else 1)<30))=true:=by rfl)
  (d:(apos.endLine == cpos.line)=true:=by rfl) (m:pa (e::es) X.env=(false,Nb e X.env)::pa es X.env:=by rfl) (b:(lc cpos (pa es X.env)).any (·.1)=false:=by rfl) :
  FE T X (.Call (.Attribute o name apos) (e::es) [] cpos) (kA g f fs):=by
 intro j s N H Q I h;refine D4 L slot n hm F E c i d m b j s N H Q I ?_;obtain⟨R,y,S,u,J,G⟩:=h;refine⟨R,y,S,u,J,G.bind λx k p v U _ B w p1 q1=>?_⟩;unfold pA at q1;cases l:ej k x with
 |none=>rw[l]at q1;exact q1.elim
 |some xs=>
  rw[l]at q1;obtain⟨a,O,rfl,D,V⟩:=aA w p1 l;refine⟨⟨a,O,rfl,D⟩,p,y,k,u.mono B,w,q1.bind λA t q P z _ C M p2 q2=>?_⟩;exact K _ q z t x A (.ref a) P Q M (Rep.mono C _ _ p1) p2 q2
theorem zl1:HA T GR YC:=by
 intro E B H F x xs v G Q r p q h;cases x with
 |ref n=>
  match xs with
  |[]=>exact h.elim
  |[_]=>exact h.elim
  |[y,d]=>
   rw[Wa]at q;obtain⟨w,z,rfl,q1,q2⟩:=q;rw[Wa]at q2;obtain⟨w2,g,rfl,q3,q4⟩:=q2;rw[Wa]at q4;subst q4;unfold YC at h;cases m:Pk y with
   |none=>simp only[m]at h;exact h.elim
   |some k=>
    simp only[m]at h;cases b:F[n]? with
    |none=>simp only[b]at h;exact h.elim
    |some ob=>
     cases ob with
     |Ya f=>
      simp only[b]at h;by_cases s:f.length<li
      ·rw[ia s]at h;obtain⟨a,rfl,hn,l,u,g2⟩:=r.at p b;obtain rfl:=Dx q1 m;have i:l.length=f.length:=by unfold yh at g2;exact(Paired.length g2).symm
       refine⟨a,l,k,w2,rfl,rfl,u,by rw[i];exact pT s,λv e=>?_,λe=>?_⟩
       ·rcases sD g2 k with⟨j,g⟩|⟨C,D,j,g,A⟩
        ·rw[g]at e;cases e
        ·rw[g]at e;cases e;rw[j]at h;exact Ib.here h r A
       ·rcases sD g2 k with⟨j,g⟩|⟨C,D,j,g,A⟩
        ·rw[j]at h;have t:=r.write (o:=.dK (Kl l k w2)) (ob:=.Ya (Fm f k d)) hn ⟨_,kh,by
          have ex:Ext B H B (upd H a (.dK (Kl l k w2))):=Mu (Ga hn) u (λ_ z=>by cases z) (λ_ _ z=>by cases z);exact OJ (yh.mono ex g2) k (Rep.mono ex _ _ q3)⟩
         exact h _ _ _ t.1 t.2 (Rep.mono t.1 _ _ q3)
        ·rw[g]at e;cases e
      ·rw[ja s]at h;exact h.elim
     |lst I=>simp only[b]at h;exact h.elim
     |ins c fs=>simp only[b]at h;exact h.elim
     |Kc _=>simp only[b]at h;exact h.elim
     |eg _=>simp only[b]at h;exact h.elim
  |_::_::_::_=>exact h.elim
 |_=>exact h.elim
end
open Classical in
section
variable{T:Tb}{X:Cx}
end
section
variable{T:Tb}{X:Cx}
end
section
variable{T:Tb}{X:Cx}{tg iter:Ja}{f:Ev->M D}
end
section
variable{T:Tb}{X:Cx}{o e:Ja}{es:List Ja}{f:Ev->M D}{fs:Ev->M (List D)}{name:qa}{apos cpos:Ye}{id:String}{r:V->List V->Hp->VK->Prop}{g:D->List D->M D}
end
noncomputable def HH:Ev->M D:=λ_ _=>.bad
noncomputable def Zl:Ev->M Fl:=λ_ _=>.bad
theorem GP{T:Tb}{X:Cx}{e:Ja}:FE T X e HH:=λpins s st H Q I ⟨b,c,σ,_,_,a⟩=>a.elim
theorem NZ{T:Tb}{X:Cx}{e:Stmt}:FS T X e Zl:=λpins s st H D I ⟨b,c,σ,_,_,a⟩=>a.elim
section
variable{X:Cx}{pins:List (Addr × Obj)}{σ:St}{H:Hp}{s:Shared}{h':Heap}
theorem DD{H:Hp}{a b:Addr}{u:HO}(e:H b=some u)(n:H a=none):b≠a:=λz=>by rw[z,n]at e;cases e
theorem _root_.L2.Inv.oy{t':Nat}{its:List Addr}{p:Addr}{o:HO}(I:Inv X pins σ H s)(k:∀ b u,b ∉ its->s.heap.get? b=some u->h'.get? b=some u)(f:∀ b∈its,fu X pins H b)(h:s.heap.objs.size<=p)(g:Xi X.prog X.w (upd H p o) h' p o) :
  Inv X pins σ (upd H p o) { s with heap:=h',toks:=t' }:=by
 have hn:H p=none:=I.Rb.fresh h;have d:∀ b u,H b=some u->b ∉ its:=λb u e z=>by rw[(f b z).1]at e;cases e
 refine I.step (g':=s.gens) (d':=s.drawn) (ch:=its) (λb hb=>?_) (λb o _ _ a e _=>k b o a e) (λb o _ _ a e _=>⟨o.slots,k b o a e⟩) (λb u _ q n=>by rw[qe (va (Ea (ua q) h))];exact n)
  (λb o a e=>⟨o,k b o a e⟩) (λb xs q=>by rw[qe (DD q hn)];exact q) (λb u xs q=>by rw[qe (DD q hn)];exact q) (λb D q=>⟨#[],by rw[qe (DD q hn),q];simp⟩) (λm hm=>?_) (λb u e=>?_) I.bare
 ·obtain⟨B,l,C,t,x,y⟩:=f b hb;exact⟨t,l,x,y⟩
 ·obtain⟨o,j,i,A,r⟩:=hm;exact⟨o,j,i,k _ o (λz=>(f _ z).2.1 rfl) A,r⟩
 ·by_cases hb:b=p
  ·subst hb;rw[kh]at e;cases e;exact g
  ·rw[qe hb]at e;refine(I.Rb b u e).jm (λc v a q=>k c v ?_ q) (λc q=>by rw[qe (DD q hn)];exact q) λc xs q=>by rw[qe (DD q hn)];exact q
   rcases a with z|z
   ·rw[z];exact d b u e
   ·exact d c _ z
theorem _root_.L2.Inv.iy{t':Nat}{its:List Addr}(I:Inv X pins σ H s)(k:∀ b u,b ∉ its->s.heap.get? b=some u->h'.get? b=some u)(f:∀ b∈its,fu X pins H b):Inv X pins σ H { s with heap:=h',toks:=t' }:=by
 have d:∀ b u,H b=some u->b ∉ its:=λb u e z=>by rw[(f b z).1]at e;cases e
 refine I.step (g':=s.gens) (d':=s.drawn) (ch:=its) (λb hb=>?_) (λb o _ _ a e _=>k b o a e) (λb o _ _ a e _=>⟨o.slots,k b o a e⟩) (λb u _ q n=>n)
  (λb o a e=>⟨o,k b o a e⟩) (λb xs q=>q) (λb u xs q=>q) (λb y q=>⟨#[],by rw[q];simp⟩) (λm hm=>?_) (λb u e=>?_) I.bare
 ·obtain⟨w,i,x,j,l,p⟩:=f b hb;exact⟨j,i,l,p⟩
 ·obtain⟨o,h,g,t,r⟩:=hm;exact⟨o,h,g,k _ o (λz=>(f _ z).2.1 rfl) t,r⟩
 ·refine(I.Rb b u e).jm (λc v a q=>k c v ?_ q) (λ_ q=>q) λ_ _ q=>q;rcases a with z|z
  ·rw[z];exact d b u e
  ·exact d c _ z
end
theorem JH{h:Heap}{a b:Addr}{o i:Obj}{n g:String}(e:h.get? a=some o)(f:h.get? b=some i)(c:o.cls=.type n)(d:i.cls=.type g)(hn:n≠g):a≠b:=λz=>by
 subst z;rw[e]at f;cases f;rw[c]at d;injection d with q;exact hn q
noncomputable def FN(K:W.Frag)(l:Addr):It:=
 ⟨λi H=>∃ xs x,bg K H l xs/\xs[i]?=some x,λi H v a=>∃ p x,H p=none/\v=.ref p/\(∀ xs,bg K H l xs->xs[i]?=some x)/\a=upd H p (.tup [.int i,x]),λi H=>∃ xs,bg K H l xs/\i=xs.length⟩
theorem e7{P:ra}{w:Ka}{K:PySem.W.Frag}{n:List Ja}{kk:Nat}{J:Ye}(l e it:Addr):Turn P w K (.Tuple n kk J) (FN K l) [e,it] e (λi h=>(∃ a,IsEnum h e it i a)/\h.IsListIter it l i) where
 mem:=by simp
 obj:=λi h m b hb=>by
  obtain⟨⟨a,f⟩,o,j,c,d⟩:=m;simp only[Ha,ie,Vm]at hb;rcases hb with rfl|rfl
  ·exact⟨_,f,λv z=>by cases z⟩
  ·exact⟨o,j,λv z=>by rw[d]at z;cases z⟩
 keep:=λi h M m k=>by
  obtain⟨⟨a,f⟩,j⟩:=m;exact⟨⟨a,k e (by simp) _ f⟩,j.at λo q=>k it (by simp) o q⟩
 item:=by
  intro X U hw S Y i G s σ H E I N m Z;subst U hw S;obtain⟨xs,x,O,hx⟩:=Z;obtain⟨g,rv,p,hz⟩:=I.list O;obtain⟨u,hu,ru⟩:=rv.get hx;obtain⟨⟨a,f⟩,j⟩:=m;obtain⟨oa,ea,ca,_⟩:=id p.isList;obtain⟨ob,L,cb,_⟩:=id j;have a1:l≠e:=JH ea f ca rfl (by decide);have a2:l≠it:=JH ea L ca cb (by decide);have a0:e≠it:=JH f L rfl cb (by decide);have W:=WalksT.enumerate (prog:=X.prog) (w:=X.w) (A:=X.A) (I.ok.hd Y) e it l a0 a1 a2 g.toArray;have hi:i<g.toArray.size:=by
   have:=(ma.mp hu).1;simpa using this
  refine W.item i s _ E hi ⟨⟨a,f⟩,j,p.isList⟩ λT a3 M tk V hT C r hk=>?_;obtain⟨t,y,R,rfl⟩:=V;have ey:y=u:=by
   have:g.toArray[i]?=some u:=by simpa using hu
   rw[this]at R;cases R;rfl
  subst ey;refine⟨.ref T,rfl,W.go n kk J i T { s with heap:=M,toks:=tk } _ E r λh2 hS F=>?_⟩;have D:=W.apart i T M r;have B:h2.IsTuple T #[.int i t,y]:=by
   obtain⟨o,e1,c1⟩:=C;exact⟨o,F T o D e1,c1⟩
  have hn:H T=none:=I.Rb.fresh hT;refine⟨.ref T,upd H T (.tup [.int i,x]),I.oy (o:=.tup [.int i,x]) (λb o hb q=>F b o hb (hk b o hb q)) N hT ?_,rfl,⟨T,x,hn,rfl,λys R=>by rw[I.gr R O];exact hx,rfl⟩,⟨hS.1,hS.2.1⟩,λb hb=>?_⟩
  ·exact⟨(show (2:Nat)<=sizeLine by decide),[.int i t,y],.cons ⟨t,rfl⟩ (.cons ru .nil),B⟩
  ·rw[qe (λz=>D (by rw[<-z];exact hb))];exact(N b hb).1
 done:=by
  intro X U hw S Y i G s σ H E I N m Z;subst U hw S;obtain⟨xs,O,hx⟩:=Z;obtain⟨g,rv,p,hz⟩:=I.list O;obtain⟨⟨a,f⟩,j⟩:=m;have hl:=rv.length;exact wpAny_pyNext_enum_end (I.ok.hd Y) f j p.isList (by simp;omega) λM L=>⟨rfl,I.iy (t':=s.toks) (λb o hb q=>L b o (λz=>hb (by simp[z])) q) N⟩
 self:=λA i s Q E m h=>by
  obtain⟨⟨a,f⟩,j⟩:=m;exact OB f h
noncomputable abbrev NX:=Nat->db->Option (Option D)
noncomputable def Xq(T:Tb)(c:List Addr)(f:Hp)(nx:NX)(J:It):Prop:=∀ a H e i,Ext c f a H->Rel T a H e->match nx i e with
 |none=>True
 |some none=>J.stop i H
 |some (some d)=>J.go i H/\∀ x b,J.hB i H x b->Ext a H a b/\Rel T a b e/\Rep T a b d x
noncomputable def TZ(T:Tb)(X:Cx)(f:Ev->M NX):TI:=λb H R=>∃ a c d,Zh T a H c b/\Rel T a H d/\Ib T (XE X b) (Xq T) a H (f c d) R
noncomputable abbrev Py(T:Tb)(X:Cx)(tg a:Ja)(f:Ev->M NX):Prop:=PI X tg a (TZ T X f)
noncomputable def bp(nx:NX)(tg:D->Ev->Option Ev)(body:Ev->M Fl):Nat->Nat->Ev->M Fl
 |0,_,_=>bad
 |k+1,i,c=>λb=>match nx i b with
  |none=>.bad
  |some none=>.ok (.nx c) b
  |some (some d)=>match tg d c with
   |none=>.bad
   |some a=>qd (body a) (tw (bp nx tg body k (i+1))) b
noncomputable def BB(tg:D->Ev->Option Ev)(body:Ev->M Fl)(ρ:Ev)(nx:NX):M Fl:=bp nx tg body 1001 0 ρ
noncomputable def fr(src:Ev->M NX)(tg:D->Ev->Option Ev)(body:Ev->M Fl):Ev->M Fl:=λa=>xs a (src a) (BB tg body a)
section
variable{T:Tb}{X:Cx}{tgt iter:Ja}{body:List Stmt}{src:Ev->M NX}{t:D->Ev->Option Ev}{g:Ev->M Fl}{pos:Ye}
theorem Xw(N:uq (model X.prog X.w) X.A X.env X.xe)(hc:X.calm=true)(hi:Py T X tgt iter src)(hg:FG T X tgt t)(hb:Hq T X body g)
  (hs:∀ x,ph iter X.env x=pure x:=by intro _;rfl):FS T X (.For tgt iter body [] pos) (fr src t g):=by
 intro u s st H D I hq;refine oP N hc hi hg hb hs u s st H D I ?_;obtain⟨a,c,p,G,hr,N⟩:=hq;refine⟨a,c,p,G,hr,N.xs G λnx B b J E _ Y r1 q1 p1=>?_⟩;have P:Ib T EN (Jl T) b E (bp nx t g 1001 0 c B) (wk X D):=p1;refine⟨λi m k q=>∃ a c p,Ext b E a q/\Zh T a q c k/\Rel T a q p/\Ib T EN (Jl T) a q (bp nx t g m i c p) (wk X D),⟨1001,b,c,B,Ext.refl _ _,G.mono Y,r1,P⟩,?_⟩;rintro i m k q ⟨n,v,e,ex,r,U,p2⟩;cases m with
 |zero=>exact p2.elim
 |succ m=>
  unfold bp at p2;have C:=q1 n q e i ex U;cases F:nx i e with
  |none=>simp only[F]at p2;exact p2.elim
  |some o=>
   cases o with
   |none=>
    simp only[F]at p2 C;exact .inl ⟨C,Ib.here (g:=Rm.nx k) p2 U r⟩
   |some d=>
    simp only[F]at p2 C;obtain⟨M,hy⟩:=C;refine .inr ⟨M,λl f=>∃ a c p,Ext b E a f/\Zh T a f c l/\Rel T a f p/\Ib T EN (Jl T) a f (bp nx t g m (i+1) c p) (wk X D),λl f h=>⟨m,Gb _,h⟩,λx f y=>?_⟩;obtain⟨j,V,hx⟩:=hy x f y;cases O:t d v with
    |none=>simp only[O]at p2;exact p2.elim
    |some z=>
     simp only[O]at p2;exact⟨n,e,v,d,z,r.mono j,V,hx,O,λl K=>⟨n,z,e,K,V,(Ib.mono j p2).bind λfl S Q gl H4 _ Z W q4 p4=>lJ W q4 p4 λR a0 L p5=>⟨Q,R,S,(ex.trans j).trans Z,L,W,p5⟩⟩⟩
end
noncomputable def tu(a:D):NX:=λi b=>match Oi b a with
 |some xs=>(match xs[i]? with
  |some x=>some (some (.tup [.int (i:Int),x]))
  |none=>if i=xs.length then some none else none)
 |none=>none
noncomputable def Xy(d:D):M NX:=λa=>match Oi a d with
 |some _=>.ok (tu d) a
 |none=>.bad
noncomputable def cC(f:Ev->M D):Ev->M NX:=λa=>qd (f a) Xy
section
variable{T:Tb}{X:Cx}{elts:List Ja}{kk:Nat}{p0 p pos:Ye}{f g:Ev->M D}
theorem B8:bootBuiltins "enumerate" = some (.type "enumerate"):=by decide +kernel
noncomputable def C1(K:W.Frag)(b:TA):TI:=λd H R=>b d H λc a=>∃ l xs,c=[.ref l]/\bg K a l xs/\R (FN K l) a
theorem n3{a:Ja}{i:TA}(n:Gl X "enumerate")(hm:X.mg "enumerate" = none)(m:PA X [a] i)(t:pa [a] X.env=[(false,Nb a X.env)]:=by rfl):PI X (.Tuple elts kk p0) (.Call (.Name "enumerate" p) [a] [] pos) (C1 X.K i):=by
 intro d s x H R I h;refine Call_ (kB I n hm B8 (Zg (ge (m pos d s x H _ I h) λus s1 ⟨C,H1,f,v,q1⟩=>?_) t rfl));obtain⟨l,xs,e,o,q⟩:=q1;subst e;cases v with
 |cons r w=>
  cases w;cases r;obtain⟨u,B,pl,A⟩:=f.list o;refine call_enumerate_list pl.isList λz g j y k=>OB g ?_;refine⟨s1.heap.objs.size+1,[s1.heap.objs.size+1,s1.heap.objs.size],_,_,H1,rfl,f.kept (t':=s1.toks) k,e7 l _ _,⟨⟨_,g⟩,j⟩,λb hb=>?_,q⟩;have c:s1.heap.objs.size<=b:=by simp at hb;rcases hb with rfl|rfl<;>omega
  exact f.Hs c (f.Rb.fresh c)
theorem ZK{e:Ja}(L:Gl X "enumerate")(hm:X.mg "enumerate" = none)(h:FE T X e f)(u:pa [e] X.env=[(false,Nb e X.env)]:=by rfl):Py T X (.Tuple elts kk p0) (.Call (.Name "enumerate" p) [e] [] pos) (cC f):=by
 intro j s Q H R I O;refine n3 L hm (Iv h Yw u) u j s Q H R I ?_;obtain⟨U,Y,Z,J,N,M⟩:=O;refine⟨U,Y,Z,J,N,M.bind λd o V v H1 _ e1 A q1 p1=>?_⟩;unfold Xy at p1;cases k:Oi o d with
 |none=>rw[k]at p1;exact p1.elim
 |some ds=>
  rw[k]at p1;obtain⟨l,S,rfl,F,h2⟩:=A.ls q1 k;refine⟨l,S,rfl,bg.of F,Ib.here (R:=Xq T) p1 A λW C r i ex B=>?_⟩;unfold tu;cases m:Oi r d with
  |none=>trivial
  |some xs=>
   obtain⟨l',ws,D,G,t⟩:=B.ls (Rep.mono ex _ _ q1) m;cases D;have b:bg X.K C l ws:=bg.of G;dsimp only;cases E:xs[i]? with
   |none=>
    dsimp only;by_cases n:i=xs.length
    ·rw[ia n];exact⟨ws,b,by rw[n];exact t.length⟩
    ·rw[ja n];trivial
   |some d'=>
    obtain⟨x,w,P⟩:=t.get E;refine⟨⟨ws,x,b,w⟩,λz H' y=>?_⟩;obtain⟨q,x',a,rfl,c,rfl⟩:=y;have g:=c ws b;rw[w]at g;cases g;refine⟨Om a,B.fresh a,?_⟩;rw[Rep];exact⟨q,_,rfl,kh,Wa.cons (by rw[Rep]) (Wa.cons (Rep.mono (Om a) _ _ P) Wa.nil)⟩
end
open PySem.Builtin.Str (occurrences partsBetween subAt)
end L4
namespace L4
open PySem PySem.Spec PyProof.Rows L2
section
variable{T:Tb}{X:Cx}{a b c:Ja}{fa fb fc:Ev->M D}{pos:Ye}
end
noncomputable def VN(ρ:Ev)(c:Nat)(f:qa)(x:D)(a:Int)(y:D):M Fl:=λd=>match y with
 | .int b=>(match x with
  | .ref n=>(match d[n]? with
   |some (.ins e fs)=>if (e == c && decide (fs.length<1000))=true then .ok (.nx ρ) (d.set n (.ins c (lj f (.int (a+b)) fs)))else .bad
   |_=>.bad)
  |_=>.bad)
 |_=>.bad
noncomputable def ZG(ρ:Ev)(cs:List Nat)(f:qa)(d:Ev->M D)(x:D):M Fl:=λb=>match Km b x with
 |some (c,fs)=>if cs.contains c=true then (match fs.lookup f with
  |some (.int a)=>xs ρ (d ρ) (VN ρ c f x a) b
  |_=>.bad)else .bad
 |none=>.bad
noncomputable def IJ(cs:List Nat)(f:qa)(c b:Ev->M D):Ev->M Fl:=λa=>xs a (b a) (ZG a cs f c)
section
variable{T:Tb}{X:Cx}
theorem o4{o b:Ja}{f:qa}{U S:Ev->M D}{J v:Ye}{cs:List Nat}(hK:T.K=X.K)(hc:Lj T cs f)(ho:FE T X o S)(hv:FE T X b U):FS T X (.AugAssign (.Attribute o f v) .Add b J) (IJ cs f U S):=by
 intro u s st H D I hq;refine L1 ho hv W4 u s st H D I ?_;obtain⟨μ,ρ,σ,r,hr,hp⟩:=hq;refine⟨μ,ρ,σ,r,hr,hp.xs r λx B O vo H1 _ E Y q1 p1=>?_⟩;unfold ZG at p1;cases F:Km B x with
 |none=>rw[F]at p1;exact p1.elim
 |some p=>
  obtain⟨c,fs⟩:=p;rw[F]at p1;dsimp only at p1;by_cases h:cs.contains c=true
  ·rw[ia h]at p1;obtain⟨a,dx,vs,rfl,h1,h2⟩:=ZA Y q1 F;cases G:fs.lookup f with
   |none=>rw[G]at p1;exact p1.elim
   |some y=>
    rw[G]at p1;cases y with
    |int i=>
     obtain⟨w,h3,h4⟩:=(jB h2).1 _ G;obtain⟨V,W⟩:=hc c h;rw[hK]at V W;refine⟨a,_,dx,vs,w,rfl,h1,V,W,h3,O,ρ,B,r.mono E,Y,p1.xs (r.mono E) λz P A vz Q _ R Z q2 p2=>?_⟩;unfold VN at p2;cases z with
     |int j=>
      refine⟨i,j,Cq h4,Cq q2,?_⟩;have L:=Rep.mono R _ _ q1;cases x with
      |ref n=>
       dsimp only at p2;cases g:P[n]? with
       |none=>rw[g]at p2;exact p2.elim
       |some ob=>
        rw[g]at p2;cases ob with
        |lst _=>exact p2.elim
        |Ya _=>exact p2.elim
        |Kc _=>exact p2.elim
        |eg _=>exact p2.elim
        |ins C l=>
         dsimp only at p2;by_cases e:(C == c && decide (l.length<1000))=true
         ·rw[ia e]at p2;rw[Fa,Lb,Eg]at e;obtain⟨t,hl⟩:=e;subst t;obtain⟨a',ea,hn,d,k,m,q⟩:=Z.at L g;cases ea;have ex:Ext A Q A (upd Q a (.ins (T.ca C) d (wn f (.int (i+j)) k))):=Mu (Ga hn) m (λ_ z=>by cases z) (λ_ _ z=>by cases z);have N:=Z.write (o:=.ins (T.ca C) d (wn f (.int (i+j)) k)) (ob:=.ins C (lj f (.int (i+j)) l)) hn ⟨d,_,kh,zJ (by rw[Rep]) (Ut.mono ex q)⟩;exact⟨d,k,m,by rw[<-q.length];exact hl,p2 _ (.nx st) _ N.1 N.2 ((r.mono E).mono R |>.mono N.1)⟩
         ·rw[ja e]at p2;exact p2.elim
      |_=>exact p2.elim
     |_=>exact p2.elim
    |_=>exact p1.elim
  ·rw[ja h]at p1;exact p1.elim
noncomputable def mv(y x:D):M D:=λb=>match Pk y with
 |some k=>(match ej b x with
  |some a=>.ok (.bl (!(Cu a k).isSome)) b
  |none=>.bad)
 |none=>.bad
noncomputable def OS:R2:=λy x H Q=>∃ a o,x=.ref a/\Yi H a y o/\Q (.bl (!o.isSome)) H
theorem iL(f:X.A.units+9<cLine):Gi X (dc .NotIn) OS:=by
 intro b s k H y x i u Q I e d h;obtain⟨a,o,rfl,g,q⟩:=h;obtain rfl:u=Ua a:=d;exact g8 (by omega) I g e λj c=>⟨.bl (!o.isSome),H,c,rfl,q⟩
theorem cJ:Nk T OS mv:=by
 intro E o H m y x u v Q r q p h;unfold mv at h;cases c:Pk y with
 |none=>rw[c]at h;exact h.elim
 |some k=>
  rw[c]at h;dsimp only at h;cases b:ej m x with
  |none=>rw[b]at h;exact h.elim
  |some j=>
   rw[b]at h;obtain⟨a,l,rfl,g,i⟩:=aA r p b;obtain rfl:=Dx q c;refine⟨a,Hm l k,rfl,Yi.kr g,Ib.here h r ?_⟩;rw[Rep];rcases sD i k with⟨e,f⟩|⟨d,w,e,f,n⟩
   ·rw[e,f];rfl
   ·rw[e,f];rfl
noncomputable def Fs(T:Tb)(P:ra)(w:Ka)(mg:qa->Option Value)(base:Heap)(k:Nat)(f:Addr)(ps:List qa)(b:List Value)(fn:List D->M D):Prop:=
 ∃ a,Yr T.K a ps []/\Yr T.K a ps b/\Oh P w T.K mg base (Mm P w) k f a ps (pp T ps.length fn)
structure br(K:W.Frag)(C:Addr)(x qual:qa)(st:Stmt)(ps:List qa)(dv:List Value)(f:Addr):Prop where
 ex:∃ fd,(∃ (oc:Value) (od:Option Addr) (dV kV doc pm:Value) (an:Option Addr) (cdv ct:Value) (osl:Array (Option Value)),
  fd=W.fnOf x qual (km st) (oj st) (vc st) dV kV doc pm an cdv ct/\K.lookup f=some ⟨oc,od,.func fd,osl⟩/\W.codeIn K cdv qual=true)/\Yr K fd ps []/\Yr K fd ps dv
end
section
variable{P:ra}{w:Ka}{K:W.Frag}{mg:qa->Option Value}{base:Heap}{ca:Nat->Addr}{tx:Tx}
theorem BK{k:Nat}{C f:Addr}{x qual:qa}{b:Stmt}{ps N:List qa}{d:List Value}{g:Ev->M Fl}(h:br K C x qual b ps d f)(S:xa N ps (vc b))
  (hb:∀ (a:Value) (A:Ia) (outer:List wh) (s:Shared) (H:Hp) (E:XK),Me k (A.deeper (Ih qual (vc b) s.heap.objs.size f a))->Hq ⟨K,ca,tx⟩ (Kr (Mm P w) P w K mg base N qual (vc b) f a A outer s H E) (oj b) g) :
  Fs ⟨K,ca,tx⟩ P w mg base (k+1) f ps d (run N.length g):=by
 obtain⟨p,⟨q,r,o,kV,j,t,n,a,ct,m,rfl,l,c⟩,e,i⟩:=h.ex;exact⟨_,e,i,TC l c S (hb a)⟩
theorem Fs.hide{T:Tb}{k:Nat}{f:Addr}{ps:List qa}{a:List Value}{fn:List D->M D}(h:Fs T P w mg base k f ps a fn):Fs T P w mg base k f ps a (L4.hide fn):=by rw[Ul];exact h
theorem Fs.Za{T:Tb}{k:Nat}{f:Addr}{ps:List qa}{a:List Value}{fn:List D->M D}(h:Fs T P w mg base k f ps a fn):Fs T P w mg base k f ps a (λb=>L4.Za (fn b)):=by
 obtain⟨c,d,e,g⟩:=h;exact⟨c,d,e,DF g⟩
theorem tK{C f t:Addr}{x qual:qa}{e:Stmt}{ps:List qa}{i:List Value}{v q:Value}{od g r:Option Addr}{j u:Array (Option Value)}{kV b h a ct:Value}{p:Nat}
  (hb:∀ (t:Addr) (kV b h:Value) (g:Option Addr) (a ct:Value) (s:Shared) (o:Obj) (n:Nat) (us:List Value),s.heap.get? t=some o->o.data=.seq i.toArray n->((us++[]).length=ps.length->uf s (W.fnOf x qual (km e) (oj e) (vc e) (.ref t) kV b h g a ct) ⟨us,[]⟩ (ps.zip (us++[])))/\
   ((us++i).length=ps.length->uf s (W.fnOf x qual (km e) (oj e) (vc e) (.ref t) kV b h g a ct) ⟨us,[]⟩ (ps.zip (us++i))))
  (l:K.lookup f=some ⟨v,od,.func (W.fnOf x qual (km e) (oj e) (vc e) (.ref t) kV b h g a ct),j⟩)
  (c:W.codeIn K a qual=true) (d:K.lookup t=some ⟨q,r,.seq i.toArray p,u⟩):br K C x qual e ps i f:=
 ⟨⟨_,⟨v,od,_,kV,b,h,g,a,ct,j,rfl,l,c⟩,λs us k m=>(hb t kV b h g a ct s _ p us (k _ _ d) rfl).1 m,λs us k m=>(hb t kV b h g a ct s _ p us (k _ _ d) rfl).2 m⟩⟩
end
section
variable{T:Tb}{X:Cx}
theorem QV{pl:zp Bool}{k c:Nat}{fn:List D->M D}{ps:List qa}{dv:List Value}{m:qa}{o e:Ja}{es:List Ja}{f:Ev->M D}{fs:Ev->M (List D)}{b g:Ye}{fa:Addr}(hK:T.K=X.K)(he:FE T X o f)(hC:il T.K (T.ca c))(J:Je T.K (T.ca c) m fa)
  (h:Fs T X.prog X.w X.mg X.base k fa ps dv fn) (hr:Me k X.A) (ha:FA T X (e::es) fs)
  (P:pa (e::es) X.env=(false,Nb e X.env)::pa es X.env:=by rfl) (N:(lc b (pa es X.env)).any (·.1)=false:=by rfl)
  (ht:Nb (.Call (.Attribute o m g) (e::es) [] b) X.env=(do
   let ov <-Nb o X.env
   hj g.atName
   let (f,first) <-Ie [ov] (Ml ov m pl)
   ay b f first (lc b (pa (e::es) X.env)) (Jj b (bh [] X.env))):=by rfl) :
  FE T X (.Call (.Attribute o m g) (e::es) [] b) (Od [(c,fn)] ps.length m f fs):=by
 intro i s C H Q I hq;obtain⟨μ,ρ,σ,hE,O,hp⟩:=hq;have G:=hE;refine Pj (pl:=pl) (ge (he i s C H (λx j=>∃ a t vs,x=.ref a/\j a=some (.ins (T.ca c) t vs)/\vs.lookup m=none/\tL T X fs C j λus E=>pp T ps.length fn (x::(us++[])) E Q (XE X C)) I ⟨μ,ρ,σ,hE,O,hp.bind λd p R v j _ e1 r1 q1 p1=>?_⟩) λu s1 ⟨x,j,V,rx,a,t,vs,ex,ea,l,q⟩=>?_) ht
 ·unfold eo at p1;cases F:Km p d with
  |none=>rw[F]at p1;exact p1.elim
  |some z=>
   obtain⟨Z,gs⟩:=z;rw[F]at p1;dsimp only at p1;by_cases n:c=Z
   ·subst n;have B:bu [(c,fn)] c=some fn:=by unfold bu;rw[ia (gk c)]
    cases l:gs.lookup m with
    |some y=>rw[B,l]at p1;exact p1.elim
    |none=>
     rw[B,l]at p1;dsimp only at p1;obtain⟨a,t,vs,rfl,h1,h2⟩:=ZA r1 q1 F;refine⟨a,t,vs,rfl,h1,(jB h2).2 l,R,ρ,p,G.mono e1,r1,p1.bind λds U S us E _ e2 r2 q2 p2=>?_⟩;unfold Kj at p2;by_cases L:ds.length+1=ps.length
     ·rw[ia L]at p2;exact⟨S,U,d::ds,Wa.cons (Rep.mono e2 _ _ q1) (by rw[zf];exact q2),by rw[Ma];exact L,r2,p2⟩
     ·rw[ja L]at p2;exact p2.elim
   ·have B:bu [(c,fn)] Z=none:=by unfold bu;rw[ja (by simpa using n)];rfl
    rw[B]at p1;exact p1.elim
 ·subst ex;obtain rfl:u=Ua a:=rx;obtain⟨fd,hb,_,hF⟩:=h;rw[hK]at hC J hF hb;refine sK V ea hC J l ?_;refine di (first:=[.ref a]) (h₀:=X.base) I.ok.mod.qx J.kp (ge (ha b i s1 C j _ V q) λus s2 ⟨vs,E,Y,r,q2⟩=>⟨Y.Cj,?_⟩) P N;exact FC (us:=.ref a::us) (vs:=.ref a::vs) hF hr hb .nil Y (.cons rfl r) q2
end
section
variable{T:Tb}{X:Cx}
end
noncomputable def Tv(ix:List Nat)(ρ:Ev):Ev:=none::none::ix.map λi=>(ρ[i]?).getD none
noncomputable def Uz(ix:List Nat)(a:St):St:=none::none::ix.map λi=>(a[i]?).getD none
theorem P8{T:Tb}{μ:List Addr}{H:Hp}{ρ:Ev}{a:St}(ix:List Nat)(h:Zh T μ H ρ a):Zh T μ H (Tv ix ρ) (Uz ix a):=by
 have q:=tW ix h;refine⟨by simp[Tv,Uz],λi d e=>?_⟩;cases i with
 |zero=>simp[Tv]at e
 |succ j=>exact q.2 j d e
section
variable{X:Cx}{pins:List (Addr × Obj)}{st:St}{H:Hp}{s:Shared}{x z0:qa}{M':List qa}{ix:List Nat}{scope:Scope}{fp:List Addr}
theorem pZ(I:Inv X pins st H s)(L:Xr X x M' ix scope)(g:∀ b∈fp,fu X pins H b/\b<s.heap.objs.size){h':Heap}{t':Nat}{m:qa->Option Value}(K:h'.Ns s.heap.objs.size m)
  (D:∀ b o,s.heap.get? b=some o->h'.get? b=some o) :
  Inv (Su X (x::z0::M') scope (Dq X.env scope.names []) s.heap.objs.size s H fp) [] (Uz ix st) H { s with heap:=h',toks:=t' }:=by
 have sub:∀ n c,(Dq X.env scope.names []).lookup n=some c->X.env.cells.lookup n=some c:=λn c e=>yQ X.env scope.names [] n c (λ_ _ q=>by simp at q) e;have B:∀ n c,X.env.cells.lookup n=some c->c<s.heap.objs.size:=λn c e=>by obtain⟨v,z⟩:=I.cell n c e;exact z.lt
 have fresh:H s.heap.objs.size=none:=I.Rb.fresh (na _);refine⟨⟨I.ok.mod,L.kind,I.ok.glob,I.ok.blt,na _,λa b c r d=>I.ok.inj a b c (sub a c r) (sub b c d),λa Y=>?_,λa c h=>(by cases h),I.ok.hd,I.ok.frames,.inl rfl,λb hb=>⟨va (g b hb).2,λa c e=>?_⟩,λb o e=>I.bs b o e,yb I.ok.au I.sz,λb o e hb=>?_,λb hb z=>?_,I.stack,I.Nm⟩,
  rfl,I.bare,Un.kept D,⟨m,K,λi y v T E e3=>?_⟩,λa c e=>?_,fresh,λa c e=>I.Kg a c (sub a c e),λp hp=>absurd (show p∈([]:List (Addr × Obj))from hp) (by simp),I.Rb.kept D,?_⟩
 ·
  have G:(scope.names.map λ(n,k)=>if (k == jb && X.env.scope.kind == .function && X.env.kindOf n == some .cell)then (n,wc)else (n,k)).lookup a=some .cell\/(scope.names.map λ(n,k)=>if (k == jb && X.env.scope.kind == .function && X.env.kindOf n == some .cell)then (n,wc)else (n,k)).lookup a=some .free:=Y;have Q:scope.names.lookup a=some .free:=by
   rcases G with z|z
   ·obtain⟨k0,r,d⟩:=NH z;rcases d with d|⟨d,_⟩
    ·subst d;exact absurd rfl (GK L _ (nC r))
    ·rw[d]at r;exact r
   ·obtain⟨k0,r,d⟩:=NH z;rcases d with d|⟨_,d⟩
    ·rw[<-d]at r;exact r
    ·cases d
  exact ZJ X.env scope.names [] a (nC Q) (nG I L _ (nC Q) rfl)
 ·exact(g b hb).1.2.2.2.2.1 a c (sub a c e)
 ·rcases(g b hb).1.2.2.2.1 with z|z
  ·exact I.ok.tr b o e z
  ·exact absurd (Ea (ua e) (yb I.ok.au z)) (Te _)
 ·rcases Ha.mp (I.Ms b z)with q|q
  ·exact(g b hb).1.2.1 q
  ·exact(g b hb).1.2.2.1 q
 ·
  cases i with
  |zero=>simp[Uz]at E
  |succ i=>
  cases i with
  |zero=>simp[Uz]at E
  |succ j=>
   have t:M'[j]?=some y:=T;have f:(ix.map λi=>(st[i]?).getD none)[j]?=some (some v):=E;rw[eb]at f;cases F:ix[j]? with
   |none=>rw[F]at f;cases f
   |some A=>
    rw[F]at f;have C:(st[A]?).getD none=some v:=ub f;have U:st[A]?=some (some v):=by
     cases q:st[A]? with
     |none=>rw[q]at C;cases C
     |some o=>rw[q]at C;exact Wf some C
    have V:X.N[A]?=some y:=by
     have z:=Wf (λl=>l[j]?) L.at_;simp only[eb,F,t,vh]at z;exact ub z
    have q:=pc.mp L.PJ y (Ga t);simp only[Fa,zg]at q;have R:X.env.scope.names.lookup y=some .cell\/X.env.scope.names.lookup y=some .free:=by
     rcases q.1 with z|z
     ·exact .inl (eq_of_beq z)
     ·exact .inr (eq_of_beq z)
    have O:scope.names.lookup y=some .free:=eq_of_beq q.2;obtain⟨m0,Z,J⟩:=I.loc;obtain⟨u,ru,lu⟩:=J A y v V U (by rcases R with z|z;exact .inr (.inl z);exact .inr (.inr z));refine⟨u,ru,.inr ⟨qR (env:=X.env) O,?_⟩⟩;rcases lu with⟨z,_⟩|⟨_,c,W,zc⟩
    ·rcases R with k|k
     ·rw[show X.env.kindOf y=X.env.scope.names.lookup y from rfl,k]at z;cases z
     ·rw[show X.env.kindOf y=X.env.scope.names.lookup y from rfl,k]at z;cases z
    ·obtain⟨S,w⟩:=ZJ X.env scope.names [] y (nC O) (nG I L _ (nC O) rfl);have P:=sub y S w;rw[W]at P;cases P;obtain⟨o,M,hd⟩:=zc;exact⟨c,w,o,D _ _ M,hd⟩
 ·obtain⟨v,o,M,hd⟩:=I.cell a c (sub a c e);exact⟨v,o,D _ _ M,hd⟩
 ·simp[Uz,Su];have z:=Wf List.length L.at_;simpa using z
end
section
variable{T:Tb}{X:Cx}
end
noncomputable def tp(l:List Int):List Int:=l.mergeSort λa b=>decide (a<=b)
theorem Ay(l:List Int):(tp l).Perm l:=List.mergeSort_perm l _
theorem xG(l:List Int):(tp l).Pairwise (·<=·):=by
 have:=List.pairwise_mergeSort (le:=λa b:Int=>decide (a<=b)) (λa b c d e=>by simp at *;omega) (λa b=>by simp;omega) l;exact this.imp λh=>by simpa using h
theorem VD:∀ {l m:List Int},l.Perm m->l.Pairwise (·<=·)->m.Pairwise (·<=·)->l=m
 |[],m,h,_,_=>by rw[List.nil_perm]at h;exact h.symm
 |a::l,[],h,_,_=>by have:=h.length_eq;simp at this
 |a::l,b::m,h,c,d=>by
  rw[List.pairwise_cons]at c d;have f:a∈b::m:=h.subset Aa;have hb:b∈a::l:=h.symm.subset Aa;have e:a=b:=by
   rcases Ha.mp f with e|f
   ·exact e
   ·rcases Ha.mp hb with e|hb
    ·exact e.symm
    ·have:=c.1 b hb;have:=d.1 a f;omega
  subst e;rw[VD (zaE h) c.2 d.2]
noncomputable def KJ(K:W.Frag):List V->Hp->VK->Prop:=λxs H Q=>∃ (p:Addr) (is:List Int),xs=[.ref p]/\bg K H p (is.map V.int)/\is.length<64/\∀ l,H l=none->Q (.ref l) (upd H l (.lst ((tp is).map V.int)))
section
variable{T:Tb}{X:Cx}
theorem DV:Qm X (.builtin "sorted") (KJ X.K):=by
 intro f s y H xs x Q I r h;obtain⟨p,is,rfl,o,b,q⟩:=h;obtain⟨u,rfl,t⟩:=Ot r;cases t;obtain⟨c,g,pl,v⟩:=I.list o;have a:=g.length;rw[pb]at a;refine sorted_ints pl.isList (xH g) (by omega) λout d i j k=>?_;obtain⟨e,m⟩:=sortedAll_at s.heap c out;have l:d=tp is:=VD (j.trans (Ay is).symm) k (xG is);subst l;have n:=(Ay is).length_eq;exact⟨.ref (s.heap.objs.size+1),_,I.laid (t':=s.toks) (λ_ _=>sortedAll_old) (ak _) (show Xi X.prog X.w _ _ _ (.lst ((tp is).map V.int))from⟨by rw[pb,n];exact yb (pd b) (by decide),out.toList,e,pC i,by rw[Fj];exact m⟩),rfl,q _ (I.Rb.fresh (ak _))⟩
noncomputable def JJ(xs:List D):M D:=λa=>match xs with
 |[x]=>(match Oi a x with
  |some b=>(match nu b with
   |some is=>if is.length<64 then XA ((tp is).map D.int) a else .bad
   |none=>.bad)
  |none=>.bad)
 |_=>.bad
theorem RI{μ:List Addr}{H:Hp}:∀ a:List Int,Wa T μ H (a.map D.int) (a.map V.int)
 |[]=>Wa.nil
 |i::a=>Wa.cons (by rw[Rep]) (RI a)
theorem B1(k:T.K=X.K):Ct T (KJ X.K) JJ:=by
 intro E o H j xs n Q r p h
 match xs with
 |[]=>exact h.elim
 |[x]=>
  rw[Wa]at p;obtain⟨v,w,rfl,p1,p2⟩:=p;rw[Wa]at p2;subst p2;unfold JJ at h;cases e:Oi j x with
  |none=>simp only[e]at h;exact h.elim
  |some i=>
   simp only[e]at h;cases a:nu i with
   |none=>simp only[a]at h;exact h.elim
   |some is=>
    simp only[a]at h;by_cases c:is.length<64
    ·rw[ia c]at h;obtain⟨b,m,rfl,d,f⟩:=r.ls p1 e;obtain rfl:=DC f a;exact⟨b,is,rfl,bg.of d,c,λl g=>vD h r (RI _) g⟩
    ·rw[ja c]at h;exact h.elim
 |_::_::_=>exact h.elim
noncomputable def Vv(kvs more:List (Key × V)):List (Key × V):=more.foldl (λa b=>Kl a b.1 b.2) kvs
noncomputable def Rp(kvs more:List (Key × D)):List (Key × D):=more.foldl (λa b=>Fm a b.1 b.2) kvs
theorem y2:∀ {more:List (Key × V)} {b:List (Key × Value)} {kvs:List (Key × V)} {vs:List (Key × Value)},KV more b->KV kvs vs->KV (Vv kvs more) (merged vs b):=by
 intro more;induction more with
 |nil=>intro b kvs vs a c;cases a;exact c
 |cons p more d=>
  intro b kvs vs a c;cases a with
  |cons q a=>
   obtain⟨q1,q2⟩:=q;have:=d a (c.put p.1 q2);rw[q1]at this;simpa [Vv,merged,q1]using this
theorem Gm:∀ (more kvs:List (Key × V)),(Vv kvs more).length<=kvs.length+more.length:=by
 intro more;induction more with
 |nil=>intro kvs;simp[Vv]
 |cons p more b=>
  intro kvs;have c:=b (Kl kvs p.1 p.2);have d:=VE kvs p.1 p.2;have a:Vv kvs (p::more)=Vv (Kl kvs p.1 p.2) more:=rfl;rw[a,Ma];omega
noncomputable def UN:V->List V->Hp->VK->Prop:=λx d H Q=>∃ a b c more,x=.ref a/\d=[.ref b]/\a≠b/\H a=some (.dK c)/\Rd H b (.dK more)/\c.length+more.length<=sizeLine/\Q .Jb (upd H a (.dK (Vv c more)))
theorem W9:Rt X "dict.update" UN:=by
 intro n s J H x L v K Q I C B h;obtain⟨a,b,e,more,rfl,rfl,j,m,i,G,q⟩:=h;cases C;obtain⟨u,rfl,A⟩:=Ot B;cases A;obtain⟨z,hd,o,rel,l⟩:=FJ I.Rb m;obtain⟨M,k,f,c,g⟩:=Ku I.Rb i;have D:e.length=o.length:=by unfold KV at rel;exact Paired.length rel
 have E:more.length=f.length:=by unfold KV at c;exact Paired.length c
 refine Oo Po l.typeIs PySem.F.entry_dict_update (PySem.F.args_dict_update_2 _ _) (meets_dict_update (ni X.prog X.w) a b j k) ⟨o,f,l,g,by omega,λp d _ y=>?_⟩;have r:∃ q,p.get? a=some q:=let ⟨q,_,_,t,_⟩:=d;⟨q,t⟩;have hm:=Gm more e;exact⟨.Jb,_,qF I (by rw[m];exact True.intro) y r (fF (by omega) hd (y2 c rel) d),rfl,q⟩
noncomputable def apart(n:Nat):D->Bool
 | .ref m=>!(m == n)
 |_=>true
noncomputable def Hv(x:D)(xs:List D):M D:=λb=>match x,xs with
 | .ref n,[y]=>(match b[n]? with
  |some (.Ya a)=>(match ej b y with
   |some more=>if (apart n y && decide (a.length+more.length<=li))=true then .ok .Jb (b.set n (.Ya (Rp a more)))else .bad
   |none=>.bad)
  |_=>.bad)
 |_,_=>.bad
theorem ycl{μ:List Addr}{H:Hp}:∀ {more:List (Key × D)} {us:List (Key × V)} {kvs:List (Key × D)} {vs:List (Key × V)},yh T μ H more us->yh T μ H kvs vs->yh T μ H (Rp kvs more) (Vv vs us):=by
 intro more;induction more with
 |nil=>intro us kvs vs a b;unfold yh at a;cases a;exact b
 |cons p more c=>
  intro us kvs vs a b;unfold yh at a;cases a with
  |cons q a=>
   have:=c a (OJ b p.1 q.2);rw[q.1]at this;simpa [Rp,Vv,q.1]using this
theorem zU:HA T UN Hv:=by
 intro E C H D x xs v L Q r p q h;cases x with
 |ref n=>
  match xs with
  |[]=>exact h.elim
  |[y]=>
   rw[Wa]at q;obtain⟨w,z,rfl,q1,q2⟩:=q;rw[Wa]at q2;subst q2;unfold Hv at h;cases d:D[n]? with
   |none=>simp only[d]at h;exact h.elim
   |some ob=>
    cases ob with
    |Ya f=>
     simp only[d]at h;cases i:ej D y with
     |none=>simp only[i]at h;exact h.elim
     |some more=>
      simp only[i]at h;by_cases g:(apart n y && decide (f.length+more.length<=li))=true
      ·rw[ia g]at h;simp only[Fa,Lb]at g;obtain⟨a,rfl,hn,j,u,g2⟩:=r.at p d;obtain⟨b,k,rfl,G,l⟩:=aA r q1 i;have I:j.length=f.length:=by unfold yh at g2;exact(Paired.length g2).symm
       have J:k.length=more.length:=by unfold yh at l;exact(Paired.length l).symm
       have s:a≠b:=by
        cases y with
        |ref m=>
         rw[Rep]at q1;obtain⟨F,e,hm⟩:=q1;cases e;intro e;subst e;have t:m=n:=HF r.nd hm hn;have:=g.1;simp[apart,t]at this
        |Ya K ds=>
         rw[Rep]at q1;obtain⟨F,A,e,hb,_⟩:=q1;cases e;intro e;subst e;exact hb (Ga hn)
        |_=>cases i
       refine⟨a,b,j,k,rfl,rfl,s,u,G,by rw[I,J];exact yb g.2 (by decide),?_⟩;have B:=r.write (o:=.dK (Vv j k)) (ob:=.Ya (Rp f more)) hn ⟨_,kh,by
        have ex:Ext C H C (upd H a (.dK (Vv j k))):=Mu (Ga hn) u (λ_ z=>by cases z) (λ_ _ z=>by cases z);exact ycl (yh.mono ex l) (yh.mono ex g2)⟩
       exact h _ _ _ B.1 B.2 (by rw[Rep])
      ·rw[ja g]at h;exact h.elim
    |lst M=>simp only[d]at h;exact h.elim
    |ins c fs=>simp only[d]at h;exact h.elim
    |Kc _=>simp only[d]at h;exact h.elim
    |eg _=>simp only[d]at h;exact h.elim
  |_::_::_=>exact h.elim
 |_=>exact h.elim
end
theorem RS:bootBuiltins "sorted" = some (.builtin "sorted"):=by decide +kernel
theorem cT:∀ {a:List Key} {vs:List Value},vs.length=a.length->(∀ (j:Nat) (v:Value) (k:Key),vs[j]?=some v->a[j]?=some k->Td (kV k) v)->re (a.map kV) vs
 |[],[],_,_=>.nil
 |[],_::_,h,_=>by simp at h
 |_::_,[],h,_=>by simp at h
 |k::a,v::vs,h,b=>.cons (b 0 v k rfl rfl) (cT (by simpa using h) λj v k c d=>b (j+1) v k c d)
theorem QW{P:ra}{w:Ka}{k:Key}{v:Value}(h:(ni P w).is k v=true):Td (kV k) v:=by
 rw[F1]at h;rcases Jv h with⟨i,t,rfl,rfl⟩|⟨x,t,rfl,rfl⟩
 ·exact⟨t,rfl⟩
 ·exact⟨t,rfl⟩
theorem gS:∀ {kvs:List (Key × V)} {ws:List (Key × Value)},KV kvs ws->ws.map (·.1)=kvs.map (·.1)
 |[],_,h=>by cases h;rfl
 |p::kvs,_,h=>by
  cases h with
  |cons q h=>simp only[Da];rw[gS h,q.1]
section
variable{T:Tb}{X:Cx}
noncomputable def GD:Key->D
 | .inl i=>.int i
 | .inr x=>.str x
end
end L4
namespace L4
open PySem PySem.Spec PySem.Calls PySem.W PyProof.Rows PyProof.V
theorem JZ{prog:ra}{w:Ka}{A:Ia}{E:Value->Shared->Prop}{s:Shared}{R:List Value->Shared->Prop}{u:String}{r d:Addr}{n:Nat}{P:Nat->Value->Prop}{t:Heap->Prop}
  (K:KdlSrc prog w u r d n P t) (v:A.handled=none) (Rb:t s.heap) (hn:n<=sizeLine)
  (m:∀ (h':Heap) (i:Nat) (a:Array Value),(∀ b o,s.heap.get? b=some o->h'.get? b=some o)->s.heap.objs.size<=h'.objs.size->Vo P a n->R a.toList { s with heap:=h',toks:=i }) :
  wpAny (model prog w) A (aC (.ref r)) R E s:=by
 have lt:=K.there _ Rb;let S:Addr:=s.heap.objs.size;let Z:vq->Shared->Prop:=λq p=>∃ (h':Heap) (i:Nat) (a:Array Value) (c:Nat),q=.ok (.ret (.ref S))/\p={ s with heap:=h',toks:=i }/\(∀ b o,s.heap.get? b=some o->h'.get? b=some o)/\
  h'.get? S=some { cls:=.type "list",dict:=none,data:=.seq a c,slots:=#[] }/\Vo P a n
 have h:∀ {h':Heap} {i c:Nat} {a:Array Value},(∀ b o,s.heap.get? b=some o->h'.get? b=some o)->h'.get? S=some { cls:=.type "list",dict:=none,data:=.seq a c,slots:=#[] }->Vo P a n->R a.toList { s with heap:=h',toks:=i }:=
  λkp g j=>m _ _ _ kp (pd (ua g)) j
 have k:(s.heap.push { cls:=.type "list",data:=.seq ([]:List Value).toArray }).get? S=some { cls:=.type "list",data:=.seq #[] }:=Ba _ rfl;have run:=kdl_extend (A:=A) (s:={ s with heap:=s.heap.push { cls:=.type "list",data:=.seq ([]:List Value).toArray } }) (R:=Z) K v (K.keep _ _ Rb λb _ o e=>ba _ e) S (wf lt.1) (wf lt.2) (.ref S) 0 k
  (λh' i a c kp g j=>⟨h',i,a,c,rfl,rfl,λb o e=>kp b o (va (ua e)) (ba _ e),g,j⟩) hn
 unfold aC;refine aa (Ts (Xe Wx ?_));rw[Qd Xm _];show wpAny _ A.in1 (newList [] >>= λl=>again (.builtin "list.__iadd__" ⟨[l,.ref r],[]⟩)) _ _ s;refine aa (Sb (da ⟨Mh vg _,Xe fE ?_⟩));rw[Qd vg _];show wpAny _ A.in1 (mf (.ref S) (.ref r) (.ref S)) _ _ _;refine rc run (λf p x=>?_) (λe p x=>by obtain⟨_,_,_,_,z,_⟩:=x;cases z);cases f with
 |done f=>
  obtain⟨h',i,a,c,e,rfl,kp,g,j⟩:=x;cases e;exact aa (Vn g (da (h kp g j)))
 |again B=>
  refine⟨x.1,yg x.2 λq C y=>?_⟩;obtain⟨h',i,a,c,rfl,rfl,kp,g,j⟩:=y;exact aa (Vn g (da (h kp g j)))
end L4
namespace L4
open PySem PySem.Spec PyProof.Rows L2
noncomputable def BJ:List V->Hp->VK->Prop:=λxs H Q=>∃ (a:Addr) (b:List (Key × V)) (is:List Int),xs=[.ref a]/\Rd H a (.dK b)/\b.map (·.1)=is.map Sum.inl/\is.length<64/\∀ l,H l=none->Q (.ref l) (upd H l (.lst ((tp is).map V.int)))
theorem kQ:∀ {a:List Int} {vs:List Value},re ((a.map (Sum.inl:Int->Key)).map kV) vs->zi vs a
 |[],_,h=>by cases h;exact .nil
 |i::a,_,h=>by
  cases h with
  |cons q h=>
   obtain⟨t,rfl⟩:=q;exact .cons i t (kQ h)
section
variable{T:Tb}{X:Cx}
theorem C0(U:X.calm=true):Qm X (.builtin "sorted") BJ:=by
 intro K s σ H xs us Q I r h;obtain⟨a,kvs,is,rfl,S,g,p,q⟩:=h;obtain⟨u,rfl,rx⟩:=Ot r;cases rx;obtain⟨z,hd,l,rel,O⟩:=Ku I.Rb S;obtain⟨ep,t⟩:=O.dictAt;have F:=gS rel;have a0:l.length=kvs.length:=by have:=Wf List.length F;simpa using this
 have Z:kvs.length=is.length:=by have:=Wf List.length g;simpa using this
 have hn:l.length<=sizeLine:=by omega
 refine vp kind_sorted plain_sorted entry_sorted (args_sorted1 _) ?_;unfold Yf.«sorted»;refine aa (m:=checkCount "sorted" 1 1 _) (da ?_);refine aa (JZ (A:=X.A.in1) (W.kdl_dict (knd:=ni X.prog X.w) (kvs:=l) (ep:=ep) hd) (I.ok.hd U) t hn λn tk c kp i d=>?_);have G:c.toList.length=l.length:=by rw[nb];exact d.1
 have J:re ((l.map (·.1)).map kV) c.toList:=cT (by rw[pb];exact G) λj v k P D=>by
  obtain⟨k',x,hx,y⟩:=d.2 j v (by rw[<-ve];exact P);rw[eb,hx]at D;cases D;exact QW y
 rw[F,g]at J;have T:=kQ J;refine aa (lU ?_ (by rw[G];exact hn));have f:(n.push (UL "list" c.toList.toArray 0)).get? n.objs.size=some (UL "list" c.toList.toArray 0):=Ba _ rfl;refine aa (Nc (cc HL ⟨_,f,rfl⟩ pH (IL f T (by omega) λout C L M N=>⟨_,rfl,?_⟩) (JL _)));refine da ⟨_,rfl,?_⟩;have R:C=tp is:=VD (M.trans (Ay is).symm) N (xG is);subst R;have B:=(Ay is).length_eq;obtain⟨e,Y⟩:=mU (out:=out) f;exact⟨.ref n.objs.size,_,I.laid (t':=tk) (λb o E=>by
  have lt:b<n.objs.size:=ua (kp b o E);rw[KL (va lt) (by rw[size_push'];exact Hb lt)];exact ba _ (kp b o E)) i (show Xi X.prog X.w _ _ _ (.lst ((tp is).map V.int))from⟨by rw[pb,B];exact yb (pd p) (by decide),out.toList,e,pC L,by rw[Fj];exact Y⟩),rfl,q _ (I.Rb.fresh i)⟩
noncomputable def Ix:List (Key × D)->Option (List Int)
 |[]=>some []
 |(.inl i,_)::r=>(Ix r).map (i::·)
 |_::_=>none
theorem jR{μ:List Addr}{H:Hp}:∀ {kvs:List (Key × D)} {us:List (Key × V)} {is:List Int},yh T μ H kvs us->Ix kvs=some is->us.map (·.1)=is.map Sum.inl
 |[],_,is,h,e=>by unfold yh at h;cases h;cases e;rfl
 |(k,d)::kvs,_,is,h,e=>by
  unfold yh at h;cases h with
  |cons q h=>
   cases k with
   |inr x=>cases e
   |inl i=>
    unfold Ix at e;cases a:Ix kvs with
    |none=>rw[a]at e;cases e
    |some b=>
     rw[a]at e;cases e;simp only[Da];rw[jR h a,<-q.1]
noncomputable def EG(xs:List D):M D:=λb=>match xs with
 |[x]=>(match ej b x with
  |some a=>(match Ix a with
   |some is=>if is.length<64 then XA ((tp is).map D.int) b else .bad
   |none=>.bad)
  |none=>.bad)
 |_=>.bad
theorem R5:Ct T BJ EG:=by
 intro E m H j xs k Q r p h
 match xs with
 |[]=>exact h.elim
 |[x]=>
  rw[Wa]at p;obtain⟨v,w,rfl,p1,p2⟩:=p;rw[Wa]at p2;subst p2;unfold EG at h;cases e:ej j x with
  |none=>simp only[e]at h;exact h.elim
  |some d=>
   simp only[e]at h;cases b:Ix d with
   |none=>simp only[b]at h;exact h.elim
   |some is=>
    simp only[b]at h;by_cases c:is.length<64
    ·rw[ia c]at h;obtain⟨a,i,rfl,f,g2⟩:=aA r p1 e;exact⟨a,i,is,rfl,f,jR g2 b,c,λl g=>vD h r (RI _) g⟩
    ·rw[ja c]at h;exact h.elim
 |_::_::_=>exact h.elim
noncomputable def bO(K:W.Frag):List V->Hp->VK->Prop:=λxs H Q=>KJ K xs H Q\/BJ xs H Q
theorem RX(d:X.calm=true):Qm X (.builtin "sorted") (bO X.K):=by
 intro a s c H xs b Q I r h;rcases h with h|h
 ·exact DV a s c H xs b Q I r h
 ·exact C0 d a s c H xs b Q I r h
noncomputable def qB(xs:List D):M D:=λa=>match xs with
 |[x]=>(match Oi a x with
  |some _=>JJ [x] a
  |none=>EG [x] a)
 |_=>.bad
theorem J4(d:T.K=X.K):Ct T (bO X.K) qB:=by
 intro E c H a xs b Q r p h
 match xs with
 |[]=>exact h.elim
 |[x]=>
  unfold qB at h;cases e:Oi a x with
  |some f=>simp only[e]at h;exact .inl (B1 d E c H a [x] b Q r p h)
  |none=>simp only[e]at h;exact .inr (R5 E c H a [x] b Q r p h)
 |_::_::_=>exact h.elim
end
section
variable{T:Tb}{X:Cx}
end
end L4
namespace L2
open PySem PySem.Spec PyProof.Rows
end L2
namespace L4
open PySem PySem.Spec PyProof.Rows L2
section
variable{T:Tb}{X:Cx}
inductive vK(T:Tb)(X:Cx):List (Option Ja)->List Ja->List Key->(Ev->M (List D))->Prop
 |nil:vK T X [] [] [] Na
 |cons {k v:Ja} {kk:Key} {f:Ev->M D} {ks:List (Option Ja)} {vs:List Ja} {kks:List Key} {fs:Ev->M (List D)} (hk:FE T X k (eC (GD kk))) (hv:FE T X v f) (r:vK T X ks vs kks fs):vK T X (some k::ks) (v::vs) (kk::kks) (za f fs)
end
section
variable{T:Tb}{X:Cx}{pins:List (Addr × Obj)}{st:St}{H:Hp}{s:Shared}
variable{N':List qa}{scope:Scope}{cl:List (qa × Addr)}{H3:Hp}{s3:Shared}{fp:List Addr}{xe:Value->Shared->Prop}
end
section
variable{T:Tb}{X:Cx}
end
section
variable{ρ:Ev}{σ:db}
end
end L4
namespace L4
open PySem PySem.Spec PyProof.Rows L2 Builtin Builtin.Str
section
variable{T:Tb}{X:Cx}{a b e o:Ja}{fa fb f:Ev->M D}{pos apos cpos:Ye}
end
section
variable{ρ:Ev}{σ:db}
end
end L4
namespace L4
open PySem PySem.Spec PyProof.Rows L2
section
variable{T:Tb}{X:Cx}
end
section
variable{ρ:Ev}{σ:db}
end
section
variable{prog:ra}{w:Ka}{A:Ia}{E:Value->Shared->Prop}{h:Heap}{g:Array So}{d:Zx}{t:Nat}{os:OsState}
variable{nm qn:qa}{C N:Addr}{bs bm bmB:List Value}{hdct:Bool}{sn:List qa}{sub:List Value}{ab:Bool}{col:Option Bool}{dd:Option Addr}{k0 k1 k2 k3 k5:Option Value}{B newId initId:String}
end
section
variable{T:Tb}{X:Cx}{pins:List (Addr × Obj)}{st:St}{H:Hp}{s:Shared}
end
section
variable{X:Cx}
end
section
variable{prog:ra}{w:Ka}{A:Ia}{E:Value->Shared->Prop}{h:Heap}{g:Array So}{d:Zx}{t:Nat}{os:OsState}{K:W.Frag}
variable{nm qn:qa}{C N x:Addr}{bs bm bmB:List Value}{sn:List qa}{sub:List Value}{ab:Bool}{col:Option Bool}{dd:Option Addr}{k0 k1 k2 k3 k5:Option Value}{B newId sa owner:String}{name:qa}{v:Value}{o:Obj}{vs:Array Value}
end
section
variable{X:Cx}
end
section
variable{P:ra}{w:Ka}{K:W.Frag}{mg:qa->Option Value}{base:Heap}
end
section
variable{M:jk}{A:Ia}{E:Value->Shared->Prop}{s:Shared}{env:wh}
variable{nm qn:qa}{C N:Addr}{bs bm:List Value}{hdct:Bool}{sn:List qa}{sub:List Value}{ab:Bool}{col:Option Bool}{dd:Option Addr}{k0 k1 k2 k3 k5:Option Value}{newId:String}
end
section
variable{T:Tb}{X:Cx}
end
end L4
namespace L4
open PySem PySem.Spec PySem.Calls PyProof.Rows PySem.Builtin PySem.Builtin.ObjectAttr L2
section
variable{prog:ra}{w:Ka}{A:Ia}{E:Value->Shared->Prop}{s:Shared}{K:W.Frag}{C ea dN:Addr}{hp:Heap}{n:Nat}{Mo:jk}
end
section
variable{T:Tb}{X:Cx}
end
section
variable{ρ:Ev}{σ:db}
end
end L4
namespace HT
open PySem Builtin
open Sem (wp)
end HT
namespace L4
open PySem PySem.Spec PyProof.Rows L2
end L4
namespace L4
open PySem
noncomputable def Oy(xs:Array Nat):Prop:=∀ i k:Nat,∀ a b:Nat,i<k->xs[i]?=some a->xs[k]?=some b->a<b
noncomputable def Cut(xs:Array Nat)(j p:Nat):Prop:=p<=xs.size/\(∀ i a:Nat,i<p->xs[i]?=some a->a<j)/\∀ i a:Nat,p<=i->xs[i]?=some a->j<=a
theorem zqz{xs:Array Nat}(p:Oy xs)(j:Nat):∀ (c b hi:Nat),hi - b<=c->b<=hi->hi<=xs.size->(∀ i a:Nat,i<b->xs[i]?=some a->a<j)->(∀ i a:Nat,hi<=i->xs[i]?=some a->j<=a)->Cut xs j (Wo xs j c b hi):=by
 intro c;induction c with
 |zero=>
  intro b hi t u h k l;have e:b=hi:=by omega
  subst e;exact⟨h,k,l⟩
 |succ f r=>
  intro b hi t u h k l;unfold Wo;by_cases o:b<hi
  ·rw[ia o];dsimp only;have hm:(b+hi) / 2<hi:=by omega
   have v:b<=(b+hi) / 2:=by omega
   have q:(b+hi) / 2<xs.size:=by omega
   have g:xs[(b+hi) / 2]?=some xs[(b+hi) / 2]:=zb q;have s:xs.getD ((b+hi) / 2) j=xs[(b+hi) / 2]:=by simp[Array.getD,q]
   rw[s];by_cases m:xs[(b+hi) / 2]<j
   ·rw[ia m];refine r _ _ (by omega) (by omega) h (λi a n d=>?_) l;by_cases e:i=(b+hi) / 2
    ·subst e;rw[g]at d;cases d;exact m
    ·have:=p i ((b+hi) / 2) a _ (by omega) d g;omega
   ·rw[ja m];refine r _ _ (by omega) (by omega) (by omega) k (λi a n d=>?_);by_cases e:i=(b+hi) / 2
    ·subst e;rw[g]at d;cases d;omega
    ·have:=p ((b+hi) / 2) i _ a (by omega) g d;omega
  ·rw[ja o];have e:b=hi:=by omega
   subst e;exact⟨h,k,l⟩
theorem uN{xs:Array Nat}(c:Oy xs)(j:Nat):Cut xs j (Re xs j):=by
 unfold Re;exact zqz c j _ _ _ (by omega) (by omega) (na _) (λi a h=>by omega) (λi a h b=>by
  have:=(Zc.mp b).1;omega)
theorem m3{xs:Array Nat}{j p q:Nat}(a:Cut xs j p)(b:Cut xs j q):p=q:=by
 rcases Cw p q with h|h|h
 ·have f:p<xs.size:=Ea h b.1;have e:xs[p]?=some xs[p]:=zb f;have c:=b.2.1 p _ h e;have d:=a.2.2 p _ (na _) e;omega
 ·exact h
 ·have g:q<xs.size:=Ea h a.1;have e:xs[q]?=some xs[q]:=zb g;have c:=a.2.1 q _ h e;have d:=b.2.2 q _ (na _) e;omega
theorem l9{xs:Array Nat}{p x:Nat}(e:p<=xs.size)(i:Nat):(nk xs p x)[i]?=if i<p then xs[i]? else if i=p then some x else xs[i - 1]?:=by
 unfold nk;have a:(xs.extract 0 p).size=p:=by simp;omega
 rw[Array.getElem?_append,Array.size_push,a];by_cases b:i<p
 ·rw[ia (by omega),ia b,Jt,ja (by rw[a];omega),Er];simp;omega
 ·rw[ja b];by_cases c:i=p
  ·subst c;rw[ia (by omega),ia rfl,Jt,ia (by rw[a])]
  ·rw[ja (by omega),ja c,Er];by_cases d:i - 1<xs.size
   ·rw[ia (by omega)];congr 1;omega
   ·rw[ja (by omega),Gr (by omega)]
theorem GX{xs:Array Nat}{p x:Nat}(m:Oy xs)(l:Cut xs x p)(hn:¬ xs[p]?=some x):Oy (nk xs p x):=by
 have r:∀ i a:Nat,p<=i->xs[i]?=some a->x<a:=λi a s c=>by
  have g:=l.2.2 i a s c;rcases Nat.lt_or_ge x a with h|h
  ·exact h
  ·have e:a=x:=by omega
   subst e;by_cases o:i=p
   ·subst o;exact absurd c hn
   ·have u:=(Zc.mp c).1;have t:p<xs.size:=by omega
    have q:xs[p]?=some xs[p]:=zb t;have:=m p i _ _ (by omega) q c;have:=l.2.2 p _ (na _) q;omega
 intro i k a b n c d;rw[l9 l.1]at c d;by_cases g:i<p
 ·rw[ia g]at c;by_cases j:k<p
  ·rw[ia j]at d;exact m i k a b n c d
  ·rw[ja j]at d;by_cases f:k=p
   ·rw[ia f]at d;cases d;exact l.2.1 i a g c
   ·rw[ja f]at d;exact m i (k - 1) a b (by omega) c d
 ·rw[ja g]at c;have j:¬ k<p:=by omega
  rw[ja j,ja (by omega)]at d;by_cases f:i=p
  ·rw[ia f]at c;cases c;exact r (k - 1) b (by omega) d
  ·rw[ja f]at c;exact m (i - 1) (k - 1) a b (by omega) c d
structure Ck(b:Bool)(t:se):Prop where
 led:t.led = !b
 fG:Oy t.place
 ZH:t.dummies=#[]
theorem zQ(j:Nat):Hw #[] j=false:=by
 unfold Hw;simp
theorem uW{b:Bool}{t:se}(h:Ck b t)(j:Nat):t.slot j=.empty/\¬ t.place[Re t.place j]?=some j\/∃ i,t.slot j=.live i:=by
 unfold SetTable.slot;dsimp only;by_cases e:(t.place[Re t.place j]? == some j)=true
 ·rw[ia e];exact .inr ⟨_,rfl⟩
 ·rw[ja e,h.ZH,zQ];exact .inl ⟨rfl,by simpa using e⟩
theorem T9{b:Bool}{t:se}(h:Ck b t)(d:Nat->Int)(k:Int):∀ (a:Nat) (p:SetTable.Probe) (m:SetTable.Met),p.dummy=none->rh t d k a p=some m->(∃ j,m=.empty j none/\¬ t.place[Re t.place j]?=some j)\/∃ j i nx,m=.candidate j i nx:=by
 intro a;induction a with
 |zero=>intro p m _ e;unfold rh at e;cases e
 |succ f l=>
  intro p m hd e;unfold rh at e;rcases uW h p.j with⟨c,hn⟩|⟨i,c⟩
  ·rw[c]at e;dsimp only at e;cases e;rw[hd];exact .inl ⟨_,rfl,hn⟩
  ·rw[c]at e;dsimp only at e;by_cases g:(d i == k)=true
   ·rw[ia g]at e;cases e;exact .inr ⟨_,_,_,rfl⟩
   ·rw[ja g]at e;refine l _ m ?_ e;unfold SetTable.advance;split
    ·exact hd
    ·exact hd
theorem f6{b:Bool}{t:se}(h:Ck b t){a:Int}{j:Nat}{f:Bool}(e:t.freeSlot a=some (j,f)):¬ t.place[Re t.place j]?=some j:=by
 unfold SetTable.freeSlot SetTable.probe at e;cases c:rh t (λ_=>a+1) a (10 * SetTable.turns t.mask) (t.probeStart a)with
 |none=>rw[c]at e;cases e
 |some m=>
  rw[c]at e;rcases T9 h _ _ _ _ m rfl c with⟨d,rfl,hn⟩|⟨d,i,nx,rfl⟩
  ·cases e;exact hn
  ·cases e
theorem Ck.put{b:Bool}{t:se}(h:Ck b t){j:Nat}(hn:¬ t.place[Re t.place j]?=some j):Ck b (t.put j).1:=by
 unfold SetTable.put;dsimp only;refine⟨h.led,GX h.fG (uN h.fG j) hn,?_⟩;rw[h.ZH,zQ];rfl
theorem Ck.plain{b p:Bool}{t:se}(h:Ck b t):Ck b { t with plain:=p }:=⟨h.led,h.fG,h.ZH⟩
theorem wZ(n:Nat):Oy (Array.range n):=by
 intro i k a c g b d;have e:=(Zc.mp b).1;have f:=(Zc.mp d).1;simp only[Array.size_range]at e f;simp[e]at b;simp[f]at d;omega
theorem Ck.dt{b:Bool}{t:se}(h:Ck b t)(n:Nat):Ck b (t.standIn n):=⟨h.led,wZ n,rfl⟩
theorem Ck.or{b:Bool}{t:se}(h:Ck b t)(n:Nat):Ck b (t.orStandIn n):=by
 unfold SetTable.orStandIn;split
 ·exact h
 ·exact h.dt n
theorem Ck.lay{b:Bool}{t:se}(h:Ck b t)(es:Array (Int × Value))(a:Int)(x:Value):Ck b (layNew t es a x).2.1:=by
 unfold layNew;cases e:t.freeSlot a with
 |none=>exact h.dt _
 |some q=>
  obtain⟨j,c⟩:=q;dsimp only;exact(h.put (f6 h e)).or _
theorem S1(m:Nat)(f:Nat->Option Nat):Oy ((((List.range m).filterMap λj=>(f j).map (j,·)).map (·.1)).toArray):=by
 have p:List.Pairwise (·<·) (((List.range m).filterMap λj=>(f j).map (j,·)).map (·.1)):=by
  have n:List.Pairwise (·<·) (List.range m):=List.pairwise_lt_range;have e:((List.range m).filterMap λj=>(f j).map (j,·)).map (·.1)=(List.range m).filter λj=>(f j).isSome:=by
   rw[List.map_filterMap];rw[<-List.filterMap_eq_filter];congr 1;funext j;cases o:f j<;>simp[Option.guard,o]
  rw[e];exact n.sublist List.filter_sublist
 intro i k a c b d g;rw[Df]at d g;obtain⟨q,h⟩:=ma.mp d;obtain⟨r,l⟩:=ma.mp g;rw[<-h,<-l];exact oq.mp p i k q r b
theorem Ck.JD{b:Bool}{t:se}(h:Ck b t)(es:Array (Int × Value))(a:Nat):Ck b (Xo t es a).2.1:=by
 unfold Xo;cases e:t.relaid (es.map (·.1)) a with
 |none=>exact h.dt _
 |some q=>
  obtain⟨g,d⟩:=q;dsimp only;split
  ·unfold SetTable.relaid SetTable.laid at e;cases c:SetTable.layClean (SetTable.sizeAbove a - 1) (es.map (·.1))with
   |none=>rw[c]at e;cases e
   |some f=>
    rw[c]at e;cases e;exact⟨h.led,S1 _ _,rfl⟩
  ·exact h.dt _
theorem Ck.fresh(b:Bool):Ck b (ev 0 0 (!b)):=⟨rfl,λi k a c _ d _=>by simp[ev]at d,rfl⟩
end L4
namespace L4
open PySem PySem.Spec PyProof.Rows
section
variable{prog:ra}{w:Ka}{K:Type}[DecidableEq K][BEq K][LawfulBEq K]{knd:KeyKind prog w K}{A:Ia}{E:Value->Shared->Prop}{s:Shared}{b:Bool}{a:Addr}{k:K}{x:Value}
noncomputable def Gs(knd:KeyKind prog w K)(b:Bool)(h:Heap)(a:Addr)(S:K->Bool)(n:Nat):Prop:=
 ∃ o c d t,h.get? a=some o/\o.ExactSet/\o.data=.set c d t/\Vr knd c.toList/\(∀ k,S k=true ↔ ∃ e∈c.toList,knd.is k e.2=true)/\c.size<scanBound/\t.fits c.size=true/\c.size=n/\Ck b t
theorem VP{h:Heap}{o:Obj}{es c:Array (Int × Value)}{ep:Nat}{t t':se}{S':K->Bool}(m:h.get? a=some o)(d:o.ExactSet)(n:o.data=.set es ep t)(f:Vr knd c.toList)
  (i:∀ k,S' k=true ↔ ∃ e∈c.toList,knd.is k e.2=true) (j:c.size<scanBound) (l:t'.fits c.size=true) (p:Ck b t') :
  (h.update a (mw c t')).get? a=some { o with data:=.set c (ep+1) t' }/\Gs knd b (h.update a (mw c t')) a S' c.size:=by
 obtain⟨g,_⟩:=SetOf_store (knd:=knd) m d n f i j l;exact⟨g,_,c,ep+1,t',g,d,rfl,f,i,j,l,rfl,p⟩
theorem dQ{g:Bool->zp Unit}(G:∀ (c:Bool) (C:Shared) (l:Unit->Shared->Prop),l () C->wpAny (model prog w) A (g c) l E C){o:Obj}{es d:Array (Int × Value)}{ep:Nat}{t f:se}{S':K->Bool}{H:Bool}{R:Option Bool->Shared->Prop}
  (p:s.heap.get? a=some o) (r:o.ExactSet) (u:o.data=.set es ep t) (v:Vr knd d.toList) (x:∀ j,S' j=true ↔ ∃ e∈d.toList,knd.is j e.2=true) (i:d.size<scanBound) (F:f.fits d.size=true) (B:Ck b f)
  (q:∀ h',Ic a s.heap h'->Gs knd b h' a S' d.size->R (some true) { s with heap:=h' }) :
  wpAny (model prog w) A (do
    storeSet a d f
    if (!H && f.tooFull)=true then do
      g (Xo f d (Ef d.size)).2.2
      storeSet a (Xo f d (Ef d.size)).1 (Xo f d (Ef d.size)).2.1
      pure (some true)
     else pure (some true)) R E s:=by
 refine aa (PB p u ?_ (nh i));obtain⟨n,D⟩:=VP (knd:=knd) p r u v x i F B;have h:=Oc s.heap a (mw d f);split
 ·have p1:=relayAll_perm f d (Ef d.size);have p2:=relayAll_fits f d (Ef d.size);have p3:=B.JD d (Ef d.size);generalize Xo f d (Ef d.size)=Z at p1 p2 p3 ⊢;obtain⟨k,J,I⟩:=Z;dsimp only at p1 p2 p3 ⊢;have z:k.size=d.size:=by rw[<-nb,p1.length_eq,nb]
  refine aa (G _ _ _ (aa (PB n rfl ?_ (nh (by rw[z];exact i)))));obtain⟨_,m⟩:=VP (knd:=knd) (S':=S') n r rfl (v.perm p1) (λj=>(x j).trans ⟨λ⟨e,he,y⟩=>⟨e,p1.mem_iff.mpr he,y⟩,λ⟨e,he,y⟩=>⟨e,p1.mem_iff.mp he,y⟩⟩) (by rw[z];exact i) p2 p3;rw[z]at m;exact da (q _ (h.trans (Oc _ a _)) m)
 ·exact da (q _ h D)
theorem yov{S:K->Bool}{n:Nat}{Q:Bool->Shared->Prop}(H:knd.is k x=true)(I:x.scannable=true)(V:Gs knd b s.heap a S n)(hn:n+1<scanBound)
  (q:∀ h',Ic a s.heap h'->Gs knd b h' a (λf=>S f || decide (f=k)) (if S k then n else n+1)->Q (!S k) { s with heap:=h' }):wpAny (model prog w) A (setAddHashed a x (knd.hash k)) Q E s:=by
 obtain⟨o,g,U,t,m,F,r,B,C,N,G,O,P⟩:=V;unfold setAddHashed setAddHashedIn;refine Nc (aa (Xf m r G ?_));dsimp only;rw[byScan_of I N B];simp only[↓reduceIte];unfold setAddByScan;refine aa (aa (Zj (aa (wpAny_setScan_of H m r G B ?_))));cases R:List.findIdx? (λe=>knd.is k e.2) g.toList with
 |some j=>
  dsimp only;obtain⟨X,Y,_⟩:=List.findIdx?_eq_some_iff_getElem.mp R;have u:S k=true:=(C k).mpr ⟨g.toList[j],Ym X,Y⟩;refine da (da ?_);have z:=q s.heap (qH a s.heap) ⟨o,g,U,t,m,F,r,B,λf=>by
   rw[zg,Lb,<-C f];exact⟨λy=>y.elim id λe=>e ▸ u,.inl⟩,N,G,by rw[u];exact O,P⟩
  rw[u]at z;obtain⟨hp,gg,dd,tk,os⟩:=s;exact z
 |none=>
  dsimp only;have u:S k=false:=by
   cases y:S k with
   |false=>rfl
   |true=>obtain⟨e,W,p⟩:=(C k).mp y;have:=List.findIdx?_eq_none_iff.mp R e W;rw[p]at this;cases this
  have D:∀ (c:Bool) {s1:Shared} {i:Unit->Shared->Prop},i () s1->wpAny (model prog w) A (match c with|true=>rule "set.scan.the-table-gave-way" | false=>pure ()) i E s1:=λc s1 i y=>by
   cases c
   ·exact da y
   ·exact Zj y
  have p1:=layNew_perm t g (knd.hash k) x;have p2:=layNew_fits t g (knd.hash k) x;have p3:=P.lay g (knd.hash k) x;generalize layNew t g (knd.hash k) x=Z at p1 p2 p3 ⊢;obtain⟨d,t1,wd,gv⟩:=Z;dsimp only at p1 p2 p3 ⊢;rw[Array.toList_push]at p1;have J:Vr knd d.toList:=(B.push H I).perm p1;have L:∀ f,(S f || decide (f=k))=true ↔ ∃ e∈d.toList,knd.is f e.2=true:=mem_push_iff H C p1;have T:d.size=n+1:=by rw[<-nb,p1.length_eq,Gd,nb,O];rfl
  have M:d.size<scanBound:=by omega
  have l:∀ h',Ic a s.heap h'->Gs knd b h' a (λf=>S f || decide (f=k)) d.size->Q true { s with heap:=h' }:=λh' v h=>by
   have:=q h' v;rw[u]at this;rw[T]at h;exact this h
  refine aa (D _ ?_);split
  ·refine aa ?_;rw[hashByValue_scannable 8 I];refine da (dQ (b:=b) ?_ m F r J L M ?_ ?_ ?_)
   ·exact λc s1 i y=>D c y
   ·split
    ·exact p2
    ·exact SetTable.fits_plain_off p2
   ·split
    ·exact p3
    ·exact p3.plain
   ·exact λh' v h=>da (l h' v h)
  ·refine aa (da ?_);simp only[↓reduceIte];refine dQ ?_ m F r J L M p2 p3 ?_
   ·exact λc s1 i y=>D c y
   ·exact λh' v h=>da (l h' v h)
end
noncomputable def bT(w:Ka):Bool:=w.params.followText "set-order"
section
variable{prog:ra}{w:Ka}{A:Ia}
theorem LY{b:Bool}{h:Heap}{a:Addr}{S S':Int->Bool}{n n':Nat}(d:Gs (Mf prog w) b h a S n)(e:∀ k,S k=S' k)(c:n=n'):Gs (Mf prog w) b h a S' n':=by
 obtain rfl:S=S':=funext e;subst c;exact d
theorem HK{b:Bool}{h h':Heap}{a:Addr}{S:Int->Bool}{n:Nat}(e:Gs (Mf prog w) b h a S n)(k:∀ o,h.get? a=some o->h'.get? a=some o):Gs (Mf prog w) b h' a S n:=by
 obtain⟨o,d,c,t,f,r⟩:=e;exact⟨o,d,c,t,k o f,r⟩
theorem F6{R:vq->Shared->Prop}{I:Addr}{r wr:List Addr}{G:Array So->Array So->Prop}{n:Nat}{P:Nat->Value->Prop}{St:Nat->Shared->Prop}{b:Bool}(W:WalksS prog w A.in1 I r wr G n P St)(a:Addr)(u:a ∉ r)(f:Nat->Int)(H:∀ i v,P i v->∃ t,v=.int (f i) t)(hn:n+1<scanBound) :
  ∀ (k i:Nat) (s:Shared),n - i=k->i<=n->St i s->Gs (Mf prog w) b s.heap a (λy=>(Ig f i).any (·== y)) (Ig f i).length->
   (∀ s',Moved (a::wr) G s s'->Gs (Mf prog w) b s'.heap a (λy=>(Ig f n).any (·== y)) (Ig f n).length->R (.ok (.ret .none)) s')->codeAny (model prog w) A (.builtin "set.update.loop" ⟨[.ref a,.ref I],[]⟩) R s:=by
 have p:a ∉ wr:=λz=>u (W.sub _ z);have sub:∀ c∈wr,c∈a::wr:=λc d=>ya _ d;intro k;induction k with
 |zero=>
  intro i s K J j g q;obtain rfl:i=n:=by omega
  refine Xe Kt ?_;rw[Qd nj _];show wpAny _ A.in1 (pyNext (.ref I) >>= _) _ _ s;refine aa (W.done s _ _ j λs' m=>?_);exact da (q s' (m.mono sub) (HK g λo e=>m.heap a _ p e))
 |succ k L=>
  intro i s K J j g q;have lt:i<n:=by omega
  refine Xe Kt ?_;rw[Qd nj _];show wpAny _ A.in1 (pyNext (.ref I) >>= _) _ _ s;refine aa (W.item i s _ _ lt j λv s' E l m=>?_);obtain⟨t,rfl⟩:=H i v E;have h:=HK (h':=s'.heap) g λo e=>m.heap a _ p e;show wpAny _ A.in1 (Ie [Sd (f i) t] (setAdd a (.int (f i) t)) >>= _) _ _ s';unfold setAdd;refine aa (Nc (Nc (aa ((Mf prog w).pyHash (k:=f i) (intKind_is _ _ _ _) ?_))));refine yov (knd:=Mf prog w) (s:={ s' with toks:=s'.toks+1 }) (intKind_is _ _ _ _) rfl h (by have:=AA f i;omega) λh' x B=>?_;have C:Gs (Mf prog w) b h' a (λy=>(Ig f (i+1)).any (·== y)) (Ig f (i+1)).length:=LY B (λy=>by rw[nU,step_any]) (by rw[nU,step_length]);refine da ⟨Mh nj _,L (i+1) _ (by omega) lt (W.frame _ s' _ _ l (ak _) λc d o e=>?_) C λN M D=>?_⟩
  ·rw[x.2 c (λz:c=a=>u (by rw[<-z];exact d))];exact e
  ·refine q N (Moved.trans W.gtrans ((m.mono sub).then_heap (ak _) λc o d e=>?_) M) D;rw[x.2 c (λz:c=a=>d (by rw[z];exact Aa))];exact e
variable{E:Value->Shared->Prop}{s:Shared}
theorem J1(x:Value){Q:Value->Shared->Prop}(q:Q (.ref s.heap.objs.size) { s with heap:=s.heap.push { cls:=.type "set",dict:=none,data:=.set #[] 0 (.fresh 0 0 (!bT w)) } }) :
  codeAny (model prog w) A (.call (.builtin "set.__new__") ⟨[.type "set",x],[]⟩) (wants Q E) s:=by
 refine rH ?_;show wpAny _ A.in1 (do checkBuiltinCall "set.__new__" ⟨[.type "set",x],[]⟩;again (.builtin "set.__new__" ⟨[.type "set",x],[]⟩)) _ _ s;refine aa (wpAny_of_eq (PySem.F.newCall_set_1 x) (da ⟨Mh Mq _,Xe PySem.F.entry_set_new ?_⟩));rw[Qd Mq _];unfold Yf.«set.__new__» cy;have sub:=sub_set_self;obtain⟨a,g,d,b,os⟩:=s;dsimp only
 wp_walk
 refine qq (da ?_);dsimp only;simp only[newObj];exact aa (wpAny_alloc (da (da q)))
end
section
variable{prog:ra}{w:Ka}{A:Ia}{E:Value->Shared->Prop}{s:Shared}
noncomputable abbrev Sw(w:Ka):Obj:={ cls:=.type "set",dict:=none,data:=.set #[] 0 (.fresh 0 0 (!bT w)) }
set_option maxHeartbeats 3200000 in
theorem oY{l:Addr}{items:Array Value}{ns:List Int}{Q:Value->Shared->Prop}(P:A.handled=none)(T:s.heap.IsList l items)(S:zi items.toList ns)(hb:items.size+1<scanBound)
  (q:∀ (h':Heap) (h:Nat),Gs (Mf prog w) (bT w) h' s.heap.objs.size (λy=>(Ig (λi=>ns.getD i 0) items.size).any (·== y)) (Ig (λi=>ns.getD i 0) items.size).length->
   (∀ b o,b<s.heap.objs.size->s.heap.get? b=some o->h'.get? b=some o)->Q (.ref s.heap.objs.size) { s with heap:=h',toks:=h }) :
  wpAny (model prog w) A (call (.type "set") [.ref l]) Q E s:=by
 obtain⟨c,tl,C⟩:=sd.mro;have f1:=sd.made;have f2:=sd.sub;refine yA (rH (show wpAny _ _ (callAny (.type "set") _) _ _ _ from da ⟨Code.quiet_builtin _ (by decide +kernel),Xe PySem.F.entry_type_call ?_⟩));rw[Around.under_plain (weight_type_call_type "set" [.ref l] []) rfl];have f3:=sd.notType;have f4:=sd.canCreate;have f5:=PySem.F.typeCall_set_1 (.ref l);repeat (any_goals (first|assumption|wp_step))
 refine yg (J1 (.ref l) (E:=E) (Q:=λH I=>H=.ref s.heap.objs.size/\I={ s with heap:=s.heap.push (Sw w) }) ⟨rfl,rfl⟩) λr I t=>?_;cases r with
 |error e=>exact t
 |ok L=>
  cases L with
  |ret H=>
   obtain⟨rfl,rfl⟩:=t;have B:(s.heap.push (Sw w)).get? s.heap.objs.size=some (Sw w):=Ba _ rfl;have tS:Bp { s with heap:=s.heap.push (Sw w) } (.ref s.heap.objs.size) "set":=⟨_,B,rfl⟩
   have i1:=sd.init.lookup;have i2:=sd.init.bind (.ref s.heap.objs.size);repeat (any_goals (first|assumption|wp_step))
   refine yg (codeAny_call_builtin (R:=wants (λr J=>r=.none/\∃ h' h,J={ s with heap:=h',toks:=h }/\Gs (Mf prog w) (bT w) h' s.heap.objs.size (λy=>(Ig (λi=>ns.getD i 0) items.size).any (·== y)) (Ig (λi=>ns.getD i 0) items.size).length/\
     (∀ b o,b<s.heap.objs.size->s.heap.get? b=some o->h'.get? b=some o)) E) sd.init.plain PySem.F.entry_set_init (check_set_init_1 tS ?_)) λZ J d=>?_
   ·obtain⟨⟨oc,X,Y,x⟩,gl,f,G,NC⟩:=T;simp only at f NC;subst f;subst NC;have m:(s.heap.push (Sw w)).get? l=some { cls:=.type "list",dict:=X,data:=.seq items G,slots:=x }:=ba _ gl;have g1:=PySem.F.sub_list_set;have g2:=PySem.F.sub_list_frozenset;have g3:(Dg "list" == Dg "dict")=false:=by decide
    have g:(s.heap.push (Sw w)).IsList l items:=⟨_,m,rfl,G,rfl⟩
    unfold Yf.«set.__init__» noKeywords fy;generalize n:pyIter=PI
    wp_walk
    subst n;refine No g (aa (Ts ?_));have D:l<s.heap.objs.size:=ua gl;have N:A.in1.in1.in1.handled=none:=by simp[P]
    have V:l≠(s.heap.push (Sw w)).objs.size:=by rw[Fc];exact va (Hb D)
    have W:s.heap.objs.size ∉ [(s.heap.push (Sw w)).objs.size,l]:=by
     rw[Fc];simp only[Ha,ie,Vm,not_or];exact⟨va (Gb _),wf D⟩
    refine F6 (b:=bT w) ((dE N _ l V items).toS) s.heap.objs.size W (λi=>ns.getD i 0) (λi v U=>IntsAre.int_at S i v (by rw[ve];exact U)) hb (items.size - 0) 0 _ (by omega) (Xj _) ⟨⟨_,Ba _ rfl,rfl,rfl⟩,(g.push _)⟩ ?S0 ?RR;case S0=>
     exact⟨Sw w,#[],0,_,ba _ B,⟨rfl,rfl,rfl⟩,rfl,λe O=>by simp at O,λk=>by simp[oU],by decide,by rfl,by simp[oU],Ck.fresh _⟩
    case RR=>
     intro s' hm a;obtain⟨h',M,K,z,u⟩:=s';obtain rfl:M=s.gens:=hm.gens;obtain rfl:K=s.drawn:=hm.drawn;obtain rfl:u=s.os:=hm.os;refine da (da ⟨rfl,h',z,rfl,a,λb o lt e=>?_⟩);refine hm.heap b o ?_ (ba _ (ba _ e));rw[Fc];simp only[Ha,ie,Vm,not_or];exact⟨va lt,va (Hb lt)⟩
   ·cases Z with
    |error e=>exact d
    |ok j=>
     cases j with
     |ret r=>
      obtain⟨rfl,h',h,rfl,a,p⟩:=d;repeat (any_goals (first|assumption|wp_step))
      exact q _ _ a p
     |_=>exact d
  |_=>exact t
end
theorem Dv:QL "set_iterator" "__next__" "set_iterator.__next__":=.of (owner:="set_iterator") (n:="__next__") (by rw[tH,Fw];kernel_rfl) (by decide +kernel) (by decide +kernel) (by decide +kernel) (.inl (by decide +kernel)) (by rw[Us];kernel_rfl)
theorem eH:VL table "set_iterator.__next__" = some Yf.«set_iterator.__next__»:=entryFor_of_tree (by kernel_rfl)
theorem uE(a:Value):WL "set_iterator.__next__" ⟨[a],[]⟩:=by unfold WL;kernel_rfl
theorem DX:VL table "set.__iter__" = some Yf.«frozenset.__iter__»:=LL (id':="frozenset.__iter__") (by kernel_rfl) (by first|rfl|decide +kernel) (by decide +kernel) (by kernel_rfl)
noncomputable def Yq(h:Heap)(a:Addr)(es:Array (Int × Value))(ep:Nat)(t:se):Prop:=∃ o,h.get? a=some o/\o.ExactSet/\o.data=.set es ep t
noncomputable def Jr(h:Heap)(I a:Addr)(first:Value)(i n ep:Nat):Prop:=∃ o,h.get? I=some o/\o.cls=.type "set_iterator"/\o.data=.fields #[first,rawInt i,.ref a,rawInt n,rawInt ep]
section
variable{prog:ra}{w:Ka}{A:Ia}{E:Value->Shared->Prop}{s:Shared}{I a:Addr}{es:Array (Int × Value)}{ep:Nat}{t:se}{i:Nat}
theorem Jr.ty{first:Value}{n:Nat}(h:Jr s.heap I a first i n ep):s.TypeIs (.ref I) "set_iterator":=let ⟨o,b,c,_⟩:=h;⟨o,b,c⟩
theorem d8{f:Nat}{Q:Option Value->Shared->Prop}{v:Value}{f':Nat}(c:Jr s.heap I a (rawInt f) i es.size ep)(j:Yq s.heap a es ep t)(l:t.fits es.size=true)(m:a≠I)
  (hn:∀ (A:Ia) (E:Value->Shared->Prop) (Q:Option (Value × Nat)->Shared->Prop),Q (some (v,f')) s->wpAny (model prog w) A (Yo a f i ep) Q E s)
  (q:∀ h',Jr h' I a (rawInt f') (i+1) es.size ep->Ic I s.heap h'->Q (some v) { s with heap:=h' }):wpAny (model prog w) A (pyNext (.ref I)) Q E s:=by
 obtain⟨o,d,k,hd⟩:=id c;obtain⟨n,h,p,g⟩:=id j;unfold pyNext;refine aa (Zm (be (name:=ag "__next__") c.ty Dv (cc Dv c.ty eH ?_ (uE _))));unfold Yf.«set_iterator.__next__»;refine aa (da ?_);refine aa (xl d hd ?_);dsimp only[rawInt];refine aa (Fg h g l ?_);rw[ja (by simp)];simp only[Xg];refine aa (hn _ _ _ ?_);dsimp only;refine aa (oh d hd (by simp) ?_);have e:=Cc (Ue (·.setIfInBounds 0 (Sd (f':Int) 0))) d (Kf (Xb hd _));have b:=Xb hd (·.setIfInBounds 0 (Sd (f':Int) 0));refine aa (oh e b (by simp) ?_);have g2:=Cc (Ue (·.setIfInBounds 1 (Sd ((i:Int)+1) 0))) e (Kf (Xb b _));refine da ⟨_,rfl,da (q _ ⟨_,g2,?_,?_⟩ ((Oc ..).trans (Oc ..)))⟩
 ·rw[Am,Am];exact k
 ·rw[Xb b];simp[rawInt]
theorem sM{Q:Option Value->Shared->Prop}{first:Value}{n:Nat}{g:Heap}(h:A.handled=none)(i:Ic I s.heap g)(q:∀ h',Nt I s.heap h'->Q none { s with heap:=h' }) :
  wpAny (model prog w) A.in1 (do let e <-newExc (.type "StopIteration") [];raiseNew e:zp PySem.Fin) (λd f=>∃ v,d=Fin.done (Flow.ret v)/\wpAny (model prog w) A (pure (some v)) Q E f)
   (λe f=>wpAny (model prog w) A (do let c <-EA e (Dg "StopIteration");if c=true then pure none else throw e) Q E f) { s with heap:=g }:=by
 refine aa ?_;simp only[newExc,newTuple];refine aa (Sb (aa (m:=YL _ _) (wpAny_of_eq (a:=La) (by first|rfl|(simp only[YL];rfl)) (Sb ?_ (by size_fits)))) (by size_fits));simp only[raiseNew];refine aa (wpAny_handled ?_);rw[show A.in1.handled=none from h];refine aa (da (wpAny_throw ?_));refine aa (Gj (T:="StopIteration") (b:=true) ⟨_,Ba _ rfl,rfl⟩ isSubtype_stop ?_);exact da (q _ ((i.extBut.push _).push _))
theorem zrv{f:Nat}{Q:Option Value->Shared->Prop}(j:A.handled=none)(b:Jr s.heap I a (rawInt f) i es.size ep)(g:Yq s.heap a es ep t)(h:t.fits es.size=true)
  (hn:∀ (A:Ia) (E:Value->Shared->Prop) (Q:Option (Value × Nat)->Shared->Prop),Q none s->wpAny (model prog w) A (Yo a f i ep) Q E s)
  (q:∀ h',Nt I s.heap h'->Q none { s with heap:=h' }):wpAny (model prog w) A (pyNext (.ref I)) Q E s:=by
 obtain⟨o,c,k,hd⟩:=id b;obtain⟨l,e,m,d⟩:=id g;unfold pyNext;refine aa (Zm (be (name:=ag "__next__") b.ty Dv (cc Dv b.ty eH ?_ (uE _))));unfold Yf.«set_iterator.__next__»;refine aa (da (aa (xl c hd ?_)));dsimp only[rawInt];refine aa (Fg e d h ?_);rw[ja (by simp)];simp only[Xg];refine aa (hn _ _ _ ?_);dsimp only;refine aa (oh c hd (by simp) ?_);exact sM (first:=.none) (n:=0) j (Oc ..) q
end
theorem PH{a:Type}:∀ (l:List a) (i:Nat) (h:i<l.length),(l[i]::l.eraseIdx i).Perm l
 |x::l,0,_=>.refl _
 |x::l,i+1,h=>by
  have:=PH l i (by simpa using h);simp only[List.getElem_cons_succ,List.eraseIdx_cons_succ];exact(List.Perm.swap _ _ _).trans (this.cons x)
theorem sR{c:Type}(nx:Nat->Nat):∀ (a k:Nat) (left:List c) (out:Array c),left.length=a->∃ ys:List c,(Zo nx a k left out).toList=out.toList++ys/\ys.Perm left
 |0,k,left,out,h=>by
  obtain rfl:=cf.mp h;exact⟨[],by unfold Zo;simp,.refl _⟩
 |a+1,k,left,out,h=>by
  have b:nx k % left.length<left.length:=ML _ (by omega);unfold Zo;rw[Pd b];dsimp only;obtain⟨ys,e,p⟩:=sR nx a (k+1) (left.eraseIdx (nx k % left.length)) (out.push left[nx k % left.length]) (by rw[xp b];omega);refine⟨left[nx k % left.length]::ys,by rw[e];simp,?_⟩;exact(p.cons _).trans (PH left _ b)
theorem xP{a:Type}(nx:Nat->Nat)(xs:Array a):(xq nx xs).toList.Perm xs.toList:=by
 obtain⟨b,e,p⟩:=sR nx xs.size 0 xs.toList #[] (by simp);unfold xq;rw[e];simpa using p
noncomputable def fB(pl:Array Nat)(i:Nat):Nat:=if i=0 then 0 else pl.getD (i - 1) 0+1
theorem g0{pl:Array Nat}(g:Oy pl){i:Nat}(k:i<=pl.size):Re pl (fB pl i)=i:=by
 refine m3 (uN g _) ⟨k,λj a l b=>?_,λj a l b=>?_⟩
 ·unfold fB;rw[ja (by omega)];have c:i - 1<pl.size:=by omega
  have d:pl[i - 1]?=some pl[i - 1]:=zb c;have f:pl.getD (i - 1) 0=pl[i - 1]:=by simp[Array.getD,c]
  rw[f];by_cases e:j=i - 1
  ·subst e;rw[d]at b;cases b;omega
  ·have:=g j (i - 1) a _ (by omega) b d;omega
 ·unfold fB;by_cases h:i=0
  ·rw[ia h];omega
  ·rw[ja h];have c:i - 1<pl.size:=by omega
   have d:pl[i - 1]?=some pl[i - 1]:=zb c;have f:pl.getD (i - 1) 0=pl[i - 1]:=by simp[Array.getD,c]
   rw[f];have:=g (i - 1) j _ a (by omega) d b;omega
section
variable{prog:ra}{w:Ka}{A:Ia}{E:Value->Shared->Prop}{s:Shared}{a:Addr}{es:Array (Int × Value)}{ep:Nat}{t:se}{i:Nat}
theorem cG{Q:Bool->Shared->Prop}(q:Q (bT w) s):wpAny (model prog w) A setsByText Q E s:=by
 unfold setsByText;exact aa (qq (da q))
theorem jX{Q:Option (Value × Nat)->Shared->Prop}(hb:bT w=true)(c:Yq s.heap a es ep t)(b:t.fits es.size=true)(q:Q (((xq (w.params.setOrder a ep) es)[i]?).map λe=>(e.2,0)) s):wpAny (model prog w) A (Yo a 0 i ep) Q E s:=by
 obtain⟨o,g,x,d⟩:=c;unfold Yo;refine aa (Xf g d b ?_);dsimp only;refine aa (cG ?_);rw[hb];simp only[Ee,bne_self_eq_false,ue,Ch];refine aa ?_;unfold setWalk;refine aa (Xf g d b ?_);dsimp only;refine aa (cG ?_);rw[hb];simp only[Ee];exact aa (qq (da (da q)))
theorem D5{Q:Option (Value × Nat)->Shared->Prop}(hb:bT w=false)(hT:Ck (bT w) t)(p:(!t.plain && decide (es.size > 1))=false)(n:i<=es.size)(m:Yq s.heap a es ep t)(f:t.fits es.size=true)(q:Q ((es[i]?).map λe=>(e.2,fB t.place (i+1))) s):wpAny (model prog w) A (Yo a (fB t.place i) i ep) Q E s:=by
 obtain⟨o,g,x,d⟩:=m;have j:t.place.size=es.size:=by simp only[SetTable.fits,Fa,Eg]at f;exact f.1
 unfold Yo;refine aa (Xf g d f ?_);dsimp only;refine aa (cG ?_);rw[hb];simp only[ue,Ch];refine Mg (λz=>?_) (λ_=>?_)
 ·have:(!t.plain && decide (es.size > 1))=true:=z;rw[p]at this;cases this
 ·refine aa ?_;refine Mg (λz=>?_) (λ_=>da ?_)
  ·have:(!t.led && !es.isEmpty)=true:=z;rw[hT.led,hb]at this;cases this
  ·rw[g0 hT.fG (by rw[j];exact n)];refine da ?_;by_cases h:i<es.size
   ·have c:es[i]?=some es[i]:=zb h;have b:i<t.place.size:=by rw[j];exact h
    have k:t.place[i]?=some t.place[i]:=zb b;rw[c]at q ⊢;rw[k];have l:fB t.place (i+1)=t.place[i]+1:=by unfold fB;simp[Array.getD,b]
    rw[l]at q;exact q
   ·have c:es[i]?=none:=Gr (by omega);rw[c]at q ⊢;exact q
end
section
variable{prog:ra}{w:Ka}{A:Ia}{E:Value->Shared->Prop}{s:Shared}{I a p:Addr}{es:Array (Int × Value)}{ep:Nat}{t:se}{i:Nat}
theorem EX{M:jk}{src:Source}{n:Nat}{Q:Nat->Shared->Prop}(hn:n≠0)(q:∀ i,i<n->∀ d',Q i { s with drawn:=d' }):wpAny M A (choose src n) Q E s:=λb a _=>⟨hn,q _ (ML _ (Nat.pos_of_ne_zero hn)) _⟩
theorem rO{M:jk}{b:Type}:∀ (n:Nat) (xs:List b) (s:Shared) (Q:List b->Shared->Prop),xs.length=n->(∀ ys d',ys.Perm xs->Q ys { s with drawn:=d' })->wpAny M A (drawOrder n xs) Q E s
 |0,xs,s,Q,h,q=>by
  obtain rfl:=cf.mp h;exact da (q [] s.drawn (.refl _))
 |n+1,[],s,Q,h,q=>by cases h
 |n+1,x::xs,s,Q,h,q=>by
  unfold drawOrder;refine aa (EX (by simp) λi a d'=>?_);rw[Pd a];dsimp only;refine aa (rO n _ _ _ (by rw[xp a];simpa using h) λys c p=>da ?_);exact q _ c ((p.cons _).trans (PH (x::xs) i a))
noncomputable def yz(h:Heap)(p:Addr)(ps:List Nat):Prop:=∃ o n,h.get? p=some o/\o.data=.seq (ps.map λ(i:Nat)=>rawInt i).toArray n
theorem U3{ps:List Nat}{j:Nat}{v:Int × Value}{Q:Option Value->Shared->Prop}(b:Jr s.heap I a (.ref p) i es.size ep)(l:Yq s.heap a es ep t)(g:t.fits es.size=true)(hT:yz s.heap p ps)(n:ps[i]?=some j)(r:es[j]?=some v)
  (q:∀ h',Jr h' I a (.ref p) (i+1) es.size ep->Ic I s.heap h'->Q (some v.2) { s with heap:=h' }):wpAny (model prog w) A (pyNext (.ref I)) Q E s:=by
 obtain⟨o,c,m,hd⟩:=id b;obtain⟨x,f,z,d⟩:=id l;obtain⟨y,u,k,dT⟩:=hT;unfold pyNext;refine aa (Zm (be (name:=ag "__next__") b.ty Dv (cc Dv b.ty eH ?_ (uE _))));unfold Yf.«set_iterator.__next__»;refine aa (da (aa (xl c hd ?_)));dsimp only[rawInt];refine aa (Fg f d g ?_);rw[ja (by simp)];refine aa (Vs k dT ?_);dsimp only;have e:(ps.map λ(i:Nat)=>rawInt i).toArray[(i:Int).toNat]?=some (.int (j:Int) 0):=by
  rw[Xg,Df,eb,n];rfl
 rw[e];dsimp only;simp only[Xg];unfold setNextDrawn;refine aa (aa (Xf f d g ?_));dsimp only;rw[ja (by simp)];rw[r];refine da (aa (oh c hd (by simp) ?_));have h:=Cc (Ue (·.setIfInBounds 1 (Sd ((i:Int)+1) 0))) c (Kf (Xb hd _));refine da ⟨_,rfl,da (q _ ⟨_,h,?_,?_⟩ (Oc ..))⟩
 ·rw[Am];exact m
 ·rw[Xb hd];simp[rawInt]
theorem z9{ps:List Nat}{Q:Option Value->Shared->Prop}(m:A.handled=none)(b:Jr s.heap I a (.ref p) i es.size ep)(k:Yq s.heap a es ep t)(l:t.fits es.size=true)(hT:yz s.heap p ps)(r:ps[i]?=none)
  (q:∀ h',Nt I s.heap h'->Q none { s with heap:=h' }):wpAny (model prog w) A (pyNext (.ref I)) Q E s:=by
 obtain⟨o,c,u,hd⟩:=id b;obtain⟨x,h,z,f⟩:=id k;obtain⟨y,v,j,dT⟩:=hT;unfold pyNext;refine aa (Zm (be (name:=ag "__next__") b.ty Dv (cc Dv b.ty eH ?_ (uE _))));unfold Yf.«set_iterator.__next__»;refine aa (da (aa (xl c hd ?_)));dsimp only[rawInt];refine aa (Fg h f l ?_);rw[ja (by simp)];refine aa (Vs j dT ?_);dsimp only;have e:(ps.map λ(i:Nat)=>rawInt i).toArray[(i:Int).toNat]?=none:=by
  rw[Xg,Df,eb,r];rfl
 rw[e];dsimp only;refine aa (oh c hd (by simp) ?_);have g:=Cc (Ue (·.setIfInBounds 0 (Sd 0 0))) c (Kf (Xb hd _));have d:=Xb hd (·.setIfInBounds 0 (Sd 0 0));refine aa (oh g d (by simp) ?_);exact sM (s:=s) (I:=I) (first:=.none) (n:=0) m ((Oc ..).trans (Oc ..)) q
noncomputable abbrev Az(a:Addr)(first:Value)(n ep:Nat):Obj:={ cls:=.type "set_iterator",data:=.fields #[first,rawInt 0,.ref a,rawInt n,rawInt ep] }
noncomputable abbrev dF(ps:List Nat):Obj:={ cls:=.type "tuple",data:=.seq (ps.map λ(i:Nat)=>rawInt i).toArray }
theorem z8{Q:Value->Shared->Prop}(i:Yq s.heap a es ep t)(b:t.fits es.size=true)(hz:es.size<scanBound)
  (f:(!bT w && (!t.plain && decide (es.size > 1)))=false->Q (.ref s.heap.objs.size) { s with heap:=s.heap.push (Az a (rawInt 0) es.size ep) })
  (h:(!bT w && (!t.plain && decide (es.size > 1)))=true->∀ ps d',ps.Perm (List.range es.size)->Q (.ref (s.heap.objs.size+1)) { s with heap:=(s.heap.push (dF ps)).push (Az a (.ref s.heap.objs.size) es.size ep),drawn:=d' }) :
  wpAny (model prog w) A (pyIter (.ref a)) Q E s:=by
 obtain⟨o,g,x,d⟩:=id i;have hT:s.TypeIs (.ref a) "set":=⟨o,g,x.1⟩
 refine QB hT Nq (cc Nq hT DX ?_ (PySem.F.args_set_iter_1 _));unfold Yf.«frozenset.__iter__»;refine aa (da ?_);unfold gy;refine aa (aa (Fg g d b (da ?_)));unfold setDrawn;refine aa (aa (Xf g d b ?_));dsimp only;refine aa (cG (da ?_));refine Mg (λz=>?_) (λz=>?_)
 ·have c:(!bT w && (!t.plain && decide (es.size > 1)))=true:=z;refine aa (rO _ _ _ _ (by simp) λps d' e=>?_);have j:ps.length=es.size:=by rw[e.length_eq,xi]
  refine aa (wpAny_newTuple ?_ (by rw[pb,j];exact nh hz));refine aa (RB (ba _ g) d b ?_);unfold pE;refine aa (Sb (da ⟨_,rfl, "set_iterator",_,⟨_,Ba _ rfl,rfl⟩,Dv.lookup,?_⟩) (by size_fits));have:=h c ps d' e;rw[<-Fc s.heap (dF ps)]at this;exact this
 ·have c:(!bT w && (!t.plain && decide (es.size > 1)))=false:=by
   cases y:(!bT w && (!t.plain && decide (es.size > 1)))with
   |false=>rfl
   |true=>exact absurd y z
  refine aa (da ?_);refine aa (RB g d b ?_);unfold pE;refine aa (Sb (da ⟨_,rfl, "set_iterator",_,⟨_,Ba _ rfl,rfl⟩,Dv.lookup,?_⟩) (by size_fits));exact f c
end
theorem rS:QL "set_iterator" "__iter__" "set_iterator.__iter__":=.of (owner:="set_iterator") (n:="__iter__") (by rw[tH,Fw];kernel_rfl) (by decide +kernel) (by decide +kernel) (by decide +kernel) (by first|exact .inl (by decide +kernel)|exact .inr (by decide +kernel)) (by rw[Us];kernel_rfl)
theorem T7:VL table "set_iterator.__iter__" = some Yf.«dict_keyiterator.__iter__»:=LL (id':="dict_keyiterator.__iter__") (by kernel_rfl) (by first|rfl|decide +kernel) (by decide +kernel) (by kernel_rfl)
theorem zqx(a:Value):WL "set_iterator.__iter__" ⟨[a],[]⟩:=by unfold WL;kernel_rfl
section
variable{prog:ra}{w:Ka}{A:Ia}{I a p:Addr}{es:Array (Int × Value)}{ep:Nat}{t:se}
theorem CO{E:Value->Shared->Prop}{s:Shared}{first:Value}{i n:Nat}{Q:Value->Shared->Prop}(h:Jr s.heap I a first i n ep)(q:Q (.ref I) s):wpAny (model prog w) A (pyIter (.ref I)) Q E s:=by
 refine QB h.ty rS (cc rS h.ty T7 ?_ (zqx _));show wpAny _ _ (PySem.ret (Ua I)) _ _ s;exact da ⟨_,rfl, "set_iterator",_,h.ty,Dv.lookup,q⟩
theorem Jr.keep{h h':Heap}{first:Value}{i n:Nat}(x:Jr h I a first i n ep)(k:∀ o,h.get? I=some o->h'.get? I=some o):Jr h' I a first i n ep:=let ⟨o,e,r⟩:=x;⟨o,k o e,r⟩
theorem Yq.keep{h h':Heap}(x:Yq h a es ep t)(k:∀ o,h.get? a=some o->h'.get? a=some o):Yq h' a es ep t:=let ⟨o,e,r⟩:=x;⟨o,k o e,r⟩
theorem yz.keep{h h':Heap}{ps:List Nat}(x:yz h p ps)(k:∀ o,h.get? p=some o->h'.get? p=some o):yz h' p ps:=let ⟨o,n,e,r⟩:=x;⟨o,n,k o e,r⟩
theorem FQ{f:Nat->Nat}{ord:List (Int × Value)}(F:A.handled=none)(r:t.fits es.size=true)(g:a≠I)(y:ord.length=es.size)
  (hn:∀ (s:Shared) (i:Nat),Yq s.heap a es ep t->i<=es.size->∀ (A:Ia) (E:Value->Shared->Prop) (Q:Option (Value × Nat)->Shared->Prop),Q ((ord[i]?).map λe=>(e.2,f (i+1))) s->wpAny (model prog w) A (Yo a (f i) i ep) Q E s) :
  Walks prog w A I [I,a] [I] es.size (λi v=>(ord[i]?).map (·.2)=some v) (λi h=>Jr h I a (rawInt (f i)) i es.size ep/\Yq h a es ep t) where
 sub:=λb hb=>by simp at hb;simp[hb]
 frame:=λ_ _ _ c x=>⟨c.1.keep λo e=>x I (by simp) o e,c.2.keep λo e=>x a (by simp) o e⟩
 item:=λi s Q E u c d=>by
  have p:i<ord.length:=by rw[y];exact u
  have j:ord[i]?=some ord[i]:=Pd p;refine d8 c.1 c.2 r g (v:=ord[i].2) (f':=f (i+1)) (λk l m q=>hn s i c.2 (pd u) k l m (by rw[j];exact q)) λn C B=>?_;exact d _ n s.toks (by rw[j];rfl) ⟨C,c.2.keep λo e=>by rw[B.2 a g];exact e⟩ λb o hb e=>by rw[B.2 b (λz=>hb (by simp[z]))];exact e
 done:=λs Q E c d=>by
  have j:ord[es.size]?=none:=by rw[<-y];simp
  exact zrv F c.1 c.2 r (λk l m q=>hn s es.size c.2 (na _) k l m (by rw[j];exact q)) λn D=>d n s.toks λb o hb e=>D b o (λz=>hb (by simp[z])) e
 self:=λ_ _ _ _ c d=>CO c.1 d
theorem g6{ps:List Nat}(D:A.handled=none)(y:t.fits es.size=true)(n:a≠I)(r:p≠I)(q:ps.Perm (List.range es.size)) :
  Walks prog w A I [I,a,p] [I] es.size (λi v=>((ps[i]?).bind λj=>es[j]?).map (·.2)=some v) (λi h=>(Jr h I a (.ref p) i es.size ep/\Yq h a es ep t)/\yz h p ps) where
 sub:=λb hb=>by simp at hb;simp[hb]
 frame:=λ_ _ _ c l=>⟨⟨c.1.1.keep λo e=>l I (by simp) o e,c.1.2.keep λo e=>l a (by simp) o e⟩,c.2.keep λo e=>l p (by simp) o e⟩
 item:=λi s Q E F c d=>by
  have m:ps.length=es.size:=by rw[q.length_eq,xi]
  have f:i<ps.length:=by rw[m];exact F
  have g:ps[i]?=some ps[i]:=Pd f;have G:ps[i]<es.size:=Lg.mp (q.mem_iff.mp (Ym f));have x:es[ps[i]]?=some es[ps[i]]:=zb G;refine U3 c.1.1 c.1.2 y c.2 g x λk B u=>?_;exact d _ k s.toks (by rw[g,ah,x];rfl) ⟨⟨B,c.1.2.keep λo e=>by rw[u.2 a n];exact e⟩,c.2.keep λo e=>by rw[u.2 p r];exact e⟩ λb o hb e=>by rw[u.2 b (λz=>hb (by simp[z]))];exact e
 done:=λs Q E c d=>by
  have m:ps.length=es.size:=by rw[q.length_eq,xi]
  have g:ps[es.size]?=none:=by rw[<-m];simp
  exact z9 D c.1.1 c.1.2 y c.2 g λk C=>d k s.toks λb o hb e=>C b o (λz=>hb (by simp[z])) e
 self:=λ_ _ _ _ c d=>CO c.1.1 d
theorem HV{E:Value->Shared->Prop}{s:Shared}{Q:Bool->Shared->Prop}(hT:s.TypeIs (.ref a) "set")(h:Q false s):wpAny (model prog w) A (eh (.ref a)) Q E s:=by
 unfold eh;refine aa (ei hT PySem.F.slot_set_len.lookup ?_);generalize d:("set.__len__" : String)=e
 wp_delta
 rw[show splitId e=some ("set", "__len__")from by subst d;decide +kernel];subst d;refine aa (Gj (T:="set") (b:=true) hT (by rw[Us];kernel_rfl) ?_);refine Mg (λc=>absurd c (by decide)) (λ_=>?_);refine Mg (λ_=>?_) (λc=>absurd (by decide +kernel) c);exact aa (Yj hT (da h))
end
end L4
namespace L4
open PySem PySem.Spec PySem.Calls PySem.W PyProof.Rows PyProof.V
section
variable{prog:ra}{w:Ka}{A:Ia}{E:Value->Shared->Prop}{s:Shared}{a:Addr}{es:Array (Int × Value)}{ep:Nat}{t:se}
theorem xK{C:Bool}{I S:Addr}{y:List Addr}{n x:Nat}{P:Nat->Value->Prop}{St:Nat->Heap->Prop}{R:vq->Shared->Prop}{d:Value}(W:Walks prog w A.in1 I y [I] n P St)(hn:n<=sizeLine)(j:S ∉ y)(hT:s.TypeIs (.ref a) "set")(B:St 0 s.heap)
  (t:s.heap.get? S=some { cls:=.type "list",data:=.seq #[] x })
  (J:∀ h' p g c,(∀ b o,b≠S->b≠I->s.heap.get? b=some o->h'.get? b=some o)->h'.get? S=some { cls:=.type "list",dict:=none,data:=.seq g c,slots:=#[] }->Vo P g n->R (.ok (.ret d)) { s with heap:=h',toks:=p }) :
  wpAny (model prog w) A.in1 (do
    let m <-Ie [Ua I] (eh (.ref a))
    if (m || C)=true then do
     rule "list.extend.makes-room"
     wH (.ref S)
     again (.builtin "list.extend.loop" ⟨[.ref S,.ref I,d],[]⟩)
    else again (.builtin "list.extend.loop" ⟨[.ref S,.ref I,d],[]⟩))
   (λr i=>match r with | .done f=>R (.ok f) i | .again v=>v.quiet=true/\codeAny (model prog w) A v R i) (λe i=>R (.error e) i) s:=by
 have k:∀ (h:Heap) (q p:Nat),St 0 h->(∀ b o,b≠S->s.heap.get? b=some o->h.get? b=some o)->h.get? S=some { cls:=.type "list",data:=.seq #[] q }->codeAny (model prog w) A (.builtin "list.extend.loop" ⟨[.ref S,.ref I,d],[]⟩) R { s with heap:=h,toks:=p }:=by
  intro h q p u L G;refine codeAny_extend_loopS W.toS hn S j d n 0 _ #[] q rfl (Xj _) u G (ItemsOf.nil _) λi g c hm D K=>?_;rw[Moved.eq_with hm];refine J i.heap i.toks g c (λb o hb H e=>hm.heap b o (λz=>?_) (L b o hb e)) D K;rcases Ha.mp z with z|z
  ·exact hb z
  ·exact H (Jd.mp z)
 refine aa (Nc (HV hT ?_));refine Mg (λ_=>?_) (λ_=>da ⟨Mh ro _,k _ x _ B (λb o _ e=>e) t⟩);refine aa (Zj (aa ?_));show wpAny _ _ (updateSeq S (·.push .none) >>= λ_=>updateSeq S (·.pop)) _ _ _;refine aa (uH t rfl ?_);have g2:=Cc (Gg (·.push La)) t rfl;refine uH (hz:=by seq_fits) g2 rfl ?_;have E:=Cc (Gg (·.pop)) g2 rfl;have l:∀ b o,b≠S->s.heap.get? b=some o->((s.heap.update S (Gg (·.push La))).update S (Gg (·.pop))).get? b=some o:=λb o hb e=>(tf _ _ (De hb)).trans ((tf _ _ (De hb)).trans e);exact da ⟨Mh ro _,k _ _ _ (W.frame 0 _ _ B λb hb o e=>l b o (λz=>j (z ▸ hb)) e) (λb o hb e=>l b o hb e) E⟩
theorem fL{a b:Type}{f:a->Option b}{g:a->b}:∀ {l:List a},(∀ j∈l,f j=some (g j))->l.filterMap f=l.map g
 |[],_=>rfl
 |x::l,h=>by rw[dg,h x Aa,Da,fL λj c=>h j (ya _ c)]
theorem X0{a:Array Value}{ord:List (Int × Value)}{n:Nat}(b:ord.length=n)(h:Vo (λi v=>(ord[i]?).map (·.2)=some v) a n):a.toList=ord.map (·.2):=by
 apply Lf;intro i;rw[ve,eb];cases e:a[i]? with
 |none=>
  have:n<=i:=by have:=Qo.mp e;rw[h.1]at this;exact this
  rw[uj (by omega)];rfl
 |some v=>exact(h.2 i v e).symm
theorem VV(es:Array (Int × Value)):(List.range es.size).filterMap (λj=>(es[j]?).map (·.2))=es.toList.map (·.2):=by
 apply Lf;intro i;have e:(List.range es.size).filterMap (λj=>(es[j]?).map (·.2))=(List.range es.size).map (λj=>((es[j]?).map (·.2)).getD .none):=by
  refine fL λj b=>?_;have:=Lg.mp b;simp[this]
 rw[e,eb,eb];by_cases a:i<es.size
 ·simp[a]
 ·simp[a]
theorem nY{a:Array Value}{ps:List Nat}(b:ps.Perm (List.range es.size))(h:Vo (λi v=>((ps[i]?).bind λj=>es[j]?).map (·.2)=some v) a es.size):a.toList.Perm (es.toList.map (·.2)):=by
 have k:ps.length=es.size:=by rw[b.length_eq,xi]
 have e:a.toList=ps.filterMap (λj=>(es[j]?).map (·.2)):=by
  have f:ps.filterMap (λj=>(es[j]?).map (·.2))=ps.map (λj=>((es[j]?).map (·.2)).getD .none):=by
   refine fL λj g=>?_;have:=Lg.mp (b.mem_iff.mp g);simp[this]
  rw[f];apply Lf;intro i;rw[ve,eb];cases c:a[i]? with
  |none=>
   have:es.size<=i:=by have:=Qo.mp c;rw[h.1]at this;exact this
   rw[uj (by omega)];rfl
  |some v=>
   have this:((ps[i]?).bind λj=>es[j]?).map (·.2)=some v:=h.2 i v c;cases d:ps[i]? with
   |none=>rw[d]at this;cases this
   |some j=>rw[d]at this;simp only[ah]at this;rw[vh,this];rfl
 rw[e,<-VV];exact b.filterMap _
theorem jY{R:List Value->Shared->Prop}(X:A.handled=none)(hA:Yq s.heap a es ep t)(I:t.fits es.size=true)(hk:Ck (bT w) t)(hz:es.size<scanBound)
  (C:∀ h' j d' (d:Array Value),(∀ b o,s.heap.get? b=some o->h'.get? b=some o)->s.heap.objs.size<=h'.objs.size->d.toList.Perm (es.toList.map (·.2))->R d.toList { s with heap:=h',toks:=j,drawn:=d' }) :
  wpAny (model prog w) A (aC (.ref a)) R E s:=by
 have hn:es.size<=sizeLine:=nh hz;have N:a<s.heap.objs.size:=let ⟨_,g,_⟩:=hA;ua g;let S:Addr:=s.heap.objs.size;let Z:vq->Shared->Prop:=λq n=>∃ (h':Heap) (j:Nat) (d':Zx) (d:Array Value) (c:Nat),q=.ok (.ret (.ref S))/\n={ s with heap:=h',toks:=j,drawn:=d' }/\(∀ b o,s.heap.get? b=some o->h'.get? b=some o)/\
  h'.get? S=some { cls:=.type "list",dict:=none,data:=.seq d c,slots:=#[] }/\d.toList.Perm (es.toList.map (·.2))
 let s1:Shared:={ s with heap:=s.heap.push { cls:=.type "list",data:=.seq ([]:List Value).toArray } }
 have Q:s1.heap.get? S=some { cls:=.type "list",data:=.seq #[] }:=Ba _ rfl;have r:Yq s1.heap a es ep t:=hA.keep λo e=>ba _ e;have K:s1.heap.objs.size=S+1:=Fc ..;have run:wpAny (model prog w) A.in1 (mf (.ref S) (.ref a) (.ref S)) (λC n=>match C with | .done f=>Z (.ok f) n | .again c'=>c'.quiet=true/\codeAny (model prog w) A c' Z n) (λe n=>Z (.error e) n) s1:=by
  have U:s1.TypeIs (.ref a) "set":=let ⟨o,g,x,_⟩:=r;⟨o,g,x.1⟩;unfold mf;refine aa (Yj (T:="set") U ?_);have ns:Ol (.ref S) (.ref a)=false:=by simp only[Ol,jc];exact wf N
  have n1:(Dg "set" == Dg "list")=false:=by decide
  have n2:(Dg "set" == Dg "tuple")=false:=by decide
  simp only[ns,n1,n2,Bool.or_false,ue,Ch];refine aa (z8 r I hz (λW=>?_) (λW ps d' J=>?_))
  ·have P:Jr (s1.heap.push (Az a (rawInt 0) es.size ep)) s1.heap.objs.size a (rawInt 0) 0 es.size ep:=⟨_,Ba _ rfl,rfl,rfl⟩
   have h:Yq (s1.heap.push (Az a (rawInt 0) es.size ep)) a es ep t:=r.keep λo e=>ba _ e;have u:Bp { s1 with heap:=s1.heap.push (Az a (rawInt 0) es.size ep) } (.ref a) "set":=let ⟨o,g,x,_⟩:=h;⟨o,g,x.1⟩;have M:a≠s1.heap.objs.size:=by rw[K];exact va (Hb N)
   have L:S ∉ [s1.heap.objs.size,a]:=by rw[K];simp only[Ha,ie,Vm,not_or];exact⟨va (Gb _),wf N⟩
   have out:∀ (ord:List (Int × Value)),ord.length=es.size->ord.Perm es.toList->∀ h' j d c,(∀ b o,b≠S->b≠s1.heap.objs.size->(s1.heap.push (Az a (rawInt 0) es.size ep)).get? b=some o->h'.get? b=some o)->h'.get? S=some { cls:=.type "list",dict:=none,data:=.seq d c,slots:=#[] }->
     Vo (λi v=>(ord[i]?).map (·.2)=some v) d es.size->Z (.ok (.ret (.ref S))) { s1 with heap:=h',toks:=j }:=λord G J h' j d c k g B=>⟨h',j,s.drawn,d,c,rfl,rfl,λb o e=>by
      have O:=ua e;exact k b o (va O) (by rw[K];exact va (Hb O)) (ba _ (ba _ e)),g,by rw[X0 G B];exact J.map _⟩
   cases hb:bT w with
   |true=>
    have G:(xq (w.params.setOrder a ep) es).toList.length=es.size:=by rw[(xP _ _).length_eq,nb]
    exact xK (FQ (f:=λ_=>0) (ord:=(xq (w.params.setOrder a ep) es).toList) X I M G λn i D _ A' E' Q' q'=>jX hb D I (by rw[<-ve];exact q')) hn L u ⟨P,h⟩ (ba _ Q) (out _ G (xP _ _))
   |false=>
    have J:(!t.plain && decide (es.size > 1))=false:=by rw[hb]at W;simpa using W
    have G:es.toList.length=es.size:=nb;exact xK (FQ (f:=fB t.place) (ord:=es.toList) X I M G λn i D hi A' E' Q' q'=>D5 hb hk J hi D I (by rw[<-ve];exact q')) hn L u ⟨P,h⟩ (ba _ Q) (out _ G (.refl _))
  ·let H:Heap:=(s1.heap.push (dF ps)).push (Az a (.ref s1.heap.objs.size) es.size ep);have Y:∀ b o,s1.heap.get? b=some o->H.get? b=some o:=λb o e=>ba _ (ba _ e);have z2:(s1.heap.push (dF ps)).objs.size=s1.heap.objs.size+1:=Fc ..;have P:Jr H (s1.heap.objs.size+1) a (.ref s1.heap.objs.size) 0 es.size ep:=⟨_,by rw[<-z2];exact Ba _ rfl,rfl,rfl⟩
   have h:Yq H a es ep t:=r.keep λo e=>Y a o e;have V:yz H s1.heap.objs.size ps:=⟨_,_,ba _ (Ba _ rfl),rfl⟩
   have u:Bp { s1 with heap:=H,drawn:=d' } (.ref a) "set":=let ⟨o,g,x,_⟩:=h;⟨o,g,x.1⟩;refine xK (s:={ s1 with heap:=H,drawn:=d' }) (g6 (p:=s1.heap.objs.size) X I (by rw[K];exact va (Hb (Hb N))) (va (Gb _)) J) hn (by rw[K];simp only[Ha,ie,Vm,not_or];exact⟨va (Hb (Gb _)),wf N,va (Gb _)⟩) u ⟨⟨P,h⟩,V⟩ (Y _ _ Q) λh' j d c k g B=>⟨h',j,d',d,c,rfl,rfl,λb o e=>?_,g,nY J B⟩
   have O:=ua e;exact k b o (va O) (by rw[K];exact va (Hb (Hb O))) (Y b o (ba _ e))
 have m:∀ {h':Heap} {j c:Nat} {d':Zx} {d:Array Value},(∀ b o,s.heap.get? b=some o->h'.get? b=some o)->h'.get? S=some { cls:=.type "list",dict:=none,data:=.seq d c,slots:=#[] }->d.toList.Perm (es.toList.map (·.2))->R d.toList { s with heap:=h',toks:=j,drawn:=d' }:=λkp g B=>C _ _ _ _ kp (pd (ua g)) B;unfold aC;refine aa (Ts (Xe Wx ?_));rw[Qd Xm _];show wpAny _ A.in1 (newList [] >>= λl=>again (.builtin "list.__iadd__" ⟨[l,.ref a],[]⟩)) _ _ s;refine aa (Sb (da ⟨Mh vg _,Xe fE ?_⟩));rw[Qd vg _];show wpAny _ A.in1 (mf (.ref S) (.ref a) (.ref S)) _ _ _;refine rc run (λf n x=>?_) (λe n x=>by obtain⟨_,_,_,_,_,z,_⟩:=x;cases z);cases f with
 |done f=>
  obtain⟨h',j,d',d,c,e,rfl,kp,g,B⟩:=x;cases e;exact aa (Vn g (da (m kp g B)))
 |again c1=>
  refine⟨x.1,yg x.2 λq s2 y=>?_⟩;obtain⟨h',j,d',d,c,rfl,rfl,kp,g,B⟩:=y;exact aa (Vn g (da (m kp g B)))
end
end L4
namespace L4
open PySem PySem.Spec PyProof.Rows L2
theorem eX(ns:List Int):(sm ns).Nodup:=by
 unfold sm;have h:∀ (l c:List Int),c.Nodup->(l.foldl DA c).Nodup:=by
  intro l;induction l with
  |nil=>intro c h;exact h
  |cons x l g=>
   intro c h;rw[Fe];refine g _ ?_;unfold DA;split
   ·exact h
   ·rename_i f
    rw[ui];refine⟨h,by simp,λa d b hb=>?_⟩;rw[Jd]at hb;intro e;subst e;subst hb;exact f (Ri.mpr ⟨_,d,by simp⟩)
 exact h ns [] Oj
theorem hR{d:Type}[DecidableEq d]:∀ {l1 l2:List d},l1.Nodup->(∀ x∈l1,x∈l2)->l2.length<=l1.length->l1.Perm l2
 |[],l2,_,_,h=>by
  have:l2=[]:=cf.mp (Nat.le_zero.mp h);subst this;exact .refl _
 |x::l1,l2,hn,a,f=>by
  rw[xg]at hn;have b:=a x Aa;have p:=List.perm_cons_erase b;have g:=hR (l1:=l1) (l2:=l2.erase x) hn.2 (λy c=>(List.mem_erase_of_ne (show y≠x from λe=>hn.1 (by rw[<-e];exact c))).mpr (a y (ya _ c))) (by rw[Oq b];simp at f;omega);exact(g.cons x).trans p.symm
theorem QO:∀ {prog:ra} {w:Ka} {l:List (Int × Value)},Vr (Mf prog w) l->∃ c,zi (l.map (·.2)) c/\c.length=l.length/\∀ k,k∈c ↔ ∃ e∈l,(Mf prog w).is k e.2=true
 |prog,w,[],_=>⟨[],.nil,rfl,λk=>by simp⟩
 |prog,w,e::l,h=>by
  obtain⟨c,g,i,j⟩:=QO (λx a=>h x (.tail _ a):Vr (Mf prog w) l);obtain⟨⟨k,d,_⟩,_⟩:=h e (.head _);have b:=d;obtain⟨t,f⟩:=Uu d;refine⟨k::c,by rw[Da,f];exact .cons k t g,by simp[i],λm=>?_⟩;rw[Ha,j m];constructor
  ·rintro (rfl|⟨x,a,q⟩)
   ·exact⟨e,.head _,b⟩
   ·exact⟨x,.tail _ a,q⟩
  ·rintro ⟨x,a,q⟩;rcases Ha.mp a with rfl|a
   ·exact .inl ((Mf prog w).inj _ _ _ q b)
   ·exact .inr ⟨x,a,q⟩
theorem e5{l g:List Value}(p:g.Perm l):∀ {is:List Int},zi l is->∃ a,zi g a/\a.Perm is:=by
 induction p with
 |nil=>intro is h;exact⟨is,h,.refl _⟩
 |cons x p k=>
  intro is h;cases h with
  |cons n t h=>obtain⟨a,b,c⟩:=k h;exact⟨n::a,.cons n t b,c.cons n⟩
 |swap x y l=>
  intro is h;cases h with
  |cons n t h=>
   cases h with
   |cons m u h=>exact⟨m::n::_,.cons m u (.cons n t h),.swap _ _ _⟩
 |trans p1 p2 d e=>
  intro is h;obtain⟨o,b,c⟩:=e h;obtain⟨f,i,j⟩:=d b;exact⟨f,i,j.trans c⟩
noncomputable def dB(P:ra)(w:Ka)(ns:List Int)(a:Addr):Heap->Prop:=λh=>Gs (Mf P w) (bT w) h a (λk=>(sm ns).any (·== k)) (sm ns).length
theorem K6{P:ra}{w:Ka}{ns:List Int}{a:Addr}:∀ b h2:Heap,dB P w ns a b->(∀ u,b.get? a=some u->h2.get? a=some u)->dB P w ns a h2:=λb h2 x k=>HK x k
section
variable{T:Tb}{X:Cx}
noncomputable def ysr(X:Cx):List V->Hp->VK->Prop:=λxs H Q=>∃ (p:Addr) (ns:List Int),xs=[.ref p]/\bg X.K H p (ns.map V.int)/\ns.length<64/\∀ l,H l=none->Q (.ref l) (upd H l (.ext (dB X.prog X.w ns l)))
theorem A7(j:X.calm=true):Qm X (.type "set") (ysr X):=by
 intro f s y H xs z Q I r h;obtain⟨p,ns,rfl,m,l,q⟩:=h;obtain⟨u,rfl,n⟩:=Ot r;cases n;obtain⟨a,i,pl,x⟩:=I.list m;have d:a.length=ns.length:=by rw[<-i.length,pb]
 refine oY (I.ok.hd j) pl.isList (ns:=ns) (xH i) (by rw[wa,d];exact ZS (yb (pd l) (by decide))) λv t c k=>?_;rw[show a.toArray.size=ns.length by rw[wa,d],iI]at c;refine⟨.ref s.heap.objs.size,_,I.laid (t':=t) (o:=.ext (dB X.prog X.w ns s.heap.objs.size)) (λb o e=>k b o (ua e) e) (na _) ?_,rfl,q _ (I.Rb.fresh (na _))⟩;exact⟨c,let ⟨o,_,_,_,g,_⟩:=c;⟨o,g⟩,K6⟩
theorem RZ{a:List (Addr × Obj)}{b:St}{H:Hp}{s:Shared}(I:Inv X a b H s)(d':Zx):Inv X a b H { s with drawn:=d' }:=⟨I.ok,I.os,I.bare,I.base,I.loc,I.cell,I.free,I.Kg,I.pin,I.Rb,I.len⟩
noncomputable def t8(X:Cx):List V->Hp->VK->Prop:=λxs H Q=>∃ (a:Addr) (ns:List Int),xs=[.ref a]/\H a=some (.ext (dB X.prog X.w ns a))/\ns.length<64/\(sm ns).length<=ns.length/\∀ l,H l=none->Q (.ref l) (upd H l (.lst ((tp (sm ns)).map V.int)))
theorem r4(U:X.calm=true):Qm X (.builtin "sorted") (t8 X):=by
 intro B s σ H xs us Q I r h;obtain⟨a,ns,rfl,S,R,NC,q⟩:=h;obtain⟨u,rfl,rx⟩:=Ot r;cases rx;obtain⟨⟨o,k,ep,t,J,g2,K,L,M,y,N,O,P⟩,_,_⟩:=I.Rb a _ S;obtain⟨is,i1,i2,i3⟩:=QO L;have Y:is.Perm (sm ns):=(hR (eX ns) (λx Z=>(i3 x).mpr ((M x).mp (Ri.mpr ⟨x,Z,by simp⟩))) (by rw[i2,nb,O];exact na _)).symm;have g:k.size<64:=by omega
 have hn:k.size<=sizeLine:=nh y;refine vp kind_sorted plain_sorted entry_sorted (args_sorted1 _) ?_;unfold Yf.«sorted»;refine aa (m:=checkCount "sorted" 1 1 _) (da ?_);refine aa (jY (A:=X.A.in1) (I.ok.hd U) ⟨o,J,g2,K⟩ N P y λj tk F d kp i c=>?_);obtain⟨a0,T,n⟩:=e5 c i1;have z:d.toList.length=k.size:=by rw[c.length_eq,pb,nb]
 refine aa (lU ?_ (by rw[z];exact hn));have f:(j.push (UL "list" d.toList.toArray 0)).get? j.objs.size=some (UL "list" d.toList.toArray 0):=Ba _ rfl;refine aa (Nc (cc HL ⟨_,f,rfl⟩ pH (IL f T (by rw[z];exact g) λout p C D E=>⟨_,rfl,?_⟩) (JL _)));refine da ⟨_,rfl,?_⟩;have G:p=tp (sm ns):=VD (D.trans (n.trans (Y.trans (Ay _).symm))) E (xG _);subst G;have l:=(Ay (sm ns)).length_eq;obtain⟨e,W⟩:=mU (out:=out) f;exact⟨.ref j.objs.size,_,(RZ I F).laid (t':=tk) (λb o v=>by
  have lt:b<j.objs.size:=ua (kp b o v);rw[KL (va lt) (by rw[size_push'];exact Hb lt)];exact ba _ (kp b o v)) i (show Xi X.prog X.w _ _ _ (.lst ((tp (sm ns)).map V.int))from⟨by rw[pb,l];exact yb (show (sm ns).length<=1000 by omega) (by decide),out.toList,e,pC C,by rw[Fj];exact W⟩),rfl,q _ (I.Rb.fresh i)⟩
noncomputable def KA(x:D):M D:=λa=>match (Oi a x).bind nu with
 |some ns=>if ns.length<64 then XA ((tp (sm ns)).map D.int) a else .bad
 |none=>.bad
theorem j2(ns:List Int):(sm ns).length<=ns.length:=by rw[<-iI];exact AA _ _
theorem kR{μ:List Addr}{H:Hp}:∀ (a:List Int),Wa T μ H (a.map D.int) (a.map V.int)
 |[]=>Wa.nil
 |i::a=>Wa.cons (by rw[Rep]) (kR a)
theorem y3{e:Ja}{f:Ev->M D}{p p2 j b:Ye}(Z:T.K=X.K)(x:X.calm=true)(L:Gl X "sorted")(hm:X.mg "sorted" = none)(n:Gl X "set")(q:X.mg "set" = none)(J:FE T X e f)
  (y:pa [e] X.env=(false,Nb e X.env)::pa [] X.env:=by rfl) (t:(lc b (pa [] X.env)).any (·.1)=false:=by rfl)
  (g:pa [.Call (.Name "set" p2) [e] [] b] X.env=(false,Nb (.Call (.Name "set" p2) [e] [] b) X.env)::pa [] X.env:=by rfl) (c:(lc j (pa [] X.env)).any (·.1)=false:=by rfl) :
  FE T X (.Call (.Name "sorted" p) [.Call (.Name "set" p2) [e] [] b] [] j) (Vc KA f):=by
 intro i s P H Q I h;refine mD (r4 x) L hm L4.RS (Iv (QH (A7 x) n q rfl (Iv J Yw y) (by decide) (by decide) y t) Yw g) (by decide) (by decide) g c i s P H Q I ?_;obtain⟨R,U,V,G,O,N⟩:=h;refine⟨R,U,V,G,O,N.bind λd u S v W _ Y z q1 p1=>?_⟩;unfold KA at p1;cases m:(Oi u d).bind nu with
 |none=>rw[m]at p1;exact p1.elim
 |some ns=>
  rw[m]at p1;dsimp only at p1;by_cases k:ns.length<64
  ·rw[ia k]at p1;obtain⟨ys,A,B⟩:=Ag.mp m;obtain⟨a,vs,rfl,E,F⟩:=z.ls q1 A;have C:=DC F B;subst C;refine⟨a,ns,rfl,bg.of E,k,λl hn=>⟨l,ns,rfl,kh,k,j2 ns,λl2 r=>?_⟩⟩;have p2:=Ib.mono (Om (o:=.ext (dB X.prog X.w ns l)) hn) p1;exact vD p2 (z.fresh hn) (kR _) r
  ·rw[ja k]at p1;exact p1.elim
end
section
variable{X:Cx}{pins:List (Addr × Obj)}{σ:St}{H:Hp}{s:Shared}
theorem _root_.L2.Inv.freeze{a:Addr}{kvs:List (Key × V)}{od:Obj}(I:Inv X pins σ H s)(hd:H a=some (.dK kvs))(e:s.heap.get? a=some od):Inv X pins σ (upd H a (.Za od (.dK kvs))) s:=by
 have ne:∀ b u,H b=some u->u≠.dK kvs->b≠a:=λb u q n z=>by rw[z,hd]at q;exact n (ub q).symm
 refine I.step (g':=s.gens) (d':=s.drawn) (t':=s.toks) (h':=s.heap) (ch:=[]) (λ_ z=>nomatch z) (λb o _ _ _ q _=>q) (λb o _ _ _ q _=>⟨o.slots,q⟩) (λb o _ q n=>?_) (λb o _ q=>⟨o,q⟩)
  (λb xs q=>by rw[qe (ne b _ q (λz=>by cases z))];exact q) (λb u xs q=>by rw[qe (ne b _ q (λz=>by cases z))];exact q) (λb d q=>⟨#[],by rw[qe (ne b _ q (λz=>by cases z)),q];simp⟩) (λm hm=>hm) (λb u q=>?_) I.bare
 ·rw[qe (λz=>by rw[z,hd]at n;cases n)];exact n
 ·by_cases hb:b=a
  ·subst hb;rw[kh]at q;cases q;exact⟨e,I.Rb b _ hd⟩
  ·rw[qe hb]at q;exact(I.Rb b u q).jm (λc v _ z=>z) (λc z=>by rw[qe (ne c _ z (λy=>by cases y))];exact z) λc xs z=>by rw[qe (ne c _ z (λy=>by cases y))];exact z
theorem Zw{a:Addr}{kvs:List (Key × V)}{od:Obj}(I:Inv X pins σ H s)(hd:H a=some (.Za od (.dK kvs))):∃ vs es ep,KV kvs vs/\od.data=.dict es ep/\s.heap.DictAt (ni X.prog X.w) a vs ep:=by
 obtain⟨e,_,_,vs,rel,o,es,ep,c,ex,b,r⟩:=I.Rb a _ hd;rw[e]at c;cases c;exact⟨vs,es,ep,rel,b,od,es,e,ex,b,r⟩
end
noncomputable def Itm(d:Addr)(od:Obj)(kvs:List (Key × V)):It:=
 ⟨λi H=>H d=some (.Za od (.dK kvs))/\∃ x,kvs[i]?=some x,λi H v a=>∃ p k x,H p=none/\v=.ref p/\kvs[i]?=some (k,x)/\a=upd H p (.tup [kV k,x]),λi H=>H d=some (.Za od (.dK kvs))/\i=kvs.length⟩
theorem cH{c:Type}:∀ {kvs:List (c × V)} {vs:List (c × Value)} (r:KV kvs vs) (i:Nat) {k:c} {x:V},kvs[i]?=some (k,x)->∃ u,vs[i]?=some (k,u)/\Td x u
 |_,_,.nil,i,_,_,h=>by simp at h
 |_,_,.cons (b:=q) a b,0,k,x,h=>by
  simp only[Si,kg]at h;obtain⟨d,e⟩:=a;rw[h]at d e;exact⟨q.2,by simp only[Si,kg];exact RT d.symm rfl,e⟩
 |_,_,.cons a b,i+1,k,x,h=>by
  simp only[Hr]at h ⊢;exact cH b i h
theorem DP{P:ra}{w:Ka}{k:Key}{v:Value}(h:(ni P w).is k v=true):Td (kV k) v:=by
 rcases Jv (k:=k) (v:=v) h with⟨i,t,rfl,rfl⟩|⟨x,t,rfl,rfl⟩
 ·exact⟨t,rfl⟩
 ·exact⟨t,rfl⟩
theorem zl5{P:ra}{w:Ka}{K:W.Frag}{j:List Ja}{kk:Nat}{M:Ye}(d it:Addr)(od:Obj)(kvs:List (Key × V))(Z:d≠it){es:Array bv}{ep:Nat}(n:od.data=.dict es ep) :
  Turn P w K (.Tuple j kk M) (Itm d od kvs) [it] it (λi h=>∃ ok f,IsItemIter h it d i kvs.length ep ok f) where
 mem:=by simp
 obj:=λi h c b hb=>by
  obtain⟨ok,f,a⟩:=c;obtain rfl:b=it:=by simpa using hb
  exact⟨_,a,λv z=>by cases z⟩
 keep:=λi h N c k=>by
  obtain⟨ok,f,a⟩:=c;exact⟨ok,f,k it (by simp) _ a⟩
 item:=by
  intro X D L C O i r s σ H E I t c G;subst D L C;obtain⟨hd,⟨k,x⟩,S⟩:=G;obtain⟨vs,B,y,rel,g,hm⟩:=Zw I hd;rw[n]at g;cases g;obtain⟨u,hu,ru⟩:=cH rel i S;obtain⟨ok,f,a⟩:=c;rw[rel.length]at a;refine wpAny_pyNext_items_item a hm hu λe N m ho hT a0 Y=>?_;have l:s.heap.objs.size≠it:=wf (ua a);refine⟨.ref s.heap.objs.size,rfl,wpAny_letOwnedTupleGo_items ho λU J p=>?_⟩;have hn:H s.heap.objs.size=none:=I.Rb.fresh (na _);have F:U.get? s.heap.objs.size=some { cls:=.type "tuple",data:=.seq #[e,u] }:=p.extBut _ _ l hT;refine⟨.ref s.heap.objs.size,upd H s.heap.objs.size (.tup [kV k,x]),I.oy (t':=s.toks) (o:=.tup [kV k,x]) (its:=[it]) (λb o hb q=>p.extBut b o (λz=>hb (by simp[z])) (Y b o (λz=>hb (by simp[z])) q)) t (na _) ?_,rfl,⟨_,k,x,hn,rfl,S,rfl⟩,⟨e,u,by rw[rel.length];exact J⟩,λb hb=>?_⟩
  ·exact⟨(show (2:Nat)<=sizeLine by decide),[e,u],.cons (DP m) (.cons ru .nil),⟨_,F,rfl,_,rfl⟩⟩
  ·obtain rfl:b=it:=by simpa using hb
   rw[qe (λz=>l z.symm)];exact(t b hb).1
 done:=by
  intro X D L C O i r s σ H E I t c G;subst D L C;obtain⟨hd,R⟩:=G;obtain⟨vs,B,y,rel,g,hm⟩:=Zw I hd;rw[n]at g;cases g;obtain⟨ok,f,a⟩:=c;rw[rel.length]at a R;exact wpAny_pyNext_items_end (I.ok.hd O) a hm (by rw[R];simp) λN T=>⟨rfl,I.iy (t':=s.toks) (its:=[it]) (λb o hb q=>T b o (λz=>hb (by simp[z])) q) t⟩
 self:=λA i s Q E c h=>by
  obtain⟨ok,f,a⟩:=c;exact W.kcp_self a h
noncomputable def Tq(l a:Addr):Heap->Prop:=λh=>h.IsItemsView l a
noncomputable def MX:V->List V->Hp->VK->Prop:=λx xs H Q=>∃ a b,x=.ref a/\xs=[]/\Rd H a (.dK b)/\∀ l,H l=none->Q (.ref l) (upd H l (.ext (Tq l a)))
theorem Jy{H:Hp}{a:Addr}{o:HO}(h:H a=some o):upd H a o=H:=by
 funext b;unfold upd;split
 ·next e=>rw[e,h]
 ·rfl
theorem mz(h:Heap)(o:Obj)(a:o.data≠.freed):(h.push o).get? h.objs.size=some o:=by
 obtain⟨c,d,x,b⟩:=o;simp[Heap.get?,Heap.push];cases x<;>first|rfl|exact absurd rfl a
section
variable{T:Tb}{X:Cx}{elts:List Ja}{kk:Nat}{p0:Ye}
theorem kZ:Rt X "dict.items" MX:=by
 intro f s t H x y v u Q I l j h;obtain⟨a,i,rfl,rfl,g,q⟩:=h;cases l;cases j;obtain⟨z,hd,m,rel,d⟩:=Ku I.Rb g;refine Oo yp d.typeIs PySem.F.entry_dict_items (PySem.F.args_dict_items_1 _) (meets_dict_items (ni X.prog X.w) a hd) ⟨⟨m,d⟩,?_⟩;refine⟨.ref s.heap.objs.size,_,I.laid (t':=s.toks) (o:=.ext (Tq s.heap.objs.size a)) (λb o e=>ba _ e) (na _) ?_,rfl,q _ (I.Rb.fresh (na _))⟩;refine⟨⟨_,mz _ _ (λz=>by cases z),rfl,rfl⟩,⟨_,mz _ _ (λz=>by cases z)⟩,λn r p k=>?_⟩;obtain⟨o,e,c⟩:=p;exact⟨o,k o e,c⟩
noncomputable def ykc(e:TE):TI:=λf H R=>e f H λv c=>∃ l a b,v=.ref l/\c l=some (.ext (Tq l a))/\Rd c a (.dK b)/\∀ d,c a=some (.dK b)\/c a=some (.Za d (.dK b))->R (Itm a d b) (upd c a (.Za d (.dK b)))
theorem U9{f:Ja}{p:TE}(y:PE X f p):PI X (.Tuple elts kk p0) f (ykc p):=by
 intro i s r H R I h;refine ge (y i s r H _ I h) λv s1 ⟨x,H1,j,C,q1⟩=>?_;obtain⟨l,a,c,rfl,A,d,q⟩:=q1;cases C;obtain⟨g,n,k⟩:∃ g,(H1 a=some (.dK c)\/H1 a=some (.Za g (.dK c)))/\Inv X i r (upd H1 a (.Za g (.dK c))) s1:=by
  rcases d with d|⟨g,d⟩
  ·obtain⟨_,_,D,rel,o,w,u,e,_⟩:=j.Rb a _ d;exact⟨o,.inl d,j.freeze d e⟩
  ·exact⟨g,.inr d,by rw[Jy d];exact j⟩
 obtain⟨D,w,u,rel,t,hm⟩:=Zw k kh;have B:s1.heap.IsItemsView l a:=(j.Rb l _ A).1;have m:a≠s1.heap.objs.size:=va hm.lt_size;refine wpAny_pyIter_items B hm ?_;refine⟨s1.heap.objs.size,[s1.heap.objs.size],_,Itm a g c,_,rfl,k.kept (t':=s1.toks) (λb o e=>ba _ e),zl5 a _ g c m t,⟨.none,.none,by rw[rel.length];exact mz _ _ (λz=>by cases z)⟩,λb hb=>?_,q g n⟩;obtain rfl:b=s1.heap.objs.size:=by simpa using hb
 exact k.Hs (na _) (k.Rb.fresh (na _))
noncomputable def Ys(a:List (Key × D)):NX:=λi _=>match a[i]? with
 |some p=>some (some (.tup [GD p.1,p.2]))
 |none=>if i=a.length then some none else none
theorem qN{μ:List Addr}{H:Hp}(k:Key):Rep T μ H (GD k) (kV k):=by
 cases k<;>(unfold GD kV;rw[Rep])
theorem ZR{μ:List Addr}{H:Hp}{a:Addr}{od:Obj}{kvs:List (Key × V)}(c:H a=some (.dK kvs)):Ext μ H μ (upd H a (.Za od (.dK kvs))):=by
 have ne:∀ b u,H b=some u->u≠.dK kvs->b≠a:=λb u q n z=>by rw[z,c]at q;exact n (ub q).symm
 refine⟨⟨[],by simp⟩,λp xs h=>by rw[qe (ne p _ h (λz=>by cases z))];exact h,λp o u h=>by rw[qe (ne p _ h (λz=>by cases z))];exact h,λp o h n=>⟨?_,n⟩⟩;by_cases e:p=a
 ·subst e;rw[c]at h;cases h;exact⟨_,kh,.inr (.inl ⟨od,kvs,rfl,rfl⟩)⟩
 ·exact⟨o,by rw[qe e];exact h,.inl rfl⟩
theorem RG{c d:Type}{R:c->d->Prop}:∀ {xs:List c} {ys:List d},Paired R xs ys->∀ (i:Nat) {x:c},xs[i]?=some x->∃ y,ys[i]?=some y/\R x y
 |_,_,.nil,i,_,h=>by simp at h
 |_,_,.cons a b,0,x,h=>by
  simp only[Si,kg]at h ⊢;subst h;exact⟨_,rfl,a⟩
 |_,_,.cons a b,i+1,x,h=>by
  simp only[Hr]at h ⊢;exact RG b i h
end
noncomputable def xj(nx:NX)(n:Nat)(tg:D->Ev->Option Ev)(fi:Ev->M Bool)(fe:Ev->M D):Nat->Nat->Ev->M Unit
 |0,_,_=>bad
 |k+1,i,e=>λb=>match nx i b with
  |none=>.bad
  |some none=>.ok () b
  |some (some d)=>match tg d e with
   |none=>.bad
   |some a=>qd (Fq (fi a)) (λc=>if c=true then qd (Fq (fe a)) λy=>qd (Lu (.ref n) [y]) λ_=>xj nx n tg fi fe k (i+1) a else xj nx n tg fi fe k (i+1) a) b
noncomputable def WF(tg:D->Ev->Option Ev)(fi:Ev->M Bool)(fe:Ev->M D)(ρ:Ev)(nx:NX):M D:=λa=>
 qd (xj nx a.length tg fi fe 1001 0 ρ) (λ_=>ret (.ref a.length)) (a++[.lst []])
noncomputable def yr(src:Ev->M NX)(ix:List Nat)(tg:D->Ev->Option Ev)(fi:Ev->M Bool)(fe:Ev->M D):Ev->M D:=λa=>qd (src a) (WF tg fi fe (Tv ix a))
section
variable{T:Tb}{X:Cx}
theorem lQ{E:XK}{a5 W a3:Ja}{a6:List Ja}{scope:Scope}{b2:Ye}{x z0:qa}{M':List qa}{ix:List Nat}{tg:D->Ev->Option Ev}{fi:Ev->M Bool}{fe:Ev->M D}
  {b0:List (Addr × Obj)} {st:St} {R:Hp} {s3:Shared} {t:Heap} {t':Nat} {m:qa->Option Value} {fp:List Addr} {it D0:Addr} {tn:Nat->Heap->Prop} {J:It} {nx:NX} {G:List Addr} {b6:db} {ρ:Ev} {n:Nat} {Q:VK}
  (hc:X.calm=true) (L:Xr X x M' ix scope)
  (d1:∀ cl C s₀ H₀ ex,FG T (Su X (x::z0::M') scope cl C s₀ H₀ ex) a3 tg)
  (c8:∀ cl C s₀ H₀ ex,SC T (Su X (x::z0::M') scope cl C s₀ H₀ ex) a6 fi)
  (b9:∀ cl C s₀ H₀ ex,FE T (Su X (x::z0::M') scope cl C s₀ H₀ ex) a5 fe)
  (I3:Inv X b0 st R s3) (c0:∀ b∈fp,fu X b0 R b/\b<s3.heap.objs.size) (d0:t.Ns s3.heap.objs.size m) (kp:∀ b o,s3.heap.get? b=some o->t.get? b=some o)
  (TT:Turn X.prog X.w X.K a3 J fp it tn) (a9:tn 0 t) (so:Xq T G R nx J) (hE:Zh T G R ρ st) (r3:Rel T G R b6) (hn:G[n]?=some D0)
  (p3:Ib T E (Rep T) G R (qd (xj nx n tg fi fe 1001 0 (Tv ix ρ)) (λ_=>ret (.ref n)) b6) Q) {RR:vq->Shared->Prop}
  (c6:∀ (s6:Shared) (j:Hp) (m6:qa->Option Value),s6.heap.Ns s3.heap.objs.size m6->j s3.heap.objs.size=none->Un (yj X.stack) fp R j s3.heap s6.heap->s6.os=s3.os->Pi X.prog X.w j s6.heap->yi s6.gens->Q (.ref D0) j->RR (.ok .next) s6) :
  codeAny (model X.prog X.w) X.A (.compStart (.ListComp a5 [⟨a3,W,a6,0⟩] scope b2) 0 (.ref it) (.ref D0) (compEnvC scope (Dq X.env scope.names []) s3.heap.objs.size X.env))
   RR { s3 with heap:=t,toks:=t' }:=by
 have I4:=pZ (z0:=z0) (h':=t) (t':=t') I3 L c0 d0 kp;let Y:Cx:=Su X (x::z0::M') scope (Dq X.env scope.names []) s3.heap.objs.size s3 R fp;have a2:∀ {j:Hp},(∀ b∈fp,j b=none)->∀ b∈fp,fu Y [] j b:=fun {j} hn b hb=>⟨hn b hb,(I4.ok.Mz b hb).1,I4.ok.jr b hb,.inl hb,(I4.ok.Mz b hb).2,λp hp=>absurd (show p∈([]:List (Addr × Obj))from hp) (by simp)⟩
 have Pm:codeAny (model X.prog X.w) X.A (.compLoop (.ListComp a5 [⟨a3,W,a6,0⟩] scope b2) 0 (.ref it) (.ref D0) Y.env) RR { s3 with heap:=t,toks:=t' }:=by
  refine codeAny_loop rfl (λk s'=>∃ i f j σ' q B,Inv Y [] B j s'/\tn i s'.heap/\(∀ b∈fp,j b=none)/\Ext G R f j/\Zh T f j q B/\Rel T f j σ'/\
   Ib T E (Rep T) f j (qd (xj nx n tg fi fe k i q) (λ_=>ret (.ref n)) σ') Q) ?_ 1001 ⟨0,G,R,b6,Tv ix ρ,Uz ix st,I4,a9,λb hb=>(c0 b hb).1.1,Ext.refl _ _,P8 ix hE,r3,p3⟩
  rintro k s' ⟨i,f,j,σ',q,B,I',c2,b7,ex',hE',r',p'⟩;show wpAny _ X.A ((compTurn (.ListComp a5 [⟨a3,W,a6,0⟩] scope b2) 0 (.ref it) (.ref D0) Y.env).onRaise (λx=>do dh x Y.env;theTreesLotGoes x)) _ _ s';refine wpAny_noted ?_;rw[compTurn_list];refine rc (E:=λ_ _=>False) ?_ (λ_ _ z=>z) (λ_ _ z=>z.elim);refine aa (wu ?_);cases k with
  |zero=>exact p'.elim
  |succ k=>
   have a8:=so f j σ' i ex' r';cases en:nx i σ' with
   |none=>
    have e1:xj nx n tg fi fe (k+1) i q σ'=.bad:=by unfold xj;simp only[en]
    rw[dH (m':=bad) e1]at p';exact p'.elim
   |some od=>
    rw[en]at a8;cases od with
    |none=>
     have e1:xj nx n tg fi fe (k+1) i q σ'=.ok () σ':=by unfold xj;simp only[en]
     rw[dH (m':=ret ()) e1]at p';refine aa (ge (TT.done Y rfl rfl rfl hc i [] s' B j (λ_ _=>False) I' (a2 b7) c2 a8) λr s6 ⟨er,I6⟩=>?_);subst er;refine da ?_;obtain⟨m6,c9,_⟩:=I6.loc;exact c6 s6 j m6 c9 I6.free I6.base I6.os I6.Rb I6.bare (Ib.here p' r' (by rw[Rep];exact⟨_,rfl,ex'.get hn⟩))
    |some d=>
     refine aa (ge (TT.item Y rfl rfl rfl hc i [] s' B j (λ_ _=>False) I' (a2 b7) c2 a8.1) λr s6 ⟨u,er,h6⟩=>?_);subst er;refine aa (ge h6 λ_ s7 ⟨xv,H7,I7,r7,y7,b5,c7⟩=>?_);obtain⟨b1,d2,hd⟩:=a8.2 xv H7 y7;replace p':=Ib.mono b1 p';replace hE':=hE'.mono b1;replace ex':=ex'.trans b1;replace r':=d2;cases et:tg d q with
     |none=>
      have e1:xj nx n tg fi fe (k+1) i q σ'=.bad:=by unfold xj;simp only[en,et]
      rw[dH (m':=bad) e1]at p';exact p'.elim
     |some h=>
      have e1:xj nx n tg fi fe (k+1) i q σ'=qd (Fq (fi h)) (λc=>if c=true then qd (Fq (fe h)) λy=>qd (Lu (.ref n) [y]) λ_=>xj nx n tg fi fe k (i+1) h else xj nx n tg fi fe k (i+1) h) σ':=by
       conv=>lhs;unfold xj
       simp only[en,et]
      rw[dH e1,WI]at p';have c4:=I7.pinned (a2 c7) (TT.obj _ _ b5);refine aa (ge (d1 _ _ _ _ _ _ s7 B H7 xv u (λF H8=>H8=H7/\Zh T f H7 h F) c4 r7 ⟨f,σ',q,d,h,hE',r',hd,et,λF V=>⟨rfl,V⟩⟩) λ_ s8 ⟨F,H8,I8,c5,V⟩=>?_);subst c5;refine aa (ge (c8 _ _ _ _ _ _ s8 F H8 (λc H9=>∃ N P,Ext f H8 N H9/\Rel T N H9 P/\Ib T E (Rep T) N H9 (qd (if c=true then qd (Fq (fe h)) λy=>qd (Lu (.ref n) [y]) λ_=>xj nx n tg fi fe k (i+1) h else xj nx n tg fi fe k (i+1) h) (λ_=>ret (.ref n)) P) Q) I8
       ⟨f,h,σ',V,r',p'.ky λc P N c' H9 _ e9 r9 q9 p9=>by cases q9;exact⟨N,P,e9,r9,p9⟩⟩) λc s9 ⟨H9,I9,N,P,e9,r9,p9⟩=>?_)
      have U:∀ {a1:Shared} {l:Hp} {a:List Addr} {g:db},Inv Y ([]++KC fp s7.heap) F l a1->Ext f H8 a l->Rel T a l g->Ib T E (Rep T) a l (qd (xj nx n tg fi fe k (i+1) h) (λ_=>ret (.ref n)) g) Q->
        ∃ m,m<k+1/\∃ i f j σ' q B,Inv Y [] B j a1/\tn i a1.heap/\(∀ b∈fp,j b=none)/\Ext G R f j/\Zh T f j q B/\Rel T f j σ'/\Ib T E (Rep T) f j (qd (xj nx n tg fi fe m i q) (λ_=>ret (.ref n)) σ') Q:=by
       intro a1 l a g S O a0 Z;refine⟨k,Gb _,i+1,a,l,g,h,F,S.xk,TT.keep _ _ _ b5 (λb hb o e=>(S.pin (b,o) (Mb _ (Mb _ (xE hb e)))).1),λb hb=>?_,ex'.trans O,V.mono O,a0,Z⟩;obtain⟨o,e,_⟩:=TT.obj _ _ b5 b hb;exact(S.pin (b,o) (Mb _ (Mb _ (xE hb e)))).2.1
      cases c with
      |false=>
       rw[ja Xa]at p9;exact da ⟨rfl,U I9 e9 r9 p9⟩
      |true=>
       rw[ia rfl,WI]at p9;refine aa (aa (ge (b9 _ _ _ _ _ _ s9 F H9 (λv I=>∃ y s H,Ext f H8 s I/\Rel T s I H/\Rep T s I y v/\Ib T E (Rep T) s I (qd (Lu (.ref n) [y]) (λ_=>qd (xj nx n tg fi fe k (i+1) h) (λ_=>ret (.ref n))) H) Q) I9
        ⟨N,h,P,V.mono e9,r9,p9.ky λy H s v I _ a4 b4 b3 a7=>⟨y,s,H,e9.trans a4,b4,b3,by rw[WI]at a7;exact a7⟩⟩) λw d3 ⟨v,I,c3,c1,y,s,H,a4,b4,b3,a7⟩=>?_))
       have b8:=fW (Q:=λ_ l=>∃ a g,Ext f H8 a l/\Rel T a l g/\Ib T E (Rep T) a l (qd (xj nx n tg fi fe k (i+1) h) (λ_=>ret (.ref n)) g) Q) b4 ((ex'.trans a4).get hn) b3
        (a7.bind λ_ g a d4 l _ O a0 d5 Z=>⟨a,g,a4.trans O,a0,Z⟩)
       refine aa (ge (G6 (X:=Y) _ d3 F I (.ref D0) [v] (.ref D0) [w] _ c3 rfl (.cons c1 .nil) b8) λ_ a1 ⟨d4,l,S,_,a,g,O,a0,Z⟩=>?_);exact da (da ⟨rfl,U S O a0 Z⟩)
 exact codeAny_compStart_list Pm (TT.self X.A 0 _ _ _ a9 Pm)
theorem Cz{w g u:Ja}{K:List Ja}{scope:Scope}{a1:Ye}{x z0:qa}{M':List qa}{ix:List Nat}{src:Ev->M NX}{tg:D->Ev->Option Ev}{fi:Ev->M Bool}{fe:Ev->M D}
  (hc:X.calm=true) (L:Xr X x M' ix scope) (F:Py T X u g src)
  (Z:∀ cl C s₀ H₀ ex,FG T (Su X (x::z0::M') scope cl C s₀ H₀ ex) u tg)
  (U:∀ cl C s₀ H₀ ex,SC T (Su X (x::z0::M') scope cl C s₀ H₀ ex) K fi)
  (A:∀ cl C s₀ H₀ ex,FE T (Su X (x::z0::M') scope cl C s₀ H₀ ex) w fe)
  (hs:∀ y,ph g X.env y=pure y:=by intro _;rfl) :
  FE T X (.ListComp w [⟨u,g,K,0⟩] scope a1) (yr src ix tg fi fe):=by
 intro m s st H Q I h;obtain⟨O,ρ,σ,hE,hr,hp⟩:=h;rw[eval_ListComp];refine zu (use:=none) rfl hs (xS X.env scope (nG I L)) L.kind (λy hy e=>?_) ?_
 ·have q:=pc.mp L.names y hy;rw[e]at q;simp only[gk,ug,Kk]at q;exact eq_of_beq q
 have h1:=F m s st H (λJ j=>∃ nx c d,Ext O H c j/\Rel T c j d/\Xq T c j nx J/\Ib T (XE X st) (Rep T) c j (qd (xj nx d.length tg fi fe 1001 0 (Tv ix ρ)) (λ_=>ret (.ref d.length)) (d++[Ob.lst []])) Q) I
  ⟨O,ρ,σ,hE,hr,hp.bind λnx a3 a2 J H1 _ e1 r1 q1 p1=>⟨nx,a2,a3,e1,r1,q1,p1⟩⟩
 refine ge h1 λv s1 h2=>ge h2 λa4 a h3=>?_;obtain⟨it,fp,tn,J,j,rfl,I2,TT,N,f2,nx,c,d,P,r2,so,p2⟩:=h3;refine Sb (Xx (GK L) (by intro y hy;simp at hy) (λG k l=>?_) L.kind);have I3:=I2.Yz (ys:=[]) (its:=[]) (t':=a.toks) .nil (by simp);have z:j a.heap.objs.size=none:=I2.Rb.fresh (na _);have r3:=r2.push (p:=a.heap.objs.size) (o:=.lst []) (ob:=.lst []) z ⟨[],kh,Wa.nil⟩;have t:Ext c j (c++[a.heap.objs.size]) (upd j a.heap.objs.size (.lst [])):=Uy z;have Y:a.heap.objs.size<(a.heap.push { cls:=.type "list",data:=.seq ([]:List Value).toArray }).objs.size:=by rw[Fc];exact Gb _
 have kp:∀ b o,(a.heap.push { cls:=.type "list",data:=.seq ([]:List Value).toArray }).get? b=some o->G.get? b=some o:=λb o e=>l.extBut b o (va (ua e)) (ba _ e);have f:∀ b∈fp,fu X m (upd j a.heap.objs.size (.lst [])) b/\b<(a.heap.push { cls:=.type "list",data:=.seq ([]:List Value).toArray }).objs.size:=λb hb=>by
  obtain⟨o,e,_⟩:=TT.obj 0 _ N b hb;have lt:=ua e;exact⟨⟨by rw[qe (va lt)];exact(f2 b hb).1,(f2 b hb).2⟩,ym lt Y⟩
 refine lQ (s3:={ a with heap:=a.heap.push { cls:=.type "list",data:=.seq ([]:List Value).toArray },toks:=a.toks }) (n:=d.length) (D0:=a.heap.objs.size) hc L Z U A I3 f k kp TT (TT.keep 0 _ _ N λb hb o e=>kp b o (ba _ e))
  (λO H σ i ex r=>so O H σ i (t.trans ex) r) ((hE.mono P).mono t) r3 (by rw[<-r2.len];simp) (p2.mono t) (λs6 H' m6 V R a0 W B S hq=>⟨m6,V,λh7 E=>?_⟩)
 have hu:=l0 a0 E (na _);have I7:=L2.Inv.vv (s':={ s6 with heap:=h7 }) (ch:=fp) I3 W hu (xU B E R) S (λb hb=>⟨(f b hb).1.2.2.2.1,(f b hb).1.2.1,(f b hb).1.2.2.2.2.1,(f b hb).1.2.2.2.2.2⟩);exact⟨.ref a.heap.objs.size,H',I7,rfl,hq⟩
end
noncomputable def sL(K:W.Frag)(mg:qa->Option Value)(x:qa)(ss:List qa):Prop:=∃ a,mg x=some (.ref a)/\CD K a ss
noncomputable def Nz:List Value->List qa->Bool
 |[],[]=>true
 | .str y _::a,x::ss=>(y == x) && Nz a ss
 |_,_=>false
noncomputable def HI(K:W.Frag)(a:Addr)(ss:List qa):Bool:=match K.lookup a with
 |some o=>(o.cls == .type "tuple") && (match o.data with
  | .seq b _=>decide (b.size<=sizeLine) && Nz b.toList ss
  |_=>false)
 |none=>false
theorem lO:∀ {vs:List Value} {ss:List qa},Nz vs ss=true->re (ss.map V.str) vs
 |[],[],_=>.nil
 |[],_::_,h=>by simp[Nz]at h
 |v::vs,[],h=>by cases v<;>simp[Nz]at h
 |v::vs,x::ss,h=>by
  cases v with
  |str y t=>
   simp only[Nz,Fa]at h;obtain rfl:=eq_of_beq h.1;exact .cons ⟨t,rfl⟩ (lO h.2)
  |_=>simp[Nz]at h
theorem CD.of{K:W.Frag}{a:Addr}{ss:List qa}(h:HI K a ss=true):CD K a ss:=by
 unfold HI at h;cases e:K.lookup a with
 |none=>rw[e]at h;cases h
 |some o=>
  rw[e]at h;simp only[Fa]at h;obtain⟨f,b⟩:=h;cases c:o.data with
  |seq d n=>
   rw[c]at b;simp only[Fa,Lb]at b;exact⟨o,d,n,e,eq_of_beq f,c,b.1,lO b.2⟩
  |_=>rw[c]at b;cases b
section
variable{T:Tb}{X:Cx}{e:Ja}{f:Ev->M D}{x:qa}{p pos:Ye}{ss:List qa}
end
section
variable{T:Tb}{X:Cx}
end
theorem HZ{K:W.Frag}{mg:qa->Option Value}{h:Heap}{x:qa}{C:Addr}{ss:List qa}(X:K.In h)(G:h.Ns mainGlobals mg)(a:W.nsIn K mainGlobals x=some (some (.ref C)))(b:HI K C ss=true):sL K mg x ss:=⟨C,cz X G a,CD.of b⟩
section
variable{T:Tb}{X:Cx}
end
section
variable{T:Tb}{X:Cx}
end
section
variable{prog:ra}{w:Ka}{A:Ia}{E:Value->Shared->Prop}{l q I S:Addr}{n:Nat}{P:Nat->Value->Prop}{R:vq->Shared->Prop}{Q:Value->Shared->Prop}
end
section
variable{X:Cx}{pins:List (Addr × Obj)}{st:St}{H:Hp}{s:Shared}{x:qa}{M':List qa}{ix:List Nat}{scope:Scope}{A:Ia}{qual:qa}{q:Addr}{cd:Value}{v:V}{u:Value}
end
noncomputable def vT(K:W.Frag)(c P:Addr):Bool:=match K.lookup c with
 |some o=>(match o.cls,o.data with
  | .type n,.fields a=>n == "code" && (match (a[11]?:Option Value)with|some (.ref p)=>p == P|_=>false) && (match a.getD 11 .none with | .ref p=>p == P|_=>false) && (match a.getD 18 .none with | .str _ _=>true|_=>false) &&
   (match a.getD 7 .none with | .int _ _=>true|_=>false) && (match a.getD 9 .none with | .bool _=>true|_=>false) && (match a.getD 10 .none with | .int _ _=>true|_=>false) && (c != P)
  |_,_=>false)
 |none=>false
section
variable{T:Tb}{X:Cx}{pins:List (Addr × Obj)}{st:St}{H:Hp}{s:Shared}{μ:List Addr}{σ:db}{x:qa}{M':List qa}{ix:List Nat}{scope:Scope}{params:Arguments}{body:Ja}{pos:Ye}{c:Addr}{t:Tab}
structure sN(T:Tb)(X:Cx)(t:Tab)(c:Addr)(pos:Ye):Prop where
 mem:t∈T.tx.KH
 inj:∀ t'∈T.tx.KH,t'.P=t.P->t'=t
 code:X.env.code=.ref c
 hd:vT X.K c t.P=true
 line:t.line=pos.line
 col:t.col=pos.col
 qual:t.qual=X.env.qual++"<lambda>"
 bm:X.mg "__builtins__" = some (.ref T.tx.bm)
 bb:T.tx.bm≠builtinsNs
end
section
variable{T:Tb}{X:Cx}
end
noncomputable def wN(K:W.Frag)(x:qa):Addr:=((W.tabIn K x).getD (0,0)).1
noncomputable def AN(K:W.Frag)(x:qa):Addr:=((W.tabIn K x).getD (0,0)).2
noncomputable def MJ(K:W.Frag):Addr:=match W.nsIn K mainGlobals "__builtins__" with
 |some (some (.ref a))=>a
 |_=>0
structure vW(K:W.Frag)(xs:List qa):Prop where
 no:W.noTabs K=true
 bm:W.nsIn K mainGlobals "__builtins__" = some (some (.ref (MJ K)))
 bk:K.lookup (MJ K)=none
 bb:MJ K≠builtinsNs
 tab:∀ x∈xs,W.tabIn K x=some (wN K x,AN K x)
 hd:∀ x∈xs,vT K (wN K x) (AN K x)=true
noncomputable def iD(x:D)(xs:List D):M D:=λa=>match x,xs with
 | .ref n,[y]=>(match ek a n with
  |some b=>(match Oi a y with
   |some zs=>if b.length+zs.length<=li then .ok .Jb (a.set n (.lst (b++zs)))else .bad
   |none=>.bad)
  |none=>.bad)
 |_,_=>.bad
section
variable{T:Tb}
theorem JY:HA T WQ iD:=by
 intro E s H t x xs v c Q r p q h;cases x with
 |ref n=>
  match xs with
  |[]=>exact h.elim
  |[y]=>
   rw[Wa]at q;obtain⟨w,z,rfl,q1,q2⟩:=q;rw[Wa]at q2;subst q2;unfold iD at h;cases d:ek t n with
   |none=>simp only[d]at h;exact h.elim
   |some m=>
    simp only[d]at h;cases e:Oi t y with
    |none=>simp only[e]at h;exact h.elim
    |some zs=>
     simp only[e]at h;by_cases f:m.length+zs.length<=li
     ·rw[ia f]at h;obtain⟨a,c,rfl,hn,i,j⟩:=r.lst p d;obtain⟨b,g,rfl,u,k⟩:=r.ls q1 e;have l:=r.write (o:=.lst (c++g)) (ob:=.lst (m++zs)) hn ⟨_,kh,by
       have ex:Ext s H s (upd H a (.lst (c++g))):=Mu (Ga hn) i (λ_ z=>by cases z) (λ_ _ z=>by cases z);exact Wa.append (Wa.mono ex _ _ j) (Wa.mono ex _ _ k)⟩
      exact⟨a,b,c,g,rfl,rfl,i,u,by rw[<-j.length,<-k.length];exact wz f,h _ _ _ l.1 l.2 (by rw[Rep])⟩
     ·rw[ja f]at h;exact h.elim
  |_::_::_=>exact h.elim
 |_=>exact h.elim
end
section
variable{T:Tb}{X:Cx}
end
section
variable{X:Cx}{pins:List (Addr × Obj)}{st:St}{H:Hp}{s:Shared}{x z0 z1:qa}{M':List qa}{ix:List Nat}{scope:Scope}{fp:List Addr}
end
section
variable{T:Tb}{X:Cx}
end
section
variable{T:Tb}{X:Cx}{pins:List (Addr × Obj)}{st:St}{H:Hp}{s:Shared}{μ:List Addr}{σ:db}
end
section
variable{T:Tb}{X:Cx}
end
section
variable{T:Tb}{X:Cx}{x y:qa}{p pos:Ye}{ss:List qa}
theorem O0(c:Gl X x)(b:sL T.K X.mg x ss)(hd:(x == ("__debug__" : qa))=false:=by decide):FE T X (.Name x p) (eC (.gt ss)):=by
 obtain⟨a,hm,hT⟩:=b;exact FB (kK c hm (v:=.ref a) rfl hd) λ_ _=>by rw[Rep];exact⟨a,rfl,hT⟩
end
section
variable{T:Tb}{μ μ':List Addr}{H H':Hp}{σ:db}{a:Addr}
mutual
theorem Rep.chg(j:∀ b,b≠a->H' b=H b)(l:a∈μ)(r:∀ xs,H a≠some (.tup xs))(s:∀ o xs,H a≠some (.Za o (.lst xs))):∀ (d:D) (v:V),Rep T μ H d v->Rep T μ H' d v
 | .Jb,v,h=>by simpa [Rep]using h
 | .bl b,v,h=>by simpa [Rep]using h
 | .int i,v,h=>by simpa [Rep]using h
 | .str x,v,h=>by simpa [Rep]using h
 | .tup ds,v,h=>by
  rw[Rep]at h ⊢;obtain⟨p,m,g,e,k⟩:=h;exact⟨p,m,g,by rw[j p (λz=>r _ (by rw[<-z];exact e))];exact e,Wa.chg j l r s ds m k⟩
 | .je ns,v,h=>by
  rw[Rep]at h ⊢;obtain⟨p,g,e⟩:=h;refine⟨p,g,?_⟩;rcases e with⟨o,e⟩|e
  ·exact .inl ⟨o,by rw[j p (λz=>s _ _ (by rw[<-z];exact e))];exact e⟩
  ·exact .inr e
 | .ref n,v,h=>by rw[Rep]at h ⊢;exact h
 | .lst ds,v,h=>by
  rw[Rep]at h ⊢;obtain⟨p,m,g,f,e,k⟩:=h;exact⟨p,m,g,f,by rw[j p (λz=>f (by rw[z];exact l))];exact e,Wa.chg j l r s ds m k⟩
 | .Ya A ds,v,h=>by
  rw[Rep]at h ⊢;obtain⟨p,m,g,f,e,t,k⟩:=h;exact⟨p,m,g,f,by unfold Rd at e ⊢;rw[j p (λz=>f (by rw[z];exact l))];exact e,t,Wa.chg j l r s ds _ k⟩
 | .obj c ns ds,v,h=>by
  rw[Rep]at h ⊢;obtain⟨p,y,m,g,f,e,t,k⟩:=h;exact⟨p,y,m,g,f,by rw[j p (λz=>f (by rw[z];exact l))];exact e,t,Wa.chg j l r s ds _ k⟩
 | .ku c,v,h=>by
  rw[Rep]at h ⊢;obtain⟨p,w,g,f,e,k⟩:=h;refine⟨p,w,g,f,by rw[j p (λz=>f (by rw[z];exact l))];exact e,λn q=>?_⟩;obtain⟨u,q1,q2,q3⟩:=k n q;exact⟨u,q1,q2,by rw[j u (λz=>q2 (by rw[z];exact l))];exact q3⟩
 | .gt ss,v,h=>by rw[Rep]at h ⊢;exact h
theorem Wa.chg(g:∀ b,b≠a->H' b=H b)(f:a∈μ)(c:∀ xs,H a≠some (.tup xs))(e:∀ o xs,H a≠some (.Za o (.lst xs))):∀ (ds:List D) (vs:List V),Wa T μ H ds vs->Wa T μ H' ds vs
 |[],vs,h=>by simpa [Wa]using h
 |d::ds,vs,h=>by
  rw[Wa]at h ⊢;obtain⟨v,r,i,j,k⟩:=h;exact⟨v,r,i,Rep.chg g f c e d v j,Wa.chg g f c e ds r k⟩
end
theorem iG{c:Type}(g:∀ b,b≠a->H' b=H b)(f:a∈μ)(d:∀ xs,H a≠some (.tup xs))(e:∀ o xs,H a≠some (.Za o (.lst xs))){xs:List (c × D)}{ys:List (c × V)}(h:Paired (λ(p:c × D) (q:c × V)=>p.1=q.1/\Rep T μ H p.2 q.2) xs ys) :
  Paired (λ(p:c × D) (q:c × V)=>p.1=q.1/\Rep T μ H' p.2 q.2) xs ys:=L2.Paired.Es h λp q z=>⟨z.1,Rep.chg g f d e _ _ z.2⟩
theorem jq.chg(d:∀ b,b≠a->H' b=H b)(i:a∈μ)(f:∀ xs,H a≠Option.some (.tup xs))(g:∀ o xs,H a≠Option.some (.Za o (.lst xs))){b:Addr}(hb:b≠a):∀ {o:Ob},jq T μ H b o->jq T μ H' b o
 | .lst ds,⟨e,h,r⟩=>⟨e,(d b hb).trans h,Wa.chg d i f g _ _ r⟩
 | .Ya j,⟨e,h,r⟩=>⟨e,(d b hb).trans h,iG d i f g r⟩
 | .ins c fs,⟨k,e,h,r⟩=>⟨k,e,(d b hb).trans h,iG d i f g r⟩
 | .Kc j,⟨l,e,h,r⟩=>⟨l,e,(d b hb).trans h,iG d i f g r⟩
 | .eg m,⟨e,h,r⟩=>⟨e,(d b hb).trans h,r⟩
theorem Rel.chg(r:Rel T μ H σ)(e:∀ b,b≠a->H' b=H b){n:Nat}(hn:μ[n]?=some a)(f:∀ xs,H a≠some (.tup xs))(g:∀ o xs,H a≠some (.Za o (.lst xs))){ob:Ob}(j:jq T μ H' a ob):Rel T μ H' (σ.set n ob):=by
 have d:=Ga hn;refine⟨by simp[r.len],r.nd,λm x h=>?_,r.tb.out e (.inl d)⟩;rw[Cb]at h;by_cases hm:n=m
 ·subst hm;rw[ia rfl]at h;split at h
  ·cases h;exact⟨a,hn,j⟩
  ·cases h
 ·rw[ja hm]at h;obtain⟨b,c,i⟩:=r.obs m x h;exact⟨b,c,i.chg e d f g (λz=>hm (by subst z;exact HF r.nd hn c))⟩
end
theorem _root_.L2.Inv.nv{X:Cx}{d:List (Addr × Obj)}{f:St}{H:Hp}{s:Shared}{a:Addr}{od:Obj}{kvs:List (Key × V)}(I:Inv X d f H s)(hd:H a=some (.Za od (.dK kvs)))(g:∀ o u,X.H₀ a≠some (.Za o u)):Inv X d f (upd H a (.dK kvs)) s:=by
 have ne:∀ b u,H b=some u->(∀ o w,u≠.Za o w)->b≠a:=λb u q n z=>by rw[z,hd]at q;exact n _ _ (ub q).symm
 refine⟨I.ok,I.os,I.bare,⟨I.base.keep,I.base.slot,λb o e n i=>?_,I.base.there,λb xs e=>?_,λb o u e=>?_,λb j e=>?_⟩,I.loc,I.cell,?_,λx c e=>?_,λp h=>?_,λb u e=>?_,I.len⟩
 ·have:=I.base.free b o e n i;rw[qe (λz=>by rw[z,hd]at this;cases this)];exact this
 ·have:=I.base.Di b xs e;rw[qe (ne b _ this (λ_ _ z=>by cases z))];exact this
 ·have:=I.base.Ph b o u e;rw[qe (λz=>g o u (by rw[<-z];exact e))];exact this
 ·obtain⟨more,this⟩:=I.base.Ci b j e;exact⟨more,by rw[qe (ne b _ this (λ_ _ z=>by cases z))];exact this⟩
 ·rw[qe (λz=>by have:=I.free;rw[z,hd]at this;cases this)];exact I.free
 ·have:=I.Kg x c e;rw[qe (λz=>by rw[z,hd]at this;cases this)];exact this
 ·obtain⟨q1,q2,q3⟩:=I.pin p h;exact⟨q1,by rw[qe (λz=>by rw[z,hd]at q2;cases q2)];exact q2,q3⟩
 ·by_cases hb:b=a
  ·subst hb;rw[kh]at e;cases e;exact(I.Rb b _ hd).2
  ·rw[qe hb]at e;refine(I.Rb b u e).jm (λc v _ z=>z) (λc z=>?_) λc xs z=>?_
   ·rw[qe (ne c _ z (λ_ _ y=>by cases y))];exact z
   ·rw[qe (ne c _ z (λ_ _ y=>by cases y))];exact z
section
variable{T:Tb}{X:Cx}{elts:List Ja}{kk:Nat}{p0:Ye}
theorem gI{μ:List Addr}{H:Hp}{a:Addr}{od:Obj}{kvs:List (Key × V)}{f:List (Key × D)}(o:H a=some (.Za od (.dK kvs)))(s:yh T μ H f kvs):Xq T μ H (Ys f) (Itm a od kvs):=by
 intro h j u i ex t;have k:j a=some (.Za od (.dK kvs)):=ex.Za _ _ _ o;have e:yh T h j f kvs:=yh.mono ex s;unfold Ys;cases n:f[i]? with
 |none=>
  dsimp only;by_cases g:i=f.length
  ·rw[ia g];exact⟨k,by rw[g];exact Paired.length e⟩
  ·rw[ja g];trivial
 |some p=>
  obtain⟨q,l,d,m⟩:=RG e i n;refine⟨⟨k,q,l⟩,λz v y=>?_⟩;obtain⟨r,w,x,b,rfl,c,rfl⟩:=y;rw[l]at c;cases c;dsimp only at d m;refine⟨Om b,t.fresh b,?_⟩;rw[Rep,d];exact⟨r,_,rfl,kh,Wa.cons (qN _) (Wa.cons (Rep.mono (Om b) _ _ m) Wa.nil)⟩
noncomputable def OA(d:D):M NX:=λb=>match d with
 | .Ya c xs=>if c.length=xs.length then .ok (Ys (c.zip xs)) b else .bad
 | .ref n=>(match b[n]? with
  |some (.Ya a)=>.ok (Ys a) (b.set n (.Kc a))
  |some (.Kc a)=>.ok (Ys a) b
  |_=>.bad)
 |_=>.bad
noncomputable def iu(f:Ev->M D):Ev->M NX:=λa=>qd (f a) OA
theorem ZC{e:Ja}{f:Ev->M D}{t u:Ye}(h:FE T X e f)(B:Ae e "items" X.env (Nb e X.env)=Nb e X.env:=by rfl)(C:(t.endLine == u.line)=true:=by rfl) :
  Py T X (.Tuple elts kk p0) (.Call (.Attribute e "items" t) [] [] u) (iu f):=by
 intro L s st H R I hw;refine U9 (eR wg yp PySem.F.type_dict_items kZ h B C) L s st H R I ?_;obtain⟨μ,ρ,σ,Y,hr,Z⟩:=hw;refine⟨μ,ρ,σ,Y,hr,Z.bind λd σ1 c v j _ e1 O q1 p1=>?_⟩;unfold OA at p1;cases d with
 |Ya ks xs=>
  dsimp only at p1;by_cases V:ks.length=xs.length
  ·rw[ia V]at p1;rw[Rep]at q1;obtain⟨a,i,rfl,hn,p,Q,S⟩:=q1;refine⟨⟨a,i,rfl,p⟩,a,i,rfl,rfl,p,λl g=>?_⟩;have r:a≠l:=by rcases p with p|⟨_,p⟩<;>exact Wp p g
   have P:Rd (upd j l (.ext (Tq l a))) a (.dK i):=by unfold Rd;rw[qe r];exact p
   refine⟨l,a,i,rfl,kh,P,λod m=>?_⟩;have x:Ext c j c (upd j l (.ext (Tq l a))):=Om g;have k:Rel T c (upd j l (.ext (Tq l a))) σ1:=O.fresh g;obtain⟨W,U⟩:Ext c j c (upd (upd j l (.ext (Tq l a))) a (.Za od (.dK i)))/\Rel T c (upd (upd j l (.ext (Tq l a))) a (.Za od (.dK i))) σ1:=by
    rcases m with m|m
    ·have y:=ZR (μ:=c) (od:=od) m;exact⟨x.trans y,k.keep y (λb hb=>qe (λz=>hn (by rw[<-z];exact hb))) (k.tb.out (λb hb=>qe hb) (.inr ⟨_,m⟩))⟩
    ·rw[Jy m];exact⟨x,k⟩
   exact Ib.here (R:=Xq T) (Ib.mono W p1) U (gI kh (yh.mono W (IG Q S)))
  ·rw[ja V]at p1;exact p1.elim
 |ref n=>
  dsimp only at p1;cases N:σ1[n]? with
  |none=>rw[N]at p1;exact p1.elim
  |some o=>
   rw[N]at p1;obtain⟨a,rfl,hn,K⟩:=O.at q1 N;cases o with
   |Ya i=>
    obtain⟨vs,A,E⟩:=K;have p:Rd j a (.dK vs):=.inl A;refine⟨⟨a,vs,rfl,p⟩,a,vs,rfl,rfl,p,λl g=>?_⟩;have r:a≠l:=Wp A g;have q:upd j l (.ext (Tq l a)) a=some (.dK vs):=by rw[qe r];exact A
    refine⟨l,a,vs,rfl,kh,.inl q,λod _=>?_⟩;have x:Ext c j c (upd j l (.ext (Tq l a))):=Om g;have k:Rel T c (upd j l (.ext (Tq l a))) σ1:=O.fresh g;have J:Ext c (upd j l (.ext (Tq l a))) c (upd (upd j l (.ext (Tq l a))) a (.Za od (.dK vs))):=Mu (Ga hn) q (λ_ z=>by cases z) (λ_ _ z=>by cases z);have w:yh T c (upd (upd j l (.ext (Tq l a))) a (.Za od (.dK vs))) i vs:=yh.mono (x.trans J) E;have wr:=k.write (o:=.Za od (.dK vs)) (ob:=.Kc i) hn ⟨od,vs,kh,w⟩ (λkv z=>by rw[N]at z;cases z);exact Ib.here (R:=Xq T) (Ib.mono (x.trans J) p1) wr.2 (gI kh w)
   |Kc i=>
    obtain⟨G,vs,A,E⟩:=K;have p:Rd j a (.dK vs):=.inr ⟨G,A⟩;refine⟨⟨a,vs,rfl,p⟩,a,vs,rfl,rfl,p,λl g=>?_⟩;have r:a≠l:=Wp A g;have q:upd j l (.ext (Tq l a)) a=some (.Za G (.dK vs)):=by rw[qe r];exact A
    refine⟨l,a,vs,rfl,kh,.inr ⟨G,q⟩,λod m=>?_⟩;have x:Ext c j c (upd j l (.ext (Tq l a))):=Om g;have k:Rel T c (upd j l (.ext (Tq l a))) σ1:=O.fresh g;rcases m with m|m
    ·rw[q]at m;cases m
    ·rw[Jy m];exact Ib.here (R:=Xq T) (Ib.mono x p1) k (gI m (yh.mono x E))
   |_=>exact p1.elim
 |_=>exact p1.elim
noncomputable def Jx{c:Type}(ok:c->Bool)(n:Nat):Out c->Out c
 | .ok a σ=>if ok a=true then (match σ[n]? with
  |some (.Kc b)=>.ok a (σ.set n (.Ya b))
  |_=>.bad)else .bad
 |_=>.bad
noncomputable def Gu{α:Type}(ok:α->Bool)(m:M D)(g:M α):M α:=λa=>match m a with
 | .ok (.ref n) _=>(match a[n]? with
  |some (.Ya _)=>Jx ok n (g a)
  |_=>g a)
 |_=>g a
noncomputable def Vw:Fl->Bool
 | .xc _ _=>false
 |_=>true
noncomputable def qv(f:Ev->M D)(g:Ev->M Fl):Ev->M Fl:=λa=>Gu Vw (f a) (g a)
noncomputable def QF(f:Ev->M D)(g:Ev->M D):Ev->M D:=λa=>Gu (λ_=>true) (f a) (g a)
theorem E5{μ μ':List Addr}{H b:Hp}{a:Addr}{d vs:List (Key × V)}{od:Obj}(ex:Ext μ H μ' b)(c:a∈μ)(e:H a=some (.dK d))(hz:b a=some (.Za od (.dK vs))):Ext μ H μ' (upd b a (.dK vs)):=by
 refine⟨ex.pre,λp xs h=>?_,λp o u h=>?_,λp o h n=>?_⟩
 ·rw[qe (λz=>by rw[z,e]at h;cases h)];exact ex.tup p xs h
 ·rw[qe (λz=>by rw[z,e]at h;cases h)];exact ex.Za p o u h
 ·rw[qe (λz=>n (by rw[z];exact c))];exact ex.keep p o h n
theorem rT{l s:Type}{E:XK}{R:List Addr->Hp->l->s->Prop}{ok:l->Bool}{μ:List Addr}{H:Hp}{n:Nat}{a:Addr}{q:List (Key × V)}{o:Out l}{Q:s->Hp->Prop}(hn:μ[n]?=some a)(y:H a=some (.dK q))
  (w:∀ (μ':List Addr) (c:Hp) (d:l) (g:s) (od:Obj) (vs:List (Key × V)),a∈μ'->c a=some (.Za od (.dK vs))->ok d=true->R μ' c d g->R μ' (upd c a (.dK vs)) d g) (h:Ib T E R μ H (Jx ok n o) Q) :
  Ib T E R μ H o (λg c=>∃ od vs,c a=some (.Za od (.dK vs))/\Q g (upd c a (.dK vs))/\∃ μ' d,ok d=true/\R μ' c d g):=by
 cases o with
 |bad=>exact h
 |ex x k=>exact h.elim
 |ok d k=>
  unfold Jx at h;dsimp only at h;by_cases Rb:ok d=true
  ·rw[ia Rb]at h;cases m:k[n]? with
   |none=>rw[m]at h;exact h.elim
   |some B=>
    rw[m]at h;cases B with
    |Kc A=>
     intro μ' g c ex r v;obtain⟨C,i,od,vs,j,p⟩:=r.obs n _ m;have e:=ex.get hn;rw[e]at i;cases i;have f:a∈μ':=Ga e;have u:∀ b,b≠a->upd c a (.dK vs) b=c b:=λb hb=>qe hb;have t:∀ xs,c a≠some (.tup xs):=λxs z=>by rw[j]at z;cases z
     have g2:∀ o xs,c a≠some (.Za o (.lst xs)):=λo xs z=>by rw[j]at z;cases z
     exact⟨od,vs,j,h μ' g _ (E5 ex (Ga hn) y j) (r.chg u e t g2 ⟨vs,kh,iG u f t g2 p⟩) (w μ' c d g od vs f j Rb v),μ',d,Rb,v⟩
    |_=>exact h.elim
  ·rw[ja Rb]at h;exact h.elim
theorem iC{μ':List Addr}{c:Hp}{a:Addr}{od:Obj}{vs:List (Key × V)}(e:a∈μ')(hz:c a=some (.Za od (.dK vs)))(d:D)(v:V)(h:Rep T μ' c d v):Rep T μ' (upd c a (.dK vs)) d v:=
 Rep.chg (λb hb=>qe hb) e (λxs z=>by rw[hz]at z;cases z) (λo xs z=>by rw[hz]at z;cases z) d v h
theorem uB{s:Stmt}{f:Ev->M D}{g:Ev->M Fl}(h:FS T X s g):FS T X s (qv f g):=by
 intro p sh N H D I l;obtain⟨E,G,J,K,C,x⟩:=l;have plain:Ib T EN (Jl T) E H (g G J) (wk X D)->wpAny (model X.prog X.w) X.A (exec s X.env) (SP X p D) X.xe sh:=λq=>h p sh N H D I ⟨E,G,J,K,C,q⟩;unfold qv Gu at x;split at x
 ·rename_i n _ _
  split at x
  ·rename_i Q O
   obtain⟨a,hn,S,L,_⟩:=C.obs n _ O;have B:∀ o u,X.H₀ a≠some (.Za o u):=λo u z=>by have:=I.base.Ph a o u z;rw[L]at this;cases this
   have q:=rT hn L (λF e d gl k c r j Rb m=>by
    cases d with
    |xc _ _=>cases Rb
    |nx y=>cases gl<;>first|exact m.elim|exact⟨m.1,λi d q=>let ⟨v,w1,w2⟩:=m.2 i d q;⟨v,w1,iC r j _ _ w2⟩⟩
    |bk y=>cases gl<;>first|exact m.elim|exact⟨m.1,λi d q=>let ⟨v,w1,w2⟩:=m.2 i d q;⟨v,w1,iC r j _ _ w2⟩⟩
    |ct y=>cases gl<;>first|exact m.elim|exact⟨m.1,λi d q=>let ⟨v,w1,w2⟩:=m.2 i d q;⟨v,w1,iC r j _ _ w2⟩⟩
    |rt U=>cases gl<;>first|exact m.elim|exact iC r j _ _ m) x
   refine rc (h p sh N H ⟨λb e=>∃ k c,e a=some (.Za k (.dK c))/\D.nx b (upd e a (.dK c)),λv e=>∃ k c,e a=some (.Za k (.dK c))/\D.rt v (upd e a (.dK c)),λb e=>∃ k c,e a=some (.Za k (.dK c))/\D.bk b (upd e a (.dK c)),λb e=>∃ k c,e a=some (.Za k (.dK c))/\D.ct b (upd e a (.dK c))⟩ I ⟨E,G,J,K,C,q.imp λgl e z=>?_⟩) (λP V z=>?_) λ_ _ z=>z
   ·obtain⟨k,c,j,l,F,d,Rb,m⟩:=z;cases gl with
    |nx b=>exact⟨k,c,j,l⟩
    |rt v=>exact⟨k,c,j,l⟩
    |bk b=>exact⟨k,c,j,l⟩
    |ct b=>exact⟨k,c,j,l⟩
    |xc b cls fd=>cases d<;>first|exact m.elim|cases Rb
   ·cases P with
    |next=>obtain⟨b,e,t,k,c,j,l⟩:=z;exact⟨b,_,t.nv j B,l⟩
    |brk=>obtain⟨b,e,t,k,c,j,l⟩:=z;exact⟨b,_,t.nv j B,l⟩
    |cont=>obtain⟨b,e,t,k,c,j,l⟩:=z;exact⟨b,_,t.nv j B,l⟩
    |ret u=>obtain⟨v,b,e,t,R,k,c,j,l⟩:=z;exact⟨v,b,_,t.nv j B,R,l⟩
  ·exact plain x
 ·exact plain x
theorem zzw{e:Ja}{f g:Ev->M D}(h:FE T X e g):FE T X e (QF f g):=by
 intro b sh i H Q I k;obtain⟨p,r,s,t,l,c⟩:=k;have plain:Ib T (XE X i) (Rep T) p H (g r s) Q->wpAny (model X.prog X.w) X.A (Nb e X.env) (EP X b i Q) X.xe sh:=λq=>h b sh i H Q I ⟨p,r,s,t,l,q⟩;unfold QF Gu at c;split at c
 ·rename_i n _ _
  split at c
  ·rename_i F C
   obtain⟨a,hn,N,x,_⟩:=l.obs n _ C;have E:∀ o u,X.H₀ a≠some (.Za o u):=λo u z=>by have:=I.base.Ph a o u z;rw[x]at this;cases this
   have q:=rT hn x (λO y d v G L j m _ J=>iC j m d v J) c;refine rc (h b sh i H _ I ⟨p,r,s,t,l,q⟩) (λu P z=>?_) λ_ _ z=>z;obtain⟨v,y,B,K,G,L,m,k,_⟩:=z;exact⟨v,_,B.nv m E,K,k⟩
  ·exact plain c
 ·exact plain c
end
end L4
namespace L4
open PySem PySem.Spec PyProof.Rows L2
noncomputable def JF(d:Addr)(od:Obj)(kvs:List (Key × V)):It:=
 ⟨λi H=>H d=some (.Za od (.dK kvs))/\∃ x,kvs[i]?=some x,λi H v a=>a=H/\∃ k x,v=kV k/\kvs[i]?=some (k,x),λi H=>H d=some (.Za od (.dK kvs))/\i=kvs.length⟩
theorem iV{P:ra}{w:Ka}{K:W.Frag}{tg:Ja}(d it:Addr)(od:Obj)(kvs:List (Key × V))(Z:d≠it){es:Array bv}{ep:Nat}(l:od.data=.dict es ep) :
  Turn P w K tg (JF d od kvs) [it] it (λi h=>h.IsKeyIter it d i kvs.length ep) where
 mem:=by simp
 obj:=λi h a b hb=>by
  obtain rfl:b=it:=by simpa using hb
  obtain⟨o,e,c,q⟩:=a;exact⟨o,e,λv z=>by rw[q]at z;cases z⟩
 keep:=λi h n a k=>a.at λo e=>k it (by simp) o e
 item:=by
  intro X G M F O i f s S H E I p a J;subst G M F;obtain⟨hd,⟨k,x⟩,R⟩:=J;obtain⟨vs,t,r,rel,g,hm⟩:=Zw I hd;rw[l]at g;cases g;obtain⟨u,hu,ru⟩:=cH rel i R;rw[rel.length]at a;obtain⟨y,A,Y,B,C,D⟩:=p it (by simp);refine wpAny_pyNext_dict_item a hm hu λN n j m L=>?_;have T:Inv X f S H { s with heap:=n }:=I.turned (t':=s.toks) (λb o hb e=>L.extBut b o hb e) y A B C D;obtain⟨o,e,c,q⟩:=id m;exact⟨N,rfl,cD (s:={ s with heap:=n }) e c q (by decide) ⟨kV k,H,T,DP j,⟨rfl,k,x,rfl,R⟩,by rw[rel.length];exact m,λb hb=>(p b hb).1⟩⟩
 done:=by
  intro X G M F O i f s S H E I p a J;subst G M F;obtain⟨hd,Q⟩:=J;obtain⟨vs,t,r,rel,g,hm⟩:=Zw I hd;rw[l]at g;cases g;rw[rel.length]at a Q;obtain⟨y,A,Y,B,C,D⟩:=p it (by simp);exact wpAny_pyNext_dict_end (I.ok.hd O) a hm (by rw[Q];simp) λn U=>⟨rfl,I.turned (t':=s.toks) (λb o hb e=>U b o hb e) y A B C D⟩
 self:=λ_ _ _ _ _ a h=>wpAny_pyIter_keyiter a h
noncomputable def dD(a:List (Key × D)):NX:=λi _=>match a[i]? with
 |some p=>some (some (GD p.1))
 |none=>if i=a.length then some none else none
noncomputable def TJ(d:D):M NX:=λb=>match d with
 | .ref n=>(match b[n]? with
  |some (.Ya a)=>.ok (dD a) (b.set n (.Kc a))
  |some (.Kc a)=>.ok (dD a) b
  |_=>.bad)
 |_=>.bad
noncomputable def nL(f:Ev->M D):Ev->M NX:=λa=>qd (f a) TJ
section
variable{T:Tb}{X:Cx}{tg:Ja}
theorem FM{μ:List Addr}{H:Hp}{a:Addr}{od:Obj}{kvs:List (Key × V)}{e:List (Key × D)}(m:H a=some (.Za od (.dK kvs)))(n:yh T μ H e kvs):Xq T μ H (dD e) (JF a od kvs):=by
 intro g h r i ex o;have j:h a=some (.Za od (.dK kvs)):=ex.Za _ _ _ m;have d:yh T g h e kvs:=yh.mono ex n;unfold dD;cases l:e[i]? with
 |none=>
  dsimp only;by_cases f:i=e.length
  ·rw[ia f];exact⟨j,by rw[f];exact Paired.length d⟩
  ·rw[ja f];trivial
 |some p=>
  obtain⟨q,k,c,u⟩:=RG d i l;refine⟨⟨j,q,k⟩,λz s y=>?_⟩;obtain⟨rfl,t,v,rfl,b⟩:=y;rw[k]at b;cases b;dsimp only at c;exact⟨Ext.refl _ _,o,by rw[c];exact qN _⟩
noncomputable def XW(e:TE):TI:=λf H R=>e f H λv c=>∃ a b,v=.ref a/\Rd c a (.dK b)/\∀ d,c a=some (.dK b)\/c a=some (.Za d (.dK b))->R (JF a d b) (upd c a (.Za d (.dK b)))
theorem ZV{f:Ja}{n:TE}(w:PE X f n):PI X tg f (XW n):=by
 intro i s p H R I h;refine ge (w i s p H _ I h) λv s1 ⟨x,H1,j,A,q1⟩=>?_;obtain⟨a,c,rfl,d,q⟩:=q1;cases A;obtain⟨_,y,_⟩:=Ku j.Rb d;obtain⟨g,m,k⟩:∃ g,(H1 a=some (.dK c)\/H1 a=some (.Za g (.dK c)))/\Inv X i p (upd H1 a (.Za g (.dK c))) s1:=by
  rcases d with d|⟨g,d⟩
  ·obtain⟨_,_,B,rel,o,u,t,e,_⟩:=j.Rb a _ d;exact⟨o,.inl d,j.freeze d e⟩
  ·exact⟨g,.inr d,by rw[Jy d];exact j⟩
 obtain⟨B,u,t,rel,r,hm⟩:=Zw k kh;have l:a≠s1.heap.objs.size:=va hm.lt_size;refine wpAny_pyIter_dict y hm ?_;refine⟨s1.heap.objs.size,[s1.heap.objs.size],_,JF a g c,_,rfl,k.kept (t':=s1.toks) (λb o e=>ba _ e),iV a _ g c l r,by rw[rel.length];exact⟨_,mz _ _ (λz=>by cases z),rfl,rfl⟩,λb hb=>?_,q g m⟩;obtain rfl:b=s1.heap.objs.size:=by simpa using hb
 exact k.Hs (na _) (k.Rb.fresh (na _))
theorem rW{e:Ja}{f:Ev->M D}(h:FE T X e f):Py T X tg e (nL f):=by
 intro q s E H R I C;refine ZV h q s E H R I ?_;obtain⟨G,J,K,y,B,A⟩:=C;refine⟨G,J,K,y,B,A.bind λd x j v t _ L w q1 p1=>?_⟩;unfold TJ at p1;cases d with
 |ref n=>
  dsimp only at p1;cases r:x[n]? with
  |none=>rw[r]at p1;exact p1.elim
  |some o=>
   rw[r]at p1;obtain⟨a,rfl,hn,m⟩:=w.at q1 r;cases o with
   |Ya i=>
    obtain⟨vs,l,g⟩:=m;refine⟨a,vs,rfl,.inl l,λp _=>?_⟩;have k:Ext j t j (upd t a (.Za p (.dK vs))):=Mu (Ga hn) l (λ_ z=>by cases z) (λ_ _ z=>by cases z);have b:yh T j (upd t a (.Za p (.dK vs))) i vs:=yh.mono k g;have F:=w.write (o:=.Za p (.dK vs)) (ob:=.Kc i) hn ⟨p,vs,kh,b⟩ (λN z=>by rw[r]at z;cases z);exact Ib.here (R:=Xq T) (Ib.mono k p1) F.2 (FM kh b)
   |Kc i=>
    obtain⟨u,vs,l,g⟩:=m;refine⟨a,vs,rfl,.inr ⟨u,l⟩,λp c=>?_⟩;rcases c with c|c
    ·rw[l]at c;cases c
    ·rw[Jy c];exact Ib.here (R:=Xq T) p1 w (FM c g)
   |_=>exact p1.elim
 |_=>exact p1.elim
end
section
variable{T:Tb}{X:Cx}
theorem jo{es:List Stmt}:Hq T X es Zl:=λpins s st H D I ⟨b,c,σ,_,_,a⟩=>a.elim
end
open Classical in
noncomputable def dO(μ μ' b:List Addr):Prop:=(∃ r,μ'=μ++r)/\(∀ (n:Nat) (a:Addr),μ[n]?=some a->b[n]?=some a)/\∀ a∈b,a∈μ'
section
variable{T:Tb}{μ μ' μ2:List Addr}{H H':Hp}{σ σ':db}
mutual
theorem jJ.down(e:dO μ μ' μ2):∀ (d:D) (v0 v:V),Rep T μ H d v0->Rep T μ' H' d v->Rep T μ2 H' d v
 | .Jb,v0,v,_,h=>by simpa [Rep]using h
 | .bl b,v0,v,_,h=>by simpa [Rep]using h
 | .int i,v0,v,_,h=>by simpa [Rep]using h
 | .str x,v0,v,_,h=>by simpa [Rep]using h
 | .tup ds,v0,v,c,h=>by
  rw[Rep]at h c ⊢;obtain⟨p,m,g,f,j⟩:=h;obtain⟨p0,l,_,_,w⟩:=c;exact⟨p,m,g,f,Uq.down e ds l m w j⟩
 | .je ns,v0,v,_,h=>by rw[Rep]at h ⊢;exact h
 | .ref n,v0,v,c,h=>by
  rw[Rep]at h c ⊢;obtain⟨a,g,f⟩:=h;obtain⟨b,_,t⟩:=c;refine⟨a,g,?_⟩;have j:=e.2.1 _ _ t;obtain⟨⟨r,rfl⟩,_⟩:=e;rw[Ta (ma.mp t).1]at f;rw[t]at f;cases f;exact j
 | .lst ds,v0,v,c,h=>by
  rw[Rep]at h c ⊢;obtain⟨a,m,g,f,j,o⟩:=h;obtain⟨_,l,_,_,_,s⟩:=c;exact⟨a,m,g,λz=>f (e.2.2 _ z),j,Uq.down e ds l m s o⟩
 | .Ya C ds,v0,v,c,h=>by
  rw[Rep]at h c ⊢;obtain⟨a,m,g,f,j,u,o⟩:=h;obtain⟨_,l,_,_,_,_,s⟩:=c;exact⟨a,m,g,λz=>f (e.2.2 _ z),j,u,Uq.down e ds _ _ s o⟩
 | .obj k ns ds,v0,v,c,h=>by
  rw[Rep]at h c ⊢;obtain⟨a,B,m,g,f,j,u,o⟩:=h;obtain⟨_,_,l,_,_,_,_,s⟩:=c;exact⟨a,B,m,g,λz=>f (e.2.2 _ z),j,u,Uq.down e ds _ _ s o⟩
 | .ku k,v0,v,_,h=>by
  rw[Rep]at h ⊢;obtain⟨a,A,g,f,j,o⟩:=h;exact⟨a,A,g,λz=>f (e.2.2 _ z),j,λn q=>let ⟨y,q1,q2,q3⟩:=o n q;⟨y,q1,λz=>q2 (e.2.2 _ z),q3⟩⟩
 | .gt ss,v0,v,_,h=>by rw[Rep]at h ⊢;exact h
theorem Uq.down(e:dO μ μ' μ2):∀ (ds:List D) (a vs:List V),Wa T μ H ds a->Wa T μ' H' ds vs->Wa T μ2 H' ds vs
 |[],a,vs,_,h=>by simpa [Wa]using h
 |d::ds,a,vs,c,h=>by
  rw[Wa]at h c ⊢;obtain⟨v,r,g,i,j⟩:=h;obtain⟨l,k,_,b,f⟩:=c;exact⟨v,r,g,jJ.down e d l v b i,Uq.down e ds k r f j⟩
end
end
end L4
namespace L4
open PySem PySem.Spec PyProof.Rows L2
section
variable{P:ra}{w:Ka}{K:W.Frag}{mg:qa->Option Value}{base:Heap}{T:Tb}
end
section
variable{T:Tb}{X:Cx}
end
noncomputable def ir(l a:Addr):Heap->Prop:=λh=>h.IsValuesView l a
noncomputable def ysw:V->List V->Hp->VK->Prop:=λx xs H Q=>∃ a b,x=.ref a/\xs=[]/\Rd H a (.dK b)/\∀ l,H l=none->Q (.ref l) (upd H l (.ext (ir l a)))
noncomputable def GG(d:Addr)(od:Obj)(kvs:List (Key × V)):It:=
 ⟨λi H=>H d=some (.Za od (.dK kvs))/\∃ x,kvs[i]?=some x,λi H v a=>a=H/\∃ k,kvs[i]?=some (k,v),λi H=>H d=some (.Za od (.dK kvs))/\i=kvs.length⟩
theorem K0{P:ra}{w:Ka}{K:W.Frag}{tg:Ja}(d it:Addr)(od:Obj)(kvs:List (Key × V))(U:d≠it){es:Array bv}{ep:Nat}(j:od.data=.dict es ep) :
  Turn P w K tg (GG d od kvs) [it] it (λi h=>h.IsValIter it d i kvs.length ep) where
 mem:=by simp
 obj:=λi h a b hb=>by
  obtain rfl:b=it:=by simpa using hb
  obtain⟨o,e,c,p⟩:=a;exact⟨o,e,λv z=>by rw[p]at z;cases z⟩
 keep:=λi h m a k=>a.at λo e=>k it (by simp) o e
 item:=by
  intro X F L D M i f s Q H E I n a G;subst F L D;obtain⟨hd,⟨k,x⟩,O⟩:=G;obtain⟨vs,r,q,rel,g,hm⟩:=Zw I hd;rw[j]at g;cases g;obtain⟨u,Y,Z⟩:=cH rel i O;rw[rel.length]at a;obtain⟨t,y,T,A,B,C⟩:=n it (by simp);refine wpAny_pyNext_values_item a hm Y λm l J=>?_;have R:Inv X f Q H { s with heap:=m }:=I.turned (t':=s.toks) (λb o hb e=>J.extBut b o hb e) t y A B C;obtain⟨o,e,c,p⟩:=id l;exact⟨u,rfl,cD (s:={ s with heap:=m }) e c p (by decide) ⟨x,H,R,Z,⟨rfl,k,O⟩,by rw[rel.length];exact l,λb hb=>(n b hb).1⟩⟩
 done:=by
  intro X F L D M i f s Q H E I n a G;subst F L D;obtain⟨hd,N⟩:=G;obtain⟨vs,r,q,rel,g,hm⟩:=Zw I hd;rw[j]at g;cases g;rw[rel.length]at a N;obtain⟨t,y,T,A,B,C⟩:=n it (by simp);exact wpAny_pyNext_values_end (I.ok.hd M) a hm (by rw[N];simp) λm S=>⟨rfl,I.turned (t':=s.toks) (λb o hb e=>S b o hb e) t y A B C⟩
 self:=λ_ _ _ _ _ a h=>wpAny_pyIter_valiter a h
noncomputable def Kw(a:List (Key × D)):NX:=λi _=>match a[i]? with
 |some p=>some (some p.2)
 |none=>if i=a.length then some none else none
noncomputable def xI(d:D):M NX:=λb=>match d with
 | .Ya c xs=>if c.length=xs.length then .ok (Kw (c.zip xs)) b else .bad
 | .ref n=>(match b[n]? with
  |some (.Ya a)=>.ok (Kw a) (b.set n (.Kc a))
  |some (.Kc a)=>.ok (Kw a) b
  |_=>.bad)
 |_=>.bad
noncomputable def YF(f:Ev->M D):Ev->M NX:=λa=>qd (f a) xI
section
variable{T:Tb}{X:Cx}{tg:Ja}
theorem VZ:Rt X "dict.values" ysw:=by
 intro f s t H x y v u Q I l j h;obtain⟨a,i,rfl,rfl,g,q⟩:=h;cases l;cases j;obtain⟨z,hd,m,rel,d⟩:=Ku I.Rb g;refine Oo Ro d.typeIs PySem.F.entry_dict_values (PySem.F.args_dict_values_1 _) (meets_dict_values (ni X.prog X.w) a hd) ⟨⟨m,d⟩,?_⟩;refine⟨.ref s.heap.objs.size,_,I.laid (t':=s.toks) (o:=.ext (ir s.heap.objs.size a)) (λb o e=>ba _ e) (na _) ?_,rfl,q _ (I.Rb.fresh (na _))⟩;refine⟨⟨_,mz _ _ (λz=>by cases z),rfl,rfl⟩,⟨_,mz _ _ (λz=>by cases z)⟩,λn r p k=>?_⟩;obtain⟨o,e,c⟩:=p;exact⟨o,k o e,c⟩
theorem tJ{μ:List Addr}{H:Hp}{a:Addr}{od:Obj}{kvs:List (Key × V)}{d:List (Key × D)}(l:H a=some (.Za od (.dK kvs)))(n:yh T μ H d kvs):Xq T μ H (Kw d) (GG a od kvs):=by
 intro f g s i ex o;have h:g a=some (.Za od (.dK kvs)):=ex.Za _ _ _ l;have c:yh T f g d kvs:=yh.mono ex n;unfold Kw;cases k:d[i]? with
 |none=>
  dsimp only;by_cases e:i=d.length
  ·rw[ia e];exact⟨h,by rw[e];exact Paired.length c⟩
  ·rw[ja e];trivial
 |some p=>
  obtain⟨q,j,m,r⟩:=RG c i k;refine⟨⟨h,q,j⟩,λz t y=>?_⟩;obtain⟨rfl,u,b⟩:=y;rw[j]at b;cases b;exact⟨Ext.refl _ _,o,r⟩
noncomputable def yql(e:TE):TI:=λf H R=>e f H λv c=>∃ l a b,v=.ref l/\c l=some (.ext (ir l a))/\Rd c a (.dK b)/\∀ d,c a=some (.dK b)\/c a=some (.Za d (.dK b))->R (GG a d b) (upd c a (.Za d (.dK b)))
theorem K4{f:Ja}{p:TE}(y:PE X f p):PI X tg f (yql p):=by
 intro i s r H R I h;refine ge (y i s r H _ I h) λv s1 ⟨x,H1,j,C,q1⟩=>?_;obtain⟨l,a,c,rfl,A,d,q⟩:=q1;cases C;obtain⟨g,n,k⟩:∃ g,(H1 a=some (.dK c)\/H1 a=some (.Za g (.dK c)))/\Inv X i r (upd H1 a (.Za g (.dK c))) s1:=by
  rcases d with d|⟨g,d⟩
  ·obtain⟨_,_,D,rel,o,w,u,e,_⟩:=j.Rb a _ d;exact⟨o,.inl d,j.freeze d e⟩
  ·exact⟨g,.inr d,by rw[Jy d];exact j⟩
 obtain⟨D,w,u,rel,t,hm⟩:=Zw k kh;have B:s1.heap.IsValuesView l a:=(j.Rb l _ A).1;have m:a≠s1.heap.objs.size:=va hm.lt_size;refine wpAny_pyIter_values B hm ?_;refine⟨s1.heap.objs.size,[s1.heap.objs.size],_,GG a g c,_,rfl,k.kept (t':=s1.toks) (λb o e=>ba _ e),K0 a _ g c m t,by rw[rel.length];exact⟨_,mz _ _ (λz=>by cases z),rfl,rfl⟩,λb hb=>?_,q g n⟩;obtain rfl:b=s1.heap.objs.size:=by simpa using hb
 exact k.Hs (na _) (k.Rb.fresh (na _))
theorem AV{e:Ja}{f:Ev->M D}{t u:Ye}(h:FE T X e f)(B:Ae e "values" X.env (Nb e X.env)=Nb e X.env:=by rfl)(C:(t.endLine == u.line)=true:=by rfl) :
  Py T X tg (.Call (.Attribute e "values" t) [] [] u) (YF f):=by
 intro L s st H R I hw;refine K4 (eR wg Ro PySem.F.type_dict_values VZ h B C) L s st H R I ?_;obtain⟨μ,ρ,σ,Y,hr,Z⟩:=hw;refine⟨μ,ρ,σ,Y,hr,Z.bind λd σ1 c v j _ e1 O q1 p1=>?_⟩;unfold xI at p1;cases d with
 |Ya ks xs=>
  dsimp only at p1;by_cases V:ks.length=xs.length
  ·rw[ia V]at p1;rw[Rep]at q1;obtain⟨a,i,rfl,hn,p,Q,S⟩:=q1;refine⟨⟨a,i,rfl,p⟩,a,i,rfl,rfl,p,λl g=>?_⟩;have r:a≠l:=by rcases p with p|⟨_,p⟩<;>exact Wp p g
   have P:Rd (upd j l (.ext (ir l a))) a (.dK i):=by unfold Rd;rw[qe r];exact p
   refine⟨l,a,i,rfl,kh,P,λod m=>?_⟩;have x:Ext c j c (upd j l (.ext (ir l a))):=Om g;have k:Rel T c (upd j l (.ext (ir l a))) σ1:=O.fresh g;obtain⟨W,U⟩:Ext c j c (upd (upd j l (.ext (ir l a))) a (.Za od (.dK i)))/\Rel T c (upd (upd j l (.ext (ir l a))) a (.Za od (.dK i))) σ1:=by
    rcases m with m|m
    ·have y:=ZR (μ:=c) (od:=od) m;exact⟨x.trans y,k.keep y (λb hb=>qe (λz=>hn (by rw[<-z];exact hb))) (k.tb.out (λb hb=>qe hb) (.inr ⟨_,m⟩))⟩
    ·rw[Jy m];exact⟨x,k⟩
   exact Ib.here (R:=Xq T) (Ib.mono W p1) U (tJ kh (yh.mono W (IG Q S)))
  ·rw[ja V]at p1;exact p1.elim
 |ref n=>
  dsimp only at p1;cases N:σ1[n]? with
  |none=>rw[N]at p1;exact p1.elim
  |some o=>
   rw[N]at p1;obtain⟨a,rfl,hn,K⟩:=O.at q1 N;cases o with
   |Ya i=>
    obtain⟨vs,A,E⟩:=K;have p:Rd j a (.dK vs):=.inl A;refine⟨⟨a,vs,rfl,p⟩,a,vs,rfl,rfl,p,λl g=>?_⟩;have r:a≠l:=Wp A g;have q:upd j l (.ext (ir l a)) a=some (.dK vs):=by rw[qe r];exact A
    refine⟨l,a,vs,rfl,kh,.inl q,λod _=>?_⟩;have x:Ext c j c (upd j l (.ext (ir l a))):=Om g;have k:Rel T c (upd j l (.ext (ir l a))) σ1:=O.fresh g;have J:Ext c (upd j l (.ext (ir l a))) c (upd (upd j l (.ext (ir l a))) a (.Za od (.dK vs))):=Mu (Ga hn) q (λ_ z=>by cases z) (λ_ _ z=>by cases z);have w:yh T c (upd (upd j l (.ext (ir l a))) a (.Za od (.dK vs))) i vs:=yh.mono (x.trans J) E;have wr:=k.write (o:=.Za od (.dK vs)) (ob:=.Kc i) hn ⟨od,vs,kh,w⟩ (λkv z=>by rw[N]at z;cases z);exact Ib.here (R:=Xq T) (Ib.mono (x.trans J) p1) wr.2 (tJ kh w)
   |Kc i=>
    obtain⟨G,vs,A,E⟩:=K;have p:Rd j a (.dK vs):=.inr ⟨G,A⟩;refine⟨⟨a,vs,rfl,p⟩,a,vs,rfl,rfl,p,λl g=>?_⟩;have r:a≠l:=Wp A g;have q:upd j l (.ext (ir l a)) a=some (.Za G (.dK vs)):=by rw[qe r];exact A
    refine⟨l,a,vs,rfl,kh,.inr ⟨G,q⟩,λod m=>?_⟩;have x:Ext c j c (upd j l (.ext (ir l a))):=Om g;have k:Rel T c (upd j l (.ext (ir l a))) σ1:=O.fresh g;rcases m with m|m
    ·rw[q]at m;cases m
    ·rw[Jy m];exact Ib.here (R:=Xq T) (Ib.mono x p1) k (tJ m (yh.mono x E))
   |_=>exact p1.elim
 |_=>exact p1.elim
end
section
variable{T:Tb}{X:Cx}
end
noncomputable def RE(dds ds:List D):M (List D):=ret (ds++dds)
noncomputable def qz(dds:List D)(fs:Ev->M (List D)):Ev->M (List D):=λa=>qd (fs a) (RE dds)
section
variable{T:Tb}{X:Cx}
theorem r0{k c:Nat}{ps:List qa}{a:List Value}{dvs:List V}{dds:List D}{fn:List D->M D}{x:qa}{p b:Ye}{e:Ja}{es:List Ja}{fs:Ev->M (List D)}{f:Addr}{B:He}(hm:X.mg x=some (.ref (T.ca c)))(j:Mk T.K (T.ca c) f)(hb:Yr T.K B ps a)
  (C:Oh X.prog X.w T.K X.mg X.base (Mm X.prog X.w) k f B ps (pp T ps.length fn)) (S:re dvs a) (m:∀ μ H,Wa T μ H dds dvs) (G:T.K=X.K) (R:Me (k+1) X.A) (N:Gl X x)
  (J:FA T X (e::es) fs) (l:(x == ("__debug__" : qa))=false:=by decide) (L:pa (e::es) X.env=(false,Nb e X.env)::pa es X.env:=by rfl) (o:(lc b (pa es X.env)).any (·.1)=false:=by rfl) :
  FE T X (.Call (.Name x p) (e::es) [] b) (As c ps.length fn (qz dds fs)):=by
 rw[G]at j C hb;intro g s u H Q I P;obtain⟨μ,h,σ,F,t,O⟩:=P;have n:Ib T (XE X u) (Rep T) μ H (qd (fs h) (λds=>jp c ps.length fn (ds++dds)) σ) Q:=by
  have:As c ps.length fn (qz dds fs) h σ=qd (fs h) (λds=>jp c ps.length fn (ds++dds)) σ:=by
   unfold As qz RE qd;cases fs h σ<;>rfl
  rw[<-this];exact O
 refine Wg (dA I N hm ?_ l);refine di (h₀:=X.base) I.ok.mod.qx j.kp (ge (J b g s u H (λy d=>∀ x i,d x=none->d i=none->i≠x->pp T ps.length fn (.ref x::(y++dvs)) (upd (upd d i (.own x)) x (.ins (T.ca c) i [])) (λv E=>v=.Jb/\Q (.ref x) E) (XE X u)) I ⟨μ,h,σ,F,t,n.bind λds Z Y y d _ e1 U p1 q1=>?_⟩) λus s1 ⟨y,d,z,r,q⟩=>⟨z.Cj,?_⟩) L o
 ·have:=IN U (Wa.append p1 (m _ _)) q1;rw[zf]at this;exact this
 ·exact cR (ds:=a) (dvs:=dvs) j C R hb S z r q
theorem qP{k c:Nat}{ps:List qa}{j a:List Value}{dvs:List V}{dds:List D}{fn:List D->M D}{x:qa}{p b:Ye}{e:Ja}{es:List Ja}{fs:Ev->M (List D)}{f:Addr}(hm:X.mg x=some (.ref (T.ca c)))(n:Mk T.K (T.ca c) f)(h:Fs T X.prog X.w X.mg X.base k f ps j fn)(hd:a=[]\/a=j)(u:re dvs a)(g:∀ μ H,Wa T μ H dds dvs)(m:T.K=X.K)(t:Me (k+1) X.A)(s:Gl X x)
  (o:FA T X (e::es) fs) (d:(x == ("__debug__" : qa))=false:=by decide) (r:pa (e::es) X.env=(false,Nb e X.env)::pa es X.env:=by rfl) (i:(lc b (pa es X.env)).any (·.1)=false:=by rfl) :
  FE T X (.Call (.Name x p) (e::es) [] b) (As c ps.length fn (qz dds fs)):=by
 obtain⟨v,hb,q,l⟩:=h;exact r0 hm n (by rcases hd with rfl|rfl<;>assumption) l u g m t s o d r i
end
structure nD(P:ra)(w:Ka)(K:W.Frag)(mg:qa->Option Value)(base:Heap)(k:Nat)(f:Addr)(fd:He)(ps:List qa)(sp:Sp):Prop where
 len:∀ vs H Q E,sp vs H Q E->vs.length=ps.length
 run:∀ (A:Ia) (outer:List wh) (s:Shared) (H:Hp) (args:Args) (us:List Value) (vs:List V) (Q:VK) (E:XK),Me k { A with handled:=none }->Nn P w K mg base A outer s H->uf s fd args (ps.zip us)->re vs us->sp vs H Q E->
  codeAny (model P w) A (.call (.ref f) args) (CR (Mm P w) outer P w H s Q E) s
section
variable{P:ra}{w:Ka}{K:W.Frag}{mg:qa->Option Value}{base:Heap}{ca:Nat->Addr}{tx:Tx}{T:Tb}{k:Nat}{f:Addr}{ps:List qa}
noncomputable def xJ(T:Tb)(P:ra)(w:Ka)(mg:qa->Option Value)(base:Heap)(k:Nat)(x:qa)(ps:List qa)(fn:List D->M D):Prop:=
 ∃ f b,mg x=some (.ref f)/\W.keepIn T.K (.ref f)=true/\(∀ a:List Value,a.length=ps.length->bindArgs b ⟨a,[]⟩=pure (ps.zip a))/\nD P w T.K mg base k f b ps (pp T ps.length fn)
theorem xJ.hide{k:Nat}{x:qa}{ps:List qa}{fn:List D->M D}(h:xJ T P w mg base k x ps fn):xJ T P w mg base k x ps (L4.hide fn):=by rw[Ul];exact h
end
section
variable{T:Tb}{X:Cx}
noncomputable def ut:List D->Option (List Key)
 |[]=>some []
 |d::ds=>match Pk d,ut ds with
  |some k,some a=>some (k::a)
  |_,_=>none
theorem EJ{μ:List Addr}{H:Hp}:∀ {ds:List D} {vs:List V} {b:List Key},Wa T μ H ds vs->ut ds=some b->vs=b.map kV
 |[],vs,b,h,e=>by rw[Wa]at h;cases e;exact h
 |d::ds,vs,b,h,e=>by
  rw[Wa]at h;obtain⟨v,r,rfl,f,g⟩:=h;unfold ut at e;cases a:Pk d with
  |none=>rw[a]at e;cases e
  |some k=>
   cases c:ut ds with
   |none=>rw[a,c]at e;cases e
   |some i=>
    rw[a,c]at e;cases e;rw[Dx f a,EJ g c];rfl
noncomputable def DT:Ev->M D:=λ_ a=>.ok (.ref a.length) (a++[.eg []])
theorem zr9{b:Ye}:FE T X (.Dict [] [] b) DT:=by
 intro a s e H Q I h;obtain⟨f,i,j,g,c,d⟩:=h;refine TY a s e H Q I λp hn=>?_;exact d (f++[p]) (.ref p) _ (Uy hn) (c.push hn ⟨[],kh,rfl⟩) (QD c)
open Classical in
noncomputable def AG(a:List (List Key))(k:List Key):List (List Key):=if k∈a then a else a++[k]
open Classical in
theorem WZ(kvs:List (List Key × V))(k:List Key)(v:V):(Kl kvs k v).map (·.1)=if k∈kvs.map (·.1)then kvs.map (·.1)else kvs.map (·.1)++[k]:=by
 unfold Kl;by_cases h:k∈kvs.map (·.1)
 ·have:(kvs.any λb=>decide (b.1=k))=true:=by
   obtain⟨p,a,e⟩:=Db.mp h;exact Ri.mpr ⟨p,a,by simpa using e⟩
  rw[ia this,ia h,de];refine List.map_congr_left λp a=>?_;show (if p.1=k then (p.1,v)else p).1=p.1;split<;>rfl
 ·have:¬ (kvs.any λb=>decide (b.1=k))=true:=λz=>by
   obtain⟨p,a,e⟩:=Ri.mp z;exact h (Db.mpr ⟨p,a,by simpa using e⟩)
  rw[ja this,ja h,Bg];rfl
noncomputable def oC(ρ:Ev)(x y:D):M Fl:=λb=>match x,y with
 | .ref n,.tup c=>(match ut c,b[n]? with
  |some k,some (.eg a)=>if a.length<li then .ok (.nx ρ) (b.set n (.eg (AG a k)))else .bad
  |_,_=>.bad)
 |_,_=>.bad
noncomputable def HJ(ρ:Ev)(fi:Ev->M D)(x:D):M Fl:=xs ρ (fi ρ) (oC ρ x)
noncomputable def rK(ρ:Ev)(a fi:Ev->M D)(_:D):M Fl:=xs ρ (a ρ) (HJ ρ fi)
noncomputable def LH(f b fi:Ev->M D):Ev->M Fl:=λa=>xs a (f a) (rK a b fi)
theorem yao{e o i:Ja}{f U fi:Ev->M D}{m c:Ye}(hu:X.A.units+9<cLine)(he:FE T X e f)(ho:FE T X o U)(hi:FE T X i fi)
  (ha:∀ v,gi (.Subscript o i c) X.env v=(do
   let u <-Ie [v] (Nb o X.env);let G <-Ie [v,u] (Nb i X.env)
   hj c
   Ie [v,u,G] (Tr u G v)
   WB [v,u,G] []):=by intro _;rfl)
  (hs:bn [.Subscript o i c] e m.line X.env=pure false:=by rfl) (hw:cn [.Subscript o i c] e X.env=pure none:=by rfl)
  (h1:(Ge [.Subscript o i c] X.env).map (·.2)=[gi (.Subscript o i c) X.env]:=by rfl):FS T X (.Assign [.Subscript o i c] e m) (LH f U fi):=by
 intro l s W H D I hq;refine nJ he (JI ho hi (nM hu) ha) hs hw h1 l s W H D I ?_;obtain⟨μ,O,σ,g,hr,hp⟩:=hq;refine⟨μ,O,σ,g,hr,hp.xs g λd P L v H1 _ h r1 q1 p1=>?_⟩;refine⟨L,O,P,g.mono h,r1,p1.xs (g.mono h) λx Q N vo H2 _ q r2 q2 p2=>?_⟩;refine⟨N,O,Q,(g.mono h).mono q,r2,p2.xs ((g.mono h).mono q) λy R p vi S _ w V q3 p3=>?_⟩;have hd:Rep T p S d v:=Rep.mono w _ _ (Rep.mono q _ _ q1);have hx:Rep T p S x vo:=Rep.mono w _ _ q2;unfold oC at p3;cases x with
 |ref n=>
  cases y with
  |tup ys=>
   dsimp only at p3;cases B:ut ys with
   |none=>rw[B]at p3;exact p3.elim
   |some k=>
    rw[B]at p3;cases r:R[n]? with
    |none=>rw[r]at p3;exact p3.elim
    |some ob=>
     rw[r]at p3;cases ob with
     |eg J=>
      dsimp only at p3;by_cases E:J.length<li
      ·rw[ia E]at p3;obtain⟨a,rfl,hn,Y,Z,g2⟩:=V.at hx r;rw[Rep]at q3;obtain⟨b,ws,rfl,hb,F⟩:=q3;have C:=EJ F B;subst C;have K:=V.write (o:=.dT (Kl Y k v)) (ob:=.eg (AG J k)) hn ⟨_,kh,by
        subst g2;rw[WZ];rfl⟩ (λkv z=>by rw[r]at z;cases z)
       have j:Y.length=J.length:=by rw[<-g2,pb]
       exact⟨a,_,rfl,Iy.t Z hb (by rw[j];exact Ea E (by decide)),p3 _ (.nx W) _ K.1 K.2 (((g.mono h).mono q).mono w |>.mono K.1)⟩
      ·rw[ja E]at p3;exact p3.elim
     |_=>exact p3.elim
  |_=>exact p3.elim
 |_=>exact p3.elim
end
section
variable{T:Tb}{X:Cx}
theorem JO(k:List Key):∀ vs:List (List Key × V),(Hm vs k).isSome=true ↔ k∈vs.map (·.1)
 |[]=>by rw[U6];simp
 |p::vs=>by
  by_cases e:p.1=k
  ·rw[EC e];simp[e]
  ·rw[RD e,JO k vs,Da,Ha];exact⟨.inr,λz=>z.elim (λy=>absurd y.symm e) id⟩
open Classical in
noncomputable def pI(y x:D):M D:=λa=>match y,x with
 | .tup c,.ref n=>(match ut c,a[n]? with
  |some k,some (.eg b)=>.ok (.bl (decide (k∈b))) a
  |_,_=>.bad)
 |_,_=>.bad
theorem TU:Nk T nK pI:=by
 intro E w H m y x u v Q r q p h;unfold pI at h;cases y with
 |tup l=>
  cases x with
  |ref n=>
   dsimp only at h;cases c:ut l with
   |none=>rw[c]at h;exact h.elim
   |some k=>
    rw[c]at h;cases e:m[n]? with
    |none=>rw[e]at h;exact h.elim
    |some i=>
     rw[e]at h;cases i with
     |eg o=>
      dsimp only at h;obtain⟨a,rfl,hn,j,g,g2⟩:=r.at p e;rw[Rep]at q;obtain⟨b,s,rfl,hb,f⟩:=q;have d:=EJ f c;subst d;refine⟨a,Hm j k,rfl,Yi.t g hb,Ib.here h r ?_⟩;rw[Rep];congr 1;rw[Bool.eq_iff_iff,JO,g2];simp
     |_=>exact h.elim
  |_=>exact h.elim
 |_=>exact h.elim
theorem j5{c:List Addr}{f:Hp}{src:Src}{J:It}(h:Iw T c f src J):Xq T c f src.nx J:=λk H g i ex r=>by
 have q:=h k H g i ex r;cases e:src.nx i g with
 |none=>trivial
 |some o=>
  rw[e]at q;cases o with
  |none=>exact q
  |some d=>exact⟨q.1,λx j y=>let ⟨a,b⟩:=q.2 x j y;by subst a;exact⟨Ext.refl _ _,r,b⟩⟩
noncomputable def RK(s:Src):M NX:=ret s.nx
noncomputable def toN(f:Ev->M Src):Ev->M NX:=λa=>qd (f a) RK
theorem Pz{tg a:Ja}{f:Ev->M Src}(h:FI T X tg a f):Py T X tg a (toN f):=by
 intro b s k H R I g;obtain⟨l,n,o,c,e,d⟩:=g;exact h b s k H R I ⟨l,n,o,c,e,d.bind λj p m J q _ r i q1 p1=>Ib.here p1 i (j5 q1)⟩
theorem x6{B j u:Ja}{G:List Ja}{scope:Scope}{P K py:Ye}{x y z0:qa}{i:Nat}{M':List qa}{ix:List Nat}{src:Ev->M NX}{tg:D->Ev->Option Ev}{fi:Ev->M Bool}{fe:Ev->M D}
  (hN:X.N.Nodup) (hi:X.N[i]?=some y) (hx:Loc X.env.scope y)
  (hc:X.calm=true) (L:Xr X x M' ix scope) (Z:Py T X u j src)
  (b6:∀ cl C s₀ H₀ ex,FG T (Su X (x::z0::M') scope cl C s₀ H₀ ex) u tg)
  (a9:∀ cl C s₀ H₀ ex,SC T (Su X (x::z0::M') scope cl C s₀ H₀ ex) G fi)
  (W:∀ cl C s₀ H₀ ex,FE T (Su X (x::z0::M') scope cl C s₀ H₀ ex) B fe)
  (hs:∀ y,ph j X.env y=pure y:=by intro _;rfl)
  (b4:Ij (.ListComp B [⟨u,j,G,0⟩] scope P) (some (.Name y py)) K.line X.env=pure true:=by rfl)
  (hf:X.fn y=true\/X.env.scope.names.lookup y=some .local:=by first|exact .inl rfl|exact .inr rfl|assumption) :
  FS T X (.Assign [.Name y py] (.ListComp B [⟨u,j,G,0⟩] scope P) K) (jh i (yr src ix tg fi fe)):=by
 intro t s R H D I h;obtain⟨μ,ρ,σ,hE,hr,b2⟩:=h;have hp:Ib T (XE X R) (Rep T) μ H (yr src ix tg fi fe ρ σ) (λv U=>D.nx (R.set i (some v)) U):=b2.xs hE λd a5 a4 v U _ e1 r1 q1 p1=>Ib.here (g:=Rm.nx (R.set i (some v))) p1 r1 ((hE.mono e1).set i q1);rw[exec_Assign_Name_used _ _ _ _ b4];refine aa (wu (aa ?_));show wpAny _ X.A (do let _ <-comprehension (.ListComp B [⟨u,j,G,0⟩] scope P) scope X.env _ (newList []) false (Nb j X.env) (some (gi (.Name y py) X.env))) _ _ s;refine aa (rc (zu (use:=some (gi (.Name y py) X.env)) (Q:=λ_ s'=>SP X t D .next s') rfl hs (xS X.env scope (nG I L)) L.kind (λy hy e=>?_)
  ?_) (λ_ s' hq=>da (da hq)) λ_ _ e=>e)
 ·have q:=pc.mp L.names y hy;rw[e]at q;simp only[gk,ug,Kk]at q;exact eq_of_beq q
 have h1:=Z t s R H (λJ w=>∃ nx k l,Ext μ H k w/\Rel T k w l/\Xq T k w nx J/\Ib T (XE X R) (Rep T) k w (qd (xj nx l.length tg fi fe 1001 0 (Tv ix ρ)) (λ_=>ret (.ref l.length)) (l++[Ob.lst []])) (λv U=>D.nx (R.set i (some v)) U)) I
  ⟨μ,ρ,σ,hE,hr,hp.bind λnx a5 a4 J U _ e1 r1 q1 p1=>⟨nx,a4,a5,e1,r1,q1,p1⟩⟩
 refine ge h1 λv s1 h2=>ge h2 λb9 f h3=>?_;obtain⟨it,fp,tn,J,w,rfl,I2,TT,a3,f2,nx,k,l,a6,r2,so,p2⟩:=h3;refine Sb (Xx (GK L) (by intro y hy;simp at hy) (λa0 E F=>?_) L.kind);have S:=I2.Yz (ys:=[]) (its:=[]) (t':=f.toks) .nil (by simp);have V:w f.heap.objs.size=none:=I2.Rb.fresh (na _);have r3:=r2.push (p:=f.heap.objs.size) (o:=.lst []) (ob:=.lst []) V ⟨[],kh,Wa.nil⟩;have O:Ext k w (k++[f.heap.objs.size]) (upd w f.heap.objs.size (.lst [])):=Uy V;have b5:f.heap.objs.size<(f.heap.push { cls:=.type "list",data:=.seq ([]:List Value).toArray }).objs.size:=by rw[Fc];exact Gb _
 have kp:∀ b o,(f.heap.push { cls:=.type "list",data:=.seq ([]:List Value).toArray }).get? b=some o->a0.get? b=some o:=λb o e=>F.extBut b o (va (ua e)) (ba _ e);have m:∀ b∈fp,fu X t (upd w f.heap.objs.size (.lst [])) b/\b<(f.heap.push { cls:=.type "list",data:=.seq ([]:List Value).toArray }).objs.size:=λb hb=>by
  obtain⟨o,e,_⟩:=TT.obj 0 _ a3 b hb;have lt:=ua e;exact⟨⟨by rw[qe (va lt)];exact(f2 b hb).1,(f2 b hb).2⟩,ym lt b5⟩
 refine lQ (s3:={ f with heap:=f.heap.push { cls:=.type "list",data:=.seq ([]:List Value).toArray },toks:=f.toks }) (n:=l.length) (D0:=f.heap.objs.size) hc L b6 a9 W S m E kp TT (TT.keep 0 _ _ a3 λb hb o e=>kp b o (ba _ e))
  (λμ H σ i ex r=>so μ H σ i (O.trans ex) r) ((hE.mono a6).mono O) r3 (by rw[<-r2.len];simp) (p2.mono O) (λs6 H' m6 b0 a7 b7 b1 Y a8 hq=>?_)
 have I6:=L2.Inv.vv (s':=s6) (ch:=fp) S b1 b7 Y a8 (λb hb=>⟨(m b hb).1.2.2.2.1,(m b hb).1.2.1,(m b hb).1.2.2.2.2.1,(m b hb).1.2.2.2.2.2⟩);have a2:X.env.locals<(f.heap.push { cls:=.type "list",data:=.seq ([]:List Value).toArray }).objs.size:=S.lt;have a1:∀ z c,X.env.cells.lookup z=some c->c<(f.heap.push { cls:=.type "list",data:=.seq ([]:List Value).toArray }).objs.size:=λz c e=>by
  obtain⟨v,q⟩:=S.cell z c e;exact q.lt
 show wpAny _ X.A (gi (.Name y py) X.env (.ref f.heap.objs.size)) _ _ s6;refine JB (MN (v:=.ref f.heap.objs.size) I6 hN hi hx rfl (λs7 I7 ⟨a,sb,ha⟩=>?_) hf);have b8:a≠(f.heap.push { cls:=.type "list",data:=.seq ([]:List Value).toArray }).objs.size:=by
  rcases ha with rfl|ha
  ·exact va a2
  ·exact va (a1 _ _ ha)
 refine⟨m6,b0.sameBut sb (De b8),λh8 b3=>?_⟩;refine⟨R.set i (some (.ref f.heap.objs.size)),H',?_,hq⟩;exact I7.turned (t':=s7.toks) (it:=(f.heap.push { cls:=.type "list",data:=.seq ([]:List Value).toArray }).objs.size) (λb o hb e=>(b3.2 b hb).trans e) a7 (wf a2) (.inr (yb S.sz (na _))) (λz c e=>va (a1 z c e)) (λp hp=>va (ua (S.pin p hp).1))
end
noncomputable def OI:Ev->M Bool:=λ_ _=>.bad
theorem fT{T:Tb}{X:Cx}{e:Ja}:FT T X e OI:=by
 intro a s f H Q I h;obtain⟨g,i,j,c,d,b⟩:=h;exact b.elim
section
variable{P:ra}{w:Ka}
noncomputable def KS(c h:Heap):Prop:=∀ b o a n,c.get? b=some o->o.data=.seq a n->h.get? b=some o
theorem KS.keeps{g h h':Heap}{d:Addr}{o:Obj}{es ep}(x:KS g h)(i:h.get? d=some o)(hd:o.data=.dict es ep)(j:Ic d h h'):KS g h':=λb k f n e a=>by
 have q:=x b k f n e a;have c:b≠d:=by
  rintro rfl;rw[i]at q;cases q;rw[hd]at a;exact nomatch a
 exact(j.2 b c).trans q
noncomputable def NT(P:ra)(w:Ka)(e:Heap):Nat->Value->Int->Nat->Prop
 |0,v,x,n=>∃ k,(ni P w).is k v=true/\x=(ni P w).hash k/\n=1
 |d+1,v,x,n=>(∃ k,(ni P w).is k v=true/\x=(ni P w).hash k/\n=1)\/
  ∃ a o b m,∃ c:List (Value × Int × Nat),v=.ref a/\e.get? a=some o/\o.cls=.type "tuple"/\o.data=.seq b m/\b.toList=c.map (·.1)/\(∀ p∈c,NT P w e d p.1 p.2.1 p.2.2)/\
   x=reduceHash (Tc (c.map (·.2.1)))/\n=(c.map (·.2.2)).sum+1
theorem ZM{e:Heap}:∀ (d:Nat) {A:Ia} {E:Value->Shared->Prop} {s:Shared} {v:Value} {x:Int} {n:Nat} {Q:Int->Shared->Prop},NT P w e d v x n->KS e s.heap->A.units+d<cLine->Q x { s with toks:=s.toks+n }->wpAny (model P w) A (pyHash v) Q E s
 |0,A,E,s,v,x,n,Q,e,_,_,h=>by
  obtain⟨k,l,g,hn⟩:=e;subst g hn;exact(ni P w).pyHash l h
 |d+1,A,E,s,v,x,n,Q,e,f,H,h=>by
  rcases e with⟨k,l,g,hn⟩|⟨a,o,G,m,u,D,y,z,r,B,C,g,hn⟩
  ·subst g hn;exact(ni P w).pyHash l h
  subst D g hn;have t:=f _ _ _ _ y r;have hT:s.TypeIs (.ref a) "tuple":=⟨o,t,z⟩
  unfold pyHash;unfold pyHashByItsType;refine aa (wpAny_cRoomFor_or (.inr (by omega)) ?_);refine aa (ei hT Ui.lookup ?_);show wpAny _ _ (if (some (Value.builtin "tuple.__hash__") == some La)=true then _ else _) Q E s;rw[ja (by rw[beq_builtin_none];exact Xa)];refine aa (ei hT Ui.lookup ?_);show wpAny _ _ (callSpecialIfBoundUnlessNone? (.ref a) "__hash__" _ >>= _) Q E s;refine aa (wpAny_callSpecialIfBoundUnlessNone?_slot hT Ui (cc Ui hT F.entry_tuple_hash ?_ (F.args_tuple_hash_1 _)));show wpAny _ _ (fh (.ref a) >>= _) _ _ s;refine aa (Wn t r ?_);refine aa ?_;rw[<-Au];refine rq _
   (λvf (b:Array Int) q=>∃ done left,u=done++left/\vf=left.map (·.1)/\b.toList=done.map (·.2.1)/\q={ s with toks:=s.toks+(done.map (·.2.2)).sum })
   _ ?_ ?_ _ _ ⟨[],u,rfl,B,rfl,rfl⟩
  ·rintro x vf b q ⟨done,left,rfl,i,hb,rfl⟩;cases left with
   |nil=>cases i
   |cons p c=>
    cases i;refine aa (ZM d (C p (by simp)) f (show A.units+1+d<cLine by omega) ?_);first
     |exact da ⟨done++[p],c,by simp,rfl,by simp[hb],by simp[Uk]⟩
     |exact aa (da (da ⟨done++[p],c,by simp,rfl,by simp[hb],by simp[Uk]⟩))
  ·rintro b q ⟨done,left,rfl,i,hb,rfl⟩;cases left with
   |cons _ _=>cases i
   |nil=>
    rw[zf]at h;show wpAny _ _ (retInt (Tc b.toList)) _ _ _;rw[hb];refine wpAny_ret_mkInt ?_;show wpAny _ _ (if (decide (-(2:Int) ^ 63<=Tc (done.map (·.2.1))) && decide (Tc (done.map (·.2.1))<2 ^ 63))=true then _ else _) Q E _;unfold reduceHash at h;by_cases j:(decide (-(2:Int) ^ 63<=Tc (done.map (·.2.1))) && decide (Tc (done.map (·.2.1))<2 ^ 63))=true
    ·rw[ia j];rw[ia j]at h;exact da (by simpa [Uk]using h)
    ·rw[ja j];rw[ja j]at h;exact aa (Zj (da (by simpa [Uk]using h)))
theorem NO{c:Heap}:∀ (d m:Nat) {A:Ia} {E:Value->Shared->Prop} {s:Shared} {v:Value} {x:Int} {n:Nat} {Q:Bool->Shared->Prop},d<=m->NT P w c d v x n->KS c s.heap->Q true s->wpAny (model P w) A (eqIsQuiet m v) Q E s
 |0,m,A,E,s,v,x,n,Q,_,c,_,h=>by
  obtain⟨k,g,z,hn⟩:=c;rw[SB _ ((ni P w).byValue _ _ g)];exact da h
 |d+1,0,_,_,_,_,_,_,_,hm,_,_,_=>by omega
 |d+1,m+1,A,E,s,v,x,n,Q,hm,c,e,h=>by
  rcases c with⟨k,g,z,hn⟩|⟨a,o,l,m,I,f,B,C,t,D,G,z,hn⟩
  ·rw[SB _ ((ni P w).byValue _ _ g)];exact da h
  subst f;have y:=e _ _ _ _ B t;have hT:s.TypeIs (.ref a) "tuple":=⟨o,y,C⟩
  unfold eqIsQuiet;refine aa (ei hT sq.lookup ?_);show wpAny _ _ (EA (.ref a) (.type "tuple") >>= _) _ _ s;refine aa (Gj hT Gw ?_);simp only[ug,ue,Ch];refine aa (Vs y t ?_);refine aa ?_;show wpAny _ _ (forIn l _ _) _ _ s;rw[<-Au];refine rq _ (λvf r q=>r.1=none/\q=s/\∀ v∈vf,∃ p∈I,p.1=v) _ ?_ ?_ _ _ ⟨rfl,rfl,λv f=>by rw[D]at f;exact Db.mp f⟩
  ·rintro v vf r q ⟨i,rfl,b⟩;obtain⟨p,H,rfl⟩:=b _ Aa;refine aa (NO d _ (by omega) (G p H) e ?_);simp only[ug,ue,Ch];exact da ⟨rfl,rfl,λu j=>b u (ya _ j)⟩
  ·rintro ⟨J,K⟩ q ⟨i,rfl,_⟩;simp only at i;subst i;exact da h
theorem WP{A:Ia}{E:Value->Shared->Prop}{s:Shared}{a b:Addr}{i ob:Obj}{xs ys:Array Value}{K L:Nat}{Q:Bool->Shared->Prop}(n:a≠b)(J:A.units<cLine)
  (G:s.heap.get? a=some i) (o:i.cls=.type "tuple") (q:i.data=.seq xs K) (hb:s.heap.get? b=some ob) (p:ob.cls=.type "tuple") (t:ob.data=.seq ys L)
  (hd:(xs.toList=[]/\ys.toList≠[])\/(ys.toList=[]/\xs.toList≠[])\/∃ k1 k2 u v,xs.toList.head?=some u/\ys.toList.head?=some v/\(ni P w).is k1 u=true/\(ni P w).is k2 v=true/\k1≠k2) (h:Q false s) :
  wpAny (model P w) A (eqBool (.ref a) (.ref b)) Q E s:=by
 have d:s.TypeIs (.ref a) "tuple":=⟨i,G,o⟩
 have f:s.TypeIs (.ref b) "tuple":=⟨ob,hb,p⟩
 unfold eqBool;try with_reducible refine Nc ?_
 show wpAny _ _ (if (Ua a == Ua b)=true then _ else _) Q E s;rw[ja (λz=>n (by have:=eq_of_beq z;injection this))];refine aa (wpAny_richCompare_same_room (op:=.Eq) d f sq
   (cc sq d F.entry_tuple_eq ?_ (F.args_tuple_eq_2 _ _)) J)
 show wpAny _ _ (EA (.ref b) (.type "tuple") >>= _) _ _ s;refine aa (Gj f Gw ?_);simp only[ug,ue,Ch];refine aa (Wn G q ?_);refine aa (Wn hb t ?_);refine aa ?_;refine rq _ (λvf r B=>r.1=none/\B=s/\vf=List.zip xs.toList ys.toList) _ ?_ ?_ _ _ ⟨rfl,rfl,rfl⟩
 ·rintro ⟨u,v⟩ vf r B ⟨y,rfl,c⟩;rcases hd with⟨e,_⟩|⟨e,_⟩|⟨k1,k2,M,N,k,l,H,I,x⟩
  ·rw[e]at c;cases c
  ·rw[e,List.zip_nil_right]at c;cases c
  ·obtain⟨C,ex⟩:=Ng.mp k;obtain⟨D,m⟩:=Ng.mp l;rw[ex,m,Wu]at c;cases c;refine aa ((ni P w).eqBool (a:=k1) (b:=k2) H I ?_);rw[Xc x];simp only[Bool.not_false,Ee];exact aa (da (da (da ⟨_,rfl,(λe=>nomatch e),Gc h⟩)))
 ·rintro ⟨O,R⟩ B ⟨y,rfl,c⟩;simp only at y;subst y;refine da ?_;have g:(xs.size == ys.size)=false:=by
   rw[jc,<-nb,<-nb];rcases hd with⟨e,j⟩|⟨e,j⟩|⟨k1,k2,M,N,k,l,_⟩
   ·rw[e];intro z;exact j (cf.mp z.symm)
   ·rw[e];intro z;exact j (cf.mp z)
   ·obtain⟨C,ex⟩:=Ng.mp k;obtain⟨D,m⟩:=Ng.mp l;rw[ex,m,Wu]at c;cases c
  show ∃ v,Fin.done (.ret (.bool (xs.size == ys.size)))=.done (.ret v)/\_;rw[g];exact⟨_,rfl,(λe=>nomatch e),Gc h⟩
structure NQ(P:ra)(w:Ka)(h0:Heap)(a0:Addr)(x0:Int)(n0:Nat)(t:Key):Prop where
 nt:NT P w h0 5 (.ref a0) x0 n0
 hd:∃ o v0 its m,h0.get? a0=some o/\o.cls=.type "tuple"/\o.data=.seq its m/\its.toList.head?=some v0/\(ni P w).is t v0=true
noncomputable def QU(P:ra)(w:Ka)(c:Heap)(a0:Addr)(t:Key)(h:Heap):Option (List Key)->Addr->Prop
 |some b,a=>IsTupleKey (ni P w) h b a/\b.head?≠some t
 |none,a=>a=a0/\KS c h
theorem BG{p:Heap}{a0:Addr}{I:Int}{F:Nat}{t:Key}(q:NQ P w p a0 I F t){h:Heap}{s:List Key}{a:Addr}(C:IsTupleKey (ni P w) h s a)(D:s.head?≠some t)(k:KS p h) :
  a≠a0/\∃ c xs i ob ys G,h.get? a=some c/\c.cls=.type "tuple"/\c.data=.seq xs i/\h.get? a0=some ob/\ob.cls=.type "tuple"/\ob.data=.seq ys G/\
   ((xs.toList=[]/\ys.toList≠[])\/∃ k1 u v,xs.toList.head?=some u/\ys.toList.head?=some v/\(ni P w).is k1 u=true/\(ni P w).is t v=true/\k1≠t):=by
 obtain⟨c,xs,i,n,x,o,r⟩:=C;obtain⟨ob,H,ys,m,y,A,e,g,B⟩:=q.hd;have b:=k _ _ _ _ y e;have d:(xs.toList=[]/\ys.toList≠[])\/∃ k1 u v,xs.toList.head?=some u/\ys.toList.head?=some v/\(ni P w).is k1 u=true/\(ni P w).is t v=true/\k1≠t:=by
  generalize xs.toList=l at r;cases r with
  |nil=>exact .inl ⟨rfl,λz=>by rw[z]at g;cases g⟩
  |@cons k1 u E us g1 g2=>exact .inr ⟨k1,u,H,rfl,g,g1,B,λz=>D (by rw[z];rfl)⟩
 refine⟨λz=>?_,c,xs,i,ob,ys,m,n,x,o,b,A,e,d⟩;subst z;rw[n]at b;cases b;rw[o]at e;cases e;rcases d with⟨j,f⟩|⟨k1,u,v,j,f,J,K,L⟩
 ·exact f j
 ·rw[j]at f;cases f;exact L ((ni P w).inj _ _ _ J K)
noncomputable def yN{I:Heap}{a0:Addr}{N:Int}{M:Nat}{t:Key}(q:NQ P w I a0 N M t):HeapKind P w (Option (List Key)) where
 is:=QU P w I a0 t
 hash:=λk=>match k with|some g=>tupleKeyHash (ni P w) g|none=>N
 draws:=λk=>match k with|some g=>g.length+1|none=>M
 room:=λA=>A.units+5<cLine
 inj:=fun {h a x y} c f=>by
  cases x with
  |none=>cases y with
   |none=>rfl
   |some g=>obtain⟨rfl,k⟩:=c;exact absurd rfl (BG q f.1 f.2 k).1
  |some ls=>cases y with
   |none=>obtain⟨rfl,k⟩:=f;exact absurd rfl (BG q c.1 c.2 k).1
   |some g=>exact Wf some (c.1.inj f.1)
 keeps:=fun {h X k a d o W V} x J hd K=>by
  cases k with
  |none=>exact⟨x.1,x.2.keeps J hd K⟩
  |some g=>exact⟨x.1.keeps J hd K,x.2⟩
 pyHash:=fun {A E s k a Q} L l h=>by
  cases k with
  |none=>obtain⟨rfl,B⟩:=l;exact ZM 5 q.nt B L h
  |some g=>exact wpAny_pyHash_tuple (by omega) l.1 h
 eqBool:=fun {A E s x y a b Q} L c f h=>by
  cases x with
  |none=>cases y with
   |none=>
    obtain⟨i,k⟩:=c;obtain⟨j,Y⟩:=f;have e:a=b:=i.trans j.symm;subst e;unfold eqBool;try with_reducible refine Nc ?_
    show wpAny _ _ (if (Ua a == Ua a)=true then _ else _) Q E s;rw[ia (by simp)];exact aa (Zj (da (by simpa using h)))
   |some g=>
    obtain⟨rfl,k⟩:=c;obtain⟨ne,S,xs,O,T,U,R,i,j,m,n,p,r,d⟩:=BG q f.1 f.2 k;refine WP (De ne) (by omega) n p r i j m ?_ (by simpa using h);rcases d with d|⟨z,u,v,C,D,F,G,H⟩
    ·exact .inr (.inl d)
    ·exact .inr (.inr ⟨t,z,v,u,D,C,G,F,De H⟩)
  |some ls=>cases y with
   |none=>
    obtain⟨rfl,k⟩:=f;obtain⟨ne,S,xs,O,T,U,R,i,j,m,n,p,r,d⟩:=BG q c.1 c.2 k;refine WP ne (by omega) i j m n p r ?_ (by simpa using h);rcases d with d|⟨z,u,v,C,D,F,G,H⟩
    ·exact .inl d
    ·exact .inr (.inr ⟨z,t,u,v,C,D,F,G,H⟩)
   |some g=>exact wpAny_eqBool_tuple (by omega) c.1 f.1 (by simpa using h)
 quiet:=fun {A E s k a Q} l h=>by
  cases k with
  |none=>obtain⟨rfl,B⟩:=l;exact NO 5 8 (by omega) q.nt B h
  |some g=>exact wpAny_eqIsQuiet_tuple l.1 h
noncomputable def NV(H:Hp):Nat->V->Prop
 |0,v=>∃ k,v=kV k
 |d+1,v=>(∃ k,v=kV k)\/∃ b xs,v=.ref b/\H b=some (.tup xs)/\∀ x∈xs,NV H d x
theorem RM{H:Hp}{h:Heap}(ok:Pi P w H h):∀ (d:Nat) (v:V) (u:Value),NV H d v->Td v u->∃ x n,NT P w h d u x n
 |0,v,u,⟨k,e⟩,r=>by subst e;exact⟨_,_,k,gx r,rfl,rfl⟩
 |d+1,v,u,y,r=>by
  rcases y with⟨k,e⟩|⟨b,xs,e,hb,f⟩
  ·subst e;exact⟨_,_,.inl ⟨k,gx r,rfl,rfl⟩⟩
  ·subst e;cases (show u=Ua b from r);obtain⟨_,l,C,o,q,s,n,t⟩:=(show Xi P w H h b (.tup xs)from ok b _ hb)
   have all:∀ {xs:List V} {m:List Value},re xs m->(∀ x∈xs,NV H d x)->∃ a:List (Value × Int × Nat),m=a.map (·.1)/\∀ p∈a,NT P w h d p.1 p.2.1 p.2.2:=by
    intro xs m r;induction r with
    |nil=>intro _;exact⟨[],rfl,λp c=>nomatch c⟩
    |cons B _ A=>
     intro f;obtain⟨a,g,i⟩:=A λx j=>f x (ya _ j);obtain⟨x,n,z⟩:=RM ok d _ _ (f _ Aa) B;refine⟨(_,x,n)::a,by rw[g];rfl,λp c=>?_⟩;rcases Ha.mp c with rfl|c
     ·exact z
     ·exact i p c
   obtain⟨a,g,i⟩:=all C f;exact⟨_,_,.inr ⟨b,o,l.toArray,n,a,rfl,q,s,t,by simpa using g,i,rfl,rfl⟩⟩
end
section
variable{T:Tb}{X:Cx}
noncomputable def aS:R2:=λy x H Q=>(∃ a o,x=.ref a/\Yi H a y o/\Q (.bl o.isSome) H)\/
 ∃ a b c t d,x=.ref a/\H a=some (.dT c)/\y=.ref b/\H b=some (.tup (kV t::d))/\(∀ p∈c,p.1.head?≠some t)/\NV H 5 y/\Q (.bl false) H
theorem xV(Y:X.A.units+9<cLine):Gi X (dc .In) aS:=by
 intro g s st H y x C u Q I F E h;rcases h with h|⟨a,b,c,t,ys,rfl,U,rfl,hb,W,Z,q⟩
 ·exact BF Y g s st H y x C u Q I F E h
 obtain rfl:u=Ua a:=E;obtain rfl:C=Ua b:=F;obtain⟨z,hd,xs,rel,G⟩:=AS I.Rb U;obtain⟨x0,n0,nt⟩:=RM I.Rb 5 _ (.ref b) Z rfl;have D:NQ X.prog X.w s.heap b x0 n0 t:=⟨nt,by
  obtain⟨_,v,rv,o,j,S,n,T⟩:=(show Xi X.prog X.w H s.heap b (.tup (kV t::ys))from I.Rb b _ hb)
  cases rv with
  |cons r1 r2=>exact⟨o,_,_,n,j,S,T,rfl,gx r1⟩⟩
 have d:∀ {c:List (List Key × V)} {xs:List (List Key × Addr × Value)},KT H c xs->(∀ p∈c,p.1.head?≠some t)->∀ x∈xs,x.1.head?≠some t:=by
  intro c xs r;induction r with
  |nil=>intro _ x d;exact nomatch d
  |cons j _ ih=>
   intro B x d;rcases Ha.mp d with rfl|d
   ·rw[<-j.1];exact B _ Aa
   ·exact ih (λp l=>B p (ya _ l)) x d
 have i:s.heap.DictOfH (yN D) a (xs.map λx=>(some x.1,x.2)):=by
  obtain⟨o,R,P,J,K,L,M,N,O⟩:=G;refine⟨o,R,P,J,K,L,?_,λx f=>?_,?_⟩
  ·rw[M,de];rfl
  ·obtain⟨y,m,rfl⟩:=Db.mp f;exact⟨N y m,d rel W y m⟩
  ·have:(xs.map λx=>((some x.1,x.2):Option (List Key) × Addr × Value)).map (·.1)=(xs.map (·.1)).map some:=by rw[de,de];rfl
   rw[this];exact(List.pairwise_map.mpr (gE (λh z=>h (ub z)) O))
 refine kU (knd:=yN D) (k:=none) (show X.A.units+1+5<cLine by omega) ⟨rfl,λb o v n e e'=>e⟩ hd i ?_;have hn:Uo (xs.map λx=>((some x.1,x.2):Option (List Key) × Addr × Value)) none=none:=by
  unfold Uo;rw[Option.map_eq_none_iff,List.find?_eq_none];intro x f e;obtain⟨y,m,rfl⟩:=Db.mp f;exact nomatch (of_decide_eq_true e)
 rw[hn];exact⟨.bl false,H,I.tok _,rfl,q⟩
noncomputable def Rz:Nat->D->Bool
 |0,d=>(Pk d).isSome
 |n+1,d=>(Pk d).isSome || match d with
  | .tup ds=>ds.all (Rz n)
  |_=>false
theorem JM{μ:List Addr}{H:Hp}:∀ {ds:List D} {vs:List V},Wa T μ H ds vs->∀ v∈vs,∃ d∈ds,Rep T μ H d v
 |[],vs,h,v,a=>by rw[Wa]at h;subst h;exact nomatch a
 |d::ds,vs,h,v,a=>by
  rw[Wa]at h;obtain⟨g,r,rfl,b,c⟩:=h;rcases Ha.mp a with rfl|a
  ·exact⟨d,Aa,b⟩
  ·obtain⟨e,f,r⟩:=JM c v a;exact⟨e,ya _ f,r⟩
theorem zN{μ:List Addr}{H:Hp}:∀ (n:Nat) {d:D} {v:V},Rz n d=true->Rep T μ H d v->NV H n v
 |0,d,v,h,r=>by
  obtain⟨k,e⟩:=Fd.mp (show (Pk d).isSome=true from h);exact⟨k,Dx r e⟩
 |n+1,d,v,h,r=>by
  unfold Rz at h;rcases Bool.or_eq_true_iff.mp h with h|h
  ·obtain⟨k,e⟩:=Fd.mp h;exact .inl ⟨k,Dx r e⟩
  ·cases d with
   |tup ds=>
    rw[Rep]at r;obtain⟨b,f,rfl,hb,a⟩:=r;refine .inr ⟨b,f,rfl,hb,λx c=>?_⟩;obtain⟨d,hd,r⟩:=JM a x c;exact zN n (pc.mp h d hd) r
   |_=>cases h
open Classical in
noncomputable def Tw(y x:D):M D:=λc=>match y,x with
 | .tup b,.ref n=>(match ut b,c[n]? with
  |some k,some (.eg a)=>.ok (.bl (decide (k∈a))) c
  |none,some (.eg a)=>if Rz 5 (.tup b)=true/\∃ d e t,b=d::e/\Pk d=some t/\∀ k∈a,k.head?≠some t then .ok (.bl false) c else .bad
  |_,_=>.bad)
 |_,_=>.bad
theorem NW:Nk T aS Tw:=by
 intro E I H j y x u v Q r q p h;cases y with
 |tup f=>
  cases x with
  |ref n=>
   cases m:ut f with
   |some k=>
    refine .inl (TU (T:=T) E I H j (.tup f) (.ref n) u v Q r q p ?_);unfold pI;unfold Tw at h;dsimp only at h ⊢;rw[m]at h ⊢;cases c:j[n]? with
    |none=>rw[c]at h;exact h
    |some i=>
     rw[c]at h;cases i<;>exact h
   |none=>
    unfold Tw at h;dsimp only at h;rw[m]at h;cases c:j[n]? with
    |none=>rw[c]at h;exact h.elim
    |some i=>
     rw[c]at h;cases i with
     |eg C=>
      dsimp only at h;by_cases g:Rz 5 (.tup f)=true/\∃ d l t,f=d::l/\Pk d=some t/\∀ k∈C,k.head?≠some t
      ·rw[ia g]at h;obtain⟨w,d,l,t,rfl,B,z⟩:=g;obtain⟨a,rfl,hn,F,o,g2⟩:=r.at p c;have D:=zN 5 w q;rw[Rep]at q;obtain⟨b,K,rfl,hb,e⟩:=q;rw[Wa]at e;obtain⟨w1,G,rfl,s,J⟩:=e;obtain rfl:=Dx s B;refine .inr ⟨a,b,F,t,G,rfl,o,rfl,hb,λp A=>z _ (by rw[<-g2];exact List.mem_map_of_mem A),D,Ib.here h r ?_⟩;rw[Rep]
      ·rw[ja g]at h;exact h.elim
     |_=>exact h.elim
  |_=>exact h.elim
 |_=>exact h.elim
end
end L4
set_option maxHeartbeats 0
namespace K57
open PySem PySem.Spec PyProof.Rows L2 L4
noncomputable def top(i:Nat):Stmt:=PySem.Challenge.pw_sidebook_k57_the_band_by_itself.main.body.getD i (.Pass ⟨0,0,0,0⟩)
noncomputable def tx(K:W.Frag):Tx:=⟨[],0⟩
structure Txt(K:PySem.W.Frag)(mg:qa->Option Value)(ca:Nat->Addr):Prop where
 Wb:ii K mg "_law_cell_at" (top 101) ["_law_script", "_law_k"]
 Qg:ii K mg "is_whole" (top 8) ["thing"]
 kb:ii K mg "is_between" (top 9) ["thing", "least", "most"]
 ng:ii K mg "is_hand" (top 11) ["thing"]
 ud:ii K mg "makes_a_pot" (top 49) ["thing"]
 Se:ii K mg "checked_pots" (top 50) ["pots"]
 Qn:Be K (ca 5) "__init__" "Claim.__init__" (ze (top 42) 0) ["self", "whole"] (ca 17)
 qc:ii K mg "whole_of" (top 51) ["made"]
 ur:Be K (ca 9) "__init__" "Book.__init__" (ze (top 54) 0) ["self", "pots"] (ca 30)
 Bb:Be K (ca 9) "made_of" "Book.made_of" (ze (top 54) 14) ["self"] (ca 44)
 jf:ii K mg "check_span" (top 92) ["hand", "every", "pots"]
 Ub:Be K (ca 15) "learn" "Keeper.learn" (ze (top 96) 2) ["self", "words"] (ca 57)
 Yd:Be K (ca 15) "hold" "Keeper.hold" (ze (top 96) 1) ["self", "account", "claim", "seen"] (ca 56)
 oi:ii K mg "is_day" (top 13) ["thing"]
 Sg:ii K mg "is_word" (top 12) ["thing"]
 rg:ii K mg "is_amount" (top 15) ["thing"]
 Pf:ii K mg "is_side" (top 10) ["thing"]
 Fh:ii K mg "is_tie" (top 27) ["thing"]
 Tg:ii K mg "are_ties" (top 29) ["thing"]
 Rf:ii K mg "are_shares" (top 28) ["thing"]
 Gf:ii K mg "is_number" (top 14) ["thing"]
 df:ii K mg "is_stand" (top 30) ["thing"]
 sj:bL K mg "stand" (top 31) ["number", "shares", "ties"] [.none]
 Xh:ii K mg "first" (top 32) ["left", "right"]
 Ps:Be K (ca 10) "__init__" "Account.__init__" (ze (top 63) 0) ["self", "pot", "side", "mine", "grant", "may", "strikes"] (ca 45)
 ye:ii K mg "first_account" (top 67) ["pot", "side", "left", "right"]
 qr:br K (ca 15) "__init__" "Keeper.__init__" (ze (top 96) 0) ["self", "hand", "every", "pots", "words"] [.none] (ca 55)
 Ff:ii K mg "words_of" (top 98) ["hand", "words"]
 Wq:br K (ca 16) "__init__" "Hall.__init__" (ze (top 99) 0) ["self", "pots", "keeps", "every", "words"] [.none] (ca 79)
 Ab:Be K (ca 9) "today" "Book.today" (ze (top 54) 2) ["self"] (ca 32)
 gd:Be K (ca 15) "looked" "Keeper.looked" (ze (top 96) 4) ["self"] (ca 59)
 vb:Be K (ca 9) "check_pot" "Book.check_pot" (ze (top 54) 1) ["self", "pot"] (ca 31)
 Nd:Be K (ca 6) "told" "Held.told" (ze (top 43) 0) ["self"] (ca 18)
 Vd:Be K (ca 7) "told" "Laid.told" (ze (top 44) 1) ["self"] (ca 22)
 Ed:Be K (ca 8) "told" "Taken.told" (ze (top 45) 1) ["self"] (ca 27)
 rb:Be K (ca 9) "told" "Book.told" (ze (top 54) 8) ["self", "pot"] (ca 38)
 Jc:Be K (ca 9) "shown_for" "Book.shown_for" (ze (top 54) 9) ["self", "pot"] (ca 39)
 kc:Be K (ca 9) "all_shown" "Book.all_shown" (ze (top 54) 13) ["self"] (ca 43)
 pf:ii K mg "is_given_up" (top 95) ["account", "claim"]
 Yb:Be K (ca 15) "strike_all" "Keeper.strike_all" (ze (top 96) 20) ["self", "book"] (ca 75)
 sf:ii K mg "stands_told" (top 93) ["account", "claim"]
 Bh:ii K mg "ties_to" (top 94) ["account", "claim"]
 uc:Be K (ca 15) "show_all" "Keeper.show_all" (ze (top 96) 22) ["self", "book"] (ca 77)
 Mc:Be K (ca 15) "lay_all" "Keeper.lay_all" (ze (top 96) 23) ["self", "book"] (ca 78)
 vd:Be K (ca 15) "look" "Keeper.look" (ze (top 96) 19) ["self", "book"] (ca 74)
 Bc:Be K (ca 9) "next_day" "Book.next_day" (ze (top 54) 3) ["self"] (ca 33)
 Vb:Be K (ca 16) "next_day" "Hall.next_day" (ze (top 99) 22) ["self"] (ca 101)
 Qf:ii K mg "_law_stand" (top 102) ["_law_coin", "_law_script"]
 Pa:Be K (ca 16) "book" "Hall.book" (ze (top 99) 1) ["self"] (ca 80)
 Ld:Be K (ca 16) "has_pot" "Hall.has_pot" (ze (top 99) 5) ["self", "pot"] (ca 84)
 lb:Be K (ca 16) "is_side_of_band" "Hall.is_side_of_band" (ze (top 99) 6) ["self", "pot", "side"] (ca 85)
 Ra:Be K (ca 16) "check_side_of_band" "Hall.check_side_of_band" (ze (top 99) 7) ["self", "pot", "side"] (ca 86)
 Ad:ii K mg "other_side" (top 17) ["side"]
 gf:ii K mg "check_side" (top 53) ["side"]
 rj:ii K mg "deals" (top 33) ["one"]
 qf:ii K mg "is_stand_of" (top 34) ["thing", "coin"]
 pi:ii K mg "is_pot" (top 16) ["thing"]
 Uc:ii K mg "is_of_a_side" (top 38) ["thing"]
 ff:ii K mg "is_thing" (top 39) ["thing"]
 og:ii K mg "is_agreed" (top 52) ["pot", "side", "stand", "agreement"]
 Wc:Be K (ca 9) "may_lie" "Book.may_lie" (ze (top 54) 5) ["self", "pot", "side", "stand", "agreement"] (ca 35)
 Ls:Be K (ca 7) "__init__" "Laid.__init__" (ze (top 44) 0) ["self", "whole", "side", "stand", "day", "wait"] (ca 21)
 fg:br K (ca 9) "lay" "Book.lay" (ze (top 54) 6) ["self", "pot", "side", "stand", "agreement"] [.none] (ca 36)
 wb:Be K (ca 16) "band_can" "Hall.band_can" (ze (top 99) 8) ["self", "thing"] (ca 87)
 kf:Be K (ca 16) "lay" "Hall.lay" (ze (top 99) 19) ["self", "P", "side", "stand"] (ca 98)
 Cd:Be K (ca 7) "waits" "Laid.waits" (ze (top 44) 2) ["self", "day"] (ca 23)
 Zb:Be K (ca 7) "may_strike" "Laid.may_strike" (ze (top 44) 4) ["self", "pot", "side", "day", "thing"] (ca 25)
 qs:Be K (ca 8) "__init__" "Taken.__init__" (ze (top 45) 0) ["self", "whole", "side"] (ca 26)
 Xd:Be K (ca 9) "strike" "Book.strike" (ze (top 54) 7) ["self", "pot", "side", "thing"] (ca 37)
 Pb:Be K (ca 16) "strike" "Hall.strike" (ze (top 99) 20) ["self", "P", "side"] (ca 99)
 Ac:ii K mg "_law_refused" (top 103) ["_law_hall", "_law_side"]
 yd:Be K (ca 6) "comes" "Held.comes" (ze (top 43) 1) ["self", "day", "shown"] (ca 19)
 we:ii K mg "shown_in_time" (top 36) ["tie", "shown"]
 Og:ii K mg "side_due" (top 41) ["tie", "day", "shown"]
 Jf:ii K mg "with_more" (top 35) ["shares", "side", "amount"]
 zd:Be K (ca 7) "comes" "Laid.comes" (ze (top 44) 3) ["self", "day", "shown"] (ca 24)
 Qc:Be K (ca 8) "comes" "Taken.comes" (ze (top 45) 2) ["self", "day", "shown"] (ca 28)
 Sa:Be K (ca 9) "due_of" "Book.due_of" (ze (top 54) 10) ["self", "pot"] (ca 40)
 Hf:ii K mg "_law_due" (top 104) ["_law_one", "_law_coin", "_law_begun", "_law_wait", "_law_shown", "_law_today"]
 bf:Be K (ca 9) "show" "Book.show" (ze (top 54) 4) ["self", "pot", "word"] (ca 34)
 af:Be K (ca 16) "show" "Hall.show" (ze (top 99) 18) ["self", "P", "W"] (ca 97)
 Md:Be K (ca 9) "coin_of" "Book.coin_of" (ze (top 54) 11) ["self", "hand"] (ca 41)
 jd:Be K (ca 16) "coin" "Hall.coin" (ze (top 99) 4) ["self", "hand"] (ca 83)
 qg:ii K mg "_law_days" (top 105) ["_law_hall", "_law_one", "_law_coin", "_law_wait", "_law_script"]
 Gn:ii K mg "law" (top 106) ["_law_script"]
 AD:mg "all" = none
 nA:mg "bool" = none
 gA:mg "dict" = none
 kj:mg "enumerate" = none
 lC:mg "int" = none
 Dd:mg "isinstance" = none
 Ni:mg "len" = none
 Ep:mg "list" = none
 mC:mg "min" = none
 Jm:mg "range" = none
 jy:mg "set" = none
 Br:mg "sorted" = none
 fC:mg "str" = none
 Nv:mg "sum" = none
 Ei:mg "tuple" = none
 eA:sL K mg "HELD" ["held"]
 Mj:∃ t,mg "MOST_AMOUNT" = some (.int 1000000000000 t)
 Vh:∃ t,mg "MOST_COIN" = some (.int 1000000000000 t)
 Jn:∃ t,mg "MOST_DAY" = some (.int 1000000 t)
 Ak:∃ t,mg "MOST_EVERY" = some (.int 50 t)
 Dl:∃ t,mg "MOST_HAND" = some (.int 3 t)
 Nj:∃ t,mg "MOST_NUMBER" = some (.int 1000000 t)
 Fi:∃ t,mg "MOST_POT" = some (.int 2 t)
 zh:∃ t,mg "MOST_SHARE" = some (.int 2000000000000 t)
 Ll:∃ t,mg "MOST_TIES" = some (.int 6 t)
 Hl:∃ t,mg "MOST_WAIT" = some (.int 100 t)
 Al:∃ t,mg "MOST_WORD" = some (.int 59 t)
 Cn:mg "NoDeed" = some (.ref (ca 2))
 Zq:PySem.W.excIn K (ca 2) Q9 "ValueError.__new__" = true
 fm:PySem.W.exmOne K (.ref (ca 2)) (.ref (ca 2))=some true
 Pe:L2.il K (ca 16)
 Xp:L2.Vf K (ca 16) "pots"
 Em:L2.il K (ca 14)
 mq:L2.Vf K (ca 14) "pots"
 Ce:L2.il K (ca 9)
 Ip:L2.Vf K (ca 9) "pots"
 pr:L2.Vf K (ca 9) "day"
 xh:L2.il K (ca 7)
 rr:L2.Vf K (ca 7) "day"
 Ek:L2.il K (ca 8)
 Kn:L2.Vf K (ca 8) "whole"
 yo:L2.Vf K (ca 7) "whole"
 Cp:L2.il K (ca 6)
 Jo:L2.Vf K (ca 6) "whole"
 Mv:L2.il K (ca 5)
 En:L2.Vf K (ca 5) "whole"
 Sv:mg "Held" = some (.ref (ca 6))
 Uw:L2.Mk K (ca 6) (ca 17)
 Lc:L2.il K (ca 15)
 ol:L2.Vf K (ca 15) "claims"
 kn:L2.Vf K (ca 9) "claims"
 Io:L2.Vf K (ca 9) "shown"
 Sz:mg "Book" = some (.ref (ca 9))
 Lw:L2.Mk K (ca 9) (ca 30)
 dn:L2.Vf K (ca 16) "public"
 lm:L2.Je K (ca 9) "made_of" (ca 44)
 xo:L2.Vf K (ca 16) "every"
 mm:L2.Vf K (ca 15) "every"
 Do:L2.Vf K (ca 14) "every"
 Sl:L2.Vf K (ca 16) "keepers"
 zk:L2.Vf K (ca 16) "under_way"
 Sn:L2.Vf K (ca 16) "things"
 ln:L2.Vf K (ca 15) "hand"
 Bj:L2.Vf K (ca 15) "last_look"
 Fk:L2.Vf K (ca 14) "last_look"
 Pn:L2.Vf K (ca 15) "gave"
 gm:L2.Vf K (ca 15) "known"
 Eo:L2.Vf K (ca 14) "known"
 Vj:L2.Vf K (ca 15) "accounts"
 An:L2.Vf K (ca 15) "seen"
 Pl:L2.Vf K (ca 15) "asked"
 Dj:L2.Vf K (ca 15) "finishing"
 om:L2.Je K (ca 15) "learn" (ca 57)
 Rg:L2.il K (ca 13)
 Rn:L2.Vf K (ca 13) "pot"
 Ug:L2.il K (ca 12)
 zn:L2.Vf K (ca 12) "pot"
 pj:L2.il K (ca 11)
 lr:L2.Vf K (ca 11) "pot"
 Pg:L2.il K (ca 10)
 xn:L2.Vf K (ca 10) "pot"
 jn:L2.Je K (ca 15) "hold" (ca 56)
 Yl:L2.Vf K (ca 13) "side"
 um:L2.Vf K (ca 12) "side"
 Op:L2.Vf K (ca 11) "side"
 am:L2.Vf K (ca 10) "side"
 Fo:L2.Vf K (ca 8) "side"
 fq:L2.Vf K (ca 7) "side"
 tm:L2.Vf K (ca 13) "mine"
 Tl:L2.Vf K (ca 12) "mine"
 aq:L2.Vf K (ca 11) "mine"
 Vl:L2.Vf K (ca 10) "mine"
 ul:L2.Vf K (ca 13) "grant"
 nl:L2.Vf K (ca 12) "grant"
 Ho:L2.Vf K (ca 11) "grant"
 jl:L2.Vf K (ca 10) "grant"
 Mn:L2.Vf K (ca 13) "may"
 Ln:L2.Vf K (ca 12) "may"
 sr:L2.Vf K (ca 11) "may"
 vn:L2.Vf K (ca 10) "may"
 Wj:L2.Vf K (ca 13) "strikes"
 Uj:L2.Vf K (ca 12) "strikes"
 wm:L2.Vf K (ca 11) "strikes"
 Rj:L2.Vf K (ca 10) "strikes"
 pz:mg "Calm" = some (.ref (ca 11))
 Ow:L2.Mk K (ca 11) (ca 45)
 Pv:mg "Keeper" = some (.ref (ca 15))
 Qt:L2.Mk K (ca 15) (ca 55)
 jA:mg "Hall" = some (.ref (ca 16))
 Fx:L2.Mk K (ca 16) (ca 79)
 Bo:L2.Je K (ca 9) "today" (ca 32)
 al:L2.Je K (ca 15) "looked" (ca 59)
 sk:L2.Je K (ca 9) "check_pot" (ca 31)
 Ko:L2.Vf K (ca 7) "stand"
 Ao:L2.Je K (ca 8) "told" (ca 27)
 Vp:L2.Je K (ca 7) "told" (ca 22)
 gq:L2.Je K (ca 6) "told" (ca 18)
 bq:L2.Je K (ca 9) "told" (ca 38)
 vk:L2.Je K (ca 9) "shown_for" (ca 39)
 qk:L2.Je K (ca 9) "all_shown" (ca 43)
 jj:L2.Je K (ca 15) "strike_all" (ca 75)
 Sj:L2.Je K (ca 15) "show_all" (ca 77)
 Gk:L2.Je K (ca 15) "lay_all" (ca 78)
 yn:L2.Je K (ca 15) "look" (ca 74)
 Zk:L2.Je K (ca 9) "next_day" (ca 33)
 Xk:L2.Je K (ca 16) "next_day" (ca 101)
 Gp:L2.Je K (ca 16) "book" (ca 80)
 dm:L2.Je K (ca 16) "has_pot" (ca 84)
 qi:L2.Je K (ca 16) "is_side_of_band" (ca 85)
 Gh:L2.Je K (ca 16) "check_side_of_band" (ca 86)
 Rx:L4.InK K (ca 16)
 Lp:PySem.W.kitOne K (.ref (ca 16)) (.ref (ca 6))=some false
 Zt:L4.InK K (ca 15)
 Tn:PySem.W.kitOne K (.ref (ca 15)) (.ref (ca 6))=some false
 Nw:L4.InK K (ca 14)
 Jp:PySem.W.kitOne K (.ref (ca 14)) (.ref (ca 6))=some false
 Qs:L4.InK K (ca 13)
 im:PySem.W.kitOne K (.ref (ca 13)) (.ref (ca 6))=some false
 Wr:L4.InK K (ca 12)
 vm:PySem.W.kitOne K (.ref (ca 12)) (.ref (ca 6))=some false
 Qx:L4.InK K (ca 11)
 Tp:PySem.W.kitOne K (.ref (ca 11)) (.ref (ca 6))=some false
 ux:L4.InK K (ca 9)
 Fp:PySem.W.kitOne K (.ref (ca 9)) (.ref (ca 6))=some false
 Qv:L4.InK K (ca 8)
 Go:PySem.W.kitOne K (.ref (ca 8)) (.ref (ca 6))=some false
 xx:L4.InK K (ca 7)
 Pp:PySem.W.kitOne K (.ref (ca 7)) (.ref (ca 6))=some false
 bx:L4.InK K (ca 6)
 Mp:PySem.W.kitOne K (.ref (ca 6)) (.ref (ca 6))=some true
 Xl:L2.Je K (ca 9) "may_lie" (ca 35)
 yt:mg "Claim" = some (.ref (ca 5))
 Th:PySem.W.specialIn K (.ref (ca 5)) (ag "__getattribute__")=some (some (.builtin "type.__getattribute__"))
 Uh:PySem.W.readsIn K (ca 5) (.type "type")=true
 Rh:PySem.W.findCls K (.ref (ca 5)) (.type "type") "__init__" = some (.val (.ref (ca 17)))
 Sh:PySem.W.keepIn K (.ref (ca 17))=true
 Yp:L2.Vf K (ca 7) "wait"
 Vz:mg "Laid" = some (.ref (ca 7))
 px:L2.Mk K (ca 7) (ca 21)
 mr:L2.Je K (ca 9) "lay" (ca 36)
 ll:L2.Je K (ca 16) "band_can" (ca 87)
 dr:L2.Je K (ca 16) "lay" (ca 98)
 Co:L2.Je K (ca 7) "waits" (ca 23)
 Qj:L2.Je K (ca 7) "may_strike" (ca 25)
 Rw:mg "Taken" = some (.ref (ca 8))
 Cv:L2.Mk K (ca 8) (ca 26)
 Hn:L2.Je K (ca 9) "strike" (ca 37)
 On:L2.Je K (ca 16) "strike" (ca 99)
 Fn:L2.Je K (ca 8) "comes" (ca 28)
 uo:L2.Je K (ca 7) "comes" (ca 24)
 wo:L2.Je K (ca 6) "comes" (ca 19)
 rn:L2.Je K (ca 9) "due_of" (ca 40)
 lq:L2.Je K (ca 9) "show" (ca 34)
 Np:L2.Je K (ca 16) "show" (ca 97)
 Wl:L2.Je K (ca 9) "coin_of" (ca 41)
 Qp:L2.Je K (ca 16) "coin" (ca 83)
seal L2.PE L2.PS L2.At L2.PT L2.PW L2.PA L2.PI L2.PG
section
variable{P:ra}{w:Ka}{K:W.Frag}{mg:qa->Option Value}{base:Heap}{ca:Nat->Addr}
theorem Le{N P:List qa}{sc:Scope}(a:sc.kind=.function)(b:sc.isCoroutine=false)(c:sc.isGenerator=false)(h:N.Nodup/\N.take P.length=P/\(∀ x∈P,sc.names.lookup x=some .local\/sc.names.lookup x=some .cell)/\∀ y∈sc.names,y.2≠.free):xa N P sc:=⟨a,b,c,h.1,h.2.1,h.2.2.1,h.2.2.2⟩
noncomputable abbrev eZ:Stmt:=top 101
noncomputable def fP:Ev->M Fl:=
 (Kb (Jg (eT (Qa oLt (ga 1) (rl cq (za (ga 0) Na)))) (Ke (Qa Qb (ga 0) (ga 1))) gh) (Ke (eC (.int 0))))
noncomputable def Wb:List D->M D:=hide λa=>Za (run 2 fP a)
theorem P6:xa ["_law_script", "_law_k"] ["_law_script", "_law_k"] (vc eZ):=Le rfl rfl rfl (by decide +kernel)
theorem Wz(a:Txt K mg ca):Rc ⟨K,ca,tx K⟩ P w mg base 1 "_law_cell_at" ["_law_script", "_law_k"] Wb:=
 Rc.hide (Rc.Za (Ki a.Wb P6 λ_ _ _ _ _ _ _ b=>
  (ec (lh (si mB GB (ka 1) (xr jv (Zv rfl) rfl a.Ni Dc (Ca (ka 0) qb)) (Yg _)) (ic (Ve (me pe (ke rfl) (ka 0) (ka 1) (λ_ _=>rfl)))) uh)
  (ic (Ve xb)))))
noncomputable abbrev K7:Stmt:=top 8
noncomputable def DN:Ev->M Fl:=
 (Ke (Mi (Vc (vr .int) (ga 0)) (gK (Vc (vr .bool) (ga 0)))))
noncomputable def Qg:List D->M D:=hide λa=>Za (run 1 DN a)
theorem f7:xa ["thing"] ["thing"] (vc K7):=Le rfl rfl rfl (by decide +kernel)
theorem zis(a:Txt K mg ca):Rc ⟨K,ca,tx K⟩ P w mg base 1 "is_whole" ["thing"] Qg:=
 Rc.hide (Rc.Za (Ki a.Qg f7 λ_ _ _ _ _ _ _ b=>
  (ic (Ve (fj (Mw .int (ka 0) rfl a.Dd rfl a.lC boot_int) (dq (ZU (Mw .bool (ka 0) rfl a.Dd rfl a.nA boot_bool))))))))
noncomputable abbrev V9:Stmt:=top 9
noncomputable def vR:Ev->M Fl:=
 (Ke (Mi (ae 1 Qg [] (za (ga 0) Na)) (UK oLe oLe (ga 1) (ga 0) (ga 2))))
noncomputable def kb:List D->M D:=hide λa=>Za (run 3 vR a)
theorem zfv:xa ["thing", "least", "most"] ["thing", "least", "most"] (vc V9):=Le rfl rfl rfl (by decide +kernel)
theorem Js(a:Txt K mg ca):Rc ⟨K,ca,tx K⟩ P w mg base 2 "is_between" ["thing", "least", "most"] kb:=
 Rc.hide (Rc.Za (Ki a.kb zfv λ_ _ _ _ _ _ _ b=>
  (ic (Ve (fj (Qe (zis a) rfl (b.mono (by decide)) rfl (Ca (ka 0) qb)) (dq (NY RP pO RP pO (ka 1) (ka 0) (ka 2))))))))
noncomputable abbrev i7:Stmt:=top 11
noncomputable def eM:Ev->M Fl:=
 (Ke (ae 3 kb [] (za (ga 0) (za (eC (.int 0)) (za (eC (.int 3)) Na)))))
noncomputable def ng:List D->M D:=hide λa=>Za (run 1 eM a)
theorem B6:xa ["thing"] ["thing"] (vc i7):=Le rfl rfl rfl (by decide +kernel)
theorem uL(a:Txt K mg ca):Rc ⟨K,ca,tx K⟩ P w mg base 3 "is_hand" ["thing"] ng:=
 Rc.hide (Rc.Za (Ki a.ng B6 λ_ _ _ _ _ _ _ b=>
  (ic (Ve (Qe (Js a) rfl (b.mono (by decide)) rfl (Ca (ka 0) (Ca xb (Ca (Dt (u:=.int 3 (a.Dl).choose) rfl (a.Dl).choose_spec ⟨_,rfl⟩) qb))))))))
noncomputable abbrev xZ:Stmt:=top 49
noncomputable def XR:Ev->M Fl:=
 (Ke (Mi (Vc (vr .tuple) (ga 0)) (Mi (Qa oEq (rl cq (za (ga 0) Na)) (eC (.int 5))) (Mi (ae 1 ng [] (za (Qa Qb (ga 0) (eC (.int 0))) Na)) (Mi (ae 1 ng [] (za (Qa Qb (ga 0) (eC (.int 1))) Na)) (Mi (Qa iq (Qa Qb (ga 0) (eC (.int 0))) (Qa Qb (ga 0) (eC (.int 1)))) (Mi (ae 3 kb [] (za (Qa Qb (ga 0) (eC (.int 2))) (za (eC (.int 0)) (za (eC (.int 1000000000000)) Na)))) (Mi (ae 3 kb [] (za (Qa Qb (ga 0) (eC (.int 3))) (za (eC (.int 0)) (za (eC (.int 1000000000000)) Na)))) (ae 3 kb [] (za (Qa Qb (ga 0) (eC (.int 4))) (za (eC (.int 1)) (za (eC (.int 100)) Na))))))))))))
noncomputable def ud:List D->M D:=hide λa=>Za (run 1 XR a)
theorem wV:xa ["thing"] ["thing"] (vc xZ):=Le rfl rfl rfl (by decide +kernel)
theorem F5(a:Txt K mg ca):Rc ⟨K,ca,tx K⟩ P w mg base 4 "makes_a_pot" ["thing"] ud:=
 Rc.hide (Rc.Za (Ki a.ud wV λ_ _ _ _ _ _ _ b=>
  (ic (Ve (fj (Mw .tuple (ka 0) rfl a.Dd rfl a.Ei Ji) (fj (mo (Vk (Vg b)) jg (xr jv (Zv rfl) rfl a.Ni Dc (Ca (ka 0) qb)) xb (Yg _)) (fj (Qe (uL a) rfl (b.mono (by decide)) rfl (Ca (me pe (ke rfl) (ka 0) xb (λ_ _=>rfl)) qb)) (fj (Qe (uL a) rfl (b.mono (by decide)) rfl (Ca (me pe (ke rfl) (ka 0) xb (λ_ _=>rfl)) qb)) (fj (mo (Zz (Vg b)) jg (me pe (ke rfl) (ka 0) xb (λ_ _=>rfl)) (me pe (ke rfl) (ka 0) xb (λ_ _=>rfl)) (Yg _)) (fj (Qe (Js a) rfl (b.mono (by decide)) rfl (Ca (me pe (ke rfl) (ka 0) xb (λ_ _=>rfl)) (Ca xb (Ca (Dt (u:=.int 1000000000000 (a.Vh).choose) rfl (a.Vh).choose_spec ⟨_,rfl⟩) qb)))) (fj (Qe (Js a) rfl (b.mono (by decide)) rfl (Ca (me pe (ke rfl) (ka 0) xb (λ_ _=>rfl)) (Ca xb (Ca (Dt (u:=.int 1000000000000 (a.Vh).choose) rfl (a.Vh).choose_spec ⟨_,rfl⟩) qb)))) (dq (Qe (Js a) rfl (b.mono (by decide)) rfl (Ca (me pe (ke rfl) (ka 0) xb (λ_ _=>rfl)) (Ca xb (Ca (Dt (u:=.int 100 (a.Hl).choose) rfl (a.Hl).choose_spec ⟨_,rfl⟩) qb))))))))))))))))
noncomputable abbrev P3:Stmt:=top 50
noncomputable abbrev lF:Ev->M Fl:=(Jg (Fv (eT (Qa vG (ga 1) (eC (.int 2)))) (Il (eT (ae 1 ud [] (za (ga 2) Na))))) Zl gh)
noncomputable def EM:Ev->M Fl:=
 (Kb (fr (cC (ga 0)) (Bn 2 (Ah (Zd 1) (Ah (Zd 2) io))) lF) (Ke (cm (rl Iu (za (ga 0) Na)))))
noncomputable def Se:List D->M D:=hide λa=>Za (run 3 EM a)
theorem pK:xa ["pots", "number", "made"] ["pots"] (vc P3):=Le rfl rfl rfl (by decide +kernel)
theorem dZ(a:Txt K mg ca):Rc ⟨K,ca,tx K⟩ P w mg base 5 "checked_pots" ["pots"] Se:=
 Rc.hide (Rc.Za (Ki a.Se pK λ_ _ _ _ _ _ _ b=>
  (ec (Xw Dn rfl (ZK rfl a.kj (ka 0)) (Qw rfl (lp (mi (i:=1) pK.nd rfl (Or.inl rfl)) (lp (mi (i:=2) pK.nd rfl (Or.inl rfl)) Ex))) (ic (lh (L2.PW.pt (vx (si bI PK (ka 1) (Dt (u:=.int 2 (a.Fi).choose) rfl (a.Fi).choose_spec ⟨_,rfl⟩) (Yg _)) (Fy (Dm (Qk (Qe (F5 a) rfl (b.mono (by decide)) rfl (Ca (ka 2) qb))))))) (ic NZ) uh)))
  (ic (Ve (Bs (wB kF (gF rfl) rfl a.Ep Xu (Ca (ka 0) qb))))))))
theorem su(a:Txt K mg ca):Lj ⟨K,ca,tx K⟩ [9,14,16] "pots":=(Hg (T:=⟨K,ca,tx K⟩) (c:=9) a.Ce a.Ip (Hg (T:=⟨K,ca,tx K⟩) (c:=14) a.Em a.mq (Hg (T:=⟨K,ca,tx K⟩) (c:=16) a.Pe a.Xp El)))
theorem qw(a:Txt K mg ca):Lj ⟨K,ca,tx K⟩ [7,9] "day":=(Hg (T:=⟨K,ca,tx K⟩) (c:=7) a.xh a.rr (Hg (T:=⟨K,ca,tx K⟩) (c:=9) a.Ce a.pr El))
theorem qC(a:Txt K mg ca):Lj ⟨K,ca,tx K⟩ [5,6,7,8] "whole":=(Hg (T:=⟨K,ca,tx K⟩) (c:=5) a.Mv a.En (Hg (T:=⟨K,ca,tx K⟩) (c:=6) a.Cp a.Jo (Hg (T:=⟨K,ca,tx K⟩) (c:=7) a.xh a.yo (Hg (T:=⟨K,ca,tx K⟩) (c:=8) a.Ek a.Kn El))))
noncomputable abbrev xW:Stmt:=ze (top 42) 0
noncomputable def UP:Ev->M Fl:=
 (Ai [5,6,7,8] "whole" (ga 1) (ga 0))
noncomputable def Qn:List D->M D:=hide (run 2 UP)
theorem T3:xa ["self", "whole"] ["self", "whole"] (vc xW):=Le rfl rfl rfl (by decide +kernel)
theorem sI(a:Txt K mg ca):Pc ⟨K,ca,tx K⟩ P w mg base 1 (ca 17) ["self", "whole"] Qn:=
 Pc.hide (ji a.Qn T3 λ_ _ _ _ _ _ b=>
  (ic (Aj rfl (qC a) (ka 0) (ka 1))))
noncomputable abbrev iY:Stmt:=top 51
noncomputable def LJ:Ev->M Fl:=
 (Ke (Qa ki (Qa Qb (ga 0) (eC (.int 2))) (Qa Qb (ga 0) (eC (.int 3)))))
noncomputable def qc:List D->M D:=hide λa=>Za (run 1 LJ a)
theorem Y6:xa ["made"] ["made"] (vc iY):=Le rfl rfl rfl (by decide +kernel)
theorem AE(a:Txt K mg ca):Rc ⟨K,ca,tx K⟩ P w mg base 1 "whole_of" ["made"] qc:=
 Rc.hide (Rc.Za (Ki a.qc Y6 λ_ _ _ _ _ _ _ b=>
  (ic (Ve (ef (Ik rfl) jg (me pe (ke rfl) (ka 0) xb (λ_ _=>rfl)) (me pe (ke rfl) (ka 0) xb (λ_ _=>rfl)))))))
theorem Ru(a:Txt K mg ca):Lj ⟨K,ca,tx K⟩ [9,15] "claims":=(Hg (T:=⟨K,ca,tx K⟩) (c:=9) a.Ce a.kn (Hg (T:=⟨K,ca,tx K⟩) (c:=15) a.Lc a.ol El))
theorem AB(a:Txt K mg ca):Lj ⟨K,ca,tx K⟩ [9] "shown":=(Hg (T:=⟨K,ca,tx K⟩) (c:=9) a.Ce a.Io El)
noncomputable abbrev O6:Stmt:=ze (top 54) 0
noncomputable def ZP:Ev->M Fl:=
 (Kb (Ai [9,14,16] "pots" (ae 1 Se [] (za (ga 1) Na)) (ga 0)) (Kb (Ai [7,9] "day" (eC (.int 0)) (ga 0)) (Kb (Ai [9,15] "claims" (yr (toN (Dk (Vc (gc [9,14,16] "pots") (ga 0)))) [] (Zd 0) Vq (cm (As 6 2 Qn (za (ae 1 qc [] (za (ga 0) Na)) Na)))) (ga 0)) (Ai [9] "shown" (yr (toN (Dk (Vc (gc [9,14,16] "pots") (ga 0)))) [] (Zd 0) Vq Nr) (ga 0)))))
noncomputable def ur:List D->M D:=hide (run 2 ZP)
theorem L7:xa ["self", "pots"] ["self", "pots"] (vc O6):=Le rfl rfl rfl (by decide +kernel)
theorem Z1(a:Txt K mg ca):Pc ⟨K,ca,tx K⟩ P w mg base 6 (ca 30) ["self", "pots"] ur:=
 Pc.hide (ji a.ur L7 λ_ _ _ _ _ _ b=>
  (ec (Aj rfl (su a) (ka 0) (Qe (dZ a) rfl (b.mono (by decide)) rfl (Ca (ka 1) qb)))
  (ec (Aj rfl (qw a) (ka 0) xb)
  (ec (Aj rfl (Ru a) (ka 0) (Cz (x:="made") (z0:="0") (M':=[]) (ix:=[]) rfl ⟨rfl,rfl,rfl,rfl,rfl,rfl⟩ (Pz (ar rfl (Ze rfl (su a) (ka 0)))) (λ_ _ _ _ _=>mi (i:=0) (by show List.Nodup (("made"::"0"::[]):List qa);decide +kernel) rfl (Or.inl rfl)) (λ_ _ _ _ _=>eB) (λ_ _ _ _ _=>(Bs (AC (c:=6) (ps:=["self", "whole"]) ⟨_,a.Sv,a.Uw,sI a⟩ rfl (b.mono (by decide)) rfl (Ca (Qe (AE a) rfl (b.mono (by decide)) rfl (Ca (ka 0) qb)) qb))))))
  (ic (Aj rfl (AB a) (ka 0) (Cz (x:="made") (z0:="0") (M':=[]) (ix:=[]) rfl ⟨rfl,rfl,rfl,rfl,rfl,rfl⟩ (Pz (ar rfl (Ze rfl (su a) (ka 0)))) (λ_ _ _ _ _=>mi (i:=0) (by show List.Nodup (("made"::"0"::[]):List qa);decide +kernel) rfl (Or.inl rfl)) (λ_ _ _ _ _=>eB) (λ_ _ _ _ _=>fv))))))))
theorem Ou(a:Txt K mg ca):Lj ⟨K,ca,tx K⟩ [16] "public":=(Hg (T:=⟨K,ca,tx K⟩) (c:=16) a.Pe a.dn El)
noncomputable abbrev O4:Stmt:=ze (top 54) 14
noncomputable def VM:Ev->M Fl:=
 (Ke (cm (rl Iu (za (Vc (gc [9,14,16] "pots") (ga 0)) Na))))
noncomputable def Bb:List D->M D:=hide λa=>Za (run 1 VM a)
theorem J6:xa ["self"] ["self"] (vc O4):=Le rfl rfl rfl (by decide +kernel)
theorem x3(a:Txt K mg ca):Pc ⟨K,ca,tx K⟩ P w mg base 1 (ca 44) ["self"] Bb:=
 Pc.hide (Pc.Za (ji a.Bb J6 λ_ _ _ _ _ _ b=>
  (ic (Ve (Bs (wB kF (gF rfl) rfl a.Ep Xu (Ca (Ze rfl (su a) (ka 0)) qb)))))))
theorem xO(a:Txt K mg ca):bj ⟨K,ca,tx K⟩ P w mg base 1 "made_of" ["self"] [(9,Bb)]:=(Wi (T:=⟨K,ca,tx K⟩) (c:=9) a.Ce a.lm (x3 a) (by decide) vj)
theorem qK(a:Txt K mg ca):Lj ⟨K,ca,tx K⟩ [14,15,16] "every":=(Hg (T:=⟨K,ca,tx K⟩) (c:=14) a.Em a.Do (Hg (T:=⟨K,ca,tx K⟩) (c:=15) a.Lc a.mm (Hg (T:=⟨K,ca,tx K⟩) (c:=16) a.Pe a.xo El)))
theorem zC(a:Txt K mg ca):Lj ⟨K,ca,tx K⟩ [16] "keepers":=(Hg (T:=⟨K,ca,tx K⟩) (c:=16) a.Pe a.Sl El)
theorem Z6(a:Txt K mg ca):Lj ⟨K,ca,tx K⟩ [16] "under_way":=(Hg (T:=⟨K,ca,tx K⟩) (c:=16) a.Pe a.zk El)
theorem vL(a:Txt K mg ca):Lj ⟨K,ca,tx K⟩ [16] "things":=(Hg (T:=⟨K,ca,tx K⟩) (c:=16) a.Pe a.Sn El)
noncomputable abbrev yY:Stmt:=top 92
noncomputable abbrev HD:Ev->M Fl:=(Jg (rB (eT (Qa (VA false) (ga 0) (gH (ga 3) none (some (eC (.int 2)))))) (eT (Qa oLt (Qa Qb (ga 3) (eC (.int 4))) (Qa ki (ga 1) (eC (.int 1)))))) Zl gh)
noncomputable def UO:Ev->M Fl:=
 (Kb (Jg (Il (eT (ae 3 kb [] (za (ga 1) (za (eC (.int 1)) (za (eC (.int 50)) Na)))))) Zl gh) (Mr (Dk (ga 2)) (Zd 3) HD))
noncomputable def jf:List D->M D:=hide λa=>Za (run 4 UO a)
theorem wO:xa ["hand", "every", "pots", "made"] ["hand", "every", "pots"] (vc yY):=Le rfl rfl rfl (by decide +kernel)
theorem L8(a:Txt K mg ca):Rc ⟨K,ca,tx K⟩ P w mg base 3 "check_span" ["hand", "every", "pots"] jf:=
 Rc.hide (Rc.Za (Ki a.jf wO λ_ _ _ _ _ _ _ b=>
  (ec (lh (Dm (Qk (Qe (Js a) rfl (b.mono (by decide)) rfl (Ca (ka 1) (Ca xb (Ca (Dt (u:=.int 50 (a.Ak).choose) rfl (a.Ak).choose_spec ⟨_,rfl⟩) qb)))))) jo uh)
  (ic (Bt Dn rfl (ar rfl (ka 2)) (mi (i:=3) wO.nd rfl (Or.inl rfl)) (ic (lh (L2.PW.pt (wG (si hQ (uP rfl false) (ka 0) (PQ rfl (ka 3) HM (oR xb)) rfl) (UF (si mB GB (me pe (ke rfl) (ka 3) xb (λ_ _=>rfl)) (ef (Ik rfl) jg (ka 1) xb) (Yg _))))) jo uh)))))))
theorem zz6(a:Txt K mg ca):Lj ⟨K,ca,tx K⟩ [15] "hand":=(Hg (T:=⟨K,ca,tx K⟩) (c:=15) a.Lc a.ln El)
theorem mK(a:Txt K mg ca):Lj ⟨K,ca,tx K⟩ [14,15] "last_look":=(Hg (T:=⟨K,ca,tx K⟩) (c:=14) a.Em a.Fk (Hg (T:=⟨K,ca,tx K⟩) (c:=15) a.Lc a.Bj El))
theorem sY(a:Txt K mg ca):Lj ⟨K,ca,tx K⟩ [15] "gave":=(Hg (T:=⟨K,ca,tx K⟩) (c:=15) a.Lc a.Pn El)
theorem dM(a:Txt K mg ca):Lj ⟨K,ca,tx K⟩ [14,15] "known":=(Hg (T:=⟨K,ca,tx K⟩) (c:=14) a.Em a.Eo (Hg (T:=⟨K,ca,tx K⟩) (c:=15) a.Lc a.gm El))
theorem vB(a:Txt K mg ca):Lj ⟨K,ca,tx K⟩ [15] "accounts":=(Hg (T:=⟨K,ca,tx K⟩) (c:=15) a.Lc a.Vj El)
theorem GJ(a:Txt K mg ca):Lj ⟨K,ca,tx K⟩ [15] "seen":=(Hg (T:=⟨K,ca,tx K⟩) (c:=15) a.Lc a.An El)
theorem VY(a:Txt K mg ca):Lj ⟨K,ca,tx K⟩ [15] "asked":=(Hg (T:=⟨K,ca,tx K⟩) (c:=15) a.Lc a.Pl El)
theorem TR(a:Txt K mg ca):Lj ⟨K,ca,tx K⟩ [15] "finishing":=(Hg (T:=⟨K,ca,tx K⟩) (c:=15) a.Lc a.Dj El)
noncomputable abbrev zd4:Stmt:=ze (top 96) 2
noncomputable abbrev xF:Ev->M Fl:=(Ov (eC (.bl true)) (Vc (gc [14,15] "known") (ga 0)) (ga 2))
noncomputable def EL:Ev->M Fl:=
 (Mr (Dk (ga 1)) (Zd 2) xF)
noncomputable def Ub:List D->M D:=hide (run 3 EL)
theorem XQ:xa ["self", "words", "word"] ["self", "words"] (vc zd4):=Le rfl rfl rfl (by decide +kernel)
theorem OU(a:Txt K mg ca):Pc ⟨K,ca,tx K⟩ P w mg base 1 (ca 57) ["self", "words"] Ub:=
 Pc.hide (ji a.Ub XQ λ_ _ _ _ _ _ b=>
  (ic (Bt Dn rfl (ar rfl (ka 1)) (mi (i:=2) XQ.nd rfl (Or.inl rfl)) (ic (lx (Vg b) Pt (Ze rfl (dM a) (ka 0)) (ka 2))))))
theorem PM(a:Txt K mg ca):bj ⟨K,ca,tx K⟩ P w mg base 1 "learn" ["self", "words"] [(15,Ub)]:=(Wi (T:=⟨K,ca,tx K⟩) (c:=15) a.Lc a.om (OU a) (by decide) vj)
theorem rF(a:Txt K mg ca):Lj ⟨K,ca,tx K⟩ [10,11,12,13] "pot":=(Hg (T:=⟨K,ca,tx K⟩) (c:=10) a.Pg a.xn (Hg (T:=⟨K,ca,tx K⟩) (c:=11) a.pj a.lr (Hg (T:=⟨K,ca,tx K⟩) (c:=12) a.Ug a.zn (Hg (T:=⟨K,ca,tx K⟩) (c:=13) a.Rg a.Rn El))))
noncomputable abbrev U5:Stmt:=ze (top 96) 1
noncomputable def bN:Ev->M Fl:=
 (Kb (Ov (ga 1) (Vc (gc [15] "accounts") (ga 0)) (Vc (gc [10,11,12,13] "pot") (ga 1))) (Kb (Ov (ga 2) (Vc (gc [9,15] "claims") (ga 0)) (Vc (gc [10,11,12,13] "pot") (ga 1))) (Ov (ga 3) (Vc (gc [15] "seen") (ga 0)) (Vc (gc [10,11,12,13] "pot") (ga 1)))))
noncomputable def Yd:List D->M D:=hide (run 4 bN)
theorem W5:xa ["self", "account", "claim", "seen"] ["self", "account", "claim", "seen"] (vc U5):=Le rfl rfl rfl (by decide +kernel)
theorem Z3(a:Txt K mg ca):Pc ⟨K,ca,tx K⟩ P w mg base 1 (ca 56) ["self", "account", "claim", "seen"] Yd:=
 Pc.hide (ji a.Yd W5 λ_ _ _ _ _ _ b=>
  (ec (lx (Vg b) (ka 1) (Ze rfl (vB a) (ka 0)) (Ze rfl (rF a) (ka 1)))
  (ec (lx (Vg b) (ka 2) (Ze rfl (Ru a) (ka 0)) (Ze rfl (rF a) (ka 1)))
  (ic (lx (Vg b) (ka 3) (Ze rfl (GJ a) (ka 0)) (Ze rfl (rF a) (ka 1)))))))
theorem fZ(a:Txt K mg ca):bj ⟨K,ca,tx K⟩ P w mg base 1 "hold" ["self", "account", "claim", "seen"] [(15,Yd)]:=(Wi (T:=⟨K,ca,tx K⟩) (c:=15) a.Lc a.jn (Z3 a) (by decide) vj)
noncomputable abbrev zwg:Stmt:=top 13
noncomputable def GM:Ev->M Fl:=
 (Ke (ae 3 kb [] (za (ga 0) (za (eC (.int 0)) (za (eC (.int 1000000)) Na)))))
noncomputable def oi:List D->M D:=hide λa=>Za (run 1 GM a)
theorem pX:xa ["thing"] ["thing"] (vc zwg):=Le rfl rfl rfl (by decide +kernel)
theorem D9(a:Txt K mg ca):Rc ⟨K,ca,tx K⟩ P w mg base 3 "is_day" ["thing"] oi:=
 Rc.hide (Rc.Za (Ki a.oi pX λ_ _ _ _ _ _ _ b=>
  (ic (Ve (Qe (Js a) rfl (b.mono (by decide)) rfl (Ca (ka 0) (Ca xb (Ca (Dt (u:=.int 1000000 (a.Jn).choose) rfl (a.Jn).choose_spec ⟨_,rfl⟩) qb))))))))
noncomputable abbrev KW:Stmt:=top 12
noncomputable def uS:Ev->M Fl:=
 (Ke (ae 3 kb [] (za (ga 0) (za (eC (.int 0)) (za (eC (.int 59)) Na)))))
noncomputable def Sg:List D->M D:=hide λa=>Za (run 1 uS a)
theorem aW:xa ["thing"] ["thing"] (vc KW):=Le rfl rfl rfl (by decide +kernel)
theorem cO(a:Txt K mg ca):Rc ⟨K,ca,tx K⟩ P w mg base 3 "is_word" ["thing"] Sg:=
 Rc.hide (Rc.Za (Ki a.Sg aW λ_ _ _ _ _ _ _ b=>
  (ic (Ve (Qe (Js a) rfl (b.mono (by decide)) rfl (Ca (ka 0) (Ca xb (Ca (Dt (u:=.int 59 (a.Al).choose) rfl (a.Al).choose_spec ⟨_,rfl⟩) qb))))))))
noncomputable abbrev zi9:Stmt:=top 15
noncomputable def hP:Ev->M Fl:=
 (Ke (ae 3 kb [] (za (ga 0) (za (eC (.int 1)) (za (eC (.int 1000000000000)) Na)))))
noncomputable def rg:List D->M D:=hide λa=>Za (run 1 hP a)
theorem JW:xa ["thing"] ["thing"] (vc zi9):=Le rfl rfl rfl (by decide +kernel)
theorem Q0(a:Txt K mg ca):Rc ⟨K,ca,tx K⟩ P w mg base 3 "is_amount" ["thing"] rg:=
 Rc.hide (Rc.Za (Ki a.rg JW λ_ _ _ _ _ _ _ b=>
  (ic (Ve (Qe (Js a) rfl (b.mono (by decide)) rfl (Ca (ka 0) (Ca xb (Ca (Dt (u:=.int 1000000000000 (a.Mj).choose) rfl (a.Mj).choose_spec ⟨_,rfl⟩) qb))))))))
noncomputable abbrev ZW:Stmt:=top 10
noncomputable def TN:Ev->M Fl:=
 (Ke (ae 3 kb [] (za (ga 0) (za (eC (.int 0)) (za (eC (.int 1)) Na)))))
noncomputable def Pf:List D->M D:=hide λa=>Za (run 1 TN a)
theorem Z0:xa ["thing"] ["thing"] (vc ZW):=Le rfl rfl rfl (by decide +kernel)
theorem jF(a:Txt K mg ca):Rc ⟨K,ca,tx K⟩ P w mg base 3 "is_side" ["thing"] Pf:=
 Rc.hide (Rc.Za (Ki a.Pf Z0 λ_ _ _ _ _ _ _ b=>
  (ic (Ve (Qe (Js a) rfl (b.mono (by decide)) rfl (Ca (ka 0) (Ca xb (Ca xb qb))))))))
noncomputable abbrev k6:Stmt:=top 27
noncomputable def rP:Ev->M Fl:=
 (Ke (Mi (Vc (vr .tuple) (ga 0)) (Mi (Qa oEq (rl cq (za (ga 0) Na)) (eC (.int 4))) (Mi (ae 1 Pf [] (za (Qa Qb (ga 0) (eC (.int 0))) Na)) (Mi (ae 1 rg [] (za (Qa Qb (ga 0) (eC (.int 1))) Na)) (Mi (ae 1 Sg [] (za (Qa Qb (ga 0) (eC (.int 2))) Na)) (ae 1 oi [] (za (Qa Qb (ga 0) (eC (.int 3))) Na))))))))
noncomputable def Fh:List D->M D:=hide λa=>Za (run 1 rP a)
theorem zpx:xa ["thing"] ["thing"] (vc k6):=Le rfl rfl rfl (by decide +kernel)
theorem AZ(a:Txt K mg ca):Rc ⟨K,ca,tx K⟩ P w mg base 4 "is_tie" ["thing"] Fh:=
 Rc.hide (Rc.Za (Ki a.Fh zpx λ_ _ _ _ _ _ _ b=>
  (ic (Ve (fj (Mw .tuple (ka 0) rfl a.Dd rfl a.Ei Ji) (fj (mo (Vk (Vg b)) jg (xr jv (Zv rfl) rfl a.Ni Dc (Ca (ka 0) qb)) xb (Yg _)) (fj (Qe (jF a) rfl (b.mono (by decide)) rfl (Ca (me pe (ke rfl) (ka 0) xb (λ_ _=>rfl)) qb)) (fj (Qe (Q0 a) rfl (b.mono (by decide)) rfl (Ca (me pe (ke rfl) (ka 0) xb (λ_ _=>rfl)) qb)) (fj (Qe (cO a) rfl (b.mono (by decide)) rfl (Ca (me pe (ke rfl) (ka 0) xb (λ_ _=>rfl)) qb)) (dq (Qe (D9 a) rfl (b.mono (by decide)) rfl (Ca (me pe (ke rfl) (ka 0) xb (λ_ _=>rfl)) qb))))))))))))
noncomputable abbrev sW:Stmt:=top 29
noncomputable def EO:Ev->M Fl:=
 (Kb (Jg (Fv (Il (eT (Vc (vr .tuple) (ga 0)))) (eT (Qa vG (rl cq (za (ga 0) Na)) (eC (.int 6))))) Zl gh) (Kb (Jg (Il (eT (rl fD (za (cm (yr (toN (Dk (ga 0))) [] (Zd 0) Vq (ae 1 Fh [] (za (ga 0) Na)))) Na)))) Zl gh) (Ke (Qa oEq (Vc xD (cm (yr (toN (Dk (ga 0))) [] (Zd 0) Vq (Qa Qb (ga 0) (eC (.int 2)))))) (rl cq (za (ga 0) Na))))))
noncomputable def Tg:List D->M D:=hide λa=>Za (run 1 EO a)
theorem aX:xa ["thing"] ["thing"] (vc sW):=Le rfl rfl rfl (by decide +kernel)
theorem J7(a:Txt K mg ca):Rc ⟨K,ca,tx K⟩ P w mg base 5 "are_ties" ["thing"] Tg:=
 Rc.hide (Rc.Za (Ki a.Tg aX λ_ _ _ _ _ _ _ b=>
  (ec (lh (L2.PW.pt (vx (Dm (Qk (Mw .tuple (ka 0) rfl a.Dd rfl a.Ei Ji))) (Fy (si bI PK (xr jv (Zv rfl) rfl a.Ni Dc (Ca (ka 0) qb)) (Dt (u:=.int 6 (a.Ll).choose) rfl (a.Ll).choose_spec ⟨_,rfl⟩) (Yg _))))) jo uh)
  (ec (lh (Dm (Qk (xr (HU rfl) (g5 rfl) rfl a.AD boot_all (Ca (Bs (Cz (x:="tie") (z0:="0") (M':=[]) (ix:=[]) rfl ⟨rfl,rfl,rfl,rfl,rfl,rfl⟩ (Pz (ar rfl (ka 0))) (λ_ _ _ _ _=>mi (i:=0) (by show List.Nodup (("tie"::"0"::[]):List qa);decide +kernel) rfl (Or.inl rfl)) (λ_ _ _ _ _=>eB) (λ_ _ _ _ _=>(Qe (AZ a) rfl (b.mono (by decide)) rfl (Ca (ka 0) qb))))) qb)))) jo uh)
  (ic (Ve (mo (Vk (Vg b)) jg (WY rfl rfl rfl a.Ni rfl a.jy (Bs (Cz (x:="tie") (z0:="0") (M':=[]) (ix:=[]) rfl ⟨rfl,rfl,rfl,rfl,rfl,rfl⟩ (Pz (ar rfl (ka 0))) (λ_ _ _ _ _=>mi (i:=0) (by show List.Nodup (("tie"::"0"::[]):List qa);decide +kernel) rfl (Or.inl rfl)) (λ_ _ _ _ _=>eB) (λ_ _ _ _ _=>(me pe (ke rfl) (ka 0) xb (λ_ _=>rfl)))))) (xr jv (Zv rfl) rfl a.Ni Dc (Ca (ka 0) qb)) (Yg _))))))))
noncomputable abbrev u0:Stmt:=top 28
noncomputable def QP:Ev->M Fl:=
 (Ke (Mi (Vc (vr .tuple) (ga 0)) (Mi (Qa oEq (rl cq (za (ga 0) Na)) (eC (.int 2))) (Mi (ae 3 kb [] (za (Qa Qb (ga 0) (eC (.int 0))) (za (eC (.int 0)) (za (eC (.int 2000000000000)) Na)))) (ae 3 kb [] (za (Qa Qb (ga 0) (eC (.int 1))) (za (eC (.int 0)) (za (eC (.int 2000000000000)) Na))))))))
noncomputable def Rf:List D->M D:=hide λa=>Za (run 1 QP a)
theorem zfs:xa ["thing"] ["thing"] (vc u0):=Le rfl rfl rfl (by decide +kernel)
theorem YV(a:Txt K mg ca):Rc ⟨K,ca,tx K⟩ P w mg base 3 "are_shares" ["thing"] Rf:=
 Rc.hide (Rc.Za (Ki a.Rf zfs λ_ _ _ _ _ _ _ b=>
  (ic (Ve (fj (Mw .tuple (ka 0) rfl a.Dd rfl a.Ei Ji) (fj (mo (Vk (Vg b)) jg (xr jv (Zv rfl) rfl a.Ni Dc (Ca (ka 0) qb)) xb (Yg _)) (fj (Qe (Js a) rfl (b.mono (by decide)) rfl (Ca (me pe (ke rfl) (ka 0) xb (λ_ _=>rfl)) (Ca xb (Ca (Dt (u:=.int 2000000000000 (a.zh).choose) rfl (a.zh).choose_spec ⟨_,rfl⟩) qb)))) (dq (Qe (Js a) rfl (b.mono (by decide)) rfl (Ca (me pe (ke rfl) (ka 0) xb (λ_ _=>rfl)) (Ca xb (Ca (Dt (u:=.int 2000000000000 (a.zh).choose) rfl (a.zh).choose_spec ⟨_,rfl⟩) qb))))))))))))
noncomputable abbrev zja:Stmt:=top 14
noncomputable def AR:Ev->M Fl:=
 (Ke (ae 3 kb [] (za (ga 0) (za (eC (.int 0)) (za (eC (.int 1000000)) Na)))))
noncomputable def Gf:List D->M D:=hide λa=>Za (run 1 AR a)
theorem w8:xa ["thing"] ["thing"] (vc zja):=Le rfl rfl rfl (by decide +kernel)
theorem dP(a:Txt K mg ca):Rc ⟨K,ca,tx K⟩ P w mg base 3 "is_number" ["thing"] Gf:=
 Rc.hide (Rc.Za (Ki a.Gf w8 λ_ _ _ _ _ _ _ b=>
  (ic (Ve (Qe (Js a) rfl (b.mono (by decide)) rfl (Ca (ka 0) (Ca xb (Ca (Dt (u:=.int 1000000 (a.Nj).choose) rfl (a.Nj).choose_spec ⟨_,rfl⟩) qb))))))))
noncomputable abbrev zll:Stmt:=top 30
noncomputable def eP:Ev->M Fl:=
 (Ke (Mi (Vc (vr .tuple) (ga 0)) (Mi (Qa oEq (rl cq (za (ga 0) Na)) (eC (.int 3))) (Mi (ae 1 Gf [] (za (Qa Qb (ga 0) (eC (.int 0))) Na)) (Mi (ae 1 Rf [] (za (Qa Qb (ga 0) (eC (.int 1))) Na)) (ae 1 Tg [] (za (Qa Qb (ga 0) (eC (.int 2))) Na)))))))
noncomputable def df:List D->M D:=hide λa=>Za (run 1 eP a)
theorem T0:xa ["thing"] ["thing"] (vc zll):=Le rfl rfl rfl (by decide +kernel)
theorem vE(a:Txt K mg ca):Rc ⟨K,ca,tx K⟩ P w mg base 6 "is_stand" ["thing"] df:=
 Rc.hide (Rc.Za (Ki a.df T0 λ_ _ _ _ _ _ _ b=>
  (ic (Ve (fj (Mw .tuple (ka 0) rfl a.Dd rfl a.Ei Ji) (fj (mo (Vk (Vg b)) jg (xr jv (Zv rfl) rfl a.Ni Dc (Ca (ka 0) qb)) xb (Yg _)) (fj (Qe (dP a) rfl (b.mono (by decide)) rfl (Ca (me pe (ke rfl) (ka 0) xb (λ_ _=>rfl)) qb)) (fj (Qe (YV a) rfl (b.mono (by decide)) rfl (Ca (me pe (ke rfl) (ka 0) xb (λ_ _=>rfl)) qb)) (dq (Qe (J7 a) rfl (b.mono (by decide)) rfl (Ca (me pe (ke rfl) (ka 0) xb (λ_ _=>rfl)) qb)))))))))))
noncomputable abbrev BD(x q:qa)(s:Stmt)(ps:List qa):Prop:=∀ (kV b c:Value) (an:Option Addr) (a ct:Value) (us:List Value),us.length=ps.length->bindArgs (W.fnOf x q (km s) (oj s) (vc s) .none kV b c an a ct) ⟨us,[]⟩=pure (ps.zip us)
noncomputable abbrev Oz:Stmt:=top 31
noncomputable def bS:Ev->M Fl:=
 (Kb (jh 3 (Li (za (ga 0) (za (ga 1) (za (iA (eT (Qa Ny (ga 2) (eC .Jb))) (Li Na) (ga 2)) Na))))) (Kb (Jg (Il (eT (ae 1 df [] (za (ga 3) Na)))) Zl gh) (Ke (ga 3))))
noncomputable def sj:List D->M D:=hide λa=>Za (run 4 bS a)
theorem JS:xa ["number", "shares", "ties", "made"] ["number", "shares", "ties"] (vc Oz):=Le rfl rfl rfl (by decide +kernel)
theorem f9(t:Addr)(kV b g:Value)(d:Option Addr)(a ct:Value)(s:Shared)(o:Obj)(n:Nat)(us:List Value)(e:s.heap.get? t=some o)(f:o.data=.seq ([La]:List Value).toArray n) :
  ((us++[]).length=(["number", "shares", "ties"]:List qa).length->uf s (W.fnOf "stand" "stand" (km Oz) (oj Oz) (vc Oz) (.ref t) kV b g d a ct) ⟨us,[]⟩ ((["number", "shares", "ties"]:List qa).zip (us++[])))/\
  ((us++[La]).length=(["number", "shares", "ties"]:List qa).length->uf s (W.fnOf "stand" "stand" (km Oz) (oj Oz) (vc Oz) (.ref t) kV b g d a ct) ⟨us,[]⟩ ((["number", "shares", "ties"]:List qa).zip (us++[La]))):=
 ⟨λc=>match us,(show us.length=3 by simpa using c)with|[_,_,_],_=>Yc rfl e f rfl rfl,λc=>match us,(show us.length=2 by simpa using c)with|[_,_],_=>Yc rfl e f rfl rfl⟩
theorem k8(a:Txt K mg ca):sv ⟨K,ca,tx K⟩ P w mg base 7 "stand" ["number", "shares", "ties"] [La] sj:=
 sv.hide (sv.Za (ZY a.sj JS λ_ _ _ _ _ _ _ b=>
  (ec (Kh (i:=3) JS.nd rfl (Or.inl rfl) (tj (Ca (ka 0) (Ca (ka 1) (Ca (RF (si rL zL (ka 2) nw (Yg _)) (tj qb) (ka 2)) qb)))))
  (ec (lh (Dm (Qk (Qe (vE a) rfl (b.mono (by decide)) rfl (Ca (ka 3) qb)))) jo uh)
  (ic (Ve (ka 3)))))))
noncomputable abbrev ye7:Stmt:=top 32
noncomputable def YM:Ev->M Fl:=
 (Ke (ae 3 sj [.Jb] (za (eC (.int 0)) (za (Li (za (ga 0) (za (ga 1) Na))) Na))))
noncomputable def Xh:List D->M D:=hide λa=>Za (run 2 YM a)
theorem B7:xa ["left", "right"] ["left", "right"] (vc ye7):=Le rfl rfl rfl (by decide +kernel)
theorem bR(a:Txt K mg ca):Rc ⟨K,ca,tx K⟩ P w mg base 8 "first" ["left", "right"] Xh:=
 Rc.hide (Rc.Za (Ki a.Xh B7 λ_ _ _ _ _ _ _ b=>
  (ic (Ve (tU (k8 a) rfl (b.mono (by decide)) rfl zY MY (Ca xb (Ca (tj (Ca (ka 0) (Ca (ka 1) qb))) qb)))))))
theorem Px(a:Txt K mg ca):Lj ⟨K,ca,tx K⟩ [7,8,10,11,12,13] "side":=(Hg (T:=⟨K,ca,tx K⟩) (c:=7) a.xh a.fq (Hg (T:=⟨K,ca,tx K⟩) (c:=8) a.Ek a.Fo (Hg (T:=⟨K,ca,tx K⟩) (c:=10) a.Pg a.am (Hg (T:=⟨K,ca,tx K⟩) (c:=11) a.pj a.Op (Hg (T:=⟨K,ca,tx K⟩) (c:=12) a.Ug a.um (Hg (T:=⟨K,ca,tx K⟩) (c:=13) a.Rg a.Yl El))))))
theorem K1(a:Txt K mg ca):Lj ⟨K,ca,tx K⟩ [10,11,12,13] "mine":=(Hg (T:=⟨K,ca,tx K⟩) (c:=10) a.Pg a.Vl (Hg (T:=⟨K,ca,tx K⟩) (c:=11) a.pj a.aq (Hg (T:=⟨K,ca,tx K⟩) (c:=12) a.Ug a.Tl (Hg (T:=⟨K,ca,tx K⟩) (c:=13) a.Rg a.tm El))))
theorem zsu(a:Txt K mg ca):Lj ⟨K,ca,tx K⟩ [10,11,12,13] "grant":=(Hg (T:=⟨K,ca,tx K⟩) (c:=10) a.Pg a.jl (Hg (T:=⟨K,ca,tx K⟩) (c:=11) a.pj a.Ho (Hg (T:=⟨K,ca,tx K⟩) (c:=12) a.Ug a.nl (Hg (T:=⟨K,ca,tx K⟩) (c:=13) a.Rg a.ul El))))
theorem fQ(a:Txt K mg ca):Lj ⟨K,ca,tx K⟩ [10,11,12,13] "may":=(Hg (T:=⟨K,ca,tx K⟩) (c:=10) a.Pg a.vn (Hg (T:=⟨K,ca,tx K⟩) (c:=11) a.pj a.sr (Hg (T:=⟨K,ca,tx K⟩) (c:=12) a.Ug a.Ln (Hg (T:=⟨K,ca,tx K⟩) (c:=13) a.Rg a.Mn El))))
theorem IW(a:Txt K mg ca):Lj ⟨K,ca,tx K⟩ [10,11,12,13] "strikes":=(Hg (T:=⟨K,ca,tx K⟩) (c:=10) a.Pg a.Rj (Hg (T:=⟨K,ca,tx K⟩) (c:=11) a.pj a.wm (Hg (T:=⟨K,ca,tx K⟩) (c:=12) a.Ug a.Uj (Hg (T:=⟨K,ca,tx K⟩) (c:=13) a.Rg a.Wj El))))
noncomputable abbrev qZ:Stmt:=ze (top 63) 0
noncomputable def xN:Ev->M Fl:=
 (Kb (Ai [10,11,12,13] "pot" (ga 1) (ga 0)) (Kb (Ai [7,8,10,11,12,13] "side" (ga 2) (ga 0)) (Kb (Ai [10,11,12,13] "mine" (ga 3) (ga 0)) (Kb (Ai [10,11,12,13] "grant" (ga 4) (ga 0)) (Kb (Ai [10,11,12,13] "may" (cm (rl Iu (za (ga 5) Na))) (ga 0)) (Ai [10,11,12,13] "strikes" (cm (rl Iu (za (ga 6) Na))) (ga 0)))))))
noncomputable def Ps:List D->M D:=hide (run 7 xN)
theorem K3:xa ["self", "pot", "side", "mine", "grant", "may", "strikes"] ["self", "pot", "side", "mine", "grant", "may", "strikes"] (vc qZ):=Le rfl rfl rfl (by decide +kernel)
theorem JU(a:Txt K mg ca):Pc ⟨K,ca,tx K⟩ P w mg base 1 (ca 45) ["self", "pot", "side", "mine", "grant", "may", "strikes"] Ps:=
 Pc.hide (ji a.Ps K3 λ_ _ _ _ _ _ b=>
  (ec (Aj rfl (rF a) (ka 0) (ka 1))
  (ec (Aj rfl (Px a) (ka 0) (ka 2))
  (ec (Aj rfl (K1 a) (ka 0) (ka 3))
  (ec (Aj rfl (zsu a) (ka 0) (ka 4))
  (ec (Aj rfl (fQ a) (ka 0) (Bs (wB kF (gF rfl) rfl a.Ep Xu (Ca (ka 5) qb))))
  (ic (Aj rfl (IW a) (ka 0) (Bs (wB kF (gF rfl) rfl a.Ep Xu (Ca (ka 6) qb)))))))))))
noncomputable abbrev f0:Stmt:=top 67
noncomputable def pP:Ev->M Fl:=
 (Kb (jh 4 (ae 2 Xh [] (za (ga 2) (za (ga 3) Na)))) (Ke (cm (As 11 7 Ps (za (ga 0) (za (ga 1) (za (ga 4) (za (eC .Jb) (za (sy (za (ga 4) Na)) (za (sy Na) Na))))))))))
noncomputable def ye:List D->M D:=hide λa=>Za (run 5 pP a)
theorem aT:xa ["pot", "side", "left", "right", "mine"] ["pot", "side", "left", "right"] (vc f0):=Le rfl rfl rfl (by decide +kernel)
theorem qX(a:Txt K mg ca):Rc ⟨K,ca,tx K⟩ P w mg base 9 "first_account" ["pot", "side", "left", "right"] ye:=
 Rc.hide (Rc.Za (Ki a.ye aT λ_ _ _ _ _ _ _ b=>
  (ec (Kh (i:=4) aT.nd rfl (Or.inl rfl) (Qe (bR a) rfl (b.mono (by decide)) rfl (Ca (ka 2) (Ca (ka 3) qb))))
  (ic (Ve (Bs (AC (c:=11) (ps:=["self", "pot", "side", "mine", "grant", "may", "strikes"]) ⟨_,a.pz,a.Ow,JU a⟩ rfl (b.mono (by decide)) rfl (Ca (ka 0) (Ca (ka 1) (Ca (ka 4) (Ca nw (Ca (JA (Ca (ka 4) qb)) (Ca (JA qb) qb)))))))))))))
noncomputable abbrev zz:Stmt:=ze (top 96) 0
noncomputable abbrev Qz:Ev->M Fl:=(Jg (eT (Qa oEq (Qa Qb (ga 6) (ga 7)) (ga 1))) (wj (Od [(15,Yd)] 4 "hold" (ga 0) (za (ae 4 ye [] (za (ga 5) (za (ga 7) (za (Qa Qb (ga 6) (eC (.int 2))) (za (Qa Qb (ga 6) (eC (.int 3))) Na))))) (za (eC (.gt ["held"])) (za (eC (.Ya [] [])) Na))))) gh)
noncomputable abbrev tG:Ev->M Fl:=(Mr (Dk (Li (za (eC (.int 0)) (za (eC (.int 1)) Na)))) (Zd 7) Qz)
noncomputable def gM:Ev->M Fl:=
 (Kb (wj (ae 3 jf [] (za (ga 1) (za (ga 2) (za (ga 3) Na))))) (Kb (Ai [15] "hand" (ga 1) (ga 0)) (Kb (Ai [14,15,16] "every" (ga 2) (ga 0)) (Kb (Ai [14,15] "last_look" (eC (.int 0)) (ga 0)) (Kb (Ai [15] "gave" (eC (.int 0)) (ga 0)) (Kb (Ai [14,15] "known" Nr (ga 0)) (Kb (Ai [15] "accounts" Nr (ga 0)) (Kb (Ai [9,15] "claims" Nr (ga 0)) (Kb (Ai [15] "seen" Nr (ga 0)) (Kb (Ai [15] "asked" Nr (ga 0)) (Kb (Ai [15] "finishing" Nr (ga 0)) (Kb (wj (Od [(15,Ub)] 2 "learn" (ga 0) (za (iA (eT (Qa Ny (ga 4) (eC .Jb))) (sy Na) (ga 4)) Na))) (fr (cC (ga 3)) (Bn 2 (Ah (Zd 5) (Ah (Zd 6) io))) tG)))))))))))))
noncomputable def qr:List D->M D:=hide (run 8 gM)
theorem MG:xa ["self", "hand", "every", "pots", "words", "pot", "made", "side"] ["self", "hand", "every", "pots", "words"] (vc zz):=Le rfl rfl rfl (by decide +kernel)
theorem BW(t:Addr)(kV b g:Value)(d:Option Addr)(a ct:Value)(s:Shared)(o:Obj)(n:Nat)(us:List Value)(e:s.heap.get? t=some o)(f:o.data=.seq ([La]:List Value).toArray n) :
  ((us++[]).length=(["self", "hand", "every", "pots", "words"]:List qa).length->uf s (W.fnOf "__init__" "Keeper.__init__" (km zz) (oj zz) (vc zz) (.ref t) kV b g d a ct) ⟨us,[]⟩ ((["self", "hand", "every", "pots", "words"]:List qa).zip (us++[])))/\
  ((us++[La]).length=(["self", "hand", "every", "pots", "words"]:List qa).length->uf s (W.fnOf "__init__" "Keeper.__init__" (km zz) (oj zz) (vc zz) (.ref t) kV b g d a ct) ⟨us,[]⟩ ((["self", "hand", "every", "pots", "words"]:List qa).zip (us++[La]))):=
 ⟨λc=>match us,(show us.length=5 by simpa using c)with|[_,_,_,_,_],_=>Yc rfl e f rfl rfl,λc=>match us,(show us.length=4 by simpa using c)with|[_,_,_,_],_=>Yc rfl e f rfl rfl⟩
theorem zas(a:Txt K mg ca):Fs ⟨K,ca,tx K⟩ P w mg base 10 (ca 55) ["self", "hand", "every", "pots", "words"] [La] qr:=
 Fs.hide (BK a.qr MG λ_ _ _ _ _ _ b=>
  (ec (ql (Qe (L8 a) rfl (b.mono (by decide)) rfl (Ca (ka 1) (Ca (ka 2) (Ca (ka 3) qb)))))
  (ec (Aj rfl (zz6 a) (ka 0) (ka 1))
  (ec (Aj rfl (qK a) (ka 0) (ka 2))
  (ec (Aj rfl (mK a) (ka 0) xb)
  (ec (Aj rfl (sY a) (ka 0) xb)
  (ec (Aj rfl (dM a) (ka 0) fv)
  (ec (Aj rfl (vB a) (ka 0) fv)
  (ec (Aj rfl (Ru a) (ka 0) fv)
  (ec (Aj rfl (GJ a) (ka 0) fv)
  (ec (Aj rfl (VY a) (ka 0) fv)
  (ec (Aj rfl (TR a) (ka 0) fv)
  (ec (ql (Hh (k:=1) (ps:=["self", "words"]) rfl (ka 0) (PM a) (b.mono (by decide)) (Ca (RF (si rL zL (ka 4) nw (Yg _)) (JA qb) (ka 4)) qb)))
  (ic (Xw Dn rfl (ZK rfl a.kj (ka 3)) (Qw rfl (lp (mi (i:=5) MG.nd rfl (Or.inl rfl)) (lp (mi (i:=6) MG.nd rfl (Or.inl rfl)) Ex))) (ic (Bt Dn rfl (ar rfl (tj (Ca xb (Ca xb qb)))) (mi (i:=7) MG.nd rfl (Or.inl rfl)) (ic (lh (si (Vk (Vg b)) jg (me pe (ke rfl) (ka 6) (ka 7) (λ_ _=>rfl)) (ka 1) (Yg _)) (ic (ql (Hh (k:=1) (ps:=["self", "account", "claim", "seen"]) rfl (ka 0) (fZ a) (b.mono (by decide)) (Ca (Qe (qX a) rfl (b.mono (by decide)) rfl (Ca (ka 5) (Ca (ka 7) (Ca (me pe (ke rfl) (ka 6) xb (λ_ _=>rfl)) (Ca (me pe (ke rfl) (ka 6) xb (λ_ _=>rfl)) qb))))) (Ca (O0 (ss:=["held"]) rfl a.eA) (Ca hO qb)))))) uh)))))))))))))))))))
noncomputable abbrev X7:Stmt:=top 98
noncomputable def MM:Ev->M Fl:=
 (Ke (cm (QF (ga 1) (yr (iu (ga 1)) [0] (Bn 2 (Ah (Zd 0) (Ah (Zd 1) io))) (eT (Qa oEq (ga 1) (ga 2))) (ga 0)))))
noncomputable def Ff:List D->M D:=hide λa=>Za (run 2 MM a)
theorem M0:xa ["hand", "words"] ["hand", "words"] (vc X7):=Le rfl rfl rfl (by decide +kernel)
theorem B3(a:Txt K mg ca):Rc ⟨K,ca,tx K⟩ P w mg base 1 "words_of" ["hand", "words"] Ff:=
 Rc.hide (Rc.Za (Ki a.Ff M0 λ_ _ _ _ _ _ _ b=>
  (ic (Ve (Bs (zzw (Cz (x:="word") (z0:="owner") (M':=["hand"]) (ix:=[0]) rfl ⟨rfl,rfl,rfl,rfl,rfl,rfl⟩ (ZC (ka 1)) (λ_ _ _ _ _=>Qw rfl (lp (mi (i:=0) (by show List.Nodup (("word"::"owner"::["hand"]):List qa);decide +kernel) rfl (Or.inl rfl)) (lp (mi (i:=1) (by show List.Nodup (("word"::"owner"::["hand"]):List qa);decide +kernel) rfl (Or.inl rfl)) Ex))) (λ_ _ _ _ _=>aO (si (Vk (Vg b)) jg (ka 1) (ka 2) (Yg _))) (λ_ _ _ _ _=>(ka 0)))))))))
noncomputable abbrev lA:Stmt:=ze (top 99) 0
noncomputable abbrev yK:Ev->M Fl:=(Ov (As 15 5 qr (qz [] (za (ga 6) (za (ga 3) (za (Vc (gc [9,14,16] "pots") (ga 0)) (za (ae 2 Ff [] (za (ga 6) (za (ga 5) Na))) Na)))))) (Vc (gc [16] "keepers") (ga 0)) (ga 6))
noncomputable abbrev lz:Ev->M Fl:=(Jg (eT (Qa mv (ga 8) (Vc (gc [16] "keepers") (ga 0)))) (LH (eC (.bl true)) (Vc (gc [16] "things") (ga 0)) (Li (za (eC (.str "word")) (za (ga 7) Na)))) gh)
noncomputable def GO:Ev->M Fl:=
 (Kb (Ai [16] "public" (As 9 2 ur (za (ga 1) Na)) (ga 0)) (Kb (Ai [9,14,16] "pots" (Od [(9,Bb)] 1 "made_of" (Vc (gc [16] "public") (ga 0)) Na) (ga 0)) (Kb (Ai [14,15,16] "every" (ga 3) (ga 0)) (Kb (Ai [16] "keepers" Nr (ga 0)) (Kb (Ai [16] "under_way" (sy Na) (ga 0)) (Kb (Ai [16] "things" DT (ga 0)) (Kb (jh 5 (iA (eT (Qa Ny (ga 4) (eC .Jb))) (eC (.Ya [] [])) (ga 4))) (Kb (Mr (Dk (cm (Vc KA (ga 2)))) (Zd 6) yK) (qv (ga 5) (fr (iu (ga 5)) (Bn 2 (Ah (Zd 7) (Ah (Zd 8) io))) lz))))))))))
noncomputable def Wq:List D->M D:=hide (run 9 GO)
theorem MD:xa ["self", "pots", "keeps", "every", "words", "owners", "hand", "word", "owner"] ["self", "pots", "keeps", "every", "words"] (vc lA):=Le rfl rfl rfl (by decide +kernel)
theorem zbh(t:Addr)(kV b g:Value)(d:Option Addr)(a ct:Value)(s:Shared)(o:Obj)(n:Nat)(us:List Value)(e:s.heap.get? t=some o)(f:o.data=.seq ([La]:List Value).toArray n) :
  ((us++[]).length=(["self", "pots", "keeps", "every", "words"]:List qa).length->uf s (W.fnOf "__init__" "Hall.__init__" (km lA) (oj lA) (vc lA) (.ref t) kV b g d a ct) ⟨us,[]⟩ ((["self", "pots", "keeps", "every", "words"]:List qa).zip (us++[])))/\
  ((us++[La]).length=(["self", "pots", "keeps", "every", "words"]:List qa).length->uf s (W.fnOf "__init__" "Hall.__init__" (km lA) (oj lA) (vc lA) (.ref t) kV b g d a ct) ⟨us,[]⟩ ((["self", "pots", "keeps", "every", "words"]:List qa).zip (us++[La]))):=
 ⟨λc=>match us,(show us.length=5 by simpa using c)with|[_,_,_,_,_],_=>Yc rfl e f rfl rfl,λc=>match us,(show us.length=4 by simpa using c)with|[_,_,_,_],_=>Yc rfl e f rfl rfl⟩
theorem x8(a:Txt K mg ca):Fs ⟨K,ca,tx K⟩ P w mg base 12 (ca 79) ["self", "pots", "keeps", "every", "words"] [La] Wq:=
 Fs.hide (BK a.Wq MD λ_ _ _ _ _ _ b=>
  (ec (Aj rfl (Ou a) (ka 0) (AC (c:=9) (ps:=["self", "pots"]) ⟨_,a.Sz,a.Lw,Z1 a⟩ rfl (b.mono (by decide)) rfl (Ca (ka 1) qb)))
  (ec (Aj rfl (su a) (ka 0) (kl (k:=1) (ps:=["self"]) rfl (Ze rfl (Ou a) (ka 0)) (xO a) (b.mono (by decide))))
  (ec (Aj rfl (qK a) (ka 0) (ka 3))
  (ec (Aj rfl (zC a) (ka 0) fv)
  (ec (Aj rfl (Z6 a) (ka 0) (JA qb))
  (ec (Aj rfl (vL a) (ka 0) zr9)
  (ec (Kh (i:=5) MD.nd rfl (Or.inl rfl) (RF (si rL zL (ka 4) nw (Yg _)) hO (ka 4)))
  (ec (Bt Dn rfl (ar rfl (Bs (y3 rfl rfl rfl a.Br rfl a.jy (ka 2)))) (mi (i:=6) MD.nd rfl (Or.inl rfl)) (ic (lx (Vg b) (qP (c:=15) (ps:=["self", "hand", "every", "pots", "words"]) a.Pv a.Qt (zas a) (.inl rfl) .nil (λ_ _=>Wa.nil) rfl (b.mono (by decide)) rfl (Ca (ka 6) (Ca (ka 3) (Ca (Ze rfl (su a) (ka 0)) (Ca (Qe (B3 a) rfl (b.mono (by decide)) rfl (Ca (ka 6) (Ca (ka 5) qb))) qb))))) (Ze rfl (zC a) (ka 0)) (ka 6))))
  (ic (uB (Xw Dn rfl (ZC (ka 5)) (Qw rfl (lp (mi (i:=7) MD.nd rfl (Or.inl rfl)) (lp (mi (i:=8) MD.nd rfl (Or.inl rfl)) Ex))) (ic (lh (si (iL (Vg b)) cJ (ka 8) (Ze rfl (zC a) (ka 0)) rfl) (ic (yao (Vg b) Pt (Ze rfl (vL a) (ka 0)) (tj (Ca ap (Ca (ka 7) qb))))) uh))))))))))))))
noncomputable abbrev j6:Stmt:=ze (top 54) 2
noncomputable def SQ:Ev->M Fl:=
 (Ke (Vc (gc [7,9] "day") (ga 0)))
noncomputable def Ab:List D->M D:=hide λa=>Za (run 1 SQ a)
theorem D3:xa ["self"] ["self"] (vc j6):=Le rfl rfl rfl (by decide +kernel)
theorem ze1(a:Txt K mg ca):Pc ⟨K,ca,tx K⟩ P w mg base 1 (ca 32) ["self"] Ab:=
 Pc.hide (Pc.Za (ji a.Ab D3 λ_ _ _ _ _ _ b=>
  (ic (Ve (Ze rfl (qw a) (ka 0))))))
theorem Lz(a:Txt K mg ca):bj ⟨K,ca,tx K⟩ P w mg base 1 "today" ["self"] [(9,Ab)]:=(Wi (T:=⟨K,ca,tx K⟩) (c:=9) a.Ce a.Bo (ze1 a) (by decide) vj)
noncomputable abbrev U7:Stmt:=ze (top 96) 4
noncomputable def FR:Ev->M Fl:=
 (Ke (Vc (gc [14,15] "last_look") (ga 0)))
noncomputable def gd:List D->M D:=hide λa=>Za (run 1 FR a)
theorem WV:xa ["self"] ["self"] (vc U7):=Le rfl rfl rfl (by decide +kernel)
theorem zbt(a:Txt K mg ca):Pc ⟨K,ca,tx K⟩ P w mg base 1 (ca 59) ["self"] gd:=
 Pc.hide (Pc.Za (ji a.gd WV λ_ _ _ _ _ _ b=>
  (ic (Ve (Ze rfl (mK a) (ka 0))))))
theorem E8(a:Txt K mg ca):bj ⟨K,ca,tx K⟩ P w mg base 1 "looked" ["self"] [(15,gd)]:=(Wi (T:=⟨K,ca,tx K⟩) (c:=15) a.Lc a.al (zbt a) (by decide) vj)
noncomputable abbrev nV:Stmt:=ze (top 54) 1
noncomputable def TM:Ev->M Fl:=
 (Jg (Il (eT (ae 3 kb [] (za (ga 1) (za (eC (.int 0)) (za (Qa Bq (rl cq (za (Vc (gc [9,14,16] "pots") (ga 0)) Na)) (eC (.int 1))) Na)))))) Zl gh)
noncomputable def vb:List D->M D:=hide λa=>Za (run 2 TM a)
theorem UZ:xa ["self", "pot"] ["self", "pot"] (vc nV):=Le rfl rfl rfl (by decide +kernel)
theorem E7(a:Txt K mg ca):Pc ⟨K,ca,tx K⟩ P w mg base 3 (ca 31) ["self", "pot"] vb:=
 Pc.hide (Pc.Za (ji a.vb UZ λ_ _ _ _ _ _ b=>
  (ic (lh (Dm (Qk (Qe (Js a) rfl (b.mono (by decide)) rfl (Ca (ka 1) (Ca xb (Ca (ef vt jt (xr jv (Zv rfl) rfl a.Ni Dc (Ca (Ze rfl (su a) (ka 0)) qb)) xb) qb)))))) jo uh))))
theorem UA(a:Txt K mg ca):bj ⟨K,ca,tx K⟩ P w mg base 3 "check_pot" ["self", "pot"] [(9,vb)]:=(Wi (T:=⟨K,ca,tx K⟩) (c:=9) a.Ce a.sk (E7 a) (by decide) vj)
noncomputable abbrev CU:Stmt:=ze (top 43) 0
noncomputable def mT:Ev->M Fl:=
 (Ke (Li (za (eC (.str "held")) Na)))
noncomputable def Nd:List D->M D:=hide λa=>Za (run 1 mT a)
theorem LW:xa ["self"] ["self"] (vc CU):=Le rfl rfl rfl (by decide +kernel)
theorem uX(a:Txt K mg ca):Pc ⟨K,ca,tx K⟩ P w mg base 1 (ca 18) ["self"] Nd:=
 Pc.hide (Pc.Za (ji a.Nd LW λ_ _ _ _ _ _ b=>
  (ic (Ve (tj (Ca ap qb))))))
theorem hD(a:Txt K mg ca):Lj ⟨K,ca,tx K⟩ [7] "stand":=(Hg (T:=⟨K,ca,tx K⟩) (c:=7) a.xh a.Ko El)
noncomputable abbrev zi6:Stmt:=ze (top 44) 1
noncomputable def BM:Ev->M Fl:=
 (Ke (Li (za (eC (.str "laid")) (za (Vc (gc [7,8,10,11,12,13] "side") (ga 0)) (za (Vc (gc [7] "stand") (ga 0)) (za (Vc (gc [7,9] "day") (ga 0)) Na))))))
noncomputable def Vd:List D->M D:=hide λa=>Za (run 1 BM a)
theorem zhi:xa ["self"] ["self"] (vc zi6):=Le rfl rfl rfl (by decide +kernel)
theorem zgu(a:Txt K mg ca):Pc ⟨K,ca,tx K⟩ P w mg base 1 (ca 22) ["self"] Vd:=
 Pc.hide (Pc.Za (ji a.Vd zhi λ_ _ _ _ _ _ b=>
  (ic (Ve (tj (Ca ap (Ca (Ze rfl (Px a) (ka 0)) (Ca (Ze rfl (hD a) (ka 0)) (Ca (Ze rfl (qw a) (ka 0)) qb)))))))))
noncomputable abbrev U4:Stmt:=ze (top 45) 1
noncomputable def XP:Ev->M Fl:=
 (Ke (Li (za (eC (.str "taken")) (za (Vc (gc [7,8,10,11,12,13] "side") (ga 0)) Na))))
noncomputable def Ed:List D->M D:=hide λa=>Za (run 1 XP a)
theorem W2:xa ["self"] ["self"] (vc U4):=Le rfl rfl rfl (by decide +kernel)
theorem S6(a:Txt K mg ca):Pc ⟨K,ca,tx K⟩ P w mg base 1 (ca 27) ["self"] Ed:=
 Pc.hide (Pc.Za (ji a.Ed W2 λ_ _ _ _ _ _ b=>
  (ic (Ve (tj (Ca ap (Ca (Ze rfl (Px a) (ka 0)) qb)))))))
theorem R9(a:Txt K mg ca):bj ⟨K,ca,tx K⟩ P w mg base 1 "told" ["self"] [(6,Nd),(7,Vd),(8,Ed)]:=(Wi (T:=⟨K,ca,tx K⟩) (c:=6) a.Cp a.gq (uX a) (by decide) (Wi (T:=⟨K,ca,tx K⟩) (c:=7) a.xh a.Vp (zgu a) (by decide) (Wi (T:=⟨K,ca,tx K⟩) (c:=8) a.Ek a.Ao (S6 a) (by decide) vj)))
noncomputable abbrev vZ:Stmt:=ze (top 54) 8
noncomputable def yL:Ev->M Fl:=
 (Kb (wj (Od [(9,vb)] 2 "check_pot" (ga 0) (za (ga 1) Na))) (Ke (Od [(6,Nd),(7,Vd),(8,Ed)] 1 "told" (Qa Qb (Vc (gc [9,15] "claims") (ga 0)) (ga 1)) Na)))
noncomputable def rb:List D->M D:=hide λa=>Za (run 2 yL a)
theorem zhd:xa ["self", "pot"] ["self", "pot"] (vc vZ):=Le rfl rfl rfl (by decide +kernel)
theorem t3(a:Txt K mg ca):Pc ⟨K,ca,tx K⟩ P w mg base 4 (ca 38) ["self", "pot"] rb:=
 Pc.hide (Pc.Za (ji a.rb zhd λ_ _ _ _ _ _ b=>
  (ec (ql (Hh (k:=3) (ps:=["self", "pot"]) rfl (ka 0) (UA a) (b.mono (by decide)) (Ca (ka 1) qb)))
  (ic (Ve (kl (k:=1) (ps:=["self"]) rfl (me pe (ke rfl) (Ze rfl (Ru a) (ka 0)) (ka 1) (λ_ _=>rfl)) (R9 a) (b.mono (by decide))))))))
theorem VF(a:Txt K mg ca):bj ⟨K,ca,tx K⟩ P w mg base 4 "told" ["self", "pot"] [(9,rb)]:=(Wi (T:=⟨K,ca,tx K⟩) (c:=9) a.Ce a.bq (t3 a) (by decide) vj)
noncomputable abbrev mW:Stmt:=ze (top 54) 9
noncomputable def lS:Ev->M Fl:=
 (Kb (wj (Od [(9,vb)] 2 "check_pot" (ga 0) (za (ga 1) Na))) (Ke (rl SG (za (Qa Qb (Vc (gc [9] "shown") (ga 0)) (ga 1)) Na))))
noncomputable def Jc:List D->M D:=hide λa=>Za (run 2 lS a)
theorem m1:xa ["self", "pot"] ["self", "pot"] (vc mW):=Le rfl rfl rfl (by decide +kernel)
theorem IV(a:Txt K mg ca):Pc ⟨K,ca,tx K⟩ P w mg base 4 (ca 39) ["self", "pot"] Jc:=
 Pc.hide (Pc.Za (ji a.Jc m1 λ_ _ _ _ _ _ b=>
  (ec (ql (Hh (k:=3) (ps:=["self", "pot"]) rfl (ka 0) (UA a) (b.mono (by decide)) (Ca (ka 1) qb)))
  (ic (Ve (wB J2 yfy rfl a.gA boot_dict (Ca (me pe (ke rfl) (Ze rfl (AB a) (ka 0)) (ka 1) (λ_ _=>rfl)) qb)))))))
theorem PU(a:Txt K mg ca):bj ⟨K,ca,tx K⟩ P w mg base 4 "shown_for" ["self", "pot"] [(9,Jc)]:=(Wi (T:=⟨K,ca,tx K⟩) (c:=9) a.Ce a.vk (IV a) (by decide) vj)
noncomputable abbrev t9:Stmt:=ze (top 54) 13
noncomputable def gN:Ev->M Fl:=
 (Kb (jh 1 Nr) (Kb (Mr (Dk (Vc (gc [9] "shown") (ga 0))) (Zd 2) (wj (kA Hv (ga 1) (za (ga 2) Na)))) (Ke (cm (rl qB (za (ga 1) Na))))))
noncomputable def kc:List D->M D:=hide λa=>Za (run 3 gN a)
theorem fI:xa ["self", "words", "shown"] ["self"] (vc t9):=Le rfl rfl rfl (by decide +kernel)
theorem Q5(a:Txt K mg ca):Pc ⟨K,ca,tx K⟩ P w mg base 1 (ca 43) ["self"] kc:=
 Pc.hide (Pc.Za (ji a.kc fI λ_ _ _ _ _ _ b=>
  (ec (Kh (i:=1) fI.nd rfl (Or.inl rfl) fv)
  (ec (Bt Dn rfl (ar rfl (Ze rfl (AB a) (ka 0))) (mi (i:=2) fI.nd rfl (Or.inl rfl)) (ic (ql (DM wg Po PySem.F.type_dict_update W9 zU (ka 1) (Ca (ka 2) qb)))))
  (ic (Ve (Bs (xr (RX rfl) (J4 rfl) rfl a.Br L4.RS (Ca (ka 1) qb)))))))))
theorem uT(a:Txt K mg ca):bj ⟨K,ca,tx K⟩ P w mg base 1 "all_shown" ["self"] [(9,kc)]:=(Wi (T:=⟨K,ca,tx K⟩) (c:=9) a.Ce a.qk (Q5 a) (by decide) vj)
noncomputable abbrev m8:Stmt:=top 95
noncomputable def zO:Ev->M Fl:=
 (Ke (Mi (Qa oEq (Qa Qb (ga 1) (eC (.int 0))) (eC (.str "laid"))) (Mi HH HH)))
noncomputable def pf:List D->M D:=hide λa=>Za (run 2 zO a)
theorem zef:xa ["account", "claim"] ["account", "claim"] (vc m8):=Le rfl rfl rfl (by decide +kernel)
theorem sV(a:Txt K mg ca):Rc ⟨K,ca,tx K⟩ P w mg base 1 "is_given_up" ["account", "claim"] pf:=
 Rc.hide (Rc.Za (Ki a.pf zef λ_ _ _ _ _ _ _ b=>
  (ic (Ve (fj (mo (Vk (Vg b)) jg (me pe (ke rfl) (ka 1) xb (λ_ _=>rfl)) ap (Yg _)) (fj GP (dq GP)))))))
noncomputable abbrev Z7:Stmt:=ze (top 96) 20
noncomputable abbrev SE:Ev->M Fl:=(Kb (jh 6 (Qa Wv (Vc (gc [9,15] "claims") (ga 0)) (ga 4))) (Jg (rB (eT (ae 2 pf [] (za (ga 5) (za (ga 6) Na)))) OI) Zl gh))
noncomputable def xR:Ev->M Fl:=
 (Kb (jh 2 (Tz Na)) (Kb (jh 3 (cm (yr (toN (Dk (Od [(9,Bb)] 1 "made_of" (ga 1) Na))) [] (Zd 0) Vq (Qa Qb (ga 0) (eC (.int 4)))))) (Kb (qv (Vc (gc [15] "accounts") (ga 0)) (fr (iu (Vc (gc [15] "accounts") (ga 0))) (Bn 2 (Ah (Zd 4) (Ah (Zd 5) io))) SE)) (Ke (ga 2)))))
noncomputable def Yb:List D->M D:=hide λa=>Za (run 7 xR a)
theorem pB:xa ["self", "book", "deeds", "waits", "pot", "account", "claim"] ["self", "book"] (vc Z7):=Le rfl rfl rfl (by decide +kernel)
theorem lV(a:Txt K mg ca):Pc ⟨K,ca,tx K⟩ P w mg base 2 (ca 75) ["self", "book"] Yb:=
 Pc.hide (Pc.Za (ji a.Yb pB λ_ _ _ _ _ _ b=>
  (ec (Kh (i:=2) pB.nd rfl (Or.inl rfl) (wD qb))
  (ec (yam (x6 (i:=3) pB.nd rfl (Or.inl rfl) (x:="made") (z0:="0") (M':=[]) (ix:=[]) rfl ⟨rfl,rfl,rfl,rfl,rfl,rfl⟩ (Pz (ar rfl (kl (k:=1) (ps:=["self"]) rfl (ka 1) (xO a) (b.mono (by decide))))) (λ_ _ _ _ _=>mi (i:=0) (by show List.Nodup (("made"::"0"::[]):List qa);decide +kernel) rfl (Or.inl rfl)) (λ_ _ _ _ _=>eB) (λ_ _ _ _ _=>(me pe (ke rfl) (ka 0) xb (λ_ _=>rfl)))))
  (ec (uB (Xw Dn rfl (ZC (Ze rfl (vB a) (ka 0))) (Qw rfl (lp (mi (i:=4) pB.nd rfl (Or.inl rfl)) (lp (mi (i:=5) pB.nd rfl (Or.inl rfl)) Ex))) (ec (Kh (i:=6) pB.nd rfl (Or.inl rfl) (mG (Vg b) (Ze rfl (Ru a) (ka 0)) (ka 4) (λ_ _=>rfl)))
  (ic (lh (L2.PW.pt (wG (Qk (Qe (sV a) rfl (b.mono (by decide)) rfl (Ca (ka 5) (Ca (ka 6) qb)))) (UF fT))) jo uh)))))
  (ic (Ve (ka 2))))))))
theorem j4(a:Txt K mg ca):bj ⟨K,ca,tx K⟩ P w mg base 2 "strike_all" ["self", "book"] [(15,Yb)]:=(Wi (T:=⟨K,ca,tx K⟩) (c:=15) a.Lc a.jj (lV a) (by decide) vj)
noncomputable abbrev w9:Stmt:=top 93
noncomputable def zP:Ev->M Fl:=
 (Kb (Jg (eT (Qa oEq (Qa Qb (ga 1) (eC (.int 0))) (eC (.str "held")))) (Ke (Vc (gc [10,11,12,13] "may") (ga 0))) gh) Zl)
noncomputable def sf:List D->M D:=hide λa=>Za (run 2 zP a)
theorem ZZ:xa ["account", "claim"] ["account", "claim"] (vc w9):=Le rfl rfl rfl (by decide +kernel)
theorem kY(a:Txt K mg ca):Rc ⟨K,ca,tx K⟩ P w mg base 1 "stands_told" ["account", "claim"] sf:=
 Rc.hide (Rc.Za (Ki a.sf ZZ λ_ _ _ _ _ _ _ b=>
  (ec (lh (si (Vk (Vg b)) jg (me pe (ke rfl) (ka 1) xb (λ_ _=>rfl)) ap (Yg _)) (ic (Ve (Ze rfl (fQ a) (ka 0)))) uh)
  jo)))
noncomputable abbrev LX:Stmt:=top 94
noncomputable def HP:Ev->M Fl:=
 (Kb (jh 2 (Tz Na)) (Kb (Mr (Dk (ae 2 sf [] (za (ga 0) (za (ga 1) Na)))) (Zd 3) (wj (uI iD (ga 2) (za (cm (yr (toN (Dk (Qa Qb (ga 3) (eC (.int 2))))) [0] (Zd 0) (eT (Qa iq (Qa Qb (ga 0) (eC (.int 0))) (Vc (gc [7,8,10,11,12,13] "side") (ga 2)))) (ga 0))) Na)))) (Ke (ga 2))))
noncomputable def Bh:List D->M D:=hide λa=>Za (run 4 HP a)
theorem FK:xa ["account", "claim", "ties", "one"] ["account", "claim"] (vc LX):=Le rfl rfl rfl (by decide +kernel)
theorem cV(a:Txt K mg ca):Rc ⟨K,ca,tx K⟩ P w mg base 2 "ties_to" ["account", "claim"] Bh:=
 Rc.hide (Rc.Za (Ki a.Bh FK λ_ _ _ _ _ _ _ b=>
  (ec (Kh (i:=2) FK.nd rfl (Or.inl rfl) (wD qb))
  (ec (Bt Dn rfl (ar rfl (Qe (kY a) rfl (b.mono (by decide)) rfl (Ca (ka 0) (Ca (ka 1) qb)))) (mi (i:=3) FK.nd rfl (Or.inl rfl)) (ic (ql (A1 PySem.F.plainAttrs_list PySem.F.slot_list_extend PySem.F.type_list_extend J8 JY (ka 2) (Ca (Bs (Cz (x:="tie") (z0:="0") (M':=["account"]) (ix:=[0]) rfl ⟨rfl,rfl,rfl,rfl,rfl,rfl⟩ (Pz (ar rfl (me pe (ke rfl) (ka 3) xb (λ_ _=>rfl)))) (λ_ _ _ _ _=>mi (i:=0) (by show List.Nodup (("tie"::"0"::["account"]):List qa);decide +kernel) rfl (Or.inl rfl)) (λ_ _ _ _ _=>aO (si (Zz (Vg b)) jg (me pe (ke rfl) (ka 0) xb (λ_ _=>rfl)) (Ze rfl (Px a) (ka 2)) (Yg _))) (λ_ _ _ _ _=>(ka 0)))) qb)))))
  (ic (Ve (ka 2)))))))
noncomputable abbrev R4:Stmt:=ze (top 96) 22
noncomputable abbrev aH:Ev->M Fl:=(Mr (Dk (ae 2 Bh [] (za (ga 4) (za (Qa Wv (Vc (gc [9,15] "claims") (ga 0)) (ga 3)) Na)))) (Zd 5) Zl)
noncomputable def WN:Ev->M Fl:=
 (Kb (jh 2 (Tz Na)) (Kb (qv (Vc (gc [15] "accounts") (ga 0)) (fr (iu (Vc (gc [15] "accounts") (ga 0))) (Bn 2 (Ah (Zd 3) (Ah (Zd 4) io))) aH)) (Ke (ga 2))))
noncomputable def uc:List D->M D:=hide λa=>Za (run 6 WN a)
theorem XD:xa ["self", "book", "deeds", "pot", "account", "tie"] ["self", "book"] (vc R4):=Le rfl rfl rfl (by decide +kernel)
theorem V0(a:Txt K mg ca):Pc ⟨K,ca,tx K⟩ P w mg base 3 (ca 77) ["self", "book"] uc:=
 Pc.hide (Pc.Za (ji a.uc XD λ_ _ _ _ _ _ b=>
  (ec (Kh (i:=2) XD.nd rfl (Or.inl rfl) (wD qb))
  (ec (uB (Xw Dn rfl (ZC (Ze rfl (vB a) (ka 0))) (Qw rfl (lp (mi (i:=3) XD.nd rfl (Or.inl rfl)) (lp (mi (i:=4) XD.nd rfl (Or.inl rfl)) Ex))) (ic (Bt Dn rfl (ar rfl (Qe (cV a) rfl (b.mono (by decide)) rfl (Ca (ka 4) (Ca (mG (Vg b) (Ze rfl (Ru a) (ka 0)) (ka 3) (λ_ _=>rfl)) qb)))) (mi (i:=5) XD.nd rfl (Or.inl rfl)) jo))))
  (ic (Ve (ka 2)))))))
theorem R0(a:Txt K mg ca):bj ⟨K,ca,tx K⟩ P w mg base 3 "show_all" ["self", "book"] [(15,uc)]:=(Wi (T:=⟨K,ca,tx K⟩) (c:=15) a.Lc a.Sj (V0 a) (by decide) vj)
noncomputable abbrev XV:Stmt:=ze (top 96) 23
noncomputable abbrev HG:Ev->M Fl:=(Jg (rB (eT (Qa Cy (ga 3) (Vc (gc [15] "finishing") (ga 0)))) OI) Zl gh)
noncomputable def US:Ev->M Fl:=
 (Kb (jh 2 (Tz Na)) (Kb (qv (Vc (gc [15] "accounts") (ga 0)) (fr (iu (Vc (gc [15] "accounts") (ga 0))) (Bn 2 (Ah (Zd 3) (Ah (Zd 4) io))) HG)) (Ke (ga 2))))
noncomputable def Mc:List D->M D:=hide λa=>Za (run 5 US a)
theorem aF:xa ["self", "book", "deeds", "pot", "account"] ["self", "book"] (vc XV):=Le rfl rfl rfl (by decide +kernel)
theorem P5(a:Txt K mg ca):Pc ⟨K,ca,tx K⟩ P w mg base 1 (ca 78) ["self", "book"] Mc:=
 Pc.hide (Pc.Za (ji a.Mc aF λ_ _ _ _ _ _ b=>
  (ec (Kh (i:=2) aF.nd rfl (Or.inl rfl) (wD qb))
  (ec (uB (Xw Dn rfl (ZC (Ze rfl (vB a) (ka 0))) (Qw rfl (lp (mi (i:=3) aF.nd rfl (Or.inl rfl)) (lp (mi (i:=4) aF.nd rfl (Or.inl rfl)) Ex))) (ic (lh (L2.PW.pt (wG (si (BF (Vg b)) gL (ka 3) (Ze rfl (TR a) (ka 0)) rfl) (UF fT))) jo uh))))
  (ic (Ve (ka 2)))))))
theorem sZ(a:Txt K mg ca):bj ⟨K,ca,tx K⟩ P w mg base 1 "lay_all" ["self", "book"] [(15,Mc)]:=(Wi (T:=⟨K,ca,tx K⟩) (c:=15) a.Lc a.Gk (P5 a) (by decide) vj)
noncomputable abbrev K2:Stmt:=ze (top 96) 19
noncomputable abbrev EF:Ev->M Fl:=(Kb (Ov (Od [(9,rb)] 2 "told" (ga 1) (za (ga 2) Na)) (Vc (gc [9,15] "claims") (ga 0)) (ga 2)) (Ov (Od [(9,Jc)] 2 "shown_for" (ga 1) (za (ga 2) Na)) (Vc (gc [15] "seen") (ga 0)) (ga 2)))
noncomputable def iP:Ev->M Fl:=
 (Kb (Ai [14,15] "last_look" (Od [(9,Ab)] 1 "today" (ga 1) Na) (ga 0)) (Kb (qv (Vc (gc [15] "accounts") (ga 0)) (fr (nL (Vc (gc [15] "accounts") (ga 0))) (Zd 2) EF)) (Kb (wj (Od [(15,Ub)] 2 "learn" (ga 0) (za (Od [(9,kc)] 1 "all_shown" (ga 1) Na) Na))) (Ke (Qa ki (Qa ki (Od [(15,Yb)] 2 "strike_all" (ga 0) (za (ga 1) Na)) (Od [(15,uc)] 2 "show_all" (ga 0) (za (ga 1) Na))) (Od [(15,Mc)] 2 "lay_all" (ga 0) (za (ga 1) Na)))))))
noncomputable def vd:List D->M D:=hide (run 3 iP)
theorem HR:xa ["self", "book", "pot"] ["self", "book"] (vc K2):=Le rfl rfl rfl (by decide +kernel)
theorem TV(a:Txt K mg ca):Pc ⟨K,ca,tx K⟩ P w mg base 5 (ca 74) ["self", "book"] vd:=
 Pc.hide (ji a.vd HR λ_ _ _ _ _ _ b=>
  (ec (Aj rfl (mK a) (ka 0) (kl (k:=1) (ps:=["self"]) rfl (ka 1) (Lz a) (b.mono (by decide))))
  (ec (uB (Xw Dn rfl (rW (Ze rfl (vB a) (ka 0))) (mi (i:=2) HR.nd rfl (Or.inl rfl)) (ec (lx (Vg b) (Hh (k:=4) (ps:=["self", "pot"]) rfl (ka 1) (VF a) (b.mono (by decide)) (Ca (ka 2) qb)) (Ze rfl (Ru a) (ka 0)) (ka 2))
  (ic (lx (Vg b) (Hh (k:=4) (ps:=["self", "pot"]) rfl (ka 1) (PU a) (b.mono (by decide)) (Ca (ka 2) qb)) (Ze rfl (GJ a) (ka 0)) (ka 2))))))
  (ec (ql (Hh (k:=1) (ps:=["self", "words"]) rfl (ka 0) (PM a) (b.mono (by decide)) (Ca (kl (k:=1) (ps:=["self"]) rfl (ka 1) (uT a) (b.mono (by decide))) qb)))
  (ic (Ve (ef (Ik rfl) jg (ef (Ik rfl) jg (Hh (k:=2) (ps:=["self", "book"]) rfl (ka 0) (j4 a) (b.mono (by decide)) (Ca (ka 1) qb)) (Hh (k:=3) (ps:=["self", "book"]) rfl (ka 0) (R0 a) (b.mono (by decide)) (Ca (ka 1) qb))) (Hh (k:=1) (ps:=["self", "book"]) rfl (ka 0) (sZ a) (b.mono (by decide)) (Ca (ka 1) qb)))))))))
theorem zoq(a:Txt K mg ca):bj ⟨K,ca,tx K⟩ P w mg base 5 "look" ["self", "book"] [(15,vd)]:=(Wi (T:=⟨K,ca,tx K⟩) (c:=15) a.Lc a.yn (TV a) (by decide) vj)
noncomputable abbrev t6:Stmt:=ze (top 54) 3
noncomputable def UR:Ev->M Fl:=
 (IJ [7,9] "day" (eC (.int 1)) (ga 0))
noncomputable def Bc:List D->M D:=hide (run 1 UR)
theorem pW:xa ["self"] ["self"] (vc t6):=Le rfl rfl rfl (by decide +kernel)
theorem L5(a:Txt K mg ca):Pc ⟨K,ca,tx K⟩ P w mg base 1 (ca 33) ["self"] Bc:=
 Pc.hide (ji a.Bc pW λ_ _ _ _ _ _ b=>
  (ic (o4 rfl (qw a) (ka 0) xb)))
theorem zev(a:Txt K mg ca):bj ⟨K,ca,tx K⟩ P w mg base 1 "next_day" ["self"] [(9,Bc)]:=(Wi (T:=⟨K,ca,tx K⟩) (c:=9) a.Ce a.Zk (L5 a) (by decide) vj)
noncomputable abbrev LV:Stmt:=ze (top 99) 22
noncomputable abbrev iz:Ev->M Fl:=(Jg (eT (Qa Gy (Qa Bq (Od [(9,Ab)] 1 "today" (Vc (gc [16] "public") (ga 0)) Na) (Od [(15,gd)] 1 "looked" (ga 1) Na)) (Vc (gc [14,15,16] "every") (ga 0)))) (wj (Od [(15,vd)] 2 "look" (ga 1) (za (Vc (gc [16] "public") (ga 0)) Na))) gh)
noncomputable def NP:Ev->M Fl:=
 (Kb (qv (Vc (gc [16] "keepers") (ga 0)) (fr (YF (Vc (gc [16] "keepers") (ga 0))) (Zd 1) iz)) (wj (Od [(9,Bc)] 1 "next_day" (Vc (gc [16] "public") (ga 0)) Na)))
noncomputable def Vb:List D->M D:=hide (run 2 NP)
theorem WO:xa ["self", "keeper"] ["self"] (vc LV):=Le rfl rfl rfl (by decide +kernel)
theorem nX(a:Txt K mg ca):Pc ⟨K,ca,tx K⟩ P w mg base 6 (ca 101) ["self"] Vb:=
 Pc.hide (ji a.Vb WO λ_ _ _ _ _ _ b=>
  (ec (uB (Xw Dn rfl (AV (Ze rfl (zC a) (ka 0))) (mi (i:=1) WO.nd rfl (Or.inl rfl)) (ic (lh (si oG nF (ef vt jt (kl (k:=1) (ps:=["self"]) rfl (Ze rfl (Ou a) (ka 0)) (Lz a) (b.mono (by decide))) (kl (k:=1) (ps:=["self"]) rfl (ka 1) (E8 a) (b.mono (by decide)))) (Ze rfl (qK a) (ka 0)) (Yg _)) (ic (ql (Hh (k:=5) (ps:=["self", "book"]) rfl (ka 1) (zoq a) (b.mono (by decide)) (Ca (Ze rfl (Ou a) (ka 0)) qb)))) uh))))
  (ic (ql (kl (k:=1) (ps:=["self"]) rfl (Ze rfl (Ou a) (ka 0)) (zev a) (b.mono (by decide)))))))
theorem kP(a:Txt K mg ca):bj ⟨K,ca,tx K⟩ P w mg base 6 "next_day" ["self"] [(16,Vb)]:=(Wi (T:=⟨K,ca,tx K⟩) (c:=16) a.Pe a.Xk (nX a) (by decide) vj)
noncomputable abbrev eY:Stmt:=top 102
noncomputable abbrev FD:Ev->M Fl:=(Jg (eT (Qa vG (ga 4) (eC (.int 0)))) (Kb (jh 6 (Qa ki (eC (.int 1)) (Qa zo (Qa rs (ae 2 Wb [] (za (ga 1) (za (eC (.int 4)) Na))) (Qa ki (eC (.int 3)) (ga 5))) (rl sE (za (ga 4) (za (Qa Fu (eC (.int 10)) (eC (.int 12))) Na)))))) (Kb (jh 7 (Li (za (Qa zo (Qa rs (ga 2) (Qa ki (eC (.int 3)) (Qa CF (eC (.int 3)) (ga 5)))) (eC (.int 2))) (za (ga 6) (za (Qa zo (Qa ki (Qa rs (ga 2) (eC (.int 12))) (Qa CF (eC (.int 7)) (ga 5))) (eC (.int 10))) (za (Qa zo (Qa rs (ga 2) (Qa ki (eC (.int 24)) (ga 5))) (eC (.int 60))) Na)))))) (Kb (jh 3 (Qa ki (ga 3) (Li (za (ga 7) Na)))) (jh 4 (Qa Bq (ga 4) (ga 6)))))) gh)
noncomputable def oM:Ev->M Fl:=
 (Kb (jh 2 (ae 2 Wb [] (za (ga 1) (za (eC (.int 3)) Na)))) (Kb (jh 3 (Li Na)) (Kb (jh 4 (ga 0)) (Kb (Mr (tz (Qa zo (ga 2) (eC (.int 3)))) (Zd 5) FD) (Kb (jh 8 (Qa zo (Qa rs (ga 2) (eC (.int 48))) (Qa ki (ga 4) (eC (.int 1))))) (Ke (Li (za (Qa zo (Qa rs (ga 2) (eC (.int 5))) (Qa ki (Qa Fu (eC (.int 10)) (eC (.int 6))) (eC (.int 1)))) (za (Li (za (ga 8) (za (Qa Bq (ga 4) (ga 8)) Na))) (za (ga 3) Na))))))))))
noncomputable def Qf:List D->M D:=hide λa=>Za (run 9 oM a)
theorem uw:xa ["_law_coin", "_law_script", "_law_cell", "_law_ties", "_law_rest", "_law_k", "_law_amount", "_law_tie", "_law_left"] ["_law_coin", "_law_script"] (vc eY):=Le rfl rfl rfl (by decide +kernel)
theorem K8(a:Txt K mg ca):Rc ⟨K,ca,tx K⟩ P w mg base 2 "_law_stand" ["_law_coin", "_law_script"] Qf:=
 Rc.hide (Rc.Za (Ki a.Qf uw λ_ _ _ _ _ _ _ b=>
  (ec (Kh (i:=2) uw.nd rfl (Or.inl rfl) (Qe (Wz a) rfl (b.mono (by decide)) rfl (Ca (ka 1) (Ca xb qb))))
  (ec (Kh (i:=3) uw.nd rfl (Or.inl rfl) (tj qb))
  (ec (Kh (i:=4) uw.nd rfl (Or.inl rfl) (ka 0))
  (ec (Bt Dn rfl (KF rfl a.Jm (ef Aq yq (ka 2) xb)) (mi (i:=5) uw.nd rfl (Or.inl rfl)) (ic (lh (si bI PK (ka 4) xb (Yg _)) (ec (Kh (i:=6) uw.nd rfl (Or.inl rfl) (ef (Ik rfl) jg xb (ef Aq yq (ef Ju Pu (Qe (Wz a) rfl (b.mono (by decide)) rfl (Ca (ka 1) (Ca xb qb))) (ef (Ik rfl) jg xb (ka 5))) (xr (E3 rfl) mZ rfl a.mC boot_min (Ca (ka 4) (Ca (ef kG OG xb xb) qb))))))
  (ec (Kh (i:=7) uw.nd rfl (Or.inl rfl) (tj (Ca (ef Aq yq (ef Ju Pu (ka 2) (ef (Ik rfl) jg xb (ef PP nN xb (ka 5)))) xb) (Ca (ka 6) (Ca (ef Aq yq (ef (Ik rfl) jg (ef Ju Pu (ka 2) xb) (ef PP nN xb (ka 5))) xb) (Ca (ef Aq yq (ef Ju Pu (ka 2) (ef (Ik rfl) jg xb (ka 5))) xb) qb))))))
  (ec (Kh (i:=3) uw.nd rfl (Or.inl rfl) (ef (Ik rfl) jg (ka 3) (tj (Ca (ka 7) qb))))
  (ic (Kh (i:=4) uw.nd rfl (Or.inl rfl) (ef vt jt (ka 4) (ka 6))))))) uh)))
  (ec (Kh (i:=8) uw.nd rfl (Or.inl rfl) (ef Aq yq (ef Ju Pu (ka 2) xb) (ef (Ik rfl) jg (ka 4) xb)))
  (ic (Ve (tj (Ca (ef Aq yq (ef Ju Pu (ka 2) xb) (ef (Ik rfl) jg (ef kG OG xb xb) xb)) (Ca (tj (Ca (ka 8) (Ca (ef vt jt (ka 4) (ka 8)) qb))) (Ca (ka 3) qb)))))))))))))
noncomputable abbrev zi2:Stmt:=ze (top 99) 1
noncomputable def mO:Ev->M Fl:=
 (Ke (Vc (gc [16] "public") (ga 0)))
noncomputable def Pa:List D->M D:=hide λa=>Za (run 1 mO a)
theorem zhe:xa ["self"] ["self"] (vc zi2):=Le rfl rfl rfl (by decide +kernel)
theorem J3(a:Txt K mg ca):Pc ⟨K,ca,tx K⟩ P w mg base 1 (ca 80) ["self"] Pa:=
 Pc.hide (Pc.Za (ji a.Pa zhe λ_ _ _ _ _ _ b=>
  (ic (Ve (Ze rfl (Ou a) (ka 0))))))
theorem Uv(a:Txt K mg ca):bj ⟨K,ca,tx K⟩ P w mg base 1 "book" ["self"] [(16,Pa)]:=(Wi (T:=⟨K,ca,tx K⟩) (c:=16) a.Pe a.Gp (J3 a) (by decide) vj)
noncomputable abbrev l8:Stmt:=ze (top 99) 5
noncomputable def BQ:Ev->M Fl:=
 (Ke (ae 3 kb [] (za (ga 1) (za (eC (.int 0)) (za (Qa Bq (rl cq (za (Vc (gc [9,14,16] "pots") (ga 0)) Na)) (eC (.int 1))) Na)))))
noncomputable def Ld:List D->M D:=hide λa=>Za (run 2 BQ a)
theorem N1:xa ["self", "pot"] ["self", "pot"] (vc l8):=Le rfl rfl rfl (by decide +kernel)
theorem VX(a:Txt K mg ca):Pc ⟨K,ca,tx K⟩ P w mg base 3 (ca 84) ["self", "pot"] Ld:=
 Pc.hide (Pc.Za (ji a.Ld N1 λ_ _ _ _ _ _ b=>
  (ic (Ve (Qe (Js a) rfl (b.mono (by decide)) rfl (Ca (ka 1) (Ca xb (Ca (ef vt jt (xr jv (Zv rfl) rfl a.Ni Dc (Ca (Ze rfl (su a) (ka 0)) qb)) xb) qb))))))))
theorem j7(a:Txt K mg ca):bj ⟨K,ca,tx K⟩ P w mg base 3 "has_pot" ["self", "pot"] [(16,Ld)]:=(Wi (T:=⟨K,ca,tx K⟩) (c:=16) a.Pe a.dm (VX a) (by decide) vj)
noncomputable abbrev y8:Stmt:=ze (top 99) 6
noncomputable def UQ:Ev->M Fl:=
 (Ke (Mi (Od [(16,Ld)] 2 "has_pot" (ga 0) (za (ga 1) Na)) (Mi (ae 1 Pf [] (za (ga 2) Na)) (Qa mv (Qa Qb (Qa Qb (Vc (gc [9,14,16] "pots") (ga 0)) (ga 1)) (ga 2)) (Vc (gc [16] "keepers") (ga 0))))))
noncomputable def lb:List D->M D:=hide λa=>Za (run 3 UQ a)
theorem uY:xa ["self", "pot", "side"] ["self", "pot", "side"] (vc y8):=Le rfl rfl rfl (by decide +kernel)
theorem EV(a:Txt K mg ca):Pc ⟨K,ca,tx K⟩ P w mg base 4 (ca 85) ["self", "pot", "side"] lb:=
 Pc.hide (Pc.Za (ji a.lb uY λ_ _ _ _ _ _ b=>
  (ic (Ve (fj (Hh (k:=3) (ps:=["self", "pot"]) rfl (ka 0) (j7 a) (b.mono (by decide)) (Ca (ka 1) qb)) (fj (Qe (jF a) rfl (b.mono (by decide)) rfl (Ca (ka 2) qb)) (dq (mo (iL (Vg b)) cJ (me pe (ke rfl) (me pe (ke rfl) (Ze rfl (su a) (ka 0)) (ka 1) (λ_ _=>rfl)) (ka 2) (λ_ _=>rfl)) (Ze rfl (zC a) (ka 0)) rfl))))))))
theorem fS(a:Txt K mg ca):bj ⟨K,ca,tx K⟩ P w mg base 4 "is_side_of_band" ["self", "pot", "side"] [(16,lb)]:=(Wi (T:=⟨K,ca,tx K⟩) (c:=16) a.Pe a.qi (EV a) (by decide) vj)
noncomputable abbrev zad:Stmt:=ze (top 99) 7
noncomputable def AO:Ev->M Fl:=
 (Jg (Il (eT (Od [(16,lb)] 3 "is_side_of_band" (ga 0) (za (ga 1) (za (ga 2) Na))))) Zl gh)
noncomputable def Ra:List D->M D:=hide λa=>Za (run 3 AO a)
theorem y0:xa ["self", "pot", "side"] ["self", "pot", "side"] (vc zad):=Le rfl rfl rfl (by decide +kernel)
theorem L0(a:Txt K mg ca):Pc ⟨K,ca,tx K⟩ P w mg base 5 (ca 86) ["self", "pot", "side"] Ra:=
 Pc.hide (Pc.Za (ji a.Ra y0 λ_ _ _ _ _ _ b=>
  (ic (lh (Dm (Qk (Hh (k:=4) (ps:=["self", "pot", "side"]) rfl (ka 0) (fS a) (b.mono (by decide)) (Ca (ka 1) (Ca (ka 2) qb))))) jo uh))))
theorem NM(a:Txt K mg ca):bj ⟨K,ca,tx K⟩ P w mg base 5 "check_side_of_band" ["self", "pot", "side"] [(16,Ra)]:=(Wi (T:=⟨K,ca,tx K⟩) (c:=16) a.Pe a.Gh (L0 a) (by decide) vj)
noncomputable abbrev N8:Stmt:=top 17
noncomputable def QN:Ev->M Fl:=
 (Ke (Qa Bq (eC (.int 1)) (ga 0)))
noncomputable def Ad:List D->M D:=hide λa=>Za (run 1 QN a)
theorem YW:xa ["side"] ["side"] (vc N8):=Le rfl rfl rfl (by decide +kernel)
theorem uD(a:Txt K mg ca):Rc ⟨K,ca,tx K⟩ P w mg base 1 "other_side" ["side"] Ad:=
 Rc.hide (Rc.Za (Ki a.Ad YW λ_ _ _ _ _ _ _ b=>
  (ic (Ve (ef vt jt xb (ka 0))))))
noncomputable abbrev zg8:Stmt:=top 53
noncomputable def DR:Ev->M Fl:=
 (Jg (Il (eT (ae 1 Pf [] (za (ga 0) Na)))) Zl gh)
noncomputable def gf:List D->M D:=hide λa=>Za (run 1 DR a)
theorem zft:xa ["side"] ["side"] (vc zg8):=Le rfl rfl rfl (by decide +kernel)
theorem LO(a:Txt K mg ca):Rc ⟨K,ca,tx K⟩ P w mg base 4 "check_side" ["side"] gf:=
 Rc.hide (Rc.Za (Ki a.gf zft λ_ _ _ _ _ _ _ b=>
  (ic (lh (Dm (Qk (Qe (jF a) rfl (b.mono (by decide)) rfl (Ca (ka 0) qb)))) jo uh))))
noncomputable abbrev aZ:Stmt:=top 33
noncomputable def pQ:Ev->M Fl:=
 (Ke (Qa ki (rl yx (za (Qa Qb (ga 0) (eC (.int 1))) Na)) (rl yx (za (cm (yr (toN (Dk (Qa Qb (ga 0) (eC (.int 2))))) [] (Zd 0) Vq (Qa Qb (ga 0) (eC (.int 1))))) Na))))
noncomputable def rj:List D->M D:=hide λa=>Za (run 1 pQ a)
theorem AX:xa ["one"] ["one"] (vc aZ):=Le rfl rfl rfl (by decide +kernel)
theorem jZ(a:Txt K mg ca):Rc ⟨K,ca,tx K⟩ P w mg base 1 "deals" ["one"] rj:=
 Rc.hide (Rc.Za (Ki a.rj AX λ_ _ _ _ _ _ _ b=>
  (ic (Ve (ef (Ik rfl) jg (xr (bJ rfl) (aJ rfl) rfl a.Nv NL (Ca (me pe (ke rfl) (ka 0) xb (λ_ _=>rfl)) qb)) (xr (bJ rfl) (aJ rfl) rfl a.Nv NL (Ca (Bs (Cz (x:="tie") (z0:="0") (M':=[]) (ix:=[]) rfl ⟨rfl,rfl,rfl,rfl,rfl,rfl⟩ (Pz (ar rfl (me pe (ke rfl) (ka 0) xb (λ_ _=>rfl)))) (λ_ _ _ _ _=>mi (i:=0) (by show List.Nodup (("tie"::"0"::[]):List qa);decide +kernel) rfl (Or.inl rfl)) (λ_ _ _ _ _=>eB) (λ_ _ _ _ _=>(me pe (ke rfl) (ka 0) xb (λ_ _=>rfl))))) qb)))))))
noncomputable abbrev x9:Stmt:=top 34
noncomputable def sS:Ev->M Fl:=
 (Ke (Mi (ae 1 df [] (za (ga 0) Na)) (Qa oEq (ae 1 rj [] (za (ga 0) Na)) (ga 1))))
noncomputable def qf:List D->M D:=hide λa=>Za (run 2 sS a)
theorem L9:xa ["thing", "coin"] ["thing", "coin"] (vc x9):=Le rfl rfl rfl (by decide +kernel)
theorem zdw(a:Txt K mg ca):Rc ⟨K,ca,tx K⟩ P w mg base 7 "is_stand_of" ["thing", "coin"] qf:=
 Rc.hide (Rc.Za (Ki a.qf L9 λ_ _ _ _ _ _ _ b=>
  (ic (Ve (fj (Qe (vE a) rfl (b.mono (by decide)) rfl (Ca (ka 0) qb)) (dq (mo (Vk (Vg b)) jg (Qe (jZ a) rfl (b.mono (by decide)) rfl (Ca (ka 0) qb)) (ka 1) (Yg _))))))))
noncomputable abbrev iW:Stmt:=top 16
noncomputable def oT:Ev->M Fl:=
 (Ke (ae 3 kb [] (za (ga 0) (za (eC (.int 0)) (za (eC (.int 2)) Na)))))
noncomputable def pi:List D->M D:=hide λa=>Za (run 1 oT a)
theorem t7:xa ["thing"] ["thing"] (vc iW):=Le rfl rfl rfl (by decide +kernel)
theorem UX(a:Txt K mg ca):Rc ⟨K,ca,tx K⟩ P w mg base 3 "is_pot" ["thing"] pi:=
 Rc.hide (Rc.Za (Ki a.pi t7 λ_ _ _ _ _ _ _ b=>
  (ic (Ve (Qe (Js a) rfl (b.mono (by decide)) rfl (Ca (ka 0) (Ca xb (Ca (Dt (u:=.int 2 (a.Fi).choose) rfl (a.Fi).choose_spec ⟨_,rfl⟩) qb))))))))
noncomputable abbrev MZ:Stmt:=top 38
noncomputable def VH:Ev->M Fl:=
 (Ke (Mi (Qa oEq (rl cq (za (ga 0) Na)) (eC (.int 4))) (Mi (ae 1 pi [] (za (Qa Qb (ga 0) (eC (.int 1))) Na)) (ae 1 Pf [] (za (Qa Qb (ga 0) (eC (.int 2))) Na)))))
noncomputable def Uc:List D->M D:=hide λa=>Za (run 1 VH a)
theorem DW:xa ["thing"] ["thing"] (vc MZ):=Le rfl rfl rfl (by decide +kernel)
theorem IQ(a:Txt K mg ca):Rc ⟨K,ca,tx K⟩ P w mg base 4 "is_of_a_side" ["thing"] Uc:=
 Rc.hide (Rc.Za (Ki a.Uc DW λ_ _ _ _ _ _ _ b=>
  (ic (Ve (fj (mo (Vk (Vg b)) jg (xr jv (Zv rfl) rfl a.Ni Dc (Ca (ka 0) qb)) xb (Yg _)) (fj (Qe (UX a) rfl (b.mono (by decide)) rfl (Ca (me pe (ke rfl) (ka 0) xb (λ_ _=>rfl)) qb)) (dq (Qe (jF a) rfl (b.mono (by decide)) rfl (Ca (me pe (ke rfl) (ka 0) xb (λ_ _=>rfl)) qb)))))))))
noncomputable abbrev zlm:Stmt:=top 39
noncomputable def UH:Ev->M Fl:=
 (Kb (Jg (Fv (Il (eT (Vc (vr .tuple) (ga 0)))) (Fv (eT (Qa oEq (rl cq (za (ga 0) Na)) (eC (.int 0)))) (Il (eT (Vc (vr .str) (Qa Qb (ga 0) (eC (.int 0)))))))) Zl gh) (Kb (Jg (eT (Qa oEq (Qa Qb (ga 0) (eC (.int 0))) (eC (.str "word")))) Zl gh) (Kb (Jg (eT (Qa oEq (Qa Qb (ga 0) (eC (.int 0))) (eC (.str "strike")))) (Ke (Mi (ae 1 Uc [] (za (ga 0) Na)) (ae 1 Gf [] (za (Qa Qb (ga 0) (eC (.int 3))) Na)))) gh) (Kb (Jg (eT (Qa oEq (Qa Qb (ga 0) (eC (.int 0))) (eC (.str "agree")))) (Ke (Mi (ae 1 Uc [] (za (ga 0) Na)) (ae 1 df [] (za (Qa Qb (ga 0) (eC (.int 3))) Na)))) gh) (Ke (eC (.bl false)))))))
noncomputable def ff:List D->M D:=hide λa=>Za (run 1 UH a)
theorem vX:xa ["thing"] ["thing"] (vc zlm):=Le rfl rfl rfl (by decide +kernel)
theorem pR(a:Txt K mg ca):Rc ⟨K,ca,tx K⟩ P w mg base 7 "is_thing" ["thing"] ff:=
 Rc.hide (Rc.Za (Ki a.ff vX λ_ _ _ _ _ _ _ b=>
  (ec (lh (L2.PW.pt (vx (Dm (Qk (Mw .tuple (ka 0) rfl a.Dd rfl a.Ei Ji))) (vx (si (Vk (Vg b)) jg (xr jv (Zv rfl) rfl a.Ni Dc (Ca (ka 0) qb)) xb (Yg _)) (Fy (Dm (Qk (Mw .str (me pe (ke rfl) (ka 0) xb (λ_ _=>rfl)) rfl a.Dd rfl a.fC boot_str))))))) jo uh)
  (ec (lh (si (Vk (Vg b)) jg (me pe (ke rfl) (ka 0) xb (λ_ _=>rfl)) ap (Yg _)) jo uh)
  (ec (lh (si (Vk (Vg b)) jg (me pe (ke rfl) (ka 0) xb (λ_ _=>rfl)) ap (Yg _)) (ic (Ve (fj (Qe (IQ a) rfl (b.mono (by decide)) rfl (Ca (ka 0) qb)) (dq (Qe (dP a) rfl (b.mono (by decide)) rfl (Ca (me pe (ke rfl) (ka 0) xb (λ_ _=>rfl)) qb)))))) uh)
  (ec (lh (si (Vk (Vg b)) jg (me pe (ke rfl) (ka 0) xb (λ_ _=>rfl)) ap (Yg _)) (ic (Ve (fj (Qe (IQ a) rfl (b.mono (by decide)) rfl (Ca (ka 0) qb)) (dq (Qe (vE a) rfl (b.mono (by decide)) rfl (Ca (me pe (ke rfl) (ka 0) xb (λ_ _=>rfl)) qb)))))) uh)
  (ic (Ve Pt))))))))
noncomputable abbrev kW:Stmt:=top 52
noncomputable def iR:Ev->M Fl:=
 (Ke (Mi (ae 1 ff [] (za (ga 3) Na)) (Qa oEq (ga 3) (Li (za (eC (.str "agree")) (za (ga 0) (za (ae 1 Ad [] (za (ga 1) Na)) (za (ga 2) Na))))))))
noncomputable def og:List D->M D:=hide λa=>Za (run 4 iR a)
theorem zhk:xa ["pot", "side", "stand", "agreement"] ["pot", "side", "stand", "agreement"] (vc kW):=Le rfl rfl rfl (by decide +kernel)
theorem zgw(a:Txt K mg ca):Rc ⟨K,ca,tx K⟩ P w mg base 8 "is_agreed" ["pot", "side", "stand", "agreement"] og:=
 Rc.hide (Rc.Za (Ki a.og zhk λ_ _ _ _ _ _ _ b=>
  (ic (Ve (fj (Qe (pR a) rfl (b.mono (by decide)) rfl (Ca (ka 3) qb)) (dq (mo (Vk (Vg b)) jg (ka 3) (tj (Ca ap (Ca (ka 0) (Ca (Qe (uD a) rfl (b.mono (by decide)) rfl (Ca (ka 1) qb)) (Ca (ka 2) qb))))) (Yg _))))))))
noncomputable abbrev U0:Stmt:=ze (top 54) 5
noncomputable def xT:Ev->M Fl:=
 (Kb (Jg (Il (eT (Vc (DB (Ax [(6,true),(7,false),(8,false),(9,false),(11,false),(12,false),(13,false),(14,false),(15,false),(16,false)])) (Qa Qb (Vc (gc [9,15] "claims") (ga 0)) (ga 1))))) Zl gh) (Kb (jh 5 (Qa Qb (Vc (gc [9,14,16] "pots") (ga 0)) (ga 1))) (Ke (TK (Qa oEq (ga 3) (ae 2 Xh [] (za (Qa Qb (ga 5) (eC (.int 2))) (za (Qa Qb (ga 5) (eC (.int 3))) Na)))) (ae 4 og [] (za (ga 1) (za (ga 2) (za (ga 3) (za (ga 4) Na)))))))))
noncomputable def Wc:List D->M D:=hide λa=>Za (run 6 xT a)
theorem lT:xa ["self", "pot", "side", "stand", "agreement", "made"] ["self", "pot", "side", "stand", "agreement"] (vc U0):=Le rfl rfl rfl (by decide +kernel)
theorem zcr(a:Txt K mg ca):Pc ⟨K,ca,tx K⟩ P w mg base 9 (ca 35) ["self", "pot", "side", "stand", "agreement"] Wc:=
 Pc.hide (Pc.Za (ji a.Wc lT λ_ _ _ _ _ _ b=>
  (ec (lh (Dm (Qk (yi3 (l:=[(6,true),(7,false),(8,false),(9,false),(11,false),(12,false),(13,false),(14,false),(15,false),(16,false)]) rfl (me pe (ke rfl) (Ze rfl (Ru a) (ka 0)) (ka 1) (λ_ _=>rfl)) rfl a.Dd rfl (by decide) a.Sv (yw a.bx a.Mp (yw a.xx a.Pp (yw a.Qv a.Go (yw a.ux a.Fp (yw a.Qx a.Tp (yw a.Wr a.vm (yw a.Qs a.im (yw a.Nw a.Jp (yw a.Zt a.Tn (yw a.Rx a.Lp G0))))))))))))) jo uh)
  (ec (Kh (i:=5) lT.nd rfl (Or.inl rfl) (me pe (ke rfl) (Ze rfl (su a) (ka 0)) (ka 1) (λ_ _=>rfl)))
  (ic (Ve (RV (mo (Vk (Vg b)) jg (ka 3) (Qe (bR a) rfl (b.mono (by decide)) rfl (Ca (me pe (ke rfl) (ka 5) xb (λ_ _=>rfl)) (Ca (me pe (ke rfl) (ka 5) xb (λ_ _=>rfl)) qb))) (Yg _)) (dq (Qe (zgw a) rfl (b.mono (by decide)) rfl (Ca (ka 1) (Ca (ka 2) (Ca (ka 3) (Ca (ka 4) qb)))))))))))))
theorem j3(a:Txt K mg ca):bj ⟨K,ca,tx K⟩ P w mg base 9 "may_lie" ["self", "pot", "side", "stand", "agreement"] [(9,Wc)]:=(Wi (T:=⟨K,ca,tx K⟩) (c:=9) a.Ce a.Xl (zcr a) (by decide) vj)
theorem QS(a:Txt K mg ca):Lj ⟨K,ca,tx K⟩ [7] "wait":=(Hg (T:=⟨K,ca,tx K⟩) (c:=7) a.xh a.Yp El)
noncomputable abbrev m2:Stmt:=ze (top 44) 0
noncomputable def dS:Ev->M Fl:=
 (Kb (wj (ae 2 Qn [] (za (ga 0) (za (ga 1) Na)))) (Kb (Ai [7,8,10,11,12,13] "side" (ga 2) (ga 0)) (Kb (Ai [7] "stand" (ga 3) (ga 0)) (Kb (Ai [7,9] "day" (ga 4) (ga 0)) (Ai [7] "wait" (ga 5) (ga 0))))))
noncomputable def Ls:List D->M D:=hide (run 6 dS)
theorem zb9:xa ["self", "whole", "side", "stand", "day", "wait"] ["self", "whole", "side", "stand", "day", "wait"] (vc m2):=Le rfl rfl rfl (by decide +kernel)
theorem T1(a:Txt K mg ca):Pc ⟨K,ca,tx K⟩ P w mg base 3 (ca 21) ["self", "whole", "side", "stand", "day", "wait"] Ls:=
 Pc.hide (ji a.Ls zb9 λ_ _ _ _ _ _ b=>
  (ec (ql (RN (c:=5) ⟨a.yt,a.Th,_,_,a.Uh,a.Rh,a.Sh,sI a⟩ rfl (b.mono (by decide)) rfl (Ca (ka 0) (Ca (ka 1) qb))))
  (ec (Aj rfl (Px a) (ka 0) (ka 2))
  (ec (Aj rfl (hD a) (ka 0) (ka 3))
  (ec (Aj rfl (qw a) (ka 0) (ka 4))
  (ic (Aj rfl (QS a) (ka 0) (ka 5))))))))
noncomputable abbrev Xz:Stmt:=ze (top 54) 6
noncomputable def lR:Ev->M Fl:=
 (Kb (wj (Od [(9,vb)] 2 "check_pot" (ga 0) (za (ga 1) Na))) (Kb (wj (ae 1 gf [] (za (ga 2) Na))) (Kb (jh 5 (Qa Qb (Vc (gc [9,14,16] "pots") (ga 0)) (ga 1))) (Kb (Jg (Il (eT (ae 2 qf [] (za (ga 3) (za (ae 1 qc [] (za (ga 5) Na)) Na))))) Zl gh) (Kb (Jg (Il (eT (Od [(9,Wc)] 5 "may_lie" (ga 0) (za (ga 1) (za (ga 2) (za (ga 3) (za (ga 4) Na))))))) Zl gh) (sx (cm (As 7 6 Ls (za (ae 1 qc [] (za (ga 5) Na)) (za (ga 2) (za (ga 3) (za (Vc (gc [7,9] "day") (ga 0)) (za (Qa Qb (ga 5) (eC (.int 4))) Na))))))) (Vc (gc [9,15] "claims") (ga 0)) (ga 1)))))))
noncomputable def fg:List D->M D:=hide (run 6 lR)
theorem CM:xa ["self", "pot", "side", "stand", "agreement", "made"] ["self", "pot", "side", "stand", "agreement"] (vc Xz):=Le rfl rfl rfl (by decide +kernel)
theorem o9(t:Addr)(kV b g:Value)(d:Option Addr)(a ct:Value)(s:Shared)(o:Obj)(n:Nat)(us:List Value)(e:s.heap.get? t=some o)(f:o.data=.seq ([La]:List Value).toArray n) :
  ((us++[]).length=(["self", "pot", "side", "stand", "agreement"]:List qa).length->uf s (W.fnOf "lay" "Book.lay" (km Xz) (oj Xz) (vc Xz) (.ref t) kV b g d a ct) ⟨us,[]⟩ ((["self", "pot", "side", "stand", "agreement"]:List qa).zip (us++[])))/\
  ((us++[La]).length=(["self", "pot", "side", "stand", "agreement"]:List qa).length->uf s (W.fnOf "lay" "Book.lay" (km Xz) (oj Xz) (vc Xz) (.ref t) kV b g d a ct) ⟨us,[]⟩ ((["self", "pot", "side", "stand", "agreement"]:List qa).zip (us++[La]))):=
 ⟨λc=>match us,(show us.length=5 by simpa using c)with|[_,_,_,_,_],_=>Yc rfl e f rfl rfl,λc=>match us,(show us.length=4 by simpa using c)with|[_,_,_,_],_=>Yc rfl e f rfl rfl⟩
theorem t5(a:Txt K mg ca):Fs ⟨K,ca,tx K⟩ P w mg base 10 (ca 36) ["self", "pot", "side", "stand", "agreement"] [La] fg:=
 Fs.hide (BK a.fg CM λ_ _ _ _ _ _ b=>
  (ec (ql (Hh (k:=3) (ps:=["self", "pot"]) rfl (ka 0) (UA a) (b.mono (by decide)) (Ca (ka 1) qb)))
  (ec (ql (Qe (LO a) rfl (b.mono (by decide)) rfl (Ca (ka 2) qb)))
  (ec (Kh (i:=5) CM.nd rfl (Or.inl rfl) (me pe (ke rfl) (Ze rfl (su a) (ka 0)) (ka 1) (λ_ _=>rfl)))
  (ec (lh (Dm (Qk (Qe (zdw a) rfl (b.mono (by decide)) rfl (Ca (ka 3) (Ca (Qe (AE a) rfl (b.mono (by decide)) rfl (Ca (ka 5) qb)) qb))))) jo uh)
  (ec (lh (Dm (Qk (Hh (k:=9) (ps:=["self", "pot", "side", "stand", "agreement"]) rfl (ka 0) (j3 a) (b.mono (by decide)) (Ca (ka 1) (Ca (ka 2) (Ca (ka 3) (Ca (ka 4) qb))))))) jo uh)
  (ic (jD (Bs (AC (c:=7) (ps:=["self", "whole", "side", "stand", "day", "wait"]) ⟨_,a.Vz,a.px,T1 a⟩ rfl (b.mono (by decide)) rfl (Ca (Qe (AE a) rfl (b.mono (by decide)) rfl (Ca (ka 5) qb)) (Ca (ka 2) (Ca (ka 3) (Ca (Ze rfl (qw a) (ka 0)) (Ca (me pe (ke rfl) (ka 5) xb (λ_ _=>rfl)) qb))))))) (Ze rfl (Ru a) (ka 0)) (ka 1)))))))))
noncomputable abbrev vV:Stmt:=ze (top 99) 8
noncomputable def NK:Ev->M Fl:=
 (Kb (Jg (eT (Qa Tw (ga 1) (Vc (gc [16] "things") (ga 0)))) (Ke (eC (.bl true))) gh) (Kb (Jg (eT (Qa oEq (Qa Qb (ga 1) (eC (.int 0))) (eC (.str "word")))) (Ke (Qa (VA false) (Qa Qb (ga 1) (eC (.int 1))) (Od [(9,kc)] 1 "all_shown" (Vc (gc [16] "public") (ga 0)) Na))) gh) (Ke (Od [(16,lb)] 3 "is_side_of_band" (ga 0) (za (Qa Qb (ga 1) (eC (.int 1))) (za (Qa Qb (ga 1) (eC (.int 2))) Na))))))
noncomputable def wb:List D->M D:=hide λa=>Za (run 2 NK a)
theorem G4:xa ["self", "thing"] ["self", "thing"] (vc vV):=Le rfl rfl rfl (by decide +kernel)
theorem BZ(a:Txt K mg ca):Pc ⟨K,ca,tx K⟩ P w mg base 5 (ca 87) ["self", "thing"] wb:=
 Pc.hide (Pc.Za (ji a.wb G4 λ_ _ _ _ _ _ b=>
  (ec (lh (si (xV (Vg b)) NW (ka 1) (Ze rfl (vL a) (ka 0)) rfl) (ic (Ve Pt)) uh)
  (ec (lh (si (Vk (Vg b)) jg (me pe (ke rfl) (ka 1) xb (λ_ _=>rfl)) ap (Yg _)) (ic (Ve (mo hQ (uP rfl false) (me pe (ke rfl) (ka 1) xb (λ_ _=>rfl)) (kl (k:=1) (ps:=["self"]) rfl (Ze rfl (Ou a) (ka 0)) (uT a) (b.mono (by decide))) rfl))) uh)
  (ic (Ve (Hh (k:=4) (ps:=["self", "pot", "side"]) rfl (ka 0) (fS a) (b.mono (by decide)) (Ca (me pe (ke rfl) (ka 1) xb (λ_ _=>rfl)) (Ca (me pe (ke rfl) (ka 1) xb (λ_ _=>rfl)) qb)))))))))
theorem xL(a:Txt K mg ca):bj ⟨K,ca,tx K⟩ P w mg base 5 "band_can" ["self", "thing"] [(16,wb)]:=(Wi (T:=⟨K,ca,tx K⟩) (c:=16) a.Pe a.ll (BZ a) (by decide) vj)
noncomputable abbrev o8:Stmt:=ze (top 99) 19
noncomputable def rR:Ev->M Fl:=
 (Kb (wj (Od [(16,Ra)] 3 "check_side_of_band" (ga 0) (za (ga 1) (za (ga 2) Na)))) (Kb (Jg (Il (eT (ae 1 df [] (za (ga 3) Na)))) Zl gh) (Kb (jh 4 (Li (za (eC (.str "agree")) (za (ga 1) (za (ae 1 Ad [] (za (ga 2) Na)) (za (ga 3) Na)))))) (wj (Od [(9,fg)] 5 "lay" (Vc (gc [16] "public") (ga 0)) (za (ga 1) (za (ga 2) (za (ga 3) (za (iA (eT (Od [(16,wb)] 2 "band_can" (ga 0) (za (ga 4) Na))) (ga 4) (eC .Jb)) Na)))))))))
noncomputable def kf:List D->M D:=hide (run 5 rR)
theorem LN:xa ["self", "P", "side", "stand", "agreement"] ["self", "P", "side", "stand"] (vc o8):=Le rfl rfl rfl (by decide +kernel)
theorem Y0(a:Txt K mg ca):Pc ⟨K,ca,tx K⟩ P w mg base 11 (ca 98) ["self", "P", "side", "stand"] kf:=
 Pc.hide (ji a.kf LN λ_ _ _ _ _ _ b=>
  (ec (ql (Hh (k:=5) (ps:=["self", "pot", "side"]) rfl (ka 0) (NM a) (b.mono (by decide)) (Ca (ka 1) (Ca (ka 2) qb))))
  (ec (lh (Dm (Qk (Qe (vE a) rfl (b.mono (by decide)) rfl (Ca (ka 3) qb)))) jo uh)
  (ec (Kh (i:=4) LN.nd rfl (Or.inl rfl) (tj (Ca ap (Ca (ka 1) (Ca (Qe (uD a) rfl (b.mono (by decide)) rfl (Ca (ka 2) qb)) (Ca (ka 3) qb))))))
  (ic (ql (QV (k:=10) (c:=9) (ps:=["self", "pot", "side", "stand", "agreement"]) rfl (Ze rfl (Ou a) (ka 0)) a.Ce a.mr (t5 a) (b.mono (by decide)) (Ca (ka 1) (Ca (ka 2) (Ca (ka 3) (Ca (RF (Qk (Hh (k:=5) (ps:=["self", "thing"]) rfl (ka 0) (xL a) (b.mono (by decide)) (Ca (ka 4) qb))) (ka 4) nw) qb)))))))))))
theorem V1(a:Txt K mg ca):bj ⟨K,ca,tx K⟩ P w mg base 11 "lay" ["self", "P", "side", "stand"] [(16,kf)]:=(Wi (T:=⟨K,ca,tx K⟩) (c:=16) a.Pe a.dr (Y0 a) (by decide) vj)
noncomputable abbrev SU:Stmt:=ze (top 44) 2
noncomputable def OO:Ev->M Fl:=
 (Ke (Qa oLt (ga 1) (Qa ki (Vc (gc [7,9] "day") (ga 0)) (Vc (gc [7] "wait") (ga 0)))))
noncomputable def Cd:List D->M D:=hide λa=>Za (run 2 OO a)
theorem jV:xa ["self", "day"] ["self", "day"] (vc SU):=Le rfl rfl rfl (by decide +kernel)
theorem M1(a:Txt K mg ca):Pc ⟨K,ca,tx K⟩ P w mg base 1 (ca 23) ["self", "day"] Cd:=
 Pc.hide (Pc.Za (ji a.Cd jV λ_ _ _ _ _ _ b=>
  (ic (Ve (mo mB GB (ka 1) (ef (Ik rfl) jg (Ze rfl (qw a) (ka 0)) (Ze rfl (QS a) (ka 0))) (Yg _))))))
theorem ES(a:Txt K mg ca):bj ⟨K,ca,tx K⟩ P w mg base 1 "waits" ["self", "day"] [(7,Cd)]:=(Wi (T:=⟨K,ca,tx K⟩) (c:=7) a.xh a.Co (M1 a) (by decide) vj)
noncomputable abbrev A9:Stmt:=ze (top 44) 4
noncomputable def wP:Ev->M Fl:=
 (Kb (Jg (Fv (eT (Qa iq (ga 2) (ae 1 Ad [] (za (Vc (gc [7,8,10,11,12,13] "side") (ga 0)) Na)))) (Il (eT (Od [(7,Cd)] 2 "waits" (ga 0) (za (ga 3) Na))))) (Ke (eC (.bl false))) gh) (Ke (Mi (ae 1 ff [] (za (ga 4) Na)) (Qa oEq (ga 4) (Li (za (eC (.str "strike")) (za (ga 1) (za (Vc (gc [7,8,10,11,12,13] "side") (ga 0)) (za (Qa Qb (Vc (gc [7] "stand") (ga 0)) (eC (.int 0))) Na)))))))))
noncomputable def Zb:List D->M D:=hide λa=>Za (run 5 wP a)
theorem x5:xa ["self", "pot", "side", "day", "thing"] ["self", "pot", "side", "day", "thing"] (vc A9):=Le rfl rfl rfl (by decide +kernel)
theorem zau(a:Txt K mg ca):Pc ⟨K,ca,tx K⟩ P w mg base 8 (ca 25) ["self", "pot", "side", "day", "thing"] Zb:=
 Pc.hide (Pc.Za (ji a.Zb x5 λ_ _ _ _ _ _ b=>
  (ec (lh (L2.PW.pt (vx (si (Zz (Vg b)) jg (ka 2) (Qe (uD a) rfl (b.mono (by decide)) rfl (Ca (Ze rfl (Px a) (ka 0)) qb)) (Yg _)) (Fy (Dm (Qk (Hh (k:=1) (ps:=["self", "day"]) rfl (ka 0) (ES a) (b.mono (by decide)) (Ca (ka 3) qb))))))) (ic (Ve Pt)) uh)
  (ic (Ve (fj (Qe (pR a) rfl (b.mono (by decide)) rfl (Ca (ka 4) qb)) (dq (mo (Vk (Vg b)) jg (ka 4) (tj (Ca ap (Ca (ka 1) (Ca (Ze rfl (Px a) (ka 0)) (Ca (me pe (ke rfl) (Ze rfl (hD a) (ka 0)) xb (λ_ _=>rfl)) qb))))) (Yg _)))))))))
theorem O5(a:Txt K mg ca):bj ⟨K,ca,tx K⟩ P w mg base 8 "may_strike" ["self", "pot", "side", "day", "thing"] [(7,Zb)]:=(Wi (T:=⟨K,ca,tx K⟩) (c:=7) a.xh a.Qj (zau a) (by decide) vj)
noncomputable abbrev O1:Stmt:=ze (top 45) 0
noncomputable def lP:Ev->M Fl:=
 (Kb (wj (ae 2 Qn [] (za (ga 0) (za (ga 1) Na)))) (Ai [7,8,10,11,12,13] "side" (ga 2) (ga 0)))
noncomputable def qs:List D->M D:=hide (run 3 lP)
theorem qW:xa ["self", "whole", "side"] ["self", "whole", "side"] (vc O1):=Le rfl rfl rfl (by decide +kernel)
theorem eV(a:Txt K mg ca):Pc ⟨K,ca,tx K⟩ P w mg base 3 (ca 26) ["self", "whole", "side"] qs:=
 Pc.hide (ji a.qs qW λ_ _ _ _ _ _ b=>
  (ec (ql (RN (c:=5) ⟨a.yt,a.Th,_,_,a.Uh,a.Rh,a.Sh,sI a⟩ rfl (b.mono (by decide)) rfl (Ca (ka 0) (Ca (ka 1) qb))))
  (ic (Aj rfl (Px a) (ka 0) (ka 2)))))
noncomputable abbrev n7:Stmt:=ze (top 54) 7
noncomputable def SM:Ev->M Fl:=
 (Kb (wj (Od [(9,vb)] 2 "check_pot" (ga 0) (za (ga 1) Na))) (Kb (wj (ae 1 gf [] (za (ga 2) Na))) (Kb (Jg (Il (eT (Od [(7,Zb)] 5 "may_strike" (Qa Qb (Vc (gc [9,15] "claims") (ga 0)) (ga 1)) (za (ga 1) (za (ga 2) (za (Vc (gc [7,9] "day") (ga 0)) (za (ga 3) Na))))))) (ME 2 (za (eC (.str "there is nothing to strike with this")) Na)) gh) (sx (cm (As 8 3 qs (za (ae 1 qc [] (za (Qa Qb (Vc (gc [9,14,16] "pots") (ga 0)) (ga 1)) Na)) (za (ga 2) Na)))) (Vc (gc [9,15] "claims") (ga 0)) (ga 1)))))
noncomputable def Xd:List D->M D:=hide (run 4 SM)
theorem zea:xa ["self", "pot", "side", "thing"] ["self", "pot", "side", "thing"] (vc n7):=Le rfl rfl rfl (by decide +kernel)
theorem F2(a:Txt K mg ca):Pc ⟨K,ca,tx K⟩ P w mg base 9 (ca 37) ["self", "pot", "side", "thing"] Xd:=
 Pc.hide (ji a.Xd zea λ_ _ _ _ _ _ b=>
  (ec (ql (Hh (k:=3) (ps:=["self", "pot"]) rfl (ka 0) (UA a) (b.mono (by decide)) (Ca (ka 1) qb)))
  (ec (ql (Qe (LO a) rfl (b.mono (by decide)) rfl (Ca (ka 2) qb)))
  (ec (lh (Dm (Qk (Hh (k:=8) (ps:=["self", "pot", "side", "day", "thing"]) rfl (me pe (ke rfl) (Ze rfl (Ru a) (ka 0)) (ka 1) (λ_ _=>rfl)) (O5 a) (b.mono (by decide)) (Ca (ka 1) (Ca (ka 2) (Ca (Ze rfl (qw a) (ka 0)) (Ca (ka 3) qb))))))) (ic (ZO 2 Yn rfl a.Zq a.Cn rfl rfl (Ca ap qb))) uh)
  (ic (jD (Bs (AC (c:=8) (ps:=["self", "whole", "side"]) ⟨_,a.Rw,a.Cv,eV a⟩ rfl (b.mono (by decide)) rfl (Ca (Qe (AE a) rfl (b.mono (by decide)) rfl (Ca (me pe (ke rfl) (Ze rfl (su a) (ka 0)) (ka 1) (λ_ _=>rfl)) qb)) (Ca (ka 2) qb)))) (Ze rfl (Ru a) (ka 0)) (ka 1)))))))
theorem lW(a:Txt K mg ca):bj ⟨K,ca,tx K⟩ P w mg base 9 "strike" ["self", "pot", "side", "thing"] [(9,Xd)]:=(Wi (T:=⟨K,ca,tx K⟩) (c:=9) a.Ce a.Hn (F2 a) (by decide) vj)
noncomputable abbrev zfe:Stmt:=ze (top 99) 20
noncomputable def JK:Ev->M Fl:=
 (Kb (wj (Od [(16,Ra)] 3 "check_side_of_band" (ga 0) (za (ga 1) (za (ga 2) Na)))) (Kb (jh 3 (Od [(9,rb)] 2 "told" (Vc (gc [16] "public") (ga 0)) (za (ga 1) Na))) (Kb (Jg (eT (Qa iq (Qa Qb (ga 3) (eC (.int 0))) (eC (.str "laid")))) (ME 2 (za (eC (.str "no stand lies there")) Na)) gh) (Kb (jh 4 (Li (za (eC (.str "strike")) (za (ga 1) (za (ae 1 Ad [] (za (ga 2) Na)) (za (Qa Qb (Qa Qb (ga 3) (eC (.int 2))) (eC (.int 0))) Na)))))) (Kb (Jg (Il (eT (Od [(16,wb)] 2 "band_can" (ga 0) (za (ga 4) Na)))) Zl gh) (wj (Od [(9,Xd)] 4 "strike" (Vc (gc [16] "public") (ga 0)) (za (ga 1) (za (ga 2) (za (ga 4) Na))))))))))
noncomputable def Pb:List D->M D:=hide (run 5 JK)
theorem NJ:xa ["self", "P", "side", "claim", "thing"] ["self", "P", "side"] (vc zfe):=Le rfl rfl rfl (by decide +kernel)
theorem N3(a:Txt K mg ca):Pc ⟨K,ca,tx K⟩ P w mg base 10 (ca 99) ["self", "P", "side"] Pb:=
 Pc.hide (ji a.Pb NJ λ_ _ _ _ _ _ b=>
  (ec (ql (Hh (k:=5) (ps:=["self", "pot", "side"]) rfl (ka 0) (NM a) (b.mono (by decide)) (Ca (ka 1) (Ca (ka 2) qb))))
  (ec (Kh (i:=3) NJ.nd rfl (Or.inl rfl) (Hh (k:=4) (ps:=["self", "pot"]) rfl (Ze rfl (Ou a) (ka 0)) (VF a) (b.mono (by decide)) (Ca (ka 1) qb)))
  (ec (lh (si (Zz (Vg b)) jg (me pe (ke rfl) (ka 3) xb (λ_ _=>rfl)) ap (Yg _)) (ic (ZO 2 Yn rfl a.Zq a.Cn rfl rfl (Ca ap qb))) uh)
  (ec (Kh (i:=4) NJ.nd rfl (Or.inl rfl) (tj (Ca ap (Ca (ka 1) (Ca (Qe (uD a) rfl (b.mono (by decide)) rfl (Ca (ka 2) qb)) (Ca (me pe (ke rfl) (me pe (ke rfl) (ka 3) xb (λ_ _=>rfl)) xb (λ_ _=>rfl)) qb))))))
  (ec (lh (Dm (Qk (Hh (k:=5) (ps:=["self", "thing"]) rfl (ka 0) (xL a) (b.mono (by decide)) (Ca (ka 4) qb)))) jo uh)
  (ic (ql (Hh (k:=9) (ps:=["self", "pot", "side", "thing"]) rfl (Ze rfl (Ou a) (ka 0)) (lW a) (b.mono (by decide)) (Ca (ka 1) (Ca (ka 2) (Ca (ka 4) qb))))))))))))
theorem pM(a:Txt K mg ca):bj ⟨K,ca,tx K⟩ P w mg base 10 "strike" ["self", "P", "side"] [(16,Pb)]:=(Wi (T:=⟨K,ca,tx K⟩) (c:=16) a.Pe a.On (N3 a) (by decide) vj)
noncomputable abbrev R6:Stmt:=top 103
noncomputable def IR:Ev->M Fl:=
 (Kb (jh 2 (eC (.bl false))) (Kb (jL (wj (Od [(16,Pb)] 3 "strike" (ga 0) (za (eC (.int 0)) (za (ga 1) Na)))) (⟨(Ax [(2,true)]),none,(jh 2 (eC (.bl true)))⟩::[])) (Ke (ga 2))))
noncomputable def Ac:List D->M D:=hide (run 3 IR)
theorem XJ:xa ["_law_hall", "_law_side", "_law_refused_here"] ["_law_hall", "_law_side"] (vc R6):=Le rfl rfl rfl (by decide +kernel)
theorem QE(a:Txt K mg ca):Rc ⟨K,ca,tx K⟩ P w mg base 11 "_law_refused" ["_law_hall", "_law_side"] Ac:=
 Rc.hide (Ki a.Ac XJ λ_ _ _ _ _ _ _ c=>
  (ec (Kh (i:=2) XJ.nd rfl (Or.inl rfl) Pt)
  (ec (X8 rfl rfl (λ_ _ b=>(ic (ql (Hh (k:=10) (ps:=["self", "P", "side"]) rfl (ka 0) (pM a) (c.mono (by decide)) (Ca xb (Ca (ka 1) qb)))))) (.cons rfl (by decide) (.inl a.Cn) (i6 (gY a.fm ykb)) (λ_=>(ic (Kh (i:=2) XJ.nd rfl (Or.inl rfl) Pt))) .nil))
  (ic (Ve (ka 2))))))
noncomputable abbrev n5:Stmt:=ze (top 43) 1
noncomputable def oO:Ev->M Fl:=
 (Ke (Li (za (eC (.int 0)) (za (eC (.int 0)) (za (Vc (gc [5,6,7,8] "whole") (ga 0)) Na)))))
noncomputable def yd:List D->M D:=hide λa=>Za (run 3 oO a)
theorem S5:xa ["self", "day", "shown"] ["self", "day", "shown"] (vc n5):=Le rfl rfl rfl (by decide +kernel)
theorem U2(a:Txt K mg ca):Pc ⟨K,ca,tx K⟩ P w mg base 1 (ca 19) ["self", "day", "shown"] yd:=
 Pc.hide (Pc.Za (ji a.yd S5 λ_ _ _ _ _ _ b=>
  (ic (Ve (tj (Ca xb (Ca xb (Ca (Ze rfl (qC a) (ka 0)) qb))))))))
noncomputable abbrev zc6:Stmt:=top 36
noncomputable def aN:Ev->M Fl:=
 (Ke (Mi (Qa Cy (Qa Qb (ga 0) (eC (.int 2))) (ga 1)) (Qa oLt (Qa Wv (ga 1) (Qa Qb (ga 0) (eC (.int 2)))) (Qa Qb (ga 0) (eC (.int 3))))))
noncomputable def we:List D->M D:=hide λa=>Za (run 2 aN a)
theorem FU:xa ["tie", "shown"] ["tie", "shown"] (vc zc6):=Le rfl rfl rfl (by decide +kernel)
theorem tY(b:Txt K mg ca):Rc ⟨K,ca,tx K⟩ P w mg base 1 "shown_in_time" ["tie", "shown"] we:=
 Rc.hide (Rc.Za (Ki b.we FU λ_ _ _ _ _ _ _ a=>
  (ic (Ve (fj (mo (BF (Vg a)) gL (me pe (ke rfl) (ka 0) xb (λ_ _=>rfl)) (ka 1) rfl) (dq (mo mB GB (mG (Vg a) (ka 1) (me pe (ke rfl) (ka 0) xb (λ_ _=>rfl)) (λ_ _=>rfl)) (me pe (ke rfl) (ka 0) xb (λ_ _=>rfl)) (Yg _))))))))
noncomputable abbrev zlo:Stmt:=top 41
noncomputable def qT:Ev->M Fl:=
 (Kb (Jg (eT (ae 2 we [] (za (ga 0) (za (ga 2) Na)))) (Ke (ae 1 Ad [] (za (Qa Qb (ga 0) (eC (.int 0))) Na))) gh) (Kb (Jg (eT (Qa Gy (ga 1) (Qa Qb (ga 0) (eC (.int 3))))) (Ke (Qa Qb (ga 0) (eC (.int 0)))) gh) (Ke (eC .Jb))))
noncomputable def Og:List D->M D:=hide λa=>Za (run 3 qT a)
theorem UW:xa ["tie", "day", "shown"] ["tie", "day", "shown"] (vc zlo):=Le rfl rfl rfl (by decide +kernel)
theorem GY(a:Txt K mg ca):Rc ⟨K,ca,tx K⟩ P w mg base 2 "side_due" ["tie", "day", "shown"] Og:=
 Rc.hide (Rc.Za (Ki a.Og UW λ_ _ _ _ _ _ _ b=>
  (ec (lh (Qk (Qe (tY a) rfl (b.mono (by decide)) rfl (Ca (ka 0) (Ca (ka 2) qb)))) (ic (Ve (Qe (uD a) rfl (b.mono (by decide)) rfl (Ca (me pe (ke rfl) (ka 0) xb (λ_ _=>rfl)) qb)))) uh)
  (ec (lh (si oG nF (ka 1) (me pe (ke rfl) (ka 0) xb (λ_ _=>rfl)) (Yg _)) (ic (Ve (me pe (ke rfl) (ka 0) xb (λ_ _=>rfl)))) uh)
  (ic (Ve nw))))))
noncomputable abbrev Q3:Stmt:=top 35
noncomputable def RO:Ev->M Fl:=
 (Kb (Jg (eT (Qa oEq (ga 1) (eC (.int 0)))) (Ke (Li (za (Qa ki (Qa Qb (ga 0) (eC (.int 0))) (ga 2)) (za (Qa Qb (ga 0) (eC (.int 1))) Na)))) gh) (Ke (Li (za (Qa Qb (ga 0) (eC (.int 0))) (za (Qa ki (Qa Qb (ga 0) (eC (.int 1))) (ga 2)) Na)))))
noncomputable def Jf:List D->M D:=hide λa=>Za (run 3 RO a)
theorem zho:xa ["shares", "side", "amount"] ["shares", "side", "amount"] (vc Q3):=Le rfl rfl rfl (by decide +kernel)
theorem lN(a:Txt K mg ca):Rc ⟨K,ca,tx K⟩ P w mg base 1 "with_more" ["shares", "side", "amount"] Jf:=
 Rc.hide (Rc.Za (Ki a.Jf zho λ_ _ _ _ _ _ _ b=>
  (ec (lh (si (Vk (Vg b)) jg (ka 1) xb (Yg _)) (ic (Ve (tj (Ca (ef (Ik rfl) jg (me pe (ke rfl) (ka 0) xb (λ_ _=>rfl)) (ka 2)) (Ca (me pe (ke rfl) (ka 0) xb (λ_ _=>rfl)) qb))))) uh)
  (ic (Ve (tj (Ca (me pe (ke rfl) (ka 0) xb (λ_ _=>rfl)) (Ca (ef (Ik rfl) jg (me pe (ke rfl) (ka 0) xb (λ_ _=>rfl)) (ka 2)) qb))))))))
noncomputable abbrev D6:Stmt:=ze (top 44) 3
noncomputable abbrev SN:Ev->M Fl:=(Kb (jh 5 (ae 3 Og [] (za (ga 4) (za (ga 1) (za (ga 2) Na))))) (Jg (eT (Qa wx (ga 5) (eC .Jb))) (jh 3 (ae 3 Jf [] (za (ga 3) (za (ga 5) (za (Qa Qb (ga 4) (eC (.int 1))) Na))))) gh))
noncomputable def DS:Ev->M Fl:=
 (Kb (Jg (eT (Od [(7,Cd)] 2 "waits" (ga 0) (za (ga 1) Na))) (Ke (Li (za (eC (.int 0)) (za (eC (.int 0)) (za (Vc (gc [5,6,7,8] "whole") (ga 0)) Na))))) gh) (Kb (jh 3 (Qa Qb (Vc (gc [7] "stand") (ga 0)) (eC (.int 1)))) (Kb (Mr (Dk (Qa Qb (Vc (gc [7] "stand") (ga 0)) (eC (.int 2)))) (Zd 4) SN) (Ke (Li (za (Qa Qb (ga 3) (eC (.int 0))) (za (Qa Qb (ga 3) (eC (.int 1))) (za (Qa Bq (Vc (gc [5,6,7,8] "whole") (ga 0)) (rl yx (za (ga 3) Na))) Na))))))))
noncomputable def zd:List D->M D:=hide λa=>Za (run 6 DS a)
theorem yD:xa ["self", "day", "shown", "due", "tie", "side"] ["self", "day", "shown"] (vc D6):=Le rfl rfl rfl (by decide +kernel)
theorem ze3(a:Txt K mg ca):Pc ⟨K,ca,tx K⟩ P w mg base 3 (ca 24) ["self", "day", "shown"] zd:=
 Pc.hide (Pc.Za (ji a.zd yD λ_ _ _ _ _ _ b=>
  (ec (lh (Qk (Hh (k:=1) (ps:=["self", "day"]) rfl (ka 0) (ES a) (b.mono (by decide)) (Ca (ka 1) qb))) (ic (Ve (tj (Ca xb (Ca xb (Ca (Ze rfl (qC a) (ka 0)) qb)))))) uh)
  (ec (Kh (i:=3) yD.nd rfl (Or.inl rfl) (me pe (ke rfl) (Ze rfl (hD a) (ka 0)) xb (λ_ _=>rfl)))
  (ec (Bt Dn rfl (ar rfl (me pe (ke rfl) (Ze rfl (hD a) (ka 0)) xb (λ_ _=>rfl))) (mi (i:=4) yD.nd rfl (Or.inl rfl)) (ec (Kh (i:=5) yD.nd rfl (Or.inl rfl) (Qe (GY a) rfl (b.mono (by decide)) rfl (Ca (ka 4) (Ca (ka 1) (Ca (ka 2) qb)))))
  (ic (lh (si KG rE (ka 5) nw (Yg _)) (ic (Kh (i:=3) yD.nd rfl (Or.inl rfl) (Qe (lN a) rfl (b.mono (by decide)) rfl (Ca (ka 3) (Ca (ka 5) (Ca (me pe (ke rfl) (ka 4) xb (λ_ _=>rfl)) qb)))))) uh))))
  (ic (Ve (tj (Ca (me pe (ke rfl) (ka 3) xb (λ_ _=>rfl)) (Ca (me pe (ke rfl) (ka 3) xb (λ_ _=>rfl)) (Ca (ef vt jt (Ze rfl (qC a) (ka 0)) (xr (bJ rfl) (aJ rfl) rfl a.Nv NL (Ca (ka 3) qb))) qb)))))))))))
noncomputable abbrev G1:Stmt:=ze (top 45) 2
noncomputable def MP:Ev->M Fl:=
 (Kb (jh 3 (ae 3 Jf [] (za (Li (za (eC (.int 0)) (za (eC (.int 0)) Na))) (za (Vc (gc [7,8,10,11,12,13] "side") (ga 0)) (za (Vc (gc [5,6,7,8] "whole") (ga 0)) Na))))) (Ke (Li (za (Qa Qb (ga 3) (eC (.int 0))) (za (Qa Qb (ga 3) (eC (.int 1))) (za (eC (.int 0)) Na))))))
noncomputable def Qc:List D->M D:=hide λa=>Za (run 4 MP a)
theorem mR:xa ["self", "day", "shown", "shares"] ["self", "day", "shown"] (vc G1):=Le rfl rfl rfl (by decide +kernel)
theorem HW(a:Txt K mg ca):Pc ⟨K,ca,tx K⟩ P w mg base 2 (ca 28) ["self", "day", "shown"] Qc:=
 Pc.hide (Pc.Za (ji a.Qc mR λ_ _ _ _ _ _ b=>
  (ec (Kh (i:=3) mR.nd rfl (Or.inl rfl) (Qe (lN a) rfl (b.mono (by decide)) rfl (Ca (tj (Ca xb (Ca xb qb))) (Ca (Ze rfl (Px a) (ka 0)) (Ca (Ze rfl (qC a) (ka 0)) qb)))))
  (ic (Ve (tj (Ca (me pe (ke rfl) (ka 3) xb (λ_ _=>rfl)) (Ca (me pe (ke rfl) (ka 3) xb (λ_ _=>rfl)) (Ca xb qb)))))))))
theorem V5(a:Txt K mg ca):bj ⟨K,ca,tx K⟩ P w mg base 3 "comes" ["self", "day", "shown"] [(6,yd),(7,zd),(8,Qc)]:=(Wi (T:=⟨K,ca,tx K⟩) (c:=6) a.Cp a.wo (U2 a) (by decide) (Wi (T:=⟨K,ca,tx K⟩) (c:=7) a.xh a.uo (ze3 a) (by decide) (Wi (T:=⟨K,ca,tx K⟩) (c:=8) a.Ek a.Fn (HW a) (by decide) vj)))
noncomputable abbrev PZ:Stmt:=ze (top 54) 10
noncomputable def HQ:Ev->M Fl:=
 (Kb (wj (Od [(9,vb)] 2 "check_pot" (ga 0) (za (ga 1) Na))) (Ke (Od [(6,yd),(7,zd),(8,Qc)] 3 "comes" (Qa Qb (Vc (gc [9,15] "claims") (ga 0)) (ga 1)) (za (Vc (gc [7,9] "day") (ga 0)) (za (Qa Qb (Vc (gc [9] "shown") (ga 0)) (ga 1)) Na)))))
noncomputable def Sa:List D->M D:=hide λa=>Za (run 2 HQ a)
theorem i4:xa ["self", "pot"] ["self", "pot"] (vc PZ):=Le rfl rfl rfl (by decide +kernel)
theorem oV(a:Txt K mg ca):Pc ⟨K,ca,tx K⟩ P w mg base 4 (ca 40) ["self", "pot"] Sa:=
 Pc.hide (Pc.Za (ji a.Sa i4 λ_ _ _ _ _ _ b=>
  (ec (ql (Hh (k:=3) (ps:=["self", "pot"]) rfl (ka 0) (UA a) (b.mono (by decide)) (Ca (ka 1) qb)))
  (ic (Ve (Hh (k:=3) (ps:=["self", "day", "shown"]) rfl (me pe (ke rfl) (Ze rfl (Ru a) (ka 0)) (ka 1) (λ_ _=>rfl)) (V5 a) (b.mono (by decide)) (Ca (Ze rfl (qw a) (ka 0)) (Ca (me pe (ke rfl) (Ze rfl (AB a) (ka 0)) (ka 1) (λ_ _=>rfl)) qb))))))))
theorem YD(a:Txt K mg ca):bj ⟨K,ca,tx K⟩ P w mg base 4 "due_of" ["self", "pot"] [(9,Sa)]:=(Wi (T:=⟨K,ca,tx K⟩) (c:=9) a.Ce a.rn (oV a) (by decide) vj)
noncomputable abbrev TW:Stmt:=top 104
noncomputable abbrev hG:Ev->M Fl:=(Jg (rB (eT (Qa Cy (ga 9) (ga 4))) (eT (Qa oLt (Qa Wv (ga 4) (ga 9)) (ga 10)))) (sx (Qa ki (Qa Qb (ga 6) (Qa Bq (eC (.int 1)) (ga 7))) (ga 8)) (ga 6) (Qa Bq (eC (.int 1)) (ga 7))) (Jg (eT (Qa Gy (ga 5) (ga 10))) (sx (Qa ki (Qa Qb (ga 6) (ga 7)) (ga 8)) (ga 6) (ga 7)) (sx (Qa ki (Qa Qb (ga 6) (eC (.int 2))) (ga 8)) (ga 6) (eC (.int 2)))))
noncomputable def cP:Ev->M Fl:=
 (Kb (Jg (eT (Qa oLt (ga 5) (Qa ki (ga 2) (ga 3)))) (Ke (Li (za (eC (.int 0)) (za (eC (.int 0)) (za (ga 1) Na))))) gh) (Kb (jh 6 (Tz (za (Qa Qb (Qa Qb (ga 0) (eC (.int 1))) (eC (.int 0))) (za (Qa Qb (Qa Qb (ga 0) (eC (.int 1))) (eC (.int 1))) (za (eC (.int 0)) Na))))) (Kb (Mr (Dk (Qa Qb (ga 0) (eC (.int 2)))) (Bn 4 (Ah (Zd 7) (Ah (Zd 8) (Ah (Zd 9) (Ah (Zd 10) io))))) hG) (Ke (rl dG (za (ga 6) Na))))))
noncomputable def Hf:List D->M D:=hide λa=>Za (run 11 cP a)
theorem MA:xa ["_law_one", "_law_coin", "_law_begun", "_law_wait", "_law_shown", "_law_today", "_law_dues", "_law_payer", "_law_amount", "_law_word", "_law_day"] ["_law_one", "_law_coin", "_law_begun", "_law_wait", "_law_shown", "_law_today"] (vc TW):=Le rfl rfl rfl (by decide +kernel)
theorem NS(a:Txt K mg ca):Rc ⟨K,ca,tx K⟩ P w mg base 1 "_law_due" ["_law_one", "_law_coin", "_law_begun", "_law_wait", "_law_shown", "_law_today"] Hf:=
 Rc.hide (Rc.Za (Ki a.Hf MA λ_ _ _ _ _ _ _ b=>
  (ec (lh (si mB GB (ka 5) (ef (Ik rfl) jg (ka 2) (ka 3)) (Yg _)) (ic (Ve (tj (Ca xb (Ca xb (Ca (ka 1) qb)))))) uh)
  (ec (Kh (i:=6) MA.nd rfl (Or.inl rfl) (wD (Ca (me pe (ke rfl) (me pe (ke rfl) (ka 0) xb (λ_ _=>rfl)) xb (λ_ _=>rfl)) (Ca (me pe (ke rfl) (me pe (ke rfl) (ka 0) xb (λ_ _=>rfl)) xb (λ_ _=>rfl)) (Ca xb qb)))))
  (ec (Bt Dn rfl (ar rfl (me pe (ke rfl) (ka 0) xb (λ_ _=>rfl))) (Qw rfl (lp (mi (i:=7) MA.nd rfl (Or.inl rfl)) (lp (mi (i:=8) MA.nd rfl (Or.inl rfl)) (lp (mi (i:=9) MA.nd rfl (Or.inl rfl)) (lp (mi (i:=10) MA.nd rfl (Or.inl rfl)) Ex))))) (ic (lh (L2.PW.pt (wG (si (BF (Vg b)) gL (ka 9) (ka 4) rfl) (UF (si mB GB (mG (Vg b) (ka 4) (ka 9) (λ_ _=>rfl)) (ka 10) (Yg _))))) (ic (jD (ef (Ik rfl) jg (me pe (ke rfl) (ka 6) (ef vt jt xb (ka 7)) (λ_ _=>rfl)) (ka 8)) (ka 6) (ef vt jt xb (ka 7)))) (ic (lh (si oG nF (ka 5) (ka 10) (Yg _)) (ic (jD (ef (Ik rfl) jg (me pe (ke rfl) (ka 6) (ka 7) (λ_ _=>rfl)) (ka 8)) (ka 6) (ka 7))) (ic (jD (ef (Ik rfl) jg (me pe (ke rfl) (ka 6) xb (λ_ _=>rfl)) (ka 8)) (ka 6) xb)))))))
  (ic (Ve (wB XX (zp7 rfl) rfl a.Ei Ji (Ca (ka 6) qb)))))))))
noncomputable abbrev E4:Stmt:=ze (top 54) 4
noncomputable def gQ:Ev->M Fl:=
 (Kb (wj (Od [(9,vb)] 2 "check_pot" (ga 0) (za (ga 1) Na))) (Kb (Jg (Il (eT (ae 1 Sg [] (za (ga 2) Na)))) Zl gh) (Jg (eT (Qa mv (ga 2) (Qa Qb (Vc (gc [9] "shown") (ga 0)) (ga 1)))) (Ov (Vc (gc [7,9] "day") (ga 0)) (Qa Qb (Vc (gc [9] "shown") (ga 0)) (ga 1)) (ga 2)) gh)))
noncomputable def bf:List D->M D:=hide (run 3 gQ)
theorem V4:xa ["self", "pot", "word"] ["self", "pot", "word"] (vc E4):=Le rfl rfl rfl (by decide +kernel)
theorem wU(a:Txt K mg ca):Pc ⟨K,ca,tx K⟩ P w mg base 4 (ca 34) ["self", "pot", "word"] bf:=
 Pc.hide (ji a.bf V4 λ_ _ _ _ _ _ b=>
  (ec (ql (Hh (k:=3) (ps:=["self", "pot"]) rfl (ka 0) (UA a) (b.mono (by decide)) (Ca (ka 1) qb)))
  (ec (lh (Dm (Qk (Qe (cO a) rfl (b.mono (by decide)) rfl (Ca (ka 2) qb)))) jo uh)
  (ic (lh (si (iL (Vg b)) cJ (ka 2) (me pe (ke rfl) (Ze rfl (AB a) (ka 0)) (ka 1) (λ_ _=>rfl)) rfl) (ic (lx (Vg b) (Ze rfl (qw a) (ka 0)) (me pe (ke rfl) (Ze rfl (AB a) (ka 0)) (ka 1) (λ_ _=>rfl)) (ka 2))) uh)))))
theorem hY(a:Txt K mg ca):bj ⟨K,ca,tx K⟩ P w mg base 4 "show" ["self", "pot", "word"] [(9,bf)]:=(Wi (T:=⟨K,ca,tx K⟩) (c:=9) a.Ce a.lq (wU a) (by decide) vj)
noncomputable abbrev dY:Stmt:=ze (top 99) 18
noncomputable def BS:Ev->M Fl:=
 (Kb (Jg (Il (eT (Od [(16,wb)] 2 "band_can" (ga 0) (za (Li (za (eC (.str "word")) (za (ga 2) Na))) Na)))) Zl gh) (wj (Od [(9,bf)] 3 "show" (Vc (gc [16] "public") (ga 0)) (za (ga 1) (za (ga 2) Na)))))
noncomputable def af:List D->M D:=hide (run 3 BS)
theorem A2:xa ["self", "P", "W"] ["self", "P", "W"] (vc dY):=Le rfl rfl rfl (by decide +kernel)
theorem W0(a:Txt K mg ca):Pc ⟨K,ca,tx K⟩ P w mg base 6 (ca 97) ["self", "P", "W"] af:=
 Pc.hide (ji a.af A2 λ_ _ _ _ _ _ b=>
  (ec (lh (Dm (Qk (Hh (k:=5) (ps:=["self", "thing"]) rfl (ka 0) (xL a) (b.mono (by decide)) (Ca (tj (Ca ap (Ca (ka 2) qb))) qb)))) jo uh)
  (ic (ql (Hh (k:=4) (ps:=["self", "pot", "word"]) rfl (Ze rfl (Ou a) (ka 0)) (hY a) (b.mono (by decide)) (Ca (ka 1) (Ca (ka 2) qb)))))))
theorem oZ(a:Txt K mg ca):bj ⟨K,ca,tx K⟩ P w mg base 6 "show" ["self", "P", "W"] [(16,af)]:=(Wi (T:=⟨K,ca,tx K⟩) (c:=16) a.Pe a.Np (W0 a) (by decide) vj)
noncomputable abbrev BX:Stmt:=ze (top 54) 11
noncomputable abbrev kD:Ev->M Fl:=(Jg (eT (Qa oEq (Qa Qb (ga 4) (ga 5)) (ga 1))) (IB (λa b=>a+b) 2 (Qa Qb (Od [(9,Sa)] 2 "due_of" (ga 0) (za (ga 3) Na)) (ga 5))) gh)
noncomputable abbrev WG:Ev->M Fl:=(Mr (Dk (Li (za (eC (.int 0)) (za (eC (.int 1)) Na)))) (Zd 5) kD)
noncomputable def vN:Ev->M Fl:=
 (Kb (Jg (Il (eT (ae 1 ng [] (za (ga 1) Na)))) Zl gh) (Kb (jh 2 (eC (.int 0))) (Kb (fr (cC (Vc (gc [9,14,16] "pots") (ga 0))) (Bn 2 (Ah (Zd 3) (Ah (Zd 4) io))) WG) (Ke (ga 2)))))
noncomputable def Md:List D->M D:=hide λa=>Za (run 6 vN a)
theorem lB:xa ["self", "hand", "coin", "pot", "made", "side"] ["self", "hand"] (vc BX):=Le rfl rfl rfl (by decide +kernel)
theorem zcp(a:Txt K mg ca):Pc ⟨K,ca,tx K⟩ P w mg base 5 (ca 41) ["self", "hand"] Md:=
 Pc.hide (Pc.Za (ji a.Md lB λ_ _ _ _ _ _ b=>
  (ec (lh (Dm (Qk (Qe (uL a) rfl (b.mono (by decide)) rfl (Ca (ka 1) qb)))) jo uh)
  (ec (Kh (i:=2) lB.nd rfl (Or.inl rfl) xb)
  (ec (Xw Dn rfl (ZK rfl a.kj (Ze rfl (su a) (ka 0))) (Qw rfl (lp (mi (i:=3) lB.nd rfl (Or.inl rfl)) (lp (mi (i:=4) lB.nd rfl (Or.inl rfl)) Ex))) (ic (Bt Dn rfl (ar rfl (tj (Ca xb (Ca xb qb)))) (mi (i:=5) lB.nd rfl (Or.inl rfl)) (ic (lh (si (Vk (Vg b)) jg (me pe (ke rfl) (ka 4) (ka 5) (λ_ _=>rfl)) (ka 1) (Yg _)) (ic (G5 (i:=2) CZ lB.nd rfl (Or.inl rfl) (me pe (ke rfl) (Hh (k:=4) (ps:=["self", "pot"]) rfl (ka 0) (YD a) (b.mono (by decide)) (Ca (ka 3) qb)) (ka 5) (λ_ _=>rfl)))) uh)))))
  (ic (Ve (ka 2))))))))
theorem zgm(a:Txt K mg ca):bj ⟨K,ca,tx K⟩ P w mg base 5 "coin_of" ["self", "hand"] [(9,Md)]:=(Wi (T:=⟨K,ca,tx K⟩) (c:=9) a.Ce a.Wl (zcp a) (by decide) vj)
noncomputable abbrev zi3:Stmt:=ze (top 99) 4
noncomputable def kN:Ev->M Fl:=
 (Ke (Od [(9,Md)] 2 "coin_of" (Vc (gc [16] "public") (ga 0)) (za (ga 1) Na)))
noncomputable def jd:List D->M D:=hide λa=>Za (run 2 kN a)
theorem Y1:xa ["self", "hand"] ["self", "hand"] (vc zi3):=Le rfl rfl rfl (by decide +kernel)
theorem zgr(a:Txt K mg ca):Pc ⟨K,ca,tx K⟩ P w mg base 6 (ca 83) ["self", "hand"] jd:=
 Pc.hide (Pc.Za (ji a.jd Y1 λ_ _ _ _ _ _ b=>
  (ic (Ve (Hh (k:=5) (ps:=["self", "hand"]) rfl (Ze rfl (Ou a) (ka 0)) (zgm a) (b.mono (by decide)) (Ca (ka 1) qb))))))
theorem wF(a:Txt K mg ca):bj ⟨K,ca,tx K⟩ P w mg base 6 "coin" ["self", "hand"] [(16,jd)]:=(Wi (T:=⟨K,ca,tx K⟩) (c:=16) a.Pe a.Qp (zgr a) (by decide) vj)
noncomputable abbrev zi7:Stmt:=top 105
noncomputable abbrev v1:Ev->M Fl:=(jh 9 (Od [(9,Ab)] 1 "today" (Od [(16,Pa)] 1 "book" (ga 0) Na) Na))
noncomputable abbrev v2:Ev->M Fl:=(Jg (eT (Qa iq (Od [(9,Sa)] 2 "due_of" (Od [(16,Pa)] 1 "book" (ga 0) Na) (za (eC (.int 0)) Na)) (ae 6 Hf [] (za (ga 1) (za (ga 2) (za (ga 5) (za (ga 3) (za (ga 6) (za (ga 9) Na))))))))) (Ke (eC (.bl false))) gh)
noncomputable abbrev v3:Ev->M Fl:=(jh 10 (Qa rs (ae 2 Wb [] (za (ga 4) (za (Qa ki (eC (.int 6)) (Qa zo (ga 8) (eC (.int 6)))) Na))) (Qa ki (eC (.int 1)) (Qa rs (ga 8) (eC (.int 6))))))
noncomputable abbrev v4:Ev->M Fl:=(Jg (eT (Qa oEq (Qa zo (ga 10) (eC (.int 5))) (eC (.int 0)))) (Kb (Jg (eT (Qa wx (Od [(16,af)] 3 "show" (ga 0) (za (eC (.int 0)) (za (Qa zo (Qa rs (ga 10) (eC (.int 5))) (eC (.int 10))) Na))) (eC .Jb))) (Ke (eC (.bl false))) gh) (wj (kA YC (ga 6) (za (Qa zo (Qa rs (ga 10) (eC (.int 5))) (eC (.int 10))) (za (ga 9) Na))))) gh)
noncomputable abbrev v5:Ev->M Fl:=(wj (Od [(16,Vb)] 1 "next_day" (ga 0) Na))
noncomputable abbrev BC:Ev->M Fl:=(Kb v1 (Kb v2 (Kb v3 (Kb v4 v5))))
noncomputable abbrev w1:Ev->M Fl:=(jh 5 (Od [(9,Ab)] 1 "today" (Od [(16,Pa)] 1 "book" (ga 0) Na) Na))
noncomputable abbrev w2:Ev->M Fl:=(jh 6 Nr)
noncomputable abbrev w3:Ev->M Fl:=(jh 7 (Qa zo (ae 2 Wb [] (za (ga 4) (za (eC (.int 5)) Na))) (eC (.int 70))))
noncomputable abbrev w4:Ev->M Fl:=(Mr (tz (ga 7)) (Zd 8) BC)
noncomputable abbrev w5:Ev->M Fl:=(jh 11 (ae 6 Hf [] (za (ga 1) (za (ga 2) (za (ga 5) (za (ga 3) (za (ga 6) (za (Od [(9,Ab)] 1 "today" (Od [(16,Pa)] 1 "book" (ga 0) Na) Na) Na))))))))
noncomputable abbrev w6:Ev->M Fl:=(Ke (Mi (Qa oEq (Od [(9,Sa)] 2 "due_of" (Od [(16,Pa)] 1 "book" (ga 0) Na) (za (eC (.int 0)) Na)) (ga 11)) (Qa oEq (Li (za (Od [(16,jd)] 2 "coin" (ga 0) (za (eC (.int 0)) Na)) (za (Od [(16,jd)] 2 "coin" (ga 0) (za (eC (.int 1)) Na)) Na))) (gH (ga 11) none (some (eC (.int 2)))))))
noncomputable def SS:Ev->M Fl:=
 (Kb w1 (Kb w2 (Kb w3 (Kb w4 (Kb w5 w6)))))
noncomputable def qg:List D->M D:=hide (run 12 SS)
theorem Dy:xa ["_law_hall", "_law_one", "_law_coin", "_law_wait", "_law_script", "_law_begun", "_law_shown", "_law_many", "_law_k", "_law_today", "_law_cell", "_law_dues"] ["_law_hall", "_law_one", "_law_coin", "_law_wait", "_law_script"] (vc zi7):=Le rfl rfl rfl (by decide +kernel)
theorem EU(b:Txt K mg ca):Rc ⟨K,ca,tx K⟩ P w mg base 7 "_law_days" ["_law_hall", "_law_one", "_law_coin", "_law_wait", "_law_script"] qg:=
 Rc.hide (Ki b.qg Dy λ_ _ _ _ _ _ _ a=>
  (ec (Kh (i:=5) Dy.nd rfl (Or.inl rfl) (kl (k:=1) (ps:=["self"]) rfl (kl (k:=1) (ps:=["self"]) rfl (ka 0) (Uv b) (a.mono (by decide))) (Lz b) (a.mono (by decide))))
  (ec (Kh (i:=6) Dy.nd rfl (Or.inl rfl) fv)
  (ec (Kh (i:=7) Dy.nd rfl (Or.inl rfl) (ef Aq yq (Qe (Wz b) rfl (a.mono (by decide)) rfl (Ca (ka 4) (Ca xb qb))) xb))
  (ec (Bt Dn rfl (KF rfl b.Jm (ka 7)) (mi (i:=8) Dy.nd rfl (Or.inl rfl)) (ec (Kh (i:=9) Dy.nd rfl (Or.inl rfl) (kl (k:=1) (ps:=["self"]) rfl (kl (k:=1) (ps:=["self"]) rfl (ka 0) (Uv b) (a.mono (by decide))) (Lz b) (a.mono (by decide))))
  (ec (lh (si (Zz (Vg a)) jg (Hh (k:=4) (ps:=["self", "pot"]) rfl (kl (k:=1) (ps:=["self"]) rfl (ka 0) (Uv b) (a.mono (by decide))) (YD b) (a.mono (by decide)) (Ca xb qb)) (Qe (NS b) rfl (a.mono (by decide)) rfl (Ca (ka 1) (Ca (ka 2) (Ca (ka 5) (Ca (ka 3) (Ca (ka 6) (Ca (ka 9) qb))))))) (Yg _)) (ic (Ve Pt)) uh)
  (ec (Kh (i:=10) Dy.nd rfl (Or.inl rfl) (ef Ju Pu (Qe (Wz b) rfl (a.mono (by decide)) rfl (Ca (ka 4) (Ca (ef (Ik rfl) jg xb (ef Aq yq (ka 8) xb)) qb))) (ef (Ik rfl) jg xb (ef Ju Pu (ka 8) xb))))
  (ec (lh (si (Vk (Vg a)) jg (ef Aq yq (ka 10) xb) xb (Yg _)) (ec (lh (si KG rE (Hh (k:=6) (ps:=["self", "P", "W"]) rfl (ka 0) (oZ b) (a.mono (by decide)) (Ca xb (Ca (ef Aq yq (ef Ju Pu (ka 10) xb) xb) qb))) nw (Yg _)) (ic (Ve Pt)) uh)
  (ic (ql (DM wg zm PySem.F.type_dict_setdefault h9 zl1 (ka 6) (Ca (ef Aq yq (ef Ju Pu (ka 10) xb) xb) (Ca (ka 9) qb)))))) uh)
  (ic (ql (kl (k:=6) (ps:=["self"]) rfl (ka 0) (kP b) (a.mono (by decide))))))))))
  (ec (Kh (i:=11) Dy.nd rfl (Or.inl rfl) (Qe (NS b) rfl (a.mono (by decide)) rfl (Ca (ka 1) (Ca (ka 2) (Ca (ka 5) (Ca (ka 3) (Ca (ka 6) (Ca (kl (k:=1) (ps:=["self"]) rfl (kl (k:=1) (ps:=["self"]) rfl (ka 0) (Uv b) (a.mono (by decide))) (Lz b) (a.mono (by decide))) qb))))))))
  (ic (Ve (fj (mo (Vk (Vg a)) jg (Hh (k:=4) (ps:=["self", "pot"]) rfl (kl (k:=1) (ps:=["self"]) rfl (ka 0) (Uv b) (a.mono (by decide))) (YD b) (a.mono (by decide)) (Ca xb qb)) (ka 11) (Yg _)) (dq (mo (Vk (Vg a)) jg (tj (Ca (Hh (k:=6) (ps:=["self", "hand"]) rfl (ka 0) (wF b) (a.mono (by decide)) (Ca xb qb)) (Ca (Hh (k:=6) (ps:=["self", "hand"]) rfl (ka 0) (wF b) (a.mono (by decide)) (Ca xb qb)) qb))) (PQ rfl (ka 11) HM (oR xb)) (Yg _))))))))))))
noncomputable abbrev W1:Stmt:=top 106
noncomputable abbrev RC:Ev->M Fl:=(Ov (Qa zo (ga 5) (eC (.int 2))) (ga 4) (ga 5))
noncomputable abbrev rG:Ev->M Fl:=(wj (Od [(16,Vb)] 1 "next_day" (ga 6) Na))
noncomputable abbrev u1:Ev->M Fl:=(jh 1 (ae 2 Wb [] (za (ga 0) (za (eC (.int 0)) Na))))
noncomputable abbrev u2:Ev->M Fl:=(jh 2 (Qa ki (eC (.int 2)) (Qa zo (ga 1) (eC (.int 29)))))
noncomputable abbrev u3:Ev->M Fl:=(jh 3 (Li (za (Qa zo (ae 2 Wb [] (za (ga 0) (za (eC (.int 1)) Na))) (Qa ki (Qa Fu (eC (.int 10)) (eC (.int 12))) (eC (.int 1)))) (za (Qa zo (ae 2 Wb [] (za (ga 0) (za (eC (.int 2)) Na))) (Qa ki (Qa Fu (eC (.int 10)) (eC (.int 12))) (eC (.int 1)))) Na))))
noncomputable abbrev u4:Ev->M Fl:=(jh 4 Nr)
noncomputable abbrev u5:Ev->M Fl:=(Mr (tz (eC (.int 10))) (Zd 5) RC)
noncomputable abbrev u6:Ev->M Fl:=(jh 6 (As 16 5 Wq (qz [] (za (sy (za (Qa ki (Qa ki (Li (za (eC (.int 0)) (za (eC (.int 1)) Na))) (ga 3)) (Li (za (ga 2) Na))) (za (Li (za (eC (.int 1)) (za (eC (.int 2)) (za (eC (.int 5)) (za (eC (.int 5)) (za (eC (.int 40)) Na)))))) Na))) (za (sy (za (eC (.int 2)) Na)) (za (eC (.int 20)) (za (ga 4) Na)))))))
noncomputable abbrev u7:Ev->M Fl:=(Mr (tz (Qa zo (Qa rs (ga 1) (eC (.int 29))) (eC (.int 5)))) (Zd 7) rG)
noncomputable abbrev u8:Ev->M Fl:=(jh 8 (Qa zo (Qa rs (ga 1) (eC (.int 145))) (eC (.int 2))))
noncomputable abbrev u9:Ev->M Fl:=(jh 9 (Qa ki (Qa Qb (ga 3) (eC (.int 0))) (Qa Qb (ga 3) (eC (.int 1)))))
noncomputable abbrev UJ:Ev->M Fl:=(jh 10 (ae 2 Qf [] (za (ga 9) (za (ga 0) Na))))
noncomputable abbrev RH:Ev->M Fl:=(jh 11 (Od [(9,Ab)] 1 "today" (Od [(16,Pa)] 1 "book" (ga 6) Na) Na))
noncomputable abbrev dL:Ev->M Fl:=(Jg (Fv (eT (Qa wx (Od [(16,kf)] 4 "lay" (ga 6) (za (eC (.int 0)) (za (ga 8) (za (ga 10) Na)))) (eC .Jb))) (eT (Qa iq (Od [(9,rb)] 2 "told" (Od [(16,Pa)] 1 "book" (ga 6) Na) (za (eC (.int 0)) Na)) (Li (za (eC (.str "laid")) (za (ga 8) (za (ga 10) (za (ga 11) Na)))))))) (Ke (eC (.bl false))) gh)
noncomputable abbrev SH:Ev->M Fl:=(Jg (Fv (Il (eT (ae 2 Ac [] (za (ga 6) (za (ga 8) Na))))) (Il (eT (ae 5 qg [] (za (ga 6) (za (ga 10) (za (ga 9) (za (ga 2) (za (ga 0) Na))))))))) (Ke (eC (.bl false))) gh)
noncomputable abbrev TH:Ev->M Fl:=(jh 12 (Od [(9,Sa)] 2 "due_of" (Od [(16,Pa)] 1 "book" (ga 6) Na) (za (eC (.int 0)) Na)))
noncomputable abbrev VC:Ev->M Fl:=(Jg (eT (Qa Gy (Od [(9,Ab)] 1 "today" (Od [(16,Pa)] 1 "book" (ga 6) Na) Na) (Qa ki (ga 11) (ga 2)))) (Ke (Mi (ae 2 Ac [] (za (ga 6) (za (Qa Bq (eC (.int 1)) (ga 8)) Na))) (Qa oEq (Od [(9,Sa)] 2 "due_of" (Od [(16,Pa)] 1 "book" (ga 6) Na) (za (eC (.int 0)) Na)) (ga 12)))) gh)
noncomputable abbrev yF:Ev->M Fl:=(Jg (Fv (eT (Qa wx (Od [(16,Pb)] 3 "strike" (ga 6) (za (eC (.int 0)) (za (Qa Bq (eC (.int 1)) (ga 8)) Na))) (eC .Jb))) (eT (Qa iq (Od [(9,rb)] 2 "told" (Od [(16,Pa)] 1 "book" (ga 6) Na) (za (eC (.int 0)) Na)) (Li (za (eC (.str "taken")) (za (Qa Bq (eC (.int 1)) (ga 8)) Na)))))) (Ke (eC (.bl false))) gh)
noncomputable abbrev IF:Ev->M Fl:=(Jg (Fv (Il (eT (ae 2 Ac [] (za (ga 6) (za (Qa Bq (eC (.int 1)) (ga 8)) Na))))) (Il (eT (ae 2 Ac [] (za (ga 6) (za (ga 8) Na)))))) (Ke (eC (.bl false))) gh)
noncomputable abbrev bH:Ev->M Fl:=(Ke (Mi (Qa oEq (Od [(16,jd)] 2 "coin" (ga 6) (za (Qa Bq (eC (.int 1)) (ga 8)) Na)) (ga 9)) (Qa oEq (Od [(16,jd)] 2 "coin" (ga 6) (za (ga 8) Na)) (eC (.int 0)))))
noncomputable def IM:Ev->M Fl:=
 (Kb u1 (Kb u2 (Kb u3 (Kb u4 (Kb u5 (Kb u6 (Kb u7 (Kb u8 (Kb u9 (Kb UJ (Kb RH (Kb dL (Kb SH (Kb TH (Kb VC (Kb yF (Kb IF bH)))))))))))))))))
noncomputable def Gn:List D->M D:=run 13 IM
theorem eu:xa ["_law_script", "_law_cell", "_law_wait", "_law_coins", "_law_words", "_law_word", "_law_hall", "_law_k", "_law_side", "_law_coin", "_law_one", "_law_begun", "_law_dues"] ["_law_script"] (vc W1):=Le rfl rfl rfl (by decide +kernel)
theorem R8(b:Txt K mg ca):CL ⟨K,ca,tx K⟩ P w mg 14 "law" ["_law_script"] Gn:=
 S2 b.Gn eu λ_ _ _ _ _ _ _ _ a=>
  (ec (Kh (i:=1) eu.nd rfl (Or.inl rfl) (Qe (Wz b) rfl (a.mono (by decide)) rfl (Ca (ka 0) (Ca xb qb))))
  (ec (Kh (i:=2) eu.nd rfl (Or.inl rfl) (ef (Ik rfl) jg xb (ef Aq yq (ka 1) xb)))
  (ec (Kh (i:=3) eu.nd rfl (Or.inl rfl) (tj (Ca (ef Aq yq (Qe (Wz b) rfl (a.mono (by decide)) rfl (Ca (ka 0) (Ca xb qb))) (ef (Ik rfl) jg (ef kG OG xb xb) xb)) (Ca (ef Aq yq (Qe (Wz b) rfl (a.mono (by decide)) rfl (Ca (ka 0) (Ca xb qb))) (ef (Ik rfl) jg (ef kG OG xb xb) xb)) qb))))
  (ec (Kh (i:=4) eu.nd rfl (Or.inl rfl) fv)
  (ec (Bt Dn rfl (KF rfl b.Jm xb) (mi (i:=5) eu.nd rfl (Or.inl rfl)) (ic (lx (Vg a) (ef Aq yq (ka 5) xb) (ka 4) (ka 5))))
  (ec (Kh (i:=6) eu.nd rfl (Or.inl rfl) (qP (c:=16) (ps:=["self", "pots", "keeps", "every", "words"]) b.jA b.Fx (x8 b) (.inl rfl) .nil (λ_ _=>Wa.nil) rfl (a.mono (by decide)) rfl (Ca (JA (Ca (ef (Ik rfl) jg (ef (Ik rfl) jg (tj (Ca xb (Ca xb qb))) (ka 3)) (tj (Ca (ka 2) qb))) (Ca (tj (Ca xb (Ca xb (Ca xb (Ca xb (Ca xb qb)))))) qb))) (Ca (JA (Ca xb qb)) (Ca xb (Ca (ka 4) qb))))))
  (ec (Bt Dn rfl (KF rfl b.Jm (ef Aq yq (ef Ju Pu (ka 1) xb) xb)) (mi (i:=7) eu.nd rfl (Or.inl rfl)) (ic (ql (kl (k:=6) (ps:=["self"]) rfl (ka 6) (kP b) (a.mono (by decide))))))
  (ec (Kh (i:=8) eu.nd rfl (Or.inl rfl) (ef Aq yq (ef Ju Pu (ka 1) xb) xb))
  (ec (Kh (i:=9) eu.nd rfl (Or.inl rfl) (ef (Ik rfl) jg (me pe (ke rfl) (ka 3) xb (λ_ _=>rfl)) (me pe (ke rfl) (ka 3) xb (λ_ _=>rfl))))
  (ec (Kh (i:=10) eu.nd rfl (Or.inl rfl) (Qe (K8 b) rfl (a.mono (by decide)) rfl (Ca (ka 9) (Ca (ka 0) qb))))
  (ec (Kh (i:=11) eu.nd rfl (Or.inl rfl) (kl (k:=1) (ps:=["self"]) rfl (kl (k:=1) (ps:=["self"]) rfl (ka 6) (Uv b) (a.mono (by decide))) (Lz b) (a.mono (by decide))))
  (ec (lh (L2.PW.pt (vx (si KG rE (Hh (k:=11) (ps:=["self", "P", "side", "stand"]) rfl (ka 6) (V1 b) (a.mono (by decide)) (Ca xb (Ca (ka 8) (Ca (ka 10) qb)))) nw (Yg _)) (Fy (si (Zz (Vg a)) jg (Hh (k:=4) (ps:=["self", "pot"]) rfl (kl (k:=1) (ps:=["self"]) rfl (ka 6) (Uv b) (a.mono (by decide))) (VF b) (a.mono (by decide)) (Ca xb qb)) (tj (Ca ap (Ca (ka 8) (Ca (ka 10) (Ca (ka 11) qb))))) (Yg _))))) (ic (Ve Pt)) uh)
  (ec (lh (L2.PW.pt (vx (Dm (Qk (Qe (QE b) rfl (a.mono (by decide)) rfl (Ca (ka 6) (Ca (ka 8) qb))))) (Fy (Dm (Qk (Qe (EU b) rfl (a.mono (by decide)) rfl (Ca (ka 6) (Ca (ka 10) (Ca (ka 9) (Ca (ka 2) (Ca (ka 0) qb))))))))))) (ic (Ve Pt)) uh)
  (ec (Kh (i:=12) eu.nd rfl (Or.inl rfl) (Hh (k:=4) (ps:=["self", "pot"]) rfl (kl (k:=1) (ps:=["self"]) rfl (ka 6) (Uv b) (a.mono (by decide))) (YD b) (a.mono (by decide)) (Ca xb qb)))
  (ec (lh (si oG nF (kl (k:=1) (ps:=["self"]) rfl (kl (k:=1) (ps:=["self"]) rfl (ka 6) (Uv b) (a.mono (by decide))) (Lz b) (a.mono (by decide))) (ef (Ik rfl) jg (ka 11) (ka 2)) (Yg _)) (ic (Ve (fj (Qe (QE b) rfl (a.mono (by decide)) rfl (Ca (ka 6) (Ca (ef vt jt xb (ka 8)) qb))) (dq (mo (Vk (Vg a)) jg (Hh (k:=4) (ps:=["self", "pot"]) rfl (kl (k:=1) (ps:=["self"]) rfl (ka 6) (Uv b) (a.mono (by decide))) (YD b) (a.mono (by decide)) (Ca xb qb)) (ka 12) (Yg _)))))) uh)
  (ec (lh (L2.PW.pt (vx (si KG rE (Hh (k:=10) (ps:=["self", "P", "side"]) rfl (ka 6) (pM b) (a.mono (by decide)) (Ca xb (Ca (ef vt jt xb (ka 8)) qb))) nw (Yg _)) (Fy (si (Zz (Vg a)) jg (Hh (k:=4) (ps:=["self", "pot"]) rfl (kl (k:=1) (ps:=["self"]) rfl (ka 6) (Uv b) (a.mono (by decide))) (VF b) (a.mono (by decide)) (Ca xb qb)) (tj (Ca ap (Ca (ef vt jt xb (ka 8)) qb))) (Yg _))))) (ic (Ve Pt)) uh)
  (ec (lh (L2.PW.pt (vx (Dm (Qk (Qe (QE b) rfl (a.mono (by decide)) rfl (Ca (ka 6) (Ca (ef vt jt xb (ka 8)) qb))))) (Fy (Dm (Qk (Qe (QE b) rfl (a.mono (by decide)) rfl (Ca (ka 6) (Ca (ka 8) qb)))))))) (ic (Ve Pt)) uh)
  (ic (Ve (fj (mo (Vk (Vg a)) jg (Hh (k:=6) (ps:=["self", "hand"]) rfl (ka 6) (wF b) (a.mono (by decide)) (Ca (ef vt jt xb (ka 8)) qb)) (ka 9) (Yg _)) (dq (mo (Vk (Vg a)) jg (Hh (k:=6) (ps:=["self", "hand"]) rfl (ka 6) (wF b) (a.mono (by decide)) (Ca (ka 8) qb)) xb (Yg _)))))))))))))))))))))))
end
end K57
namespace K57
open PySem L2 L4
set_option maxHeartbeats 4000000
section
variable{α:Type}{xs:List α}{σ:db}{fi:Ev->M Bool}{fe:Ev->M D}{tg:D->Ev->Option Ev}{nx:NX}{vf:Ev}
theorem jN(O:Option D->Prop)(v a:α->D)(b:α->Option D)(p:α->Bool)(y:α->D)(hn:∀ i j,i<=xs.length->nx i (σ++j)=some ((xs[i]?).map v))(s:∀ x o c,O c->tg (v x) (o::c::vf)=some (some (a x)::b x::vf)/\O (b x))
  (step:∀ x∈xs,∀ j,fi (some (a x)::b x::vf) (σ++j)=.ok (p x) (σ++j)/\(p x=true->fe (some (a x)::b x::vf) (σ++j)=.ok (y x) (σ++j))) (z:xs.length<=1000) :
  ∀ (k i:Nat) (o c:Option D) (ys:List D),O c->xs.length<k+i->i<=xs.length->ys.length<=i->
   xj nx σ.length tg fi fe k i (o::c::vf) (σ++[.lst ys])=.ok () (σ++[.lst (ys++((xs.drop i).filter p).map y)]):=by
 intro k;induction k with
 |zero=>intro i o c ys _ q l;omega
 |succ k m=>
  intro i o c ys r q l A;unfold xj;rw[hn i _ l];cases e:xs[i]? with
  |none=>
   have g:xs.length<=i:=Eb.mp e;rw[Sr g];simp
  |some d=>
   obtain⟨g,h⟩:=ma.mp e;have hd:xs.drop i=d::xs.drop (i+1):=by rw[<-h];exact pq g
   obtain⟨t,u⟩:=step d (by rw[<-h];exact Ym g) [.lst ys];obtain⟨w,n⟩:=s d o c r;simp only[vh,w];rw[Up,zG t,nc];by_cases f:p d=true
   ·rw[f,ia rfl,Up,zG (u f),nc,Up,V3 (by omega),nc,m (i+1) _ _ (ys++[y d]) n (by omega) (by omega) (by simp;omega),hd,Qi,ia f];simp
   ·rw[ja f,m (i+1) _ _ ys n (by omega) (by omega) (by omega),hd,Qi,ja f]
end
theorem Wy{σ:db}{xs:List D}(h:cj xs=true):Eh σ (.ok (.ref σ.length) (σ++[.lst xs]))=.ok (.lst xs) σ:=by
 have:=iQ (σ:=σ) (j:=[]) (j':=[]) h;simpa using this
theorem gR{src:Ev->M Src}{s:Src}{ix:List Nat}{fi:Ev->M Bool}{fe:Ev->M D}{ds:List D}{ρ:Ev}{σ:db}(y:D->D)(p:D->Bool)(f:src ρ σ=.ok s σ)(hn:∀ i j,s.nx i (σ++j)=some ds[i]?)(e:ds.length<=1000)
  (step:∀ d∈ds,∀ j,fi (some d::none::(ix.map λi=>(ρ[i]?).getD none)) (σ++j)=.ok (p d) (σ++j)/\(p d=true->fe (some d::none::(ix.map λi=>(ρ[i]?).getD none)) (σ++j)=.ok (y d) (σ++j))) (c:∀ d∈ds,p d=true->cl (y d)=true) :
  cm (yr (toN src) ix (Zd 0) fi fe) ρ σ=.ok (.lst ((ds.filter p).map y)) σ:=by
 show Eh σ (qd (qd (src ρ) RK) (WF (Zd 0) fi fe (Tv ix ρ)) σ)=_;rw[Up,Up,f,nc];show Eh σ (qd (xj s.nx σ.length (Zd 0) fi fe 1001 0 (none::none::(ix.map λi=>(ρ[i]?).getD none))) _ (σ++[.lst []]))=_;rw[Up,jN (λo=>o=none) (λd=>d) (λd=>d) (λ_=>none) p y (λi j _=>by rw[hn];cases ds[i]?<;>rfl) (λx o k h=>by subst h;exact⟨rfl,rfl⟩) step e 1001 0 none none [] rfl (by omega) (by omega) (by simp),nc];refine Eq.trans (Wf (Eh σ) ?_) (Wy (xs:=(ds.filter p).map y) (GE λd hd=>by obtain⟨x,g,rfl⟩:=Db.mp hd;obtain⟨a,b⟩:=oo.mp g;exact c x a b));simp
theorem ZE{src:Ev->M Src}{s:Src}{ix:List Nat}{fe:Ev->M D}{ds:List D}{ρ:Ev}{σ:db}(y:D->D)(c:src ρ σ=.ok s σ)(hn:∀ i j,s.nx i (σ++j)=some ds[i]?)(b:ds.length<=1000)
  (step:∀ d∈ds,∀ j,fe (some d::none::(ix.map λi=>(ρ[i]?).getD none)) (σ++j)=.ok (y d) (σ++j)) (a:∀ d∈ds,cl (y d)=true) :
  cm (yr (toN src) ix (Zd 0) Vq fe) ρ σ=.ok (.lst (ds.map y)) σ:=by
 have:=gR (p:=λ_=>true) y (ix:=ix) (fi:=Vq) c hn b (λd hd j=>⟨rfl,λ_=>step d hd j⟩) (λd hd _=>a d hd);rw[show List.filter (λ_=>true) ds=ds from List.filter_eq_self.mpr λ_ _=>rfl]at this;exact this
noncomputable def Sc:D->Bool
 | .int _=>true
 | .Jb=>true
 | .bl _=>true
 | .str _=>true
 |_=>false
noncomputable def bd(d:D)(a b:Int):Bool:=match d with
 | .int i=>decide (a<=i) && decide (i<=b)
 |_=>false
theorem rZ(x:qa)(σ:db):vr .int (.str x) σ=.ok (.bl false) σ:=nr rfl
theorem tZ{d:D}(h:Sc d=true)(σ:db):Qg [d] σ=.ok (.bl (match d with | .int _=>true|_=>false)) σ:=by
 unfold Qg DN;cases d with
 |int i=>simp
 |Jb=>simp
 |bl b=>simp
 |str x=>simp[rZ]
 |_=>cases h
theorem rC{d:D}(h:Sc d=true)(a b:Int)(σ:db):kb [d,.int a,.int b] σ=.ok (.bl (bd d a b)) σ:=by
 have w:=λσ=>tZ h σ;unfold kb vR;cases d with
 |int i=>cases c:decide (a<=i)<;>simp[bd,c,w]
 |Jb=>simp[bd,w]
 |bl b=>simp[bd,w]
 |str x=>simp[bd,w]
 |_=>cases h
theorem AI{d:D}(h:Sc d=true)(σ:db):ng [d] σ=.ok (.bl (bd d 0 3)) σ:=by
 have w:=λσ=>rC h 0 3 σ;unfold ng eM;generalize bd d 0 3=b at *;simp[w]
noncomputable def cA(a b:D):Bool:=match a,b with
 | .int i,.int j=>!(i == j)
 |_,_=>true
noncomputable def DE(a b c d e:D):Bool:=bd a 0 3 && (bd b 0 3 && (cA a b && (bd c 0 1000000000000 && (bd d 0 1000000000000 && bd e 1 100))))
theorem pS{d:D}{a b:Int}(h:bd d a b=true):∃ i,d=.int i/\a<=i/\i<=b:=by
 cases d with
 |int i=>simp[bd]at h;exact⟨i,rfl,h.1,h.2⟩
 |_=>simp[bd]at h
theorem MH(a b c d e:D)(r:List D)(σ:db):Qb (.tup (a::b::c::d::e::r)) (.int 4) σ=.ok e σ:=tD (show Lm _ ((4:Nat):Int)=_ from Pw rfl)
theorem pY{a b:D}(c:bd a 0 3=true)(hb:bd b 0 3=true)(σ:db):iq a b σ=.ok (.bl (cA a b)) σ/\oEq a b σ=.ok (.bl (!cA a b)) σ:=by
 obtain⟨i,rfl,_⟩:=pS c;obtain⟨j,rfl,_⟩:=pS hb;simp[cA]
theorem uQ{a b c d e:D}(k:Sc a=true)(hb:Sc b=true)(l:Sc c=true)(hd:Sc d=true)(m:Sc e=true)(σ:db):ud [.tup [a,b,c,d,e]] σ=.ok (.bl (DE a b c d e)) σ:=by
 have f:=λσ=>AI k σ;have g:=λσ=>AI hb σ;have h:=λσ=>rC l 0 1000000000000 σ;have i:=λσ=>rC hd 0 1000000000000 σ;have j:=λσ=>rC m 1 100 σ;have hn:bd a 0 3=true->bd b 0 3=true->∀ σ,iq a b σ=.ok (.bl (cA a b)) σ:=λx y σ=>(pY x y σ).1;have n:=λσ=>MH a b c d e [] σ;unfold ud XR DE;generalize bd a 0 3=o at *;generalize bd b 0 3=p at *;generalize bd c 0 1000000000000=q at *;generalize bd d 0 1000000000000=r at *;generalize bd e 1 100=t at *;generalize cA a b=s at *;cases o
 ·simp[f]
 ·cases p
  ·simp[f,g]
  ·have hn:=hn rfl rfl;cases s
   ·simp[f,g,hn]
   ·cases q
    ·simp[f,g,hn,h]
    ·cases r
     ·simp[f,g,hn,h,i]
     ·simp[f,g,hn,h,i,n,j]
@[simp] theorem yin(f:Ev->M D)(b a:PF)(ρ:Ev)(σ:db):gH f b a ρ σ=(f ρ σ).bind (cK (fA b ρ) (fA a ρ)):=nr rfl
@[simp] theorem yfq(b a:M (Option Int))(x:D)(σ:db):cK b a x σ=(b σ).bind (hI x a):=nr rfl
@[simp] theorem yfr(x:D)(a:M (Option Int))(b:Option Int)(σ:db):hI x a b σ=(a σ).bind (Iz x b):=nr rfl
@[simp] theorem zzc(ρ:Ev)(σ:db):fA none ρ σ=.ok none σ:=nr rfl
@[simp] theorem zzd(f:Ev->M D)(ρ:Ev)(σ:db):fA (some f) ρ σ=(f ρ σ).bind yH:=nr rfl
@[simp] theorem ydw(i:Int)(σ:db):yH (.int i) σ=.ok (some i) σ:=nr rfl
@[simp] theorem hL(xs:List D)(b a:Option Int)(σ:db):Iz (.tup xs) b a σ=.ok (.tup (xw xs b a)) σ:=nr rfl
theorem ox{nx:NX}{tg:D->Ev->Option Ev}{body:Ev->M Fl}{k i:Nat}{ρ ρ1:Ev}{σ:db}{d:D}(h:nx i σ=some (some d))(a:tg d ρ=some ρ1):bp nx tg body (k+1) i ρ σ=(body ρ1 σ).bind (tw (bp nx tg body k (i+1))):=by
 rw[bp];simp only[h,a];rfl
theorem EB{nx:NX}{tg:D->Ev->Option Ev}{body:Ev->M Fl}{k i:Nat}{ρ:Ev}{σ:db}(h:nx i σ=some none):bp nx tg body (k+1) i ρ σ=.ok (.nx ρ) σ:=by
 rw[bp];simp only[h]
@[simp] theorem W7(f:Ev->M D)(ρ:Ev)(σ:db):cC f ρ σ=(f ρ σ).bind Xy:=nr rfl
@[simp] theorem lG(src:Ev->M NX)(tg:D->Ev->Option Ev)(body:Ev->M Fl)(ρ:Ev)(σ:db):fr src tg body ρ σ=rm ρ (BB tg body ρ) (src ρ σ):=ip ..
theorem wI{xs:List D}{x:D}{σ:db}(a:Wk σ x=some xs)(h:cj xs=true):Eh σ (Iu [x] σ)=.ok (.lst xs) σ:=by
 have e:Iu [x] σ=.ok (.ref σ.length) (σ++[.lst xs]):=by unfold Iu;simp only[a];rfl
 rw[e];have:=iQ (σ:=σ) (j:=[]) (j':=[]) h;simpa using this
section
variable{σ:db}{x:D}{xs:List D}
theorem iJ(h:Oi σ x=some xs):Xy x σ=.ok (tu x) σ:=by unfold Xy;rw[h]
theorem zB{i:Nat}{d:D}(h:Oi σ x=some xs)(a:xs[i]?=some d):tu x i σ=some (some (.tup [.int i,d])):=by unfold tu;rw[h];simp only[a]
theorem GH(h:Oi σ x=some xs):tu x xs.length σ=some none:=by unfold tu;rw[h];simp
end
theorem KM{xs:List D}(h:cj xs=true)(σ:db):Eh σ (Iu [.lst xs] σ)=.ok (.lst xs) σ:=wI (x:=.lst xs) (vP xs) h
theorem bt{i a b:Int}(h:a<=i/\i<=b)(σ:db):kb [.int i,.int a,.int b] σ=.ok (.bl true) σ:=by
 rw[rC (d:=.int i) rfl];simp[bd,h]
theorem XC{s:Int}(h:s=0\/s=1)(σ:db):Pf [.int s] σ=.ok (.bl true) σ:=by
 have b:=bt (i:=s) (a:=0) (b:=1) (by omega) σ;unfold Pf TN;simp[b]
theorem aM{s:Int}(h:0<=s/\s<=9)(σ:db):Sg [.int s] σ=.ok (.bl true) σ:=by
 have b:=bt (i:=s) (a:=0) (b:=59) (by omega) σ;unfold Sg uS;simp[b]
theorem BR{s:Int}(h:0<=s/\s<=1000000)(σ:db):Gf [.int s] σ=.ok (.bl true) σ:=by
 have b:=bt h σ;unfold Gf AR;simp[b]
theorem dR(σ:db):pi [.int 0] σ=.ok (.bl true) σ:=by
 have b:=bt (i:=0) (a:=0) (b:=2) (by omega) σ;unfold pi oT;simp[b]
theorem bD(s:Int)(σ:db):Ad [.int s] σ=.ok (.int (1 - s)) σ:=by
 unfold Ad QN;simp
structure Ti where
 (p a w y:Int)
noncomputable def Ti.D(t:Ti):L4.D:=.tup [.int t.p,.int t.a,.int t.w,.int t.y]
structure Ti.Ok(t:Ti):Prop where
 p:t.p=0\/t.p=1
 a:1<=t.a/\t.a<=1000000000000
 w:0<=t.w/\t.w<=9
 y:0<=t.y/\t.y<=59
noncomputable def Im(ts:List Ti):Int:=(ts.map Ti.a).sum
noncomputable def yc(n a b:Int)(ts:List Ti):D:=.tup [.int n,.tup [.int a,.int b],.tup (ts.map Ti.D)]
structure Sq(n a b:Int)(ts:List Ti):Prop where
 n:0<=n/\n<=1000000
 a:0<=a/\a<=2000000000000
 b:0<=b/\b<=2000000000000
 t:∀ t∈ts,t.Ok
 l:ts.length<=2
 d:(ts.map Ti.w).Nodup
theorem n8{t:Ti}(h:t.Ok)(σ:db):Fh [t.D] σ=.ok (.bl true) σ:=by
 have c:=XC h.p σ;have d:rg [.int t.a] σ=.ok (.bl true) σ:=by
  have b:=bt h.a σ;unfold rg hP;simp[b]
 have e:=aM h.w σ;have f:oi [.int t.y] σ=.ok (.bl true) σ:=by
  have b:=bt (i:=t.y) (a:=0) (b:=1000000) (by have:=h.y;omega) σ;unfold oi GM;simp[b]
 unfold Ti.D Fh rP;simp[c,d,e,f]
theorem N4{ts:List Ti}(k:∀ t∈ts,t.Ok)(q:ts.length<=2)(hd:(ts.map Ti.w).Nodup)(σ:db):Tg [.tup (ts.map Ti.D)] σ=.ok (.bl true) σ:=by
 have e:∀ σ,Dk (ga 0) [some (.tup (ts.map Ti.D))] σ=.ok (.seq (ts.map Ti.D)) σ:=λσ=>by simp
 have m:=ZE (s:=.seq (ts.map Ti.D)) (ix:=[]) (ds:=ts.map Ti.D) (fe:=ae 1 Fh [] (za (ga 0) Na)) (λ_=>.bl true) (e σ) (λ_ _=>rfl) (by simp;omega) (λd hd j=>by
  obtain⟨t,h,rfl⟩:=Db.mp hd;have:=n8 (k t h) (σ++j);generalize t.D=p at *;simp[this]) (λ_ _=>by simp)
 have c:=ZE (s:=.seq (ts.map Ti.D)) (ix:=[]) (ds:=ts.map Ti.D) (fe:=Qa Qb (ga 0) (eC (.int 2))) (λd=>match d with | .tup [_,_,x,_]=>x|_=>.Jb) (e σ) (λ_ _=>rfl) (by simp;omega) (λd hd j=>by
  obtain⟨t,h,rfl⟩:=Db.mp hd;simp[Ti.D]) (λd hd=>by
  obtain⟨t,h,rfl⟩:=Db.mp hd;simp[Ti.D])
 have i:(ts.map Ti.D).map (λd=>match d with | .tup [_,_,x,_]=>x|_=>.Jb)=(ts.map Ti.w).map D.int:=by rw[de,de];rfl
 rw[i]at c;have b:=S4 (σ:=σ) (f:=λ_:D=>true) (l:=ts.map Ti.D);rw[show (ts.map Ti.D).all (λ_=>true)=true from pc.mpr λ_ _=>rfl]at b;have a:=d7 (σ:=σ) (l:=ts.map Ti.w) (by simp;omega);have g:=(M6 (ts.map Ti.w)).mpr hd;rw[g]at a;have n:cq [.tup (ts.map Ti.D)] σ=.ok (.int (ts.length:Int)) σ:=by
  have:=zu8 (σ:=σ) (ts.map Ti.D);simpa using this
 have hb:decide ((ts.length:Int) > 6)=false:=by simp;omega
 have o:((ts.map Ti.w).length:Int)=ts.length:=by simp
 rw[o]at a;unfold Tg EO;generalize (ts.map Ti.w).map D.int=W at *;generalize ts.map Ti.D=TT at *;generalize (ts.length:Int)=N at *;simp[m,c,b,a,n,hb,-HB]
theorem jG{n a b:Int}{ts:List Ti}(h:Sq n a b ts)(σ:db):df [yc n a b ts] σ=.ok (.bl true) σ:=by
 have c:=BR h.n σ;have e:Rf [.tup [.int a,.int b]] σ=.ok (.bl true) σ:=by
  have w:=bt h.a σ;have w2:=bt h.b σ;unfold Rf QP;simp[w,w2]
 have f:=N4 h.t h.l h.d σ;unfold yc df eP;generalize D.tup (ts.map Ti.D)=TT at *;simp[c,e,f]
theorem d6(t:Ti):cl t.D=true:=by unfold Ti.D;simp
theorem kz(n a b:Int)(ts:List Ti):cl (yc n a b ts)=true:=by
 have:cj (ts.map Ti.D)=true:=GE λd hd=>by obtain⟨t,_,rfl⟩:=Db.mp hd;exact d6 t
 unfold yc;simp[cl,cj,this]
theorem GS{u v:Int}(f:0<=u/\u<=1000000000000)(g:0<=v/\v<=1000000000000)(σ:db):Xh [.int u,.int v] σ=.ok (yc 0 u v []) σ:=by
 have c:=jG (n:=0) (a:=u) (b:=v) (ts:=[]) ⟨by omega,by omega,by omega,by simp,by simp,by simp⟩ σ;have d:sj [.int 0,.tup [.int u,.int v],.Jb] σ=.ok (yc 0 u v []) σ:=by
  unfold yc at c ⊢;simp only[ce]at c ⊢;unfold sj bS;simp[c]
 have e:=kz 0 u v [];unfold Xh YM;generalize yc 0 u v []=S at *;simp[d,e]
theorem TQ(a b:Int)(σ:db):yx [.tup [.int a,.int b]] σ=.ok (.int (a+b)) σ:=by
 simp[yx,nu]
theorem LZ(l:List Int)(σ:db):yx [.lst (l.map D.int)] σ=.ok (.int l.sum) σ:=by
 simp[yx]
theorem WU(n a b:Int){ts:List Ti}(g:ts.length<=2)(σ:db):rj [yc n a b ts] σ=.ok (.int (a+b+Im ts)) σ:=by
 have f:∀ σ,Qb (yc n a b ts) (.int 2) σ=.ok (.tup (ts.map Ti.D)) σ:=λσ=>by simp[yc]
 have e:∀ σ,Qb (yc n a b ts) (.int 1) σ=.ok (.tup [.int a,.int b]) σ:=λσ=>by simp[yc]
 have l:=ZE (s:=.seq (ts.map Ti.D)) (ix:=[]) (fe:=Qa Qb (ga 0) (eC (.int 1))) (ds:=ts.map Ti.D) (ρ:=[some (yc n a b ts)]) (σ:=σ) (src:=Dk (Qa Qb (ga 0) (eC (.int 2)))) (λd=>match d with | .tup [_,a,_,_]=>a|_=>.Jb) (by simp[f]) (λ_ _=>rfl) (by simp;omega) (λd hd j=>by obtain⟨t,_,rfl⟩:=Db.mp hd;simp[Ti.D]) (λd hd=>by obtain⟨t,_,rfl⟩:=Db.mp hd;simp[Ti.D]);have c:(ts.map Ti.D).map (λd=>match d with | .tup [_,a,_,_]=>a|_=>.Jb)=(ts.map Ti.a).map D.int:=by rw[de,de];rfl
 rw[c]at l;have o:=LZ (ts.map Ti.a) σ;unfold rj pQ;generalize yc n a b ts=S at *;generalize (ts.map Ti.a).map D.int=G at *;simp[e,l,TQ,o,Im,-HB]
theorem ygm{n a b:Int}{ts:List Ti}(h:Sq n a b ts)(σ:db):qf [yc n a b ts,.int (a+b+Im ts)] σ=.ok (.bl true) σ:=by
 have c:=jG h σ;have d:=WU n a b h.l σ;unfold qf sS;generalize yc n a b ts=S at *;simp[c,d]
noncomputable def LD(w s n a b:Int)(ts:List Ti)(d t:Int):D:=.obj 7 ["whole", "side", "stand", "day", "wait"] [.int w,.int s,yc n a b ts,.int d,.int t]
theorem jI(c:Nat)(a:[5,6,7,8].contains c=true)(w:D)(σ:db):Qn [.ref σ.length,w] (σ++[.ins c []])=.ok .Jb (σ++[.ins c [("whole",w)]]):=by
 unfold Qn UP;have:=oF (ρ:=[some (.ref σ.length),some w]) (σ:=σ) (cs:=[5,6,7,8]) (f:="whole") (d:=w) (c:=c) (fs:=[]) a (by simp);simp[this,lj]
theorem QZ(w s S d t:D)(σ:db):Ls [.ref σ.length,w,s,S,d,t] (σ++[.ins 7 []])=.ok .Jb (σ++[.ins 7 [("whole",w),("side",s),("stand",S),("day",d),("wait",t)]]):=by
 have c:=jI 7 rfl w σ;have e:=λ(cs:List Nat) (a:cs.contains 7=true) (f:qa) (v:D) (fs:List (qa × D)) (b:fs.length<1000)=>oF (ρ:=[some (.ref σ.length),some w,some s,some S,some d,some t]) (σ:=σ) (cs:=cs) (f:=f) (d:=v) (c:=7) (fs:=fs) a b;have p1:lj "side" s [("whole",w)]=([("whole",w),("side",s)]:List (qa × D)):=rfl;have p2:lj "stand" S [("whole",w),("side",s)]=([("whole",w),("side",s),("stand",S)]:List (qa × D)):=rfl;have p3:lj "day" d [("whole",w),("side",s),("stand",S)]=([("whole",w),("side",s),("stand",S),("day",d)]:List (qa × D)):=rfl;have p4:lj "wait" t [("whole",w),("side",s),("stand",S),("day",d)]=([("whole",w),("side",s),("stand",S),("day",d),("wait",t)]:List (qa × D)):=rfl;unfold Ls dS;simp[c,e,p1,p2,p3,p4]
theorem G3(w s:D)(σ:db):qs [.ref σ.length,w,s] (σ++[.ins 8 []])=.ok .Jb (σ++[.ins 8 [("whole",w),("side",s)]]):=by
 have c:=jI 8 rfl w σ;have e:=λ(cs:List Nat) (a:cs.contains 8=true) (f:qa) (v:D) (fs:List (qa × D)) (b:fs.length<1000)=>oF (ρ:=[some (.ref σ.length),some w,some s]) (σ:=σ) (cs:=cs) (f:=f) (d:=v) (c:=8) (fs:=fs) a b;have p1:lj "side" s [("whole",w)]=([("whole",w),("side",s)]:List (qa × D)):=rfl;unfold qs lP;simp[c,e,p1]
section
variable(w s n a b:Int)(ts:List Ti)(d t:Int)(σ:db)
theorem ax:Km σ (LD w s n a b ts d t)=some (7,([("whole",.int w),("side",.int s),("stand",yc n a b ts),("day",.int d),("wait",.int t)]:List (qa × D))):=uu rfl
theorem yP:gc [7,8,10,11,12,13] "side" (LD w s n a b ts d t) σ=.ok (.int s) σ:=dj (ax ..) rfl rfl
theorem AL:gc [7] "stand" (LD w s n a b ts d t) σ=.ok (yc n a b ts) σ:=dj (ax ..) rfl rfl
theorem zR:gc [7,9] "day" (LD w s n a b ts d t) σ=.ok (.int d) σ:=dj (ax ..) rfl rfl
theorem D2:gc [7] "wait" (LD w s n a b ts d t) σ=.ok (.int t) σ:=dj (ax ..) rfl rfl
theorem iT(y:Int):Cd [LD w s n a b ts d t,.int y] σ=.ok (.bl (decide (y<d+t))) σ:=by
 unfold Cd OO;have c:=λσ=>zR w s n a b ts d t σ;have e:=λσ=>D2 w s n a b ts d t σ;generalize LD w s n a b ts d t=L at *;simp[c,e]
theorem FP(fs:M (List D)):eo [(7,Cd)] 2 "waits" fs (LD w s n a b ts d t) σ=(fs σ).bind (Kj 2 Cd (LD w s n a b ts d t)):=zt (ax ..) rfl rfl
end
theorem M9(w s n a b:Int)(ts:List Ti)(d t:Int)(σ:db):Eh σ (jp 7 6 Ls [.int w,.int s,yc n a b ts,.int d,.int t] σ)=.ok (LD w s n a b ts d t) σ:=by
 rw[gO,QZ,Fz,sF (by simp[kz])];rfl
theorem zoj(w:Int)(σ:db):Eh σ (jp 6 2 Qn [.int w] σ)=.ok (.obj 6 ["whole"] [.int w]) σ:=by
 rw[YH,jI 6 rfl,Fz,sF (by simp)];rfl
theorem SW(w s:Int)(σ:db):Eh σ (jp 8 3 qs [.int w,.int s] σ)=.ok (.obj 8 ["whole", "side"] [.int w,.int s]) σ:=by
 rw[nP,G3,Fz,sF (by simp)];rfl
noncomputable def Cf(l:List (Int × Int)):List (Key × D):=l.map λp=>(.inl p.1,.int p.2)
noncomputable def val(l:List (Int × Int))(w:Int):Option Int:=(l.find? λp=>decide (p.1=w)).map (·.2)
theorem sC(w:Int):∀ (l:List (Int × Int)),Cu (Cf l) (.inl w)=(val l w).map D.int
 |[]=>rfl
 |p::l=>by
  have a:=sC w l;unfold Cu Cf val at *;rw[Da,Hc,Hc];by_cases e:p.1=w
  ·simp[e]
  ·have b:¬ (Sum.inl p.1:Key)=Sum.inl w:=λz=>e (Cr z);simp only[e,b,decide_false]at a ⊢;exact a
noncomputable def qt(l:List (Int × Int))(w v:Int):List (Int × Int):=if l.any (λp=>decide (p.1=w))then l.map λp=>if p.1=w then (p.1,v)else p else l++[(w,v)]
theorem zvu(l:List (Int × Int))(w v:Int):(qt l w v).length<=l.length+1:=by unfold qt;split<;>simp
theorem uK(l:List (Int × Int))(w v:Int):Fm (Cf l) (.inl w) (.int v)=Cf (qt l w v):=by
 have a:((Cf l).any λb=>decide (b.1=(Sum.inl w:Key)))=l.any λp=>decide (p.1=w):=by
  unfold Cf;rw[NB];congr 1;funext p;simp
 unfold Fm qt;rw[a];split
 ·unfold Cf;rw[de,de];congr 1;funext p;simp only[Function.comp];by_cases e:p.1=w
  ·simp[e]
  ·have c:¬ (Sum.inl p.1:Key)=Sum.inl w:=λz=>e (Cr z);simp[e]
 ·unfold Cf;rw[Bg];rfl
noncomputable def Tt(s a x:Int):Int:=if s=0 then a+x else a
noncomputable def Wt(s b x:Int):Int:=if s=0 then b else b+x
theorem BP(a b s x:Int)(σ:db):Jf [.tup [.int a,.int b],.int s,.int x] σ=.ok (.tup [.int (Tt s a x),.int (Wt s b x)]) σ:=by
 unfold Jf RO Tt Wt;by_cases h:s=0
 ·subst h;simp
 ·have hb:(s == 0)=false:=by simpa using h
  simp[hb,h]
noncomputable def ou(l:List (Int × Int))(t:Ti):Bool:=match val l t.w with|some v=>decide (v<t.y)|none=>false
theorem OV(t:Ti)(σ:db):Qb t.D (.int 2) σ=.ok (.int t.w) σ:=by unfold Ti.D;simp
theorem xM(t:Ti)(σ:db):Qb t.D (.int 3) σ=.ok (.int t.y) σ:=by unfold Ti.D;simp
theorem y1(t:Ti)(σ:db):Qb t.D (.int 0) σ=.ok (.int t.p) σ:=by unfold Ti.D;simp
theorem J5(t:Ti)(σ:db):Qb t.D (.int 1) σ=.ok (.int t.a) σ:=by unfold Ti.D;simp
noncomputable def fo(l:List (Int × Int))(y:Int)(t:Ti):Option Int:=if ou l t then some (1 - t.p)else if y ≥ t.y then some t.p else none
noncomputable def sA(l:List (Int × Int))(y:Int):List Ti->Int
 |[]=>0
 |t::b=>(if fo l y t=some 0 then t.a else 0)+sA l y b
noncomputable def sB(l:List (Int × Int))(y:Int):List Ti->Int
 |[]=>0
 |t::b=>(match fo l y t with|some s=>if s=0 then 0 else t.a|none=>0)+sB l y b
noncomputable def sH(l:List (Int × Int))(y:Int):List Ti->Int
 |[]=>0
 |t::b=>(match fo l y t with|some _=>0|none=>t.a)+sH l y b
theorem CN(l:List (Int × Int))(y:Int):∀ ts:List Ti,sA l y ts+sB l y ts+sH l y ts=Im ts
 |[]=>by simp[sA,sB,sH,Im]
 |t::ts=>by
  have:=CN l y ts;simp only[sA,sB,sH,Im,Da,BA]at this ⊢;cases h:fo l y t with
  |none=>simp;omega
  |some s=>
   by_cases a:s=0
   ·subst a;simp;omega
   ·simp[a];omega
noncomputable def zv(l:List (Int × Int))(y w d t a b:Int)(ts:List Ti):List Int:=if y<d+t then [0,0,w]else [a+sA l y ts,b+sB l y ts,sH l y ts]
theorem P9(w s n a b:Int)(ts:List Ti)(d t:Int)(σ:db):gc [5,6,7,8] "whole" (LD w s n a b ts d t) σ=.ok (.int w) σ:=dj (ax ..) rfl rfl
section
variable{SD:D}{l:List (Int × Int)}{σ:db}(hS:ej σ SD=some (Cf l))
include hS
theorem wT(w:Int):Cy (.int w) SD σ=.ok (.bl (val l w).isSome) σ:=by
 unfold Cy;simp only[Pk,hS,sC];cases val l w<;>rfl
theorem KQ{w v:Int}(h:val l w=some v):Wv SD (.int w) σ=.ok (.int v) σ:=by
 unfold Wv;simp only[Pk,hS,sC,h];rfl
theorem SZ(t:Ti):we [t.D,SD] σ=.ok (.bl (ou l t)) σ:=by
 have b:=λσ=>OV t σ;have e:=λσ=>xM t σ;have a:=wT hS t.w;unfold we aN ou;cases h:val l t.w with
 |none=>
  rw[h]at a;generalize t.D=c at *;simp[b,a]
 |some v=>
  have d:=KQ hS h;rw[h]at a;generalize t.D=c at *;simp[b,e,a,d]
theorem i8(y:Int)(t:Ti):Og [t.D,.int y,SD] σ=.ok (match fo l y t with|some s=>.int s|none=>.Jb) σ:=by
 have a:=SZ hS t;have c:=λσ=>y1 t σ;have e:=λσ=>xM t σ;unfold Og qT fo;cases h:ou l t
 ·rw[h]at a;by_cases b:y ≥ t.y
  ·have hb:decide (t.y<=y)=true:=by simpa using b
   generalize t.D=d at *;simp[a,c,e,hb,b]
  ·have hb:decide (t.y<=y)=false:=by simpa using b
   generalize t.D=d at *;simp[a,c,e,hb,b]
 ·rw[h]at a;generalize t.D=d at *;simp[a,c,bD]
theorem dJ(L:D)(y:Int):∀ (ts:List Ti) (a b:Int) (g i:Option D),∃ c d,Pm (Zd 4) SN (ts.map Ti.D) [some L,some (.int y),some SD,some (.tup [.int a,.int b]),g,i] σ
  = .ok (.nx [some L,some (.int y),some SD,some (.tup [.int (a+sA l y ts),.int (b+sB l y ts)]),c,d]) σ
 |[],a,b,g,i=>⟨g,i,by simp[sA,sB]⟩
 |t::ts,a,b,g,i=>by
  have f:=i8 hS y t;have o:=J5 t σ;cases h:fo l y t with
  |none=>
   rw[h]at f;obtain⟨c,d,e⟩:=dJ L y ts a b (some t.D) (some .Jb);refine⟨c,d,?_⟩;have j:a+sA l y (t::ts)=a+sA l y ts:=by simp[sA,h]
   have k:b+sB l y (t::ts)=b+sB l y ts:=by simp[sB,h]
   rw[j,k,<-e,Da,Ks];generalize t.D=n at *;simp[f]
  |some s=>
   rw[h]at f;obtain⟨c,d,e⟩:=dJ L y ts (Tt s a t.a) (Wt s b t.a) (some t.D) (some (.int s));refine⟨c,d,?_⟩;have j:a+sA l y (t::ts)=Tt s a t.a+sA l y ts:=by
    simp only[sA,h,Tt,kg];split<;>omega
   have k:b+sB l y (t::ts)=Wt s b t.a+sB l y ts:=by
    simp only[sB,h,Wt];split<;>omega
   have m:=BP a b s t.a σ;rw[j,k,<-e,Da,Ks];generalize Tt s a t.a=p at *;generalize Wt s b t.a=q at *;generalize t.D=n at *;simp[f,o,m]
theorem uV(w s n a b:Int)(ts:List Ti)(d t:Int)(v:a+b+Im ts=w)(y:Int) :
  zd [LD w s n a b ts d t,.int y,SD] σ=.ok (.tup ((zv l y w d t a b ts).map D.int)) σ:=by
 have g:=λσ=>P9 w s n a b ts d t σ;have j:=λσ=>AL w s n a b ts d t σ;have h:=λfs σ=>FP w s n a b ts d t σ fs;have c:=λσ=>iT w s n a b ts d t σ y;have k:∀ σ,Qb (yc n a b ts) (.int 1) σ=.ok (.tup [.int a,.int b]) σ:=λσ=>by simp[yc]
 have m:∀ σ,Qb (yc n a b ts) (.int 2) σ=.ok (.tup (ts.map Ti.D)) σ:=λσ=>by simp[yc]
 have u:=CN l y ts;unfold zd DS zv;by_cases f:y<d+t
 ·have hb:decide (y<d+t)=true:=by simpa using f
  rw[hb]at c;rw[ia f];generalize LD w s n a b ts d t=L at *;simp[g,h,c]
 ·have hb:decide (y<d+t)=false:=by simpa using f
  rw[hb]at c;rw[ja f];obtain⟨x,z,e⟩:=dJ hS (LD w s n a b ts d t) y ts a b none none;have i:w - (a+sA l y ts+(b+sB l y ts))=sH l y ts:=by omega
  generalize LD w s n a b ts d t=L at *;generalize yc n a b ts=r at *;generalize sA l y ts=o at *;generalize sB l y ts=p at *;generalize sH l y ts=q at *;generalize ts.map Ti.D=TT at *;simp[g,j,h,c,k,m,e,TQ,i]
end
theorem f8(w s n a b:Int)(ts:List Ti)(d t:Int)(σ:db):Vd [LD w s n a b ts d t] σ=.ok (.tup [.str "laid",.int s,yc n a b ts,.int d]) σ:=by
 have c:=λσ=>yP w s n a b ts d t σ;have e:=λσ=>AL w s n a b ts d t σ;have f:=λσ=>zR w s n a b ts d t σ;have g:=kz n a b ts;unfold Vd BM;generalize LD w s n a b ts d t=L at *;generalize yc n a b ts=S at *;simp[c,e,f,g]
theorem jS(x:D)(σ:db):Nd [x] σ=.ok (.tup [.str "held"]) σ:=by unfold Nd mT;simp
theorem k7(w:Int)(y s:D)(σ:db):yd [.obj 6 ["whole"] [.int w],y,s] σ=.ok (.tup [.int 0,.int 0,.int w]) σ:=by
 have h:∀ σ,gc [5,6,7,8] "whole" (.obj 6 ["whole"] [.int w]) σ=.ok (.int w) σ:=λσ=>dj (uu rfl) rfl rfl;unfold yd oO;generalize D.obj 6 ["whole"] [.int w]=O at *;simp[h]
theorem F4(w s:Int)(σ:db):Ed [.obj 8 ["whole", "side"] [.int w,.int s]] σ=.ok (.tup [.str "taken",.int s]) σ:=by
 have h:∀ σ,gc [7,8,10,11,12,13] "side" (.obj 8 ["whole", "side"] [.int w,.int s]) σ=.ok (.int s) σ:=λσ=>dj (uu rfl) rfl rfl;unfold Ed XP;generalize D.obj 8 ["whole", "side"] [.int w,.int s]=O at *;simp[h]
theorem Z4(w s:Int)(y:D)(l:D)(σ:db):Qc [.obj 8 ["whole", "side"] [.int w,.int s],y,l] σ=.ok (.tup [.int (Tt s 0 w),.int (Wt s 0 w),.int 0]) σ:=by
 have h:∀ σ,gc [7,8,10,11,12,13] "side" (.obj 8 ["whole", "side"] [.int w,.int s]) σ=.ok (.int s) σ:=λσ=>dj (uu rfl) rfl rfl;have a:∀ σ,gc [5,6,7,8] "whole" (.obj 8 ["whole", "side"] [.int w,.int s]) σ=.ok (.int w) σ:=λσ=>dj (uu rfl) rfl rfl;have m:=λσ=>BP 0 0 s w σ;unfold Qc MP;generalize D.obj 8 ["whole", "side"] [.int w,.int s]=O at *;generalize Tt s 0 w=b at *;generalize Wt s 0 w=c at *;simp[h,a,m]
noncomputable abbrev Kv:=List (Key × D)
noncomputable def pD(u v t:Int):D:=.tup [.int 0,.int 1,.int u,.int v,.int t]
noncomputable def qD:D:=.tup [.int 1,.int 2,.int 5,.int 5,.int 40]
noncomputable def PL(u v t:Int):D:=.lst [pD u v t,qD]
structure Gx(u v t:Int):Prop where
 u:0<=u/\u<=1000000000000
 v:0<=v/\v<=1000000000000
 t:2<=t/\t<=30
theorem p0(u v t:Int)(σ:db):Qb (pD u v t) (.int 0) σ=.ok (.int 0) σ:=by unfold pD;simp
theorem p1(u v t:Int)(σ:db):Qb (pD u v t) (.int 1) σ=.ok (.int 1) σ:=by unfold pD;simp
theorem p2(u v t:Int)(σ:db):Qb (pD u v t) (.int 2) σ=.ok (.int u) σ:=by unfold pD;simp
theorem p3(u v t:Int)(σ:db):Qb (pD u v t) (.int 3) σ=.ok (.int v) σ:=by unfold pD;simp
theorem p4(u v t:Int)(σ:db):Qb (pD u v t) (.int 4) σ=.ok (.int t) σ:=MH ..
theorem q0(σ:db):Qb qD (.int 0) σ=.ok (.int 1) σ:=by unfold qD;simp
theorem q1(σ:db):Qb qD (.int 1) σ=.ok (.int 2) σ:=by unfold qD;simp
theorem q2(σ:db):Qb qD (.int 2) σ=.ok (.int 5) σ:=by unfold qD;simp
theorem q3(σ:db):Qb qD (.int 3) σ=.ok (.int 5) σ:=by unfold qD;simp
theorem q4(σ:db):Qb qD (.int 4) σ=.ok (.int 40) σ:=MH ..
theorem GN(u v t:Int):cl (PL u v t)=true:=by unfold PL pD qD;simp
inductive Cl where
 |held
 |laid (s n a b:Int) (ts:List Ti) (d:Int)
 |taken (s:Int)
noncomputable def Cl.D(w t:Int):Cl->L4.D
 | .held=>.obj 6 ["whole"] [.int w]
 | .laid s n a b c d=>LD w s n a b c d t
 | .taken s=>.obj 8 ["whole", "side"] [.int w,.int s]
noncomputable def Cl.tl:Cl->L4.D
 | .held=>.tup [.str "held"]
 | .laid s n a b c d=>.tup [.str "laid",.int s,yc n a b c,.int d]
 | .taken s=>.tup [.str "taken",.int s]
noncomputable def qp:D:=.obj 6 ["whole"] [.int 10]
noncomputable def Tj:D:=.obj 11 ["pot", "side", "mine", "grant", "may", "strikes"] [.int 1,.int 1,yc 0 5 5 [],.Jb,.lst [yc 0 5 5 []],.lst []]
noncomputable def aV:Kv:=[(.inl 1,Tj)]
noncomputable def kV:Kv:=[(.inl 2,.ref 9)]
noncomputable def wL:List (Int × Int):=[(0,0),(1,1),(2,0),(3,1),(4,0),(5,1),(6,0),(7,1),(8,0),(9,1)]
noncomputable def wW:Kv:=Cf wL
noncomputable def tg(w:Int):List Key:=[.inr "word",.inl w]
noncomputable def tN(n:Nat):List (List Key):=(List.range n).map λ(i:Nat)=>tg i
noncomputable def ly(l:Int):List (qa × D):=[("hand",.int 2),("every",.int 20),("last_look",.int l),("gave",.int 0),("known",.ref 10),("accounts",.ref 11),("claims",.ref 12),("seen",.ref 13),("asked",.ref 14),("finishing",.ref 15)]
noncomputable def My(u v t:Int):List (qa × D):=[("public",.ref 2),("pots",PL u v t),("every",.int 20),("keepers",.ref 7),("under_way",.lst []),("things",.ref 8)]
noncomputable def Gq(u v t d:Int):List (qa × D):=[("pots",PL u v t),("day",.int d),("claims",.ref 3),("shown",.ref 4)]
structure Bx where
 (u v t d:Int)
 c:Cl
 s:List (Int × Int)
 l:Int
 K:Kv
 h:D
 ko:Ob
 T:List (List Key)
 ao:Ob
 J:db
noncomputable def Bx.w(B:Bx):Int:=B.u+B.v
noncomputable def tl(B:Bx):db:=.ins 16 (My B.u B.v B.t)::.ins 9 (Gq B.u B.v B.t B.d)::.lst [B.c.D B.w B.t,qp]::.lst [.ref 5,.ref 6]::.Ya (Cf B.s)::.Ya []::B.ko::.eg B.T::.ins 15 (ly B.l)::.Ya B.K::B.ao::.Ya [(.inl 1,B.h)]::.Ya [(.inl 1,.Ya [] [])]::.Ya []::.Ya []::B.J
noncomputable def S(B:Bx):db:=.Ya wW::tl B
theorem ys6(B:Bx)(j:db):S B++j=S { B with J:=B.J++j }:=rfl
section
variable(B:Bx)
theorem yB:Km (S B) (.ref 2)=some (9,Gq B.u B.v B.t B.d):=rfl
theorem kC:gc [9,14,16] "pots" (.ref 2) (S B)=.ok (PL B.u B.v B.t) (S B):=dj (yB B) rfl rfl
theorem OC:gc [7,9] "day" (.ref 2) (S B)=.ok (.int B.d) (S B):=dj (yB B) rfl rfl
theorem xB:gc [9,15] "claims" (.ref 2) (S B)=.ok (.ref 3) (S B):=dj (yB B) rfl rfl
theorem XF:gc [9] "shown" (.ref 2) (S B)=.ok (.ref 4) (S B):=dj (yB B) rfl rfl
theorem zq{m:qa}(k:Nat)(fn:List D->M D)(fs:M (List D))(hm:(Gq B.u B.v B.t B.d).lookup m=none):eo [(9,fn)] k m fs (.ref 2) (S B)=(fs (S B)).bind (Kj k fn (.ref 2)):=zt (yB B) rfl hm
theorem SA:Km (S B) (.ref 1)=some (16,My B.u B.v B.t):=rfl
theorem Yy:gc [16] "public" (.ref 1) (S B)=.ok (.ref 2) (S B):=dj (SA B) rfl rfl
theorem ya5:gc [9,14,16] "pots" (.ref 1) (S B)=.ok (PL B.u B.v B.t) (S B):=dj (SA B) rfl rfl
theorem K5:gc [14,15,16] "every" (.ref 1) (S B)=.ok (.int 20) (S B):=dj (SA B) rfl rfl
theorem jQ:gc [16] "keepers" (.ref 1) (S B)=.ok (.ref 7) (S B):=dj (SA B) rfl rfl
theorem vM:gc [16] "things" (.ref 1) (S B)=.ok (.ref 8) (S B):=dj (SA B) rfl rfl
theorem Os{m:qa}(k:Nat)(fn:List D->M D)(fs:M (List D))(hm:(My B.u B.v B.t).lookup m=none):eo [(16,fn)] k m fs (.ref 1) (S B)=(fs (S B)).bind (Kj k fn (.ref 1)):=zt (SA B) rfl hm
theorem Jz:Km (S B) (.ref 9)=some (15,ly B.l):=rfl
theorem MW:gc [14,15] "known" (.ref 9) (S B)=.ok (.ref 10) (S B):=dj (Jz B) rfl rfl
theorem CK:gc [15] "accounts" (.ref 9) (S B)=.ok (.ref 11) (S B):=dj (Jz B) rfl rfl
theorem CJ:gc [9,15] "claims" (.ref 9) (S B)=.ok (.ref 12) (S B):=dj (Jz B) rfl rfl
theorem r6:gc [15] "seen" (.ref 9) (S B)=.ok (.ref 13) (S B):=dj (Jz B) rfl rfl
theorem P4:gc [15] "finishing" (.ref 9) (S B)=.ok (.ref 15) (S B):=dj (Jz B) rfl rfl
theorem ybq:gc [14,15] "last_look" (.ref 9) (S B)=.ok (.int B.l) (S B):=dj (Jz B) rfl rfl
theorem CB{m:qa}(k:Nat)(fn:List D->M D)(fs:M (List D))(hm:(ly B.l).lookup m=none):eo [(15,fn)] k m fs (.ref 9) (S B)=(fs (S B)).bind (Kj k fn (.ref 9)):=zt (Jz B) rfl hm
theorem xC:Qb (.ref 3) (.int 0) (S B)=.ok (B.c.D B.w B.t) (S B):=nr rfl
theorem GT:Qb (.ref 3) (.int 1) (S B)=.ok qp (S B):=nr rfl
theorem kM:Qb (.ref 4) (.int 0) (S B)=.ok (.ref 5) (S B):=nr rfl
theorem nO:Qb (.ref 4) (.int 1) (S B)=.ok (.ref 6) (S B):=nr rfl
theorem ZF(u v t:Int)(σ:db):Qb (PL u v t) (.int 0) σ=.ok (pD u v t) σ:=nr rfl
theorem sO:ej (S B) (.ref 5)=some (Cf B.s):=rfl
theorem kL:Ab [.ref 2] (S B)=.ok (.int B.d) (S B):=by
 have h:=OC B;unfold Ab SQ;generalize S B=Y at *;simp[h]
theorem SO{u v t d:Int}{σ:db}(c:Km σ (.ref 2)=some (9,Gq u v t d)):Bb [.ref 2] σ=.ok (PL u v t) σ:=by
 have h:gc [9,14,16] "pots" (.ref 2) σ=.ok (PL u v t) σ:=dj c rfl rfl;have a:∀ σ,Eh σ (Iu [PL u v t] σ)=.ok (PL u v t) σ:=λσ=>wI (x:=PL u v t) rfl (by unfold pD qD;simp);have b:=GN u v t;unfold Bb VM;generalize PL u v t=L at *;simp[h,a,b]
theorem n6:Bb [.ref 2] (S B)=.ok (PL B.u B.v B.t) (S B):=SO (yB B)
theorem xz{i:Int}(c:i=0\/i=1):vb [.ref 2,.int i] (S B)=.ok .Jb (S B):=by
 have h:=kC B;have l:∀ σ,cq [PL B.u B.v B.t] σ=.ok (.int 2) σ:=λσ=>nr rfl;have b:=λσ=>bt (i:=i) (a:=0) (b:=1) (by omega) σ;unfold vb TM;generalize S B=Y at *;generalize PL B.u B.v B.t=L at *;simp[h,l,b]
theorem nz(fs:M (List D)):eo [(9,vb)] 2 "check_pot" fs (.ref 2) (S B)=(fs (S B)).bind (Kj 2 vb (.ref 2)):=zq B _ _ _ rfl
theorem FH:rb [.ref 2,.int 0] (S B)=.ok B.c.tl (S B):=by
 have c:=xz B (.inl rfl);have m:=λfs=>nz B fs;have h:=xB B;have g:=xC B;have t:∀ σ fs,fs σ=.ok [] σ->eo [(6,Nd),(7,Vd),(8,Ed)] 1 "told" fs (B.c.D B.w B.t) σ=.ok B.c.tl σ:=λσ fs e=>by
  cases B.c with
  |held=>unfold Cl.D Cl.tl;rw[zt (fn:=Nd) (uu rfl) rfl rfl,e,nc,Ww,jS]
  |laid s n a b k d=>unfold Cl.D Cl.tl;rw[zt (fn:=Vd) (ax ..) rfl rfl,e,nc,Ww,f8]
  |taken s=>unfold Cl.D Cl.tl;rw[zt (fn:=Ed) (uu rfl) rfl rfl,e,nc,Ww,F4]
 have t:=t (S B) (Na [some (.ref 2),some (.int 0)]) rfl;have f:cl B.c.tl=true:=by cases B.c<;>simp[Cl.tl,cl,cj,kz]
 unfold rb yL;generalize S B=Y at *;generalize B.c.D B.w B.t=i at *;generalize B.c.tl=j at *;simp[c,m,h,g,t,f]
theorem mV:rb [.ref 2,.int 1] (S B)=.ok (.tup [.str "held"]) (S B):=by
 have c:=xz B (.inr rfl);have m:=λfs=>nz B fs;have h:=xB B;have b:=GT B;have t:∀ a fs,eo [(6,Nd),(7,Vd),(8,Ed)] 1 "told" fs qp a=(fs a).bind (Kj 1 Nd qp):=λa fs=>zt (uu rfl) rfl rfl;have d:=λa=>jS qp a;unfold rb yL;generalize S B=Y at *;generalize qp=e at *;simp[c,m,h,b,t,d]
theorem uU:Jc [.ref 2,.int 1] (S B)=.ok (.Ya [] []) (S B):=by
 have c:=xz B (.inr rfl);have m:=λfs=>nz B fs;have h:=XF B;have b:=nO B;have o:SG [.ref 6] (S B)=.ok (.Ya [] []) (S B):=nr rfl;have a:cl (.Ya [] [])=true:=by simp[cl]
 unfold Jc lS;generalize S B=Y at *;simp[c,m,h,b,o,a]
end
section
variable{B:Bx}
theorem qL{c:D}{x:D}(k:Int)(r:Nat)(g:k=0/\r=5\/k=1/\r=6)(f:Qb (.ref 3) (.int k) (S B)=.ok c (S B))(j:cl x=true)
  (hm:∀ fs,fs (S B)=.ok [.int B.d,.ref r] (S B)->eo [(6,yd),(7,zd),(8,Qc)] 3 "comes" fs c (S B)=.ok x (S B)):Sa [.ref 2,.int k] (S B)=.ok x (S B):=by
 have a:=xz B (i:=k) (by omega);have m:=λfs=>nz B fs;have h:=xB B;have b:=OC B;have e:=XF B;have l:Qb (.ref 4) (.int k) (S B)=.ok (.ref r) (S B):=by
  rcases g with⟨rfl,rfl⟩|⟨rfl,rfl⟩
  ·exact kM B
  ·exact nO B
 have t:=hm ((za (Vc (gc [7,9] "day") (ga 0)) (za (Qa Qb (Vc (gc [9] "shown") (ga 0)) (ga 1)) Na)) [some (.ref 2),some (.int k)]) (by
  generalize S B=Y at *;simp[b,e,l])
 unfold Sa HQ;generalize S B=Y at *;simp only[Ul,Gz,wt];show Eh Y (uk (Kb _ _ [some (.ref 2),some (.int k)] Y))=_;rw[cg];simp only[mF,Nu,gj,gn,nc,m,kt,Zs,bo,ot,cB,a,Lh,fH,ig];rw[Kx,Nu];simp only[Av,Rv,gj,gn,nc,h,QJ,f,t,Lh,Ez,vy];exact dI j
theorem hJ{s n a b d:Int}{ts:List Ti}(f:B.c=.laid s n a b ts d)(h:a+b+Im ts=B.w):Sa [.ref 2,.int 0] (S B)=.ok (.tup ((zv B.s B.d B.w d B.t a b ts).map D.int)) (S B):=by
 have e:=xC B;rw[f]at e;refine qL 0 5 (.inl ⟨rfl,rfl⟩) e (by unfold zv;split<;>simp) λfs g=>?_;unfold Cl.D;rw[zt (fn:=zd) (ax ..) rfl rfl,g,nc];show Kj 3 zd _ _ _=_;rw[RJ,uV (sO B) _ _ _ _ _ _ _ _ h]
theorem YY{s:Int}(b:B.c=.taken s):Sa [.ref 2,.int 0] (S B)=.ok (.tup [.int (Tt s 0 B.w),.int (Wt s 0 B.w),.int 0]) (S B):=by
 have a:=xC B;rw[b]at a;refine qL 0 5 (.inl ⟨rfl,rfl⟩) a (by simp) λfs d=>?_;unfold Cl.D;rw[zt (fn:=Qc) (uu rfl) rfl rfl,d,nc];show Kj 3 Qc _ _ _=_;rw[RJ,Z4]
theorem LM:Sa [.ref 2,.int 1] (S B)=.ok (.tup [.int 0,.int 0,.int 10]) (S B):=by
 refine qL 1 6 (.inr ⟨rfl,rfl⟩) (GT B) (by simp) λfs a=>?_;unfold qp;rw[zt (fn:=yd) (uu rfl) rfl rfl,a,nc];show Kj 3 yd _ _ _=_;rw[RJ,k7]
theorem YN(fs:M (List D)):eo [(9,Sa)] 2 "due_of" fs (.ref 2) (S B)=(fs (S B)).bind (Kj 2 Sa (.ref 2)):=zq B _ _ _ rfl
theorem eG{P:D}{h c k s z x:Int}{r:List D}(hz:Qb P (.int s) (S B)=.ok (.int z) (S B))(hd:Sa [.ref 2,.int k] (S B)=.ok (.tup r) (S B))(j:Qb (.tup r) (.int s) (S B)=.ok (.int x) (S B)) :
  kD [some (.ref 2),some (.int h),some (.int c),some (.int k),some P,some (.int s)] (S B)=.ok (.nx [some (.ref 2),some (.int h),some (.int (if z=h then c+x else c)),some (.int k),some P,some (.int s)]) (S B):=by
 have l:=λfs=>YN (B:=B) fs;unfold kD;by_cases e:z=h
 ·have b:(z == h)=true:=by simpa using e
  rw[ia e];generalize S B=Y at *;generalize D.tup r=R at *;have m:∀ (o:Int->Int->Int) (f:Ev->M D) (x0 a d g i:Option D) (x:D),IB o 2 f [x0,a,some x,d,g,i] Y=rm [x0,a,some x,d,g,i] (eF o 2 [x0,a,some x,d,g,i] x) (f [x0,a,some x,d,g,i] Y):=λ_ _ _ _ _ _ _ _=>e4 rfl;simp[hz,b,l,hd,j,m]
 ·have b:(z == h)=false:=by simpa using e
  rw[ja e];generalize S B=Y at *;simp[hz,b]
theorem MV{x y z:Int}(hd:Sa [.ref 2,.int 0] (S B)=.ok (.tup [.int x,.int y,.int z]) (S B)){h:Int}(A:h=0\/h=1):Md [.ref 2,.int h] (S B)=.ok (.int (if h=0 then x else y)) (S B):=by
 have C:=kC B;have g:∀ σ,Oi σ (PL B.u B.v B.t)=some [pD B.u B.v B.t,qD]:=λσ=>rfl;have s:∀ σ,Xy (PL B.u B.v B.t) σ=.ok (tu (PL B.u B.v B.t)) σ:=λσ=>iJ (g σ);have hb:=λσ=>bt (i:=h) (a:=0) (b:=3) (by omega) σ;have e:=AI (d:=.int h) rfl (S B);have r:bd (.int h) 0 3=true:=by simp[bd];omega
 rw[r]at e;have m:=λc=>eG (B:=B) (h:=h) (c:=c) (p0 B.u B.v B.t (S B)) hd (show Qb _ (.int 0) _=.ok (.int x) _ by simp);have n:=λc=>eG (B:=B) (h:=h) (c:=c) (p1 B.u B.v B.t (S B)) hd (show Qb _ (.int 1) _=.ok (.int y) _ by simp);have o:=λc=>eG (B:=B) (h:=h) (c:=c) (q0 (S B)) LM (show Qb _ (.int 0) _=.ok (.int 0) _ by simp);have p:=λc=>eG (B:=B) (h:=h) (c:=c) (q1 (S B)) LM (show Qb _ (.int 1) _=.ok (.int 0) _ by simp);have f:∀ (k c j l:Int) (P:D) (q:Option D),kD [some (.ref 2),some (.int h),some (.int c),some (.int k),some P,some (.int 0)] (S B)=.ok (.nx [some (.ref 2),some (.int h),some (.int j),some (.int k),some P,some (.int 0)]) (S B)->kD [some (.ref 2),some (.int h),some (.int j),some (.int k),some P,some (.int 1)] (S B)=.ok (.nx [some (.ref 2),some (.int h),some (.int l),some (.int k),some P,some (.int 1)]) (S B)->
   WG [some (.ref 2),some (.int h),some (.int c),some (.int k),some P,q] (S B)=.ok (.nx [some (.ref 2),some (.int h),some (.int l),some (.int k),some P,some (.int 1)]) (S B):=λk c j l P q a b=>by
  unfold WG;rw[Ky];simp only[JC,ZN,kt,Hy,nc,Zs,bo,ot,SR,qQ,Lh,oA];rw[Ks];simp only[gb,ib];rw[a,nc,Rl,Ks];simp only[gb,ib];rw[b,nc,Rl,zy]
 have F:=f 0 0 _ _ _ none (m 0) (n _);have G:=λc=>f 1 c _ _ _ (some (.int 1)) (o c) (p _);have E:bp (tu (PL B.u B.v B.t)) (Bn 2 (Ah (Zd 3) (Ah (Zd 4) io))) WG 1001 0 [some (.ref 2),some (.int h),some (.int 0),none,none,none] (S B)=.ok (.nx [some (.ref 2),some (.int h),some (.int (if h=0 then x else y)),some (.int 1),some qD,some (.int 1)]) (S B):=by
  rw[ox (zB (g _) (i:=0) rfl) (ρ1:=[some (.ref 2),some (.int h),some (.int 0),some (.int 0),some (pD B.u B.v B.t),none]) (nr rfl),F,nc,Rl,ox (zB (g _) (i:=1) rfl) (ρ1:=[some (.ref 2),some (.int h),_,some (.int 1),some qD,some (.int 1)]) (nr rfl),G,nc,Rl];refine(EB (GH (g _))).trans ?_;rcases A with rfl|rfl<;>simp
 have w:∀ (tg:D->Ev->Option Ev) (body:Ev->M Fl) (ρ:Ev) (nx:NX),BB tg body ρ nx=bp nx tg body 1001 0 ρ:=λ_ _ _ _=>rfl;unfold Md vN;generalize S B=Y at *;generalize PL B.u B.v B.t=L at *;simp[e,C,s,w,E]
end
theorem YJ{f g:D->D->Option Bool}:∀ {xs ys:List D},(∀ x∈xs,∀ y∈ys,∃ b,f x y=some b/\g x y=some b)->∃ b,Dp f xs ys=some b/\Dp g xs ys=some b
 |[],[],_=>⟨_,rfl,rfl⟩
 |[],_::_,_=>⟨_,rfl,rfl⟩
 |_::_,[],_=>⟨_,rfl,rfl⟩
 |x::xs,y::ys,h=>by
  obtain⟨b,d,e⟩:=h x Aa y Aa;obtain⟨c,i,j⟩:=YJ (f:=f) (g:=g) (xs:=xs) (ys:=ys) λa k b hb=>h a (ya _ k) b (ya _ hb);unfold Dp;rw[d,e,i,j];cases b<;>exact⟨_,rfl,rfl⟩
theorem sT(σ:db):∀ (n:Nat) (x y:D),pl n x=true->pl n y=true->∃ b,qm σ n x y=some b/\qm [] n x y=some b:=by
 intro n;induction n with
 |zero=>intro x y d c;cases x<;>first|(simp[pl]at d;done)|(cases y<;>first|exact⟨_,rfl,rfl⟩|(simp[pl]at c;done))
 |succ n f=>
  intro x y d c;cases x with
  |tup xs=>
   cases y with
   |tup g=>
    simp only[pl,pc]at d c;exact YJ λa e b hb=>f a b (d a e) (c b hb)
   |_=>first|exact⟨_,rfl,rfl⟩|(simp[pl]at c;done)
  |lst xs=>
   cases y with
   |lst g=>
    simp only[pl,pc]at d c;exact YJ λa e b hb=>f a b (d a e) (c b hb)
   |_=>first|exact⟨_,rfl,rfl⟩|(simp[pl]at c;done)
  |_=>first|(simp[pl]at d;done)|(cases y<;>first|exact⟨_,rfl,rfl⟩|(simp[pl]at c;done))
theorem j9{x y:D}(d:pl 8 x=true)(e:pl 8 y=true):∃ b,∀ σ,oEq x y σ=.ok (.bl b) σ:=by
 obtain⟨b,_,h⟩:=sT [] 8 x y d e;refine⟨b,λσ=>?_⟩;obtain⟨c,f,a⟩:=sT σ 8 x y d e;rw[h]at a;cases a;exact VG f
theorem gC(l:List (Int × Int)):(Cf l).length=l.length:=by unfold Cf;simp
noncomputable def Cm(l:List (Int × Int))(w y:Int):List (Int × Int):=match val l w with
 |some _=>l
 |none=>qt l w y
theorem y4{a:D}{l:List (Int × Int)}{σ:db}(b:ej σ a=some (Cf l))(w:Int):mv (.int w) a σ=.ok (.bl (!(val l w).isSome)) σ:=by
 unfold mv;simp only[Pk,b,sC];cases val l w<;>rfl
theorem oJ{ρ:Ev}{σ:db}{d:D}{n:Nat}{w:Int}{kvs:List (Key × D)}(h:σ[n]?=some (.Ya kvs))(a:kvs.length<1000):ft ρ d (.ref n) (.int w) σ=.ok (.nx ρ) (σ.set n (.Ya (Fm kvs (.inl w) d))):=by
 unfold ft;simp only[Pk,h];rw[ia (show kvs.length<li from a)]
@[simp] theorem EQ(f a fi:Ev->M D)(ρ:Ev)(σ:db):Ov f a fi ρ σ=rm ρ (mL ρ a fi) (f ρ σ):=ip ..
@[simp] theorem yZ(a fi:Ev->M D)(d:D)(ρ:Ev)(σ:db):mL ρ a fi d σ=rm ρ (LK ρ fi d) (a ρ σ):=ip ..
@[simp] theorem rX(fi:Ev->M D)(d x:D)(ρ:Ev)(σ:db):LK ρ fi d x σ=rm ρ (ft ρ d x) (fi ρ σ):=ip ..
@[simp] theorem zwb(cs:List Nat)(f:qa)(b a:Ev->M D)(ρ:Ev)(σ:db):IJ cs f b a ρ σ=rm ρ (ZG ρ cs f b) (a ρ σ):=ip ..
section
variable(B:Bx)
theorem gZ{w:Int}(i:0<=w/\w<=9)(g:B.s.length<1000):bf [.ref 2,.int 0,.int w] (S B)=.ok .Jb (S { B with s:=Cm B.s w B.d }):=by
 have c:=xz B (.inl rfl);have m:=λfs=>nz B fs;have h:=XF B;have hd:=OC B;have e:=kM B;have f:=λσ=>aM i σ;have n:=y4 (sO B) w;have a:=λρ=>oJ (ρ:=ρ) (σ:=S B) (n:=5) (d:=.int B.d) (w:=w) (kvs:=Cf B.s) rfl (by rw[gC];exact g);rw[uK]at a;unfold bf gQ Cm;cases b:val B.s w with
 |none=>
  rw[b]at n;have a:∀ ρ,ft ρ (.int B.d) (.ref 5) (.int w) (S B)=.ok (.nx ρ) (S { B with s:=qt B.s w B.d }):=a;show _=Out.ok D.Jb (S { B with s:=qt B.s w B.d });generalize S { B with s:=qt B.s w B.d }=j at *;generalize S B=Y at *;simp[c,m,h,hd,e,f,n,a]
 |some v=>
  rw[b]at n;show _=Out.ok D.Jb (S B);generalize S B=Y at *;simp[c,m,h,e,f,n]
theorem fX:Bc [.ref 2] (S B)=.ok .Jb (S { B with d:=B.d+1 }):=by
 have h:∀ a:Ev,ZG a [7,9] "day" (eC (.int 1)) (.ref 2) (S B)=.ok (.nx a) (S { B with d:=B.d+1 }):=λa=>rfl;unfold Bc UR;generalize S { B with d:=B.d+1 }=b at *;generalize S B=Y at *;simp[h]
theorem VR{s:Int}(a:s=0\/s=1)(σ:db):gf [.int s] σ=.ok .Jb σ:=by
 have h:=XC a σ;unfold gf DR;simp[h]
theorem qI(u v t:Int)(σ:db):qc [pD u v t] σ=.ok (.int (u+v)) σ:=by
 unfold qc LJ pD;simp
theorem XO(c:Cl)(ρ:Ev):Eu ρ (c.D B.w B.t) (.ref 3) (.int 0) (S B)=.ok (.nx ρ) (S { B with c:=c }):=nr rfl
noncomputable def Qu(s:Int)(X:D):D:=.tup [.str "agree",.int 0,.int s,X]
noncomputable def Bv(s n:Int):D:=.tup [.str "strike",.int 0,.int s,.int n]
theorem OM(n a b:Int)(ts:List Ti):pl 8 (yc n a b ts)=true:=by simp[pl,yc,Ti.D]
theorem VW{s n a b:Int}{ts:List Ti}(k:s=0\/s=1)(h:Sq n a b ts)(σ:db):ff [Qu s (yc n a b ts)] σ=.ok (.bl true) σ:=by
 have e:=jG h σ;have f:=XC k σ;have g:=dR σ;have j:∀ X,Uc [.tup [.str "agree",.int 0,.int s,X]] σ=.ok (.bl true) σ:=λX=>by
  unfold Uc VH;simp[f,g]
 have i:∀ X,Qb (.tup [.str "agree",.int 0,.int s,X]) (.int 3) σ=.ok X σ:=λX=>by simp
 have c:(("agree" : qa) == "word")=false:=by decide
 have d:(("agree" : qa) == "strike")=false:=by decide
 unfold Qu ff UH;generalize yc n a b ts=X at *;simp[e,j,c,d]
theorem zwy{s n:Int}(f:s=0\/s=1)(h:0<=n/\n<=1000000)(σ:db):ff [Bv s n] σ=.ok (.bl true) σ:=by
 have b:=BR h σ;have c:=XC f σ;have d:=dR σ;have e:∀ X,Uc [.tup [.str "strike",.int 0,.int s,X]] σ=.ok (.bl true) σ:=λX=>by
  unfold Uc VH;simp[c,d]
 have a:(("strike" : qa) == "word")=false:=by decide
 unfold Bv ff UH;simp[b,e,a]
theorem qY{s n a b:Int}{ts:List Ti}(f:s=0\/s=1)(h:Sq n a b ts)(σ:db):og [.int 0,.int s,yc n a b ts,Qu (1 - s) (yc n a b ts)] σ=.ok (.bl true) σ:=by
 have c:=VW (s:=1 - s) (by omega) h σ;have d:=QC (σ:=σ) (x:=Qu (1 - s) (yc n a b ts)) (by simp[pl,Qu,yc,Ti.D]);have e:=bD s σ;unfold og iR;unfold Qu at *;generalize yc n a b ts=X at *;simp[c,e,d]
theorem t2(w t:Int)(σ:db):DB (Ax [(6,true),(7,false),(8,false),(9,false),(11,false),(12,false),(13,false),(14,false),(15,false),(16,false)]) (Cl.D w t .held) σ=.ok (.bl true) σ:=E2 (uu rfl) rfl
theorem AU(P:Gx B.u B.v B.t)(l:B.c=.held){s n a b:Int}{ts:List Ti}(p:s=0\/s=1)(h:Sq n a b ts):Wc [.ref 2,.int 0,.int s,yc n a b ts,Qu (1 - s) (yc n a b ts)] (S B)=.ok (.bl true) (S B):=by
 have i:=xB B;have e:=xC B;rw[l]at e;have j:=kC B;have k:=λd=>ZF B.u B.v B.t d;have f:=λd=>GS P.u P.v d;have g:=λd=>qY p h d;obtain⟨q,m⟩:=j9 (OM n a b ts) (OM 0 B.u B.v []);have r:=λd=>p2 B.u B.v B.t d;have x:=λd=>p3 B.u B.v B.t d;have o:=λd=>t2 B.w B.t d;unfold Wc xT;generalize S B=Y at *;generalize Cl.D B.w B.t .held=z at *;generalize yc n a b ts=X at *;generalize yc 0 B.u B.v []=C at *;generalize Qu (1 - s) X=y at *;generalize PL B.u B.v B.t=L at *;generalize pD B.u B.v B.t=A at *;cases q<;>simp[i,e,j,k,o,r,x,f,m,g]
theorem ykz(P:Gx B.u B.v B.t)(y:B.c=.held){s n a b:Int}{ts:List Ti}(l:s=0\/s=1)(h:Sq n a b ts)(z:a+b+Im ts=B.w) :
  fg [.ref 2,.int 0,.int s,yc n a b ts,Qu (1 - s) (yc n a b ts)] (S B)=.ok .Jb (S { B with c:=.laid s n a b ts B.d }):=by
 have m:=xz B (.inl rfl);have o:=λfs=>nz B fs;have p:=xB B;have q:=kC B;have r:=λσ=>ZF B.u B.v B.t σ;have x:=λσ=>VR l σ;have j:=λσ=>qI B.u B.v B.t σ;have k:=λσ=>ygm h σ;rw[z]at k;have f:=AU B P y l h;have g:∀ fs,eo [(9,Wc)] 5 "may_lie" fs (.ref 2) (S B)=(fs (S B)).bind (Kj 5 Wc (.ref 2)):=λfs=>zq B _ _ _ rfl;have i:=OC B;have A:=λσ=>p4 B.u B.v B.t σ;have C:=λσ=>M9 B.w s n a b ts B.d B.t σ;have D:∀ e,Eu e (LD B.w s n a b ts B.d B.t) (.ref 3) (.int 0) (S B)=.ok (.nx e) (S { B with c:=.laid s n a b ts B.d }):=λe=>XO B (.laid s n a b ts B.d) e;have j:∀ σ,qc [pD B.u B.v B.t] σ=.ok (.int B.w) σ:=j;unfold fg lR;generalize S { B with c:=.laid s n a b ts B.d }=H at *;generalize S B=Y at *;generalize LD B.w s n a b ts B.d B.t=F at *;generalize yc n a b ts=X at *;generalize Qu (1 - s) X=E at *;generalize PL B.u B.v B.t=L at *;generalize pD B.u B.v B.t=G at *;generalize B.w=W at *;simp[m,o,p,q,r,x,j,k,f,g,i,A,C,D,-gO]
theorem G2{w s n a b d t y z:Int}{ts:List Ti}(l:s=0\/s=1)(hz:z=0\/z=1)(hn:0<=n/\n<=1000000)(σ:db) :
  Zb [LD w s n a b ts d t,.int 0,.int z,.int y,Bv (1 - z) n] σ=.ok (.bl (decide (z=1 - s) && decide (y<d+t))) σ:=by
 have h:=λσ=>yP w s n a b ts d t σ;have i:=λσ=>AL w s n a b ts d t σ;have j:=λfs σ=>FP w s n a b ts d t σ fs;have c:=λσ=>iT w s n a b ts d t σ y;have m:∀ σ,Qb (yc n a b ts) (.int 0) σ=.ok (.int n) σ:=λσ=>by simp[yc]
 have f:=λσ=>bD s σ;unfold Zb wP;by_cases e:z=1 - s
 ·obtain rfl:s=1 - z:=by omega
  have o:=λσ=>zwy l hn σ;have p:=λσ=>QC (σ:=σ) (x:=Bv (1 - z) n) (by simp[pl,Bv]);have g:(1:Int) - (1 - z)=z:=by omega
  rw[g]at f;unfold Bv at *;generalize LD w (1 - z) n a b ts d t=L at *;generalize yc n a b ts=X at *;cases hb:decide (y<d+t)
  ·rw[hb]at c;simp[h,i,j,c,f,g]
  ·rw[hb]at c;simp[h,i,j,c,f,o,p,m,g]
 ·have k:(z == 1 - s)=false:=by simpa using e
  generalize LD w s n a b ts d t=L at *;generalize Bv (1 - z) n=q at *;simp[h,f,k,e]
theorem G8{s n a b d z:Int}{ts:List Ti}(x:B.c=.laid s n a b ts d)(A:s=0\/s=1)(hz:z=0\/z=1)(hn:0<=n/\n<=1000000) :
  Xd [.ref 2,.int 0,.int z,Bv (1 - z) n] (S B)=if z=1 - s/\B.d<d+B.t then .ok .Jb (S { B with c:=.taken z })else .ex ⟨2⟩ (S B):=by
 have k:=xz B (.inl rfl);have l:=λfs=>nz B fs;have m:=xB B;have h:=xC B;rw[x]at h;have h:Qb (.ref 3) (.int 0) (S B)=.ok (LD B.w s n a b ts d B.t) (S B):=h;have p:=kC B;have q:=λσ=>ZF B.u B.v B.t σ;have o:=λσ=>VR hz σ;have r:∀ σ,qc [pD B.u B.v B.t] σ=.ok (.int B.w) σ:=λσ=>qI B.u B.v B.t σ;have e:=λσ=>G2 (w:=B.w) (a:=a) (b:=b) (d:=d) (t:=B.t) (y:=B.d) (ts:=ts) A hz hn σ;have f:∀ fs σ,eo [(7,Zb)] 5 "may_strike" fs (LD B.w s n a b ts d B.t) σ=(fs σ).bind (Kj 5 Zb (LD B.w s n a b ts d B.t)):=λfs σ=>zt (ax ..) rfl rfl;have g:=OC B;have C:=λσ=>SW B.w z σ;have E:∀ j,Eu j (.obj 8 ["whole", "side"] [.int B.w,.int z]) (.ref 3) (.int 0) (S B)=.ok (.nx j) (S { B with c:=.taken z }):=λj=>XO B (.taken z) j;unfold Xd SM;generalize S { B with c:=.taken z }=J at *;generalize S B=Y at *;generalize LD B.w s n a b ts d B.t=F at *;generalize D.obj 8 ["whole", "side"] [.int B.w,.int z]=I at *;generalize Bv (1 - z) n=H at *;generalize PL B.u B.v B.t=L at *;generalize pD B.u B.v B.t=G at *;by_cases i:z=1 - s/\B.d<d+B.t
 ·have hb:(decide (z=1 - s) && decide (B.d<d+B.t))=true:=by simpa using i
  rw[hb]at e;rw[ia i];simp[k,l,m,h,p,q,o,r,e,f,g,C,E,-nP]
 ·have hb:(decide (z=1 - s) && decide (B.d<d+B.t))=false:=by simpa using i
  rw[hb]at e;rw[ja i];simp[k,l,m,h,o,e,f,g]
end
theorem YS{tg:D->Ev->Option Ev}{body:Ev->M Fl}{n k i:Nat}{ρ ρ1:Ev}{σ:db}{xs:List D}{d:D}(h:ek σ n=some xs)(a:xs[i]?=some d)(b:tg d ρ=some ρ1):gu tg body n (k+1) i ρ σ=(body ρ1 σ).bind (tw (gu tg body n k (i+1))):=by
 rw[gu];simp only[h,a,b];rfl
theorem v6{tg:D->Ev->Option Ev}{body:Ev->M Fl}{n k i:Nat}{ρ:Ev}{σ:db}{xs:List D}(h:ek σ n=some xs)(a:xs[i]?=none):gu tg body n (k+1) i ρ σ=.ok (.nx ρ) σ:=by
 rw[gu];simp only[h,a]
@[simp] theorem jK(ρ:Ev)(σ:db):Nr ρ σ=.ok (.ref σ.length) (σ++[.Ya []]):=nr rfl
@[simp] theorem zm5(o:D->List D->M D)(f:Ev->M D)(fs:Ev->M (List D))(ρ:Ev)(σ:db):kA o f fs ρ σ=(f ρ σ).bind (pA o (fs ρ)):=nr rfl
theorem cQ(σ:db)(kvs:Kv):ej (σ++[.Ya kvs]) (.ref σ.length)=some kvs:=by unfold ej;simp
theorem BN{σ:db}{kvs more:Kv}{j:Nat}(c:σ[j]?=some (.Ya more))(f:kvs.length+more.length<=1000):Hv (.ref σ.length) [.ref j] (σ++[.Ya kvs])=.ok .Jb (σ++[.Ya (Rp kvs more)]):=by
 have b:=(ma.mp c).1;have d:(σ++[Ob.Ya kvs])[σ.length]?=some (.Ya kvs):=by simp
 have e:ej (σ++[.Ya kvs]) (.ref j)=some more:=by unfold ej;dsimp only;rw[Ta b,c]
 unfold Hv;simp only[d,e];have a:(apart σ.length (.ref j) && decide (kvs.length+more.length<=li))=true:=by
  unfold apart;simp only[Fa,Lb];exact⟨by simp;omega,f⟩
 rw[ia a,wS]
theorem e0{σ:db}{x:D}{kvs:Kv}{vs:List Int}(b:Oi σ x=none)(hd:ej σ x=some kvs)(a:Ix kvs=some vs)(hn:vs.length<64):Eh σ (qB [x] σ)=.ok (.lst ((tp vs).map D.int)) σ:=by
 have o:qB [x] σ=.ok (.ref σ.length) (σ++[.lst ((tp vs).map D.int)]):=by
  unfold qB;simp only[b];unfold EG;simp only[hd,a];rw[ia hn];rfl
 rw[o];exact Wy (by simp)
theorem lI(l:Kv)(k:Key)(d:D):(Fm l k d).length<=l.length+1:=by
 unfold Fm;split<;>simp
theorem Gm:∀ (m l:Kv),(Rp l m).length<=l.length+m.length
 |[],l=>by simp[Rp]
 |p::m,l=>by
  have a:=Gm m (Fm l p.1 p.2);have b:=lI l p.1 p.2;show (Rp (Fm l p.1 p.2) m).length<=_;rw[Ma];omega
noncomputable def aI(l:Kv):Prop:=∀ p∈l,∃ i,p.1=.inl i
theorem uO:∀ {l:Kv},aI l->∃ vs,Ix l=some vs/\vs.length=l.length
 |[],_=>⟨[],rfl,rfl⟩
 |(k,d)::l,h=>by
  obtain⟨i,e⟩:=h _ Aa;obtain⟨vs,a,b⟩:=uO (l:=l) λp c=>h p (ya _ c);have e:k=.inl i:=e;subst e;exact⟨i::vs,by unfold Ix;rw[a];rfl,by rw[Ma,Ma,b]⟩
theorem V8{l:Kv}(h:aI l)(i:Int)(d:D):aI (Fm l (.inl i) d):=λq a=>by
 unfold Fm at a;split at a
 ·obtain⟨p,b,rfl⟩:=Db.mp a;split
  ·exact h p b
  ·exact h p b
 ·rcases Ud.mp a with z|z
  ·exact h q z
  ·rw[Jd.mp z];exact⟨i,rfl⟩
theorem JQ:∀ (m l:Kv),aI m->aI l->aI (Rp l m)
 |[],l,_,h=>h
 |p::m,l,hm,h=>by
  obtain⟨i,e⟩:=hm _ Aa;show aI (Rp (Fm l p.1 p.2) m);rw[e];exact JQ m _ (λq a=>hm q (ya _ a)) (V8 h i _)
theorem AY(l:List (Int × Int)):aI (Cf l):=λq a=>by
 unfold Cf at a;obtain⟨p,_,rfl⟩:=Db.mp a;exact⟨_,rfl⟩
theorem CY(B:Bx)(w:B.s.length<=10):∃ ws:List Int,ws.length<=10/\kc [.ref 2] (S B)=.ok (.lst (ws.map D.int)) (S B):=by
 have d:∀ j,gc [9] "shown" (.ref 2) (S B++j)=.ok (.ref 4) (S B++j):=λj=>XF { B with J:=B.J++j };have a:∀ j,ek (S B++j) 4=some [.ref 5,.ref 6]:=λj=>rfl;have r:∀ j,vw (.ref 4) (S B++j)=.ok (.Yt 4) (S B++j):=λj=>by unfold vw;dsimp only;rw[a]
 have u:=BN (σ:=S B) (kvs:=[]) (j:=5) (more:=Cf B.s) rfl (by rw[gC];simp;omega);have b:=Gm (Cf B.s) [];rw[gC]at b;have u1:=BN (σ:=S B) (kvs:=Rp [] (Cf B.s)) (j:=6) (more:=[]) rfl (by simp at b ⊢;omega);have u1:Hv (.ref (S B).length) [.ref 6] (S B++[.Ya (Rp [] (Cf B.s))])=.ok .Jb (S B++[.Ya (Rp [] (Cf B.s))]):=u1;have f:∀ kvs fs,pA Hv fs (.ref (S B).length) (S B++[.Ya kvs])=(fs (S B++[.Ya kvs])).bind (Hv (.ref (S B).length)):=λkvs fs=>by unfold pA;rw[cQ];rfl
 obtain⟨c,p,y⟩:=uO (JQ (Cf B.s) [] (AY B.s) (λ_ h=>nomatch h));have t:=e0 (σ:=S B++[.Ya (Rp [] (Cf B.s))]) (x:=.ref (S B).length) (by unfold Oi ek;simp) (cQ ..) p (by simp at b;omega);refine⟨tp c,by rw[(Ay c).length_eq];simp at b;omega,?_⟩;have o:cl (.lst ((tp c).map D.int))=true:=by simp
 generalize (tp c).map D.int=e at *;have m:∀ (tg:D->Ev->Option Ev) (body:Ev->M Fl) (g:Ev) (n:Nat) (σ:db),pF tg body g (.Yt n) σ=gu tg body n 1001 0 g σ:=λ_ _ _ _ _=>rfl;have q:gu (Zd 2) (wj (kA Hv (ga 1) (za (ga 2) Na))) 4 1001 0 [some (.ref 2),some (.ref (S B).length),none] (S B++[.Ya []])=.ok (.nx [some (.ref 2),some (.ref (S B).length),some (.ref 6)]) (S B++[.Ya (Rp [] (Cf B.s))]):=by
  rw[YS (a _) (i:=0) rfl (ρ1:=[some (.ref 2),some (.ref (S B).length),some (.ref 5)]) (nr rfl)];have k:wj (kA Hv (ga 1) (za (ga 2) Na)) [some (.ref 2),some (.ref (S B).length),some (.ref 5)] (S B++[.Ya []])=.ok (.nx [some (.ref 2),some (.ref (S B).length),some (.ref 5)]) (S B++[.Ya (Rp [] (Cf B.s))]):=by
   generalize S B=Y at *;simp[f,u]
  have l:wj (kA Hv (ga 1) (za (ga 2) Na)) [some (.ref 2),some (.ref (S B).length),some (.ref 6)] (S B++[.Ya (Rp [] (Cf B.s))])=.ok (.nx [some (.ref 2),some (.ref (S B).length),some (.ref 6)]) (S B++[.Ya (Rp [] (Cf B.s))]):=by
   generalize S B=Y at *;simp[f,u1]
  rw[k,nc,Rl,YS (a _) (i:=1) rfl (ρ1:=[some (.ref 2),some (.ref (S B).length),some (.ref 6)]) (nr rfl),l,nc,Rl];exact v6 (a _) rfl
 have fz:∀ x,Eh (S B) (.ok (.lst e) (S B++[x]))=.ok (.lst e) (S B):=λx=>vI o (by simp);unfold kc gN;generalize Rp [] (Cf B.s)=v at *;generalize S B=Y at *;simp only[Ul,Gz,wt,cg,Tu,jK,nc,Lh,WA,ig,Da,ce,Ma,mj,List.cons_append,Yx,gb,ib,Nat.reduceAdd,Nat.reduceSub,List.replicate,Ky,JC,Rv,gj,d,r,m,q,Kx,HB,YU,kt,gn,Zs,bo,ot,t,Ez,vy,fz]
noncomputable def js(K:Kv)(ws:List Int):Kv:=ws.foldl (λK w=>Fm K (.inl w) (.bl true)) K
theorem jP:∀ (ws:List Int) (K:Kv),(js K ws).length<=K.length+ws.length
 |[],K=>by simp[js]
 |w::ws,K=>by
  have a:=jP ws (Fm K (.inl w) (.bl true));have b:=lI K (.inl w) (.bl true);show (js (Fm K (.inl w) (.bl true)) ws).length<=_;rw[Ma];omega
theorem AT(W:Option D):∀ (ws:List Int) (B:Bx) (a:Option D),B.K.length+ws.length<1000->∃ b,Pm (Zd 2) xF (ws.map D.int) [some (.ref 9),W,a] (S B)=.ok (.nx [some (.ref 9),W,b]) (S { B with K:=js B.K ws })
 |[],B,a,_=>⟨a,by simp[js]⟩
 |w::ws,B,a,d=>by
  rw[Ma]at d;have g:xF [some (.ref 9),W,some (.int w)] (S B)=.ok (.nx [some (.ref 9),W,some (.int w)]) (S { B with K:=Fm B.K (.inl w) (.bl true) }):=by
   have e:=MW B;have f:∀ c,ft c (.bl true) (.ref 10) (.int w) (S B)=.ok (.nx c) (S { B with K:=Fm B.K (.inl w) (.bl true) }):=λc=>oJ (kvs:=B.K) rfl (by omega);unfold xF;generalize S { B with K:=Fm B.K (.inl w) (.bl true) }=h at *;generalize S B=Y at *;simp[e,f]
  have pl:=lI B.K (.inl w) (.bl true);obtain⟨b,q⟩:=AT W ws { B with K:=Fm B.K (.inl w) (.bl true) } (some (.int w)) (by dsimp only;omega);refine⟨b,?_⟩;rw[Da,Ks];simp only[gb,ib];rw[g,nc,Rl,q];rfl
theorem P7(B:Bx)(ws:List Int)(a:B.K.length+ws.length<1000):Ub [.ref 9,.lst (ws.map D.int)] (S B)=.ok .Jb (S { B with K:=js B.K ws }):=by
 obtain⟨d,q⟩:=AT (some (.lst (ws.map D.int))) ws B none a;unfold Ub EL;generalize ws.map D.int=b at *;generalize S { B with K:=js B.K ws }=c at *;generalize S B=Y at *;simp[q,-EQ]
noncomputable def ww(c:D):Prop:=c=.gt ["held"]\/c=.tup [.str "held"]
theorem KN{c:D}(h:ww c)(σ:db):Qb c (.int 0) σ=.ok (.str "held") σ:=by
 rcases h with rfl|rfl
 ·exact nr rfl
 ·simp
theorem z6{c:D}(h:ww c)(x:D)(σ:db):pf [x,c] σ=.ok (.bl false) σ:=by
 have i:=KN h σ;have b:((("held" : qa) == ("laid" : qa)))=false:=by decide
 unfold pf zO;simp[i,b]
noncomputable def Ir:D:=yc 0 5 5 []
theorem RU(σ:db):gc [10,11,12,13] "may" Tj σ=.ok (.lst [Ir]) σ:=dj (uu rfl) rfl rfl
theorem zqc{c:D}(h:ww c)(σ:db):sf [Tj,c] σ=.ok (.lst [Ir]) σ:=by
 have i:=KN h σ;have m:=RU σ;have a:cl (.lst [Ir])=true:=by unfold Ir yc;simp
 have b:((("held" : qa) == ("held" : qa)))=true:=by decide
 unfold sf zP;generalize D.lst [Ir]=L at *;generalize Tj=A at *;simp[i,m,a,b]
theorem ygp{c:D}(h:ww c)(σ:db):Bh [Tj,c] σ=.ok (.lst []) σ:=by
 have j:=λσ=>zqc h σ;have ix:∀ σ,Qb Ir (.int 2) σ=.ok (.tup []) σ:=λσ=>by unfold Ir yc;simp
 have i:∀ (a:Ev->M Bool) (e:Ev) (σ:db),Dk (Qa Qb (ga 3) (eC (.int 2))) e σ=.ok (.seq []) σ->cm (yr (toN (Dk (Qa Qb (ga 3) (eC (.int 2))))) [0] (Zd 0) a (ga 0)) e σ=.ok (.lst []) σ:=λa e σ b=>
  gR (s:=.seq []) (ds:=[]) (ix:=[0]) (λd=>d) (λ_=>true) b (λ_ _=>rfl) (by simp) (λd hd=>nomatch hd) (λd hd=>nomatch hd)
 have b:∀ σ,Dk (Qa Qb (ga 3) (eC (.int 2))) [some Tj,some c,some (.ref σ.length),some Ir] (σ++[.lst []])=.ok (.seq []) (σ++[.lst []]):=λσ=>by
  generalize Tj=A at *;generalize Ir=X at *;simp[ix]
 have g:=λa=>i a [some Tj,some c,some (.ref σ.length),some Ir] (σ++[.lst []]) (b σ);have ex:iD (.ref σ.length) [.lst []] (σ++[.lst []])=.ok .Jb (σ++[.lst []]):=by
  have f:Oi (σ++[Ob.lst []]) (.lst [])=some []:=rfl;unfold iD;simp only[NA,f];rw[ia (by simp)];simp
 have fz:Eh σ (.ok (.ref σ.length) (σ++[.lst []]))=.ok (.lst []) σ:=Wy rfl;unfold Bh HP;generalize Tj=A at *;generalize Ir=X at *;simp[j,g,ex,fz,-HB]
section
variable(B:Bx)
noncomputable abbrev Bd:Bx:={ B with ao:=.Ya aV }
noncomputable abbrev Bf:Bx:={ B with ao:=.Kc aV }
theorem YI(ρ:Ev):iu (Vc (gc [15] "accounts") (ga 0)) (some (.ref 9)::ρ) (S (Bd B))=.ok (Ys aV) (S (Bf B)):=by
 have a:=CK (Bd B);show qd (Vc (gc [15] "accounts") (ga 0) _) OA _=_;rw[Up,Rv,gj,nc,a,nc];rfl
theorem wY(ρ:Ev):nL (Vc (gc [15] "accounts") (ga 0)) (some (.ref 9)::ρ) (S (Bd B))=.ok (dD aV) (S (Bf B)):=by
 have a:=CK (Bd B);show qd (Vc (gc [15] "accounts") (ga 0) _) TJ _=_;rw[Up,Rv,gj,nc,a,nc];rfl
theorem OF(c:Bx){ρ ρ1 b:Ev}{src:Ev->M NX}{tg:D->Ev->Option Ev}{body:Ev->M Fl}{nx:NX}{d:D}(g:src (some (.ref 9)::ρ) (S (Bd B))=.ok nx (S (Bf B)))
  (e:∀ σ,nx 0 σ=some (some d)) (f:∀ σ,nx 1 σ=some none) (h:tg d (some (.ref 9)::ρ)=some ρ1) (hb:body ρ1 (S (Bf B))=.ok (.nx b) (S (Bf c))) :
  qv (Vc (gc [15] "accounts") (ga 0)) (fr src tg body) (some (.ref 9)::ρ) (S (Bd B))=.ok (.nx b) (S (Bd c)):=by
 have a:=CK (Bd B);show Gu Vw (Vc (gc [15] "accounts") (ga 0) _) (fr src tg body _) _=_;unfold Gu;rw[Rv,gj,nc,a];dsimp only;rw[show (S (Bd B))[11]?=some (.Ya aV)from rfl];dsimp only;rw[lG,g,Lh];show Jx Vw _ (bp nx tg body 1001 0 _ _)=_;rw[ox (e _) h,hb,nc,Rl,EB (f _)];unfold Jx;simp only[Vw,Ee,show (S (Bf c))[11]?=some (.Kc aV)from rfl];rfl
theorem DO:Wv (.ref 12) (.int 1) (S B)=.ok B.h (S B):=nr rfl
variable(hh:ww B.h)
include hh
theorem R1:Yb [.ref 9,.ref 2] (S (Bd B))=.ok (.lst []) (S (Bd B)):=by
 generalize o:S (Bd B)=X;have a:X++[.lst []]=S (Bd { B with J:=B.J++[.lst []] }):=by rw[<-o];rfl
 have b:=n6 (Bd { B with J:=B.J++[.lst []] });have f:=λfs=>zq (Bd { B with J:=B.J++[.lst []] }) (m:="made_of") 1 Bb fs rfl;rw[<-a]at b f;have c:∀ e,cm (yr (toN (Dk (Od [(9,Bb)] 1 "made_of" (ga 1) Na))) [] (Zd 0) Vq (Qa Qb (ga 0) (eC (.int 4)))) [some (.ref 9),some (.ref 2),e,none,none,none,none] (X++[.lst []])=.ok (.lst [.int B.t,.int 40]) (X++[.lst []]):=λe=>
  ZE (s:=.seq [pD B.u B.v B.t,qD]) (ix:=[]) (ρ:=[some (.ref 9),some (.ref 2),e,none,none,none,none]) (σ:=X++[.lst []]) (src:=Dk (Od [(9,Bb)] 1 "made_of" (ga 1) Na)) (fe:=Qa Qb (ga 0) (eC (.int 4))) (ds:=[pD B.u B.v B.t,qD])
   (λd=>match d with | .tup [_,_,_,_,x]=>x|_=>.Jb) (by
    have r:∀ σ,vw (PL B.u B.v B.t) σ=.ok (.seq [pD B.u B.v B.t,qD]) σ:=λσ=>zE _;dsimp only at b;generalize X++[.lst []]=Y at *;generalize PL B.u B.v B.t=L at *;simp[b,f,r]) (λ_ _=>rfl) (by simp) (λd hd j=>by
    have p:=λσ=>p4 B.u B.v B.t σ;have q:=λσ=>q4 σ;rcases Ha.mp hd with rfl|hd
    ·show _=Out.ok (D.int B.t) _;generalize pD B.u B.v B.t=i at *;simp[p]
    ·have:d=qD:=by simpa using hd
     subst this;show _=Out.ok (D.int 40) _;generalize qD=i at *;simp[q]) (λd hd=>by
    rcases Ha.mp hd with rfl|hd
    ·show cl (D.int B.t)=true;simp
    ·have:d=qD:=by simpa using hd
     subst this;show cl (D.int 40)=true;simp)
 have bd:SE [some (.ref 9),some (.ref 2),some (.ref X.length),some (.lst [.int B.t,.int 40]),some (.int 1),some Tj,none] (S (Bf { B with J:=B.J++[.lst []] }))=.ok (.nx [some (.ref 9),some (.ref 2),some (.ref X.length),some (.lst [.int B.t,.int 40]),some (.int 1),some Tj,some B.h]) (S (Bf { B with J:=B.J++[.lst []] })):=by
  have k:=CJ (Bf { B with J:=B.J++[.lst []] });have l:Wv (.ref 12) (.int 1) (S (Bf { B with J:=B.J++[.lst []] }))=.ok B.h _:=DO (Bf { B with J:=B.J++[.lst []] });have n:=λx σ=>z6 hh x σ;unfold SE;generalize S (Bf { B with J:=B.J++[.lst []] })=Y at *;generalize Tj=w at *;generalize B.h=y at *;simp[k,l,n]
 have g:=OF { B with J:=B.J++[.lst []] } { B with J:=B.J++[.lst []] } (YI { B with J:=B.J++[.lst []] } [some (.ref 2),some (.ref X.length),some (.lst [.int B.t,.int 40]),none,none,none]) (d:=.tup [.int 1,Tj]) (λ_=>rfl) (λ_=>rfl) (tg:=Bn 2 (Ah (Zd 4) (Ah (Zd 5) io))) (body:=SE) rfl bd;rw[<-a]at g;have fz:Eh X (.ok (.ref X.length) (X++[.lst []]))=.ok (.lst []) X:=Wy rfl;have c:=c (some (.ref X.length));unfold Yb xR;rw[Ul,Gz,wt];show Eh X (uk (Kb _ _ [some (.ref 9),some (.ref 2),none,none,none,none,none] X))=_;rw[cg,Tu,YK,bo,nc,nI,Lh,WA,nc,ig];show Eh X (uk (Kb _ _ [some (.ref 9),some (.ref 2),some (.ref X.length),none,none,none,none] (X++[.lst []])))=_;rw[cg,Tu,c,Lh,WA,nc,ig];show Eh X (uk (Kb _ _ [some (.ref 9),some (.ref 2),some (.ref X.length),some (.lst [.int B.t,.int 40]),none,none,none] (X++[.lst []])))=_;rw[cg,g,nc,ig];simp only[Kx,gn,gj,Lh,Ez,vy,fz]
theorem SV:uc [.ref 9,.ref 2] (S (Bd B))=.ok (.lst []) (S (Bd B)):=by
 generalize f:S (Bd B)=X;have a:X++[.lst []]=S (Bd { B with J:=B.J++[.lst []] }):=by rw[<-f];rfl
 have bd:aH [some (.ref 9),some (.ref 2),some (.ref X.length),some (.int 1),some Tj,none] (S (Bf { B with J:=B.J++[.lst []] }))=.ok (.nx [some (.ref 9),some (.ref 2),some (.ref X.length),some (.int 1),some Tj,none]) (S (Bf { B with J:=B.J++[.lst []] })):=by
  have c:=CJ (Bf { B with J:=B.J++[.lst []] });have e:Wv (.ref 12) (.int 1) (S (Bf { B with J:=B.J++[.lst []] }))=.ok B.h _:=DO (Bf { B with J:=B.J++[.lst []] });have g:=λi=>ygp hh i;unfold aH;generalize S (Bf { B with J:=B.J++[.lst []] })=Y at *;generalize Tj=j at *;generalize B.h=k at *;simp[c,e,g]
 have b:=OF { B with J:=B.J++[.lst []] } { B with J:=B.J++[.lst []] } (YI { B with J:=B.J++[.lst []] } [some (.ref 2),some (.ref X.length),none,none,none]) (d:=.tup [.int 1,Tj]) (λ_=>rfl) (λ_=>rfl) (tg:=Bn 2 (Ah (Zd 3) (Ah (Zd 4) io))) (body:=aH) rfl bd;rw[<-a]at b;have fz:Eh X (.ok (.ref X.length) (X++[.lst []]))=.ok (.lst []) X:=Wy rfl;unfold uc WN;rw[Ul,Gz,wt];show Eh X (uk (Kb _ _ [some (.ref 9),some (.ref 2),none,none,none,none] X))=_;rw[cg,Tu,YK,bo,nc,nI,Lh,WA,nc,ig];show Eh X (uk (Kb _ _ [some (.ref 9),some (.ref 2),some (.ref X.length),none,none,none] (X++[.lst []])))=_;rw[cg,b,nc,ig];simp only[Kx,gn,gj,Lh,Ez,vy,fz]
theorem ybp:Mc [.ref 9,.ref 2] (S (Bd B))=.ok (.lst []) (S (Bd B)):=by
 generalize f:S (Bd B)=X;have a:X++[.lst []]=S (Bd { B with J:=B.J++[.lst []] }):=by rw[<-f];rfl
 have bd:HG [some (.ref 9),some (.ref 2),some (.ref X.length),some (.int 1),some Tj] (S (Bf { B with J:=B.J++[.lst []] }))=.ok (.nx [some (.ref 9),some (.ref 2),some (.ref X.length),some (.int 1),some Tj]) (S (Bf { B with J:=B.J++[.lst []] })):=by
  have c:=P4 (Bf { B with J:=B.J++[.lst []] });have e:Cy (.int 1) (.ref 15) (S (Bf { B with J:=B.J++[.lst []] }))=.ok (.bl false) (S (Bf { B with J:=B.J++[.lst []] })):=nr rfl;unfold HG;generalize S (Bf { B with J:=B.J++[.lst []] })=Y at *;generalize Tj=g at *;simp[c,e]
 have b:=OF { B with J:=B.J++[.lst []] } { B with J:=B.J++[.lst []] } (YI { B with J:=B.J++[.lst []] } [some (.ref 2),some (.ref X.length),none,none]) (d:=.tup [.int 1,Tj]) (λ_=>rfl) (λ_=>rfl) (tg:=Bn 2 (Ah (Zd 3) (Ah (Zd 4) io))) (body:=HG) rfl bd;rw[<-a]at b;have fz:Eh X (.ok (.ref X.length) (X++[.lst []]))=.ok (.lst []) X:=Wy rfl;unfold Mc US;rw[Ul,Gz,wt];show Eh X (uk (Kb _ _ [some (.ref 9),some (.ref 2),none,none,none] X))=_;rw[cg,Tu,YK,bo,nc,nI,Lh,WA,nc,ig];show Eh X (uk (Kb _ _ [some (.ref 9),some (.ref 2),some (.ref X.length),none,none] (X++[.lst []])))=_;rw[cg,b,nc,ig];simp only[Kx,gn,gj,Lh,Ez,vy,fz]
end
theorem yb5(B:Bx)(J:ww B.h)(r:B.s.length<=10)(I:B.K.length<=900):∃ K,K.length<=B.K.length+10/\vd [.ref 9,.ref 2] (S (Bd B))=.ok (.lst []) (S (Bd { B with l:=B.d,K:=K,h:=.tup [.str "held"] })):=by
 obtain⟨a,L,g⟩:=CY (Bd { B with l:=B.d,h:=.tup [.str "held"] }) r;refine⟨js B.K a,yb (jP a B.K) (by omega),?_⟩;have bd:EF [some (.ref 9),some (.ref 2),some (.int 1)] (S (Bf { B with l:=B.d }))=.ok (.nx [some (.ref 9),some (.ref 2),some (.int 1)]) (S (Bf { B with l:=B.d,h:=.tup [.str "held"] })):=by
  have c:=mV (Bf { B with l:=B.d });have e:=λfs=>zq (Bf { B with l:=B.d }) (m:="told") 2 rb fs rfl;have t:=CJ (Bf { B with l:=B.d });have u:∀ b,ft b (.tup [.str "held"]) (.ref 12) (.int 1) (S (Bf { B with l:=B.d }))=.ok (.nx b) (S (Bf { B with l:=B.d,h:=.tup [.str "held"] })):=λb=>rfl;have g:=uU (Bf { B with l:=B.d,h:=.tup [.str "held"] });have f:=λfs=>zq (Bf { B with l:=B.d,h:=.tup [.str "held"] }) (m:="shown_for") 2 Jc fs rfl;have v:=r6 (Bf { B with l:=B.d,h:=.tup [.str "held"] });have w:∀ b,ft b (.Ya [] []) (.ref 13) (.int 1) (S (Bf { B with l:=B.d,h:=.tup [.str "held"] }))=.ok (.nx b) (S (Bf { B with l:=B.d,h:=.tup [.str "held"] })):=λb=>rfl;unfold EF;generalize S (Bf { B with l:=B.d,h:=.tup [.str "held"] })=k at *;generalize S (Bf { B with l:=B.d })=Y at *;simp[c,e,t,u,g,f,v,w]
 have E:=OF { B with l:=B.d } { B with l:=B.d,h:=.tup [.str "held"] } (wY { B with l:=B.d } [some (.ref 2),none]) (d:=.int 1) (λ_=>rfl) (λ_=>rfl) (tg:=Zd 2) (body:=EF) rfl bd;have c:=kL (Bd B);have e:=λfs=>zq (Bd B) (m:="today") 1 Ab fs rfl;have C:∀ b,Xt b [14,15] "last_look" (.int B.d) (.ref 9) (S (Bd B))=.ok (.nx b) (S (Bd { B with l:=B.d })):=λb=>rfl;have f:=λfs=>zq (Bd { B with l:=B.d,h:=.tup [.str "held"] }) (m:="all_shown") 1 kc fs rfl;have i:=P7 (Bd { B with l:=B.d,h:=.tup [.str "held"] }) a (by dsimp only;omega);have x:=λfs=>CB (Bd { B with l:=B.d,h:=.tup [.str "held"] }) (m:="learn") 2 Ub fs rfl;have n:=R1 { B with l:=B.d,K:=js B.K a,h:=.tup [.str "held"] } (.inr rfl);have o:=SV { B with l:=B.d,K:=js B.K a,h:=.tup [.str "held"] } (.inr rfl);have p:=ybp { B with l:=B.d,K:=js B.K a,h:=.tup [.str "held"] } (.inr rfl);have y:=λfs=>CB (Bd { B with l:=B.d,K:=js B.K a,h:=.tup [.str "held"] }) (m:="strike_all") 2 Yb fs rfl;have z:=λfs=>CB (Bd { B with l:=B.d,K:=js B.K a,h:=.tup [.str "held"] }) (m:="show_all") 2 uc fs rfl;have A:=λfs=>CB (Bd { B with l:=B.d,K:=js B.K a,h:=.tup [.str "held"] }) (m:="lay_all") 2 Mc fs rfl;have q:∀ σ:db,ki (.lst []) (.lst []) σ=.ok (.lst []) σ:=λσ=>qV (by simp);dsimp only at i c;unfold vd iP;generalize S (Bd { B with l:=B.d,K:=js B.K a,h:=.tup [.str "held"] })=H at *;generalize S (Bd { B with l:=B.d,h:=.tup [.str "held"] })=G at *;generalize S (Bd { B with l:=B.d })=k at *;generalize S (Bd B)=j at *;generalize a.map D.int=F at *;rw[Ul,wt];show uk (Kb _ _ [some (.ref 9),some (.ref 2),none] j)=_;rw[cg];simp only[wy,Nu,gn,gj,nc,e,bo,Ww,c,Lh,ry,C,ig];rw[cg,E,nc,ig,cg];simp only[mF,Nu,gn,gj,nc,x,kt,f,bo,Ww,g,Zs,ot,cB,i,Lh,fH,ig];simp only[Kx,Av,Nu,gn,gj,nc,y,z,A,kt,Zs,bo,ot,cB,n,o,p,QJ,q,Lh,Ez,vy]
noncomputable abbrev Bw(B:Bx):Bx:={ B with ko:=.Ya kV,ao:=.Ya aV }
noncomputable abbrev Bk(B:Bx):Bx:={ B with ko:=.Kc kV,ao:=.Ya aV }
structure Nx(B C:Bx):Prop where
 h:ww C.h
 k:C.K.length<=B.K.length+10
 e:∃ l K h,C={ B with d:=B.d+1,l:=l,K:=K,h:=h }
theorem GZ(B:Bx)(n:ww B.h)(i:B.s.length<=10)(v:B.K.length<=900):∃ C,Nx B C/\Vb [.ref 1] (S (Bw B))=.ok .Jb (S (Bw C)):=by
 have a:∃ l K h,ww h/\K.length<=B.K.length+10/\iz [some (.ref 1),some (.ref 9)] (S (Bk B))=.ok (.nx [some (.ref 1),some (.ref 9)]) (S (Bk { B with l:=l,K:=K,h:=h })):=by
  have e:=Yy (Bk B);have k:=K5 (Bk B);have b:=λfs=>zq (Bk B) (m:="today") 1 Ab fs rfl;have f:=kL (Bk B);have q:=λfs=>CB (Bk B) (m:="looked") 1 gd fs rfl;have p:gd [.ref 9] (S (Bk B))=.ok (.int B.l) (S (Bk B)):=by
   have l:=ybq (Bk B);unfold gd FR;generalize S (Bk B)=Y at *;simp[l]
  have x:=λfs=>CB (Bk B) (m:="look") 2 vd fs rfl;obtain⟨K,w,j⟩:=yb5 (Bk B) n i v;by_cases c:B.d - B.l ≥ 20
  ·refine⟨B.d,K,.tup [.str "held"],.inr rfl,w,?_⟩;have g:decide (B.d - B.l ≥ 20)=true:=by simpa using c
   have j:vd [.ref 9,.ref 2] (S (Bk B))=.ok (.lst []) (S (Bk { B with l:=B.d,K:=K,h:=.tup [.str "held"] })):=j;dsimp only at f;unfold iz;generalize S (Bk { B with l:=B.d,K:=K,h:=.tup [.str "held"] })=r at *;generalize S (Bk B)=Y at *;simp[e,k,b,f,q,p,x,j,g]
  ·refine⟨B.l,B.K,B.h,n,by omega,?_⟩;have g:decide (B.d - B.l ≥ 20)=false:=by simpa using c
   dsimp only at f;unfold iz;show _=Out.ok _ (S (Bk B));generalize S (Bk B)=Y at *;simp[e,k,b,f,q,p,g]
 obtain⟨l,K,h,t,u,bd⟩:=a;refine⟨{ B with d:=B.d+1,l:=l,K:=K,h:=h },⟨t,u,l,K,h,rfl⟩,?_⟩;have o:=jQ (Bw B);have y:qv (Vc (gc [16] "keepers") (ga 0)) (fr (YF (Vc (gc [16] "keepers") (ga 0))) (Zd 1) iz) [some (.ref 1),none] (S (Bw B))=.ok (.nx [some (.ref 1),some (.ref 9)]) (S (Bw { B with l:=l,K:=K,h:=h })):=by
  show Gu Vw (Vc (gc [16] "keepers") (ga 0) _) (fr _ (Zd 1) iz _) _=_;unfold Gu;rw[Rv,gj,nc,o];dsimp only;rw[show (S (Bw B))[7]?=some (.Ya kV)from rfl];dsimp only;have i:YF (Vc (gc [16] "keepers") (ga 0)) [some (.ref 1),none] (S (Bw B))=.ok (Kw kV) (S (Bk B)):=by
   show qd (Vc (gc [16] "keepers") (ga 0) _) xI _=_;rw[Up,Rv,gj,nc,o,nc];rfl
  rw[lG,i,Lh];show Jx Vw _ (bp (Kw kV) (Zd 1) iz 1001 0 [some (.ref 1),none] _)=_;rw[ox (show Kw kV 0 _=some (some (.ref 9))from rfl) (ρ1:=[some (.ref 1),some (.ref 9)]) rfl,bd,nc,Rl,EB (show Kw kV 1 _=some none from rfl)];unfold Jx;simp only[Vw,Ee,show (S (Bk { B with l:=l,K:=K,h:=h }))[7]?=some (.Kc kV)from rfl];rfl
 have e:=Yy (Bw { B with l:=l,K:=K,h:=h });have b:=λfs=>zq (Bw { B with l:=l,K:=K,h:=h }) (m:="next_day") 1 Bc fs rfl;have nx:=fX (Bw { B with l:=l,K:=K,h:=h });have nx:Bc [.ref 2] (S (Bw { B with l:=l,K:=K,h:=h }))=.ok .Jb (S (Bw { B with d:=B.d+1,l:=l,K:=K,h:=h })):=nx;unfold Vb NP;generalize S (Bw { B with d:=B.d+1,l:=l,K:=K,h:=h })=z at *;generalize S (Bw { B with l:=l,K:=K,h:=h })=r at *;generalize S (Bw B)=Y at *;rw[Ul,wt];show uk (Kb _ _ [some (.ref 1),none] Y)=_;rw[cg,y,nc,ig];simp only[mF,Nu,Rv,gj,nc,e,b,bo,Ww,nx,Lh,fH,yes]
theorem iO(u v t:Int)(P:Gx u v t)(σ:db):ud [pD u v t] σ=.ok (.bl true) σ/\ud [qD] σ=.ok (.bl true) σ:=by
 have g:=P.u;have h:=P.v;have f:=P.t;have a:=uQ (a:=.int 0) (b:=.int 1) (c:=.int u) (d:=.int v) (e:=.int t) rfl rfl rfl rfl rfl σ;have b:=uQ (a:=.int 1) (b:=.int 2) (c:=.int 5) (d:=.int 5) (e:=.int 40) rfl rfl rfl rfl rfl σ;have e:DE (.int 0) (.int 1) (.int u) (.int v) (.int t)=true:=by
  simp[DE,bd,cA];refine⟨⟨?_,?_⟩,⟨?_,?_⟩,?_,?_⟩<;>omega
 rw[e]at a;exact⟨a,b⟩
theorem t4{u v t:Int}(P:Gx u v t)(σ:db):Se [PL u v t] σ=.ok (PL u v t) σ:=by
 have a:∀ σ,Oi σ (PL u v t)=some [pD u v t,qD]:=λσ=>rfl;have j:=λσ=>(iO u v t P σ).1;have k:=λσ=>(iO u v t P σ).2;have c:∀ {r:D},(∀ σ,ud [r] σ=.ok (.bl true) σ)->∀ (i:Nat),i<=2->lF [some (PL u v t),some (.int i),some r] σ=.ok (.nx [some (PL u v t),some (.int i),some r]) σ:=fun {r} hm i l=>by
  have b:decide ((i:Int) > 2)=false:=by simp;omega
  unfold lF;simp[hm,b]
 have h:bp (tu (PL u v t)) (Bn 2 (Ah (Zd 1) (Ah (Zd 2) io))) lF 1001 0 [some (PL u v t),none,none] σ=.ok (.nx [some (PL u v t),some (.int 1),some qD]) σ:=by
  rw[ox (zB (a σ) (i:=0) rfl) (ρ1:=[some (PL u v t),some (.int (0:Nat)),some (pD u v t)]) (nr rfl),c j 0 (by omega),nc,Rl,ox (zB (a σ) (i:=1) rfl) (ρ1:=[some (PL u v t),some (.int (1:Nat)),some qD]) (nr rfl),c k 1 (by omega),nc,Rl];exact EB (GH (a σ))
 have d:∀ σ,Xy (PL u v t) σ=.ok (tu (PL u v t)) σ:=λσ=>iJ (a σ);have e:∀ (tg:D->Ev->Option Ev) (body:Ev->M Fl) (ρ:Ev) (nx:NX),BB tg body ρ nx=bp nx tg body 1001 0 ρ:=λ_ _ _ _=>rfl;have f:Eh σ (Iu [PL u v t] σ)=.ok (PL u v t) σ:=wI (x:=PL u v t) rfl (by unfold pD qD;simp);have g:=GN u v t;unfold Se EM;generalize PL u v t=L at *;simp[d,e,h,f,g,-Qy]
theorem VS{ds:List D}{n k i:Nat}{fe:Ev->M D}{vf:Ev}{σ a σ2:db}{o:Option D}{d y:D}(hd:ds[i]?=some d)(h:fe (some d::none::vf) σ=.ok y a)(c:Lu (.ref n) [y] a=.ok .Jb σ2) :
  xj (Src.seq ds).nx n (Zd 0) Vq fe (k+1) i (o::none::vf) σ=xj (Src.seq ds).nx n (Zd 0) Vq fe k (i+1) (some d::none::vf) σ2:=by
 rw[xj];have e:(Src.seq ds).nx i σ=some (some d):=by show some ds[i]?=_;rw[hd]
 have t:Zd 0 d (o::none::vf)=some (some d::none::vf):=rfl;have b:Vq (some d::none::vf) σ=.ok true σ:=rfl;simp only[e,t];rw[Up,zG b,nc,ia rfl,Up,zG h,nc,Up,c,nc]
theorem j0{ds:List D}{n k i:Nat}{fe:Ev->M D}{ρ:Ev}{σ:db}(hd:ds[i]?=none):xj (Src.seq ds).nx n (Zd 0) Vq fe (k+1) i ρ σ=.ok () σ:=by
 rw[xj];have e:(Src.seq ds).nx i σ=some none:=by show some ds[i]?=_;rw[hd]
 simp only[e]
noncomputable abbrev mS(fs:List (qa × D))(r:db):db:=.Ya wW::.ins 16 []::.ins 9 fs::r
theorem jT{u v t:Int}{fe:Ev->M D}{a b:D}{fs:List (qa × D)}{r r1 r2:db}(l:fs.lookup ("pots" : qa)=some (PL u v t))(j:fe [some (pD u v t),none] (mS fs (r++[.lst []]))=.ok a (mS fs (r++.lst []::r1)))(k:fe [some qD,none] (mS fs (r++.lst [a]::r1))=.ok b (mS fs (r++.lst [a]::r2))) :
  yr (toN (Dk (Vc (gc [9,14,16] "pots") (ga 0)))) [] (Zd 0) Vq fe [some (.ref 2),some (PL u v t)] (mS fs r)=.ok (.ref (3+r.length)) (mS fs (r++.lst [a,b]::r2)):=by
 have g:∀ r,gc [9,14,16] "pots" (.ref 2) (mS fs r)=.ok (PL u v t) (mS fs r):=λr=>dj (c:=9) (fs:=fs) rfl rfl l;have n:∀ σ,vw (PL u v t) σ=.ok (.seq [pD u v t,qD]) σ:=λσ=>zE _;have o:Dk (Vc (gc [9,14,16] "pots") (ga 0)) [some (.ref 2),some (PL u v t)] (mS fs r)=.ok (.seq [pD u v t,qD]) (mS fs r):=by
  have g:=g r;generalize mS fs r=Y at *;generalize PL u v t=L at *;simp[g,n]
 have f:(mS fs r).length=3+r.length:=by simp;omega
 have h:∀ (x:D) (xs:List D) (r1:db),xs.length<1000->Lu (.ref (3+r.length)) [x] (mS fs (r++.lst xs::r1))=.ok .Jb (mS fs (r++.lst (xs++[x])::r1)):=λx xs r1 m=>by
  have e:ek (mS fs (r++.lst xs::r1)) (3+r.length)=some xs:=by
   unfold ek;rw[show mS fs (r++.lst xs::r1)=mS fs r++.lst xs::r1 from rfl,Tf (by rw[f];omega),f];simp
  have i:(mS fs (r++.lst xs::r1)).set (3+r.length) (.lst (xs++[x]))=mS fs (r++.lst (xs++[x])::r1):=by
   rw[show mS fs (r++.lst xs::r1)=mS fs r++.lst xs::r1 from rfl,Ss _ _ (by rw[f];omega),f];simp
  unfold Lu;simp only[e];rw[ia (show xs.length<li from m),i]
 show qd (qd (Dk (Vc (gc [9,14,16] "pots") (ga 0)) _) RK) (WF (Zd 0) Vq fe (Tv [] _)) (mS fs r)=_;rw[Up,Up,o,nc];show qd (xj (Src.seq [pD u v t,qD]).nx (mS fs r).length (Zd 0) Vq fe 1001 0 [none,none]) (λ_=>ret (D.ref (mS fs r).length)) (mS fs r++[.lst []])=_;rw[f,Up,show mS fs r++[.lst []]=mS fs (r++[.lst []])from rfl,VS (d:=pD u v t) rfl j (h a [] r1 (by simp)),Yx,VS (d:=qD) rfl k (h b [a] r2 (by simp)),j0 rfl,nc];rfl
theorem HE(ρ:Ev)(a:List Nat)(f:qa)(d:D)(fs:List (qa × D))(r:db)(b:a.contains 9=true)(c:fs.length<1000):Xt ρ a f d (.ref 2) (mS fs r)=.ok (.nx ρ) (mS (lj f d fs) r):=by
 have e:Sy a f d (.ref 2) (mS fs r)=.ok () (mS (lj f d fs) r):=by
  unfold Sy;simp only[show (mS fs r)[2]?=some (.ins 9 fs)from rfl];rw[ia (by rw[b];simpa using c)];rfl
 unfold Xt;rw[e]
theorem mX{u v t:Int}(P:Gx u v t):jp 9 2 ur [PL u v t] [.Ya wW,.ins 16 []]=.ok (.ref 2) (mS (Gq u v t 0) [.lst [Cl.D (u+v) t .held,qp],.lst [.ref 5,.ref 6],.Ya [],.Ya []]):=by
 have g:=λσ=>t4 P σ;have w1:=λσ=>qI u v t σ;have w2:∀ σ,qc [qD] σ=.ok (.int 10) σ:=λσ=>by unfold qc LJ qD;simp
 have d:=λw σ=>zoj w σ;have fe:∀ (P:D) (w:Int) (σ:db),(∀ σ,qc [P] σ=.ok (.int w) σ)->cm (As 6 2 Qn (za (ae 1 qc [] (za (ga 0) Na)) Na)) [some P,none] σ=.ok (.obj 6 ["whole"] [.int w]) σ:=λP w σ l=>by
  have d:=d w σ;generalize D.obj 6 ["whole"] [.int w]=O at *;simp[l,d,-YH]
 have c:=jT (u:=u) (v:=v) (t:=t) (fe:=cm (As 6 2 Qn (za (ae 1 qc [] (za (ga 0) Na)) Na))) (fs:=[("pots",PL u v t),("day",.int 0)]) (r:=[]) (r1:=[]) (r2:=[]) rfl (fe _ _ _ w1) (fe _ _ _ w2);have f:=jT (u:=u) (v:=v) (t:=t) (fe:=Nr) (a:=.ref 5) (b:=.ref 6) (fs:=[("pots",PL u v t),("day",.int 0),("claims",.ref 3)]) (r:=[.lst [Cl.D (u+v) t .held,qp]]) (r1:=[.Ya []]) (r2:=[.Ya [],.Ya []]) rfl rfl rfl;rw[YH];show lv 2 (ur [.ref 2,PL u v t] (mS [] []))=_;have e:ur [.ref 2,PL u v t] (mS [] [])=.ok .Jb (mS (Gq u v t 0) [.lst [Cl.D (u+v) t .held,qp],.lst [.ref 5,.ref 6],.Ya [],.Ya []]):=by
  unfold ur ZP Gq;rw[Ul,wt];show uk (Kb _ _ [some (.ref 2),some (PL u v t)] (mS [] []))=_;generalize PL u v t=L at *;have h:lj "pots" L []=([("pots",L)]:List (qa × D)):=rfl;have i:lj "day" (.int 0) [("pots",L)]=([("pots",L),("day",.int 0)]:List (qa × D)):=rfl;have j:lj "claims" (.ref 3) [("pots",L),("day",.int 0)]=([("pots",L),("day",.int 0),("claims",.ref 3)]:List (qa × D)):=rfl;have k:lj "shown" (.ref 4) [("pots",L),("day",.int 0),("claims",.ref 3)]=([("pots",L),("day",.int 0),("claims",.ref 3),("shown",.ref 4)]:List (qa × D)):=rfl;rw[cg];simp only[wy,CG,kt,gn,gj,nc,Zs,bo,ot,O8,g,Lh,ry];rw[HE _ _ _ _ _ _ rfl (by decide),h,nc,ig,cg];simp only[wy,Hy,gj,Lh,ry];rw[HE _ _ _ _ _ _ rfl (by simp),i,nc,ig,cg];rw[wy,c,Lh,ry,gj,Lh];show uk ((Xt _ _ "claims" (.ref 3) (.ref 2) (mS _ [.lst [Cl.D (u+v) t .held,qp]])).bind _)=_;rw[HE _ _ _ _ _ _ rfl (by simp),j,nc,ig];rw[wy,f,Lh,ry,gj,Lh];show uk (Xt _ _ "shown" (.ref 4) (.ref 2) (mS _ [.lst [Cl.D (u+v) t .held,qp],.lst [.ref 5,.ref 6],.Ya [],.Ya []]))=_;rw[HE _ _ _ _ _ _ rfl (by simp),k,yes]
 rw[e,Fz]
theorem iZ(c:Nat)(fn:List D->M D)(a b d e f g:D)(σ:db):jp c 7 fn [a,b,d,e,f,g] σ=lv σ.length (fn [.ref σ.length,a,b,d,e,f,g] (σ++[.ins c []])):=oD rfl
theorem nW(p s m:D)(y:List D)(i:cj y=true)(σ:db):Ps [.ref σ.length,p,s,m,.Jb,.lst y,.lst []] (σ++[.ins 11 []])=.ok .Jb (σ++[.ins 11 [("pot",p),("side",s),("mine",m),("grant",.Jb),("may",.lst y),("strikes",.lst [])]]):=by
 have e:=λ(a:List Nat) (g:a.contains 11=true) (f:qa) (v:D) (fs:List (qa × D)) (h:fs.length<1000)=>oF (ρ:=[some (.ref σ.length),some p,some s,some m,some .Jb,some (.lst y),some (.lst [])]) (σ:=σ) (cs:=a) (f:=f) (d:=v) (c:=11) (fs:=fs) g h;have p0:lj "pot" p []=([("pot",p)]:List (qa × D)):=rfl;have p1:lj "side" s [("pot",p)]=([("pot",p),("side",s)]:List (qa × D)):=rfl;have p2:lj "mine" m [("pot",p),("side",s)]=([("pot",p),("side",s),("mine",m)]:List (qa × D)):=rfl;have p3:lj "grant" .Jb [("pot",p),("side",s),("mine",m)]=([("pot",p),("side",s),("mine",m),("grant",.Jb)]:List (qa × D)):=rfl;have p4:lj "may" (.lst y) [("pot",p),("side",s),("mine",m),("grant",.Jb)]=([("pot",p),("side",s),("mine",m),("grant",.Jb),("may",.lst y)]:List (qa × D)):=rfl;have j:lj "strikes" (.lst []) [("pot",p),("side",s),("mine",m),("grant",.Jb),("may",.lst y)]=([("pot",p),("side",s),("mine",m),("grant",.Jb),("may",.lst y),("strikes",.lst [])]:List (qa × D)):=rfl;have b:=λσ=>KM i σ;have fz:=λσ=>KM (xs:=[]) rfl σ;unfold Ps xN;simp[e,p0,p1,p2,p3,p4,j,b,fz]
theorem LU(σ:db):Xh [.int 5,.int 5] σ=.ok Ir σ:=GS (by omega) (by omega) σ
theorem AW(σ:db):ye [.int 1,.int 1,.int 5,.int 5] σ=.ok Tj σ:=by
 have b:=λσ=>LU σ;have a:cl Ir=true:=kz ..;have hm:Eh σ (jp 11 7 Ps [.int 1,.int 1,Ir,.Jb,.lst [Ir],.lst []] σ)=.ok Tj σ:=by
  rw[iZ,nW _ _ _ _ (by simp[cj,a]),Fz,sF (by simp[cj,cl,a])];rfl
 have c:cl Tj=true:=by unfold Tj;simp[cl,cj,kz]
 unfold ye pP;generalize Tj=A at *;generalize Ir=X at *;simp[b,hm,c]
theorem IU(u v t:Int)(a:Option D)(σ:db):HD [some (.int 2),some (.int 20),a,some (pD u v t)] σ=.ok (.nx [some (.int 2),some (.int 20),a,some (pD u v t)]) σ:=by
 have s:Iz (pD u v t) none (some 2) σ=.ok (.tup (([0,1]:List Int).map D.int)) σ:=by unfold pD;rw[hL];rfl
 have i:=OP (σ:=σ) (neg:=false) (w:=2) (x:=.tup (([0,1]:List Int).map D.int)) (ws:=[0,1]) rfl;have e:(([0,1]:List Int).any (·== 2))=false:=rfl;rw[e]at i;unfold HD;generalize ([0,1]:List Int).map D.int=b at *;generalize pD u v t=c at *;simp[s,i]
theorem PX(a:Option D)(σ:db):HD [some (.int 2),some (.int 20),a,some qD] σ=.ok (.nx [some (.int 2),some (.int 20),a,some qD]) σ:=by
 have s:Iz qD none (some 2) σ=.ok (.tup (([1,2]:List Int).map D.int)) σ:=by unfold qD;rw[hL];rfl
 have i:=OP (σ:=σ) (neg:=false) (w:=2) (x:=.tup (([1,2]:List Int).map D.int)) (ws:=[1,2]) rfl;have e:(([1,2]:List Int).any (·== 2))=true:=rfl;rw[e]at i;have b:=q4 σ;unfold HD;generalize ([1,2]:List Int).map D.int=c at *;generalize qD=d at *;simp[s,i,b]
theorem RW(u v t:Int)(σ:db):jf [.int 2,.int 20,PL u v t] σ=.ok .Jb σ:=by
 have b:=λσ=>bt (i:=20) (a:=1) (b:=50) (by omega) σ;have c:=IU u v t (some (PL u v t)) σ;have d:=PX (some (PL u v t)) σ;have e:vw (PL u v t) σ=.ok (.seq [pD u v t,qD]) σ:=zE _;unfold jf UO;rw[Ul,Gz,wt];show Eh σ (uk (Kb _ _ [some (.int 2),some (.int 20),some (PL u v t),none] σ))=_;generalize PL u v t=L at *;rw[cg];simp only[Qy,m9,jx,CG,kt,gn,gj,nc,Zs,Hy,bo,ot,sU,b,YP,qU,ug,Lh,QG,RQ,ig];rw[Ky,JC];simp only[gn,gj,nc,e,Lh,oA];rw[Ks];simp only[gb,ib];rw[c,nc,Rl,Ks];simp only[gb,ib];rw[d,nc,Rl,zy,yes];exact dI rfl
noncomputable abbrev hT(u v t:Int)(ko:Ob):db:=[.Ya wW,.ins 16 (My u v t),.ins 9 (Gq u v t 0),.lst [Cl.D (u+v) t .held,qp],.lst [.ref 5,.ref 6],.Ya [],.Ya [],ko,.eg []]
noncomputable abbrev kX(u v t:Int)(ko:Ob)(A C Z:Kv):db:=hT u v t ko++[.ins 15 (ly 0),.Ya [],.Ya A,.Ya C,.Ya Z,.Ya [],.Ya []]
theorem CP{u v t:Int}{ko:Ob}{A C Z:Kv}{m:qa}(k:Nat)(fn:List D->M D)(fs:M (List D))(hm:(ly 0).lookup m=none):eo [(15,fn)] k m fs (.ref 9) (kX u v t ko A C Z)=(fs (kX u v t ko A C Z)).bind (Kj k fn (.ref 9)):=zt rfl rfl hm
theorem FZ(u v t:Int)(ko:Ob):Yd [.ref 9,Tj,.gt ["held"],.Ya [] []] (kX u v t ko [] [] [])=.ok .Jb (kX u v t ko aV [(.inl 1,.gt ["held"])] [(.inl 1,.Ya [] [])]):=by
 have b:∀ σ,gc [10,11,12,13] "pot" Tj σ=.ok (.int 1) σ:=λσ=>dj (uu rfl) rfl rfl;have d:gc [15] "accounts" (.ref 9) (kX u v t ko [] [] [])=.ok (.ref 11) (kX u v t ko [] [] []):=dj (c:=15) (fs:=ly 0) rfl rfl rfl;have e:∀ a,ft a Tj (.ref 11) (.int 1) (kX u v t ko [] [] [])=.ok (.nx a) (kX u v t ko aV [] []):=λa=>rfl;have f:gc [9,15] "claims" (.ref 9) (kX u v t ko aV [] [])=.ok (.ref 12) (kX u v t ko aV [] []):=dj (c:=15) (fs:=ly 0) rfl rfl rfl;have g:∀ a,ft a (.gt ["held"]) (.ref 12) (.int 1) (kX u v t ko aV [] [])=.ok (.nx a) (kX u v t ko aV [(.inl 1,.gt ["held"])] []):=λa=>rfl;have h:gc [15] "seen" (.ref 9) (kX u v t ko aV [(.inl 1,.gt ["held"])] [])=.ok (.ref 13) (kX u v t ko aV [(.inl 1,.gt ["held"])] []):=dj (c:=15) (fs:=ly 0) rfl rfl rfl;have i:∀ a,ft a (.Ya [] []) (.ref 13) (.int 1) (kX u v t ko aV [(.inl 1,.gt ["held"])] [])=.ok (.nx a) (kX u v t ko aV [(.inl 1,.gt ["held"])] [(.inl 1,.Ya [] [])]):=λa=>rfl;unfold Yd bN;generalize kX u v t ko aV [(.inl 1,.gt ["held"])] [(.inl 1,.Ya [] [])]=m at *;generalize kX u v t ko aV [(.inl 1,.gt ["held"])] []=l at *;generalize kX u v t ko aV [] []=k at *;generalize kX u v t ko [] [] []=Y at *;generalize Tj=j at *;simp[b,d,e,f,g,h,i]
theorem AK{ρ:Ev}{τ r:db}{cs:List Nat}{f:qa}{d:D}{c:Nat}{fs:List (qa × D)}(h:cs.contains c=true)(a:fs.length<1000):Xt ρ cs f d (.ref τ.length) (τ++.ins c fs::r)=.ok (.nx ρ) (τ++.ins c (lj f d fs)::r):=by
 have e:Sy cs f d (.ref τ.length) (τ++.ins c fs::r)=.ok () (τ++.ins c (lj f d fs)::r):=by
  have:(τ++Ob.ins c fs::r)[τ.length]?=some (.ins c fs):=by simp
  unfold Sy;simp only[this];rw[ia (by rw[h];simpa using a)];simp
 unfold Xt;rw[e]
theorem l5{cs:List Nat}{f:qa}{c:Nat}{fs:List (qa × D)}(d:cs.contains c=true)(e:Nat.ble (fs.length+1) 1000=true)(σ ds:db)(r:Ev):Ai cs f Nr (ga 0) (some (.ref σ.length)::r) (σ++.ins c fs::ds)=.ok (.nx (some (.ref σ.length)::r)) (σ++.ins c (lj f (.ref (σ.length+1+ds.length)) fs)::(ds++[.Ya []])):=by
 have a:(σ++.ins c fs::ds)++[Ob.Ya []]=σ++.ins c fs::(ds++[.Ya []]):=by simp
 have b:(σ++Ob.ins c fs::ds).length=σ.length+1+ds.length:=by simp;omega
 rw[wy,jK,Lh,ry,gj,Lh,a,b,AK d (Hj e)]
theorem Z2{cs:List Nat}{f:qa}{c:Nat}{fs:List (qa × D)}{a:Ev->M D}{d:D}(b:cs.contains c=true)(e:Nat.ble (fs.length+1) 1000=true)(σ ds:db)(r:Ev)(g:a (some (.ref σ.length)::r) (σ++.ins c fs::ds)=.ok d (σ++.ins c fs::ds)):Ai cs f a (ga 0) (some (.ref σ.length)::r) (σ++.ins c fs::ds)=.ok (.nx (some (.ref σ.length)::r)) (σ++.ins c (lj f d fs)::ds):=by
 rw[wy,g,Lh,ry,gj,Lh,AK b (Hj e)]
theorem HN(c:Nat)(fn:List D->M D)(a b d e:D)(σ:db):jp c 5 fn [a,b,d,e] σ=lv σ.length (fn [.ref σ.length,a,b,d,e] (σ++[.ins c []])):=oD rfl
@[simp] theorem B5(dds:List D)(fs:Ev->M (List D))(ρ:Ev)(σ:db):qz dds fs ρ σ=(fs ρ σ).bind (RE dds):=nr rfl
@[simp] theorem bY(dds ds:List D)(σ:db):RE dds ds σ=.ok (ds++dds) σ:=nr rfl
theorem cI(u v t:Int)(ko:Ob){i s z:Int}{P:D}(a b:Option D)(hz:∀ σ,Qb P (.int s) σ=.ok (.int z) σ)(hn:(z == 2)=false) :
  Qz [some (.ref 9),some (.int 2),some (.int 20),a,b,some (.int i),some P,some (.int s)] (kX u v t ko [] [] [])=.ok (.nx [some (.ref 9),some (.int 2),some (.int 20),a,b,some (.int i),some P,some (.int s)]) (kX u v t ko [] [] []):=by
 unfold Qz;generalize kX u v t ko [] [] []=Y at *;simp[hz,hn]
theorem KU(u v t:Int)(ko:Ob)(d e:Option D) :
  Qz [some (.ref 9),some (.int 2),some (.int 20),d,e,some (.int 1),some qD,some (.int 1)] (kX u v t ko [] [] [])=.ok (.nx [some (.ref 9),some (.int 2),some (.int 20),d,e,some (.int 1),some qD,some (.int 1)]) (kX u v t ko aV [(.inl 1,.gt ["held"])] [(.inl 1,.Ya [] [])]):=by
 have h:=λσ=>q1 σ;have i:=λσ=>q2 σ;have j:=λσ=>q3 σ;have f:=λσ=>AW σ;have g:=FZ u v t ko;have l:=λfs=>CP (u:=u) (v:=v) (t:=t) (ko:=ko) (A:=[]) (C:=[]) (Z:=[]) (m:="hold") 4 Yd fs rfl;have k:∀ (fn:List D->M D) (x a b c:D) (σ:db),Kj 4 fn x [a,b,c] σ=fn [x,a,b,c] σ:=λ_ _ _ _ _ _=>Ey rfl;unfold Qz;generalize kX u v t ko aV [(.inl 1,.gt ["held"])] [(.inl 1,.Ya [] [])]=p at *;generalize kX u v t ko [] [] []=Y at *;generalize qD=o at *;generalize Tj=n at *;simp[h,i,j,f,g,l,k]
theorem MT{i:Int}{P:D}{c d x7:Option D}{Y e Y2:db}(a:Qz [some (.ref 9),some (.int 2),some (.int 20),c,d,some (.int i),some P,some (.int 0)] Y=.ok (.nx [some (.ref 9),some (.int 2),some (.int 20),c,d,some (.int i),some P,some (.int 0)]) e)
  (b:Qz [some (.ref 9),some (.int 2),some (.int 20),c,d,some (.int i),some P,some (.int 1)] e=.ok (.nx [some (.ref 9),some (.int 2),some (.int 20),c,d,some (.int i),some P,some (.int 1)]) Y2) :
  tG [some (.ref 9),some (.int 2),some (.int 20),c,d,some (.int i),some P,x7] Y=.ok (.nx [some (.ref 9),some (.int 2),some (.int 20),c,d,some (.int i),some P,some (.int 1)]) Y2:=by
 unfold tG;rw[Ky];simp only[JC,ZN,kt,Hy,nc,Zs,bo,ot,SR,qQ,Lh,oA];rw[Ks];simp only[gb,ib];rw[a,nc,Rl,Ks];simp only[gb,ib];rw[b,nc,Rl,zy]
theorem Z9(u v t:Int)(ko:Ob):jp 15 5 qr [.int 2,.int 20,PL u v t,.lst []] (hT u v t ko)=.ok (.ref 9) (kX u v t ko aV [(.inl 1,.gt ["held"])] [(.inl 1,.Ya [] [])]):=by
 have s:=λσ=>RW u v t σ;have c:∀ σ,Oi σ (PL u v t)=some [pD u v t,qD]:=λσ=>rfl;have k:=MT (x7:=none) (cI u v t ko (i:=0) (some (PL u v t)) (some (.lst [])) (p0 u v t) rfl) (cI u v t ko (i:=0) (some (PL u v t)) (some (.lst [])) (p1 u v t) rfl);have l:=MT (x7:=some (.int 1)) (cI u v t ko (i:=1) (some (PL u v t)) (some (.lst [])) q0 rfl) (KU u v t ko (some (PL u v t)) (some (.lst [])));have w:bp (tu (PL u v t)) (Bn 2 (Ah (Zd 5) (Ah (Zd 6) io))) tG 1001 0 [some (.ref 9),some (.int 2),some (.int 20),some (PL u v t),some (.lst []),none,none,none] (kX u v t ko [] [] [])=.ok (.nx [some (.ref 9),some (.int 2),some (.int 20),some (PL u v t),some (.lst []),some (.int 1),some qD,some (.int 1)]) (kX u v t ko aV [(.inl 1,.gt ["held"])] [(.inl 1,.Ya [] [])]):=by
  rw[ox (zB (c _) (i:=0) rfl) (ρ1:=[some (.ref 9),some (.int 2),some (.int 20),some (PL u v t),some (.lst []),some (.int 0),some (pD u v t),none]) (nr rfl),k,nc,Rl,ox (zB (c _) (i:=1) rfl) (ρ1:=[some (.ref 9),some (.int 2),some (.int 20),some (PL u v t),some (.lst []),some (.int 1),some qD,some (.int 1)]) (nr rfl),l,nc,Rl];exact EB (GH (c _))
 have q:Ub [.ref 9,.lst []] (kX u v t ko [] [] [])=.ok .Jb (kX u v t ko [] [] []):=by
  unfold Ub EL;generalize kX u v t ko [] [] []=Y at *;simp
 have x:=λfs=>CP (u:=u) (v:=v) (t:=t) (ko:=ko) (A:=[]) (C:=[]) (Z:=[]) (m:="learn") 2 Ub fs rfl;have n:∀ σ,Xy (PL u v t) σ=.ok (tu (PL u v t)) σ:=λσ=>iJ (c σ);have o:∀ (tg:D->Ev->Option Ev) (body:Ev->M Fl) (ρ:Ev) (nx:NX),BB tg body ρ nx=bp nx tg body 1001 0 ρ:=λ_ _ _ _=>rfl;rw[HN];show lv 9 (qr [.ref 9,.int 2,.int 20,PL u v t,.lst []] (hT u v t ko++[.ins 15 []]))=_;have h:qr [.ref 9,.int 2,.int 20,PL u v t,.lst []] (hT u v t ko++[.ins 15 []])=.ok .Jb (kX u v t ko aV [(.inl 1,.gt ["held"])] [(.inl 1,.Ya [] [])]):=by
  unfold qr gM;rw[Ul,wt];have pv:∀ {b:List Nat} {f:qa} {fs:List (qa × D)} {j:Ev->M D} {d:D} (a:db) (r:Ev),b.contains 15=true->Nat.ble (fs.length+1) 1000=true->j (some (.ref 9)::r) (hT u v t ko++.ins 15 fs::a)=.ok d (hT u v t ko++.ins 15 fs::a)->Ai b f j (ga 0) (some (.ref 9)::r) (hT u v t ko++.ins 15 fs::a)=.ok (.nx (some (.ref 9)::r)) (hT u v t ko++.ins 15 (lj f d fs)::a):=λa r e g p=>Z2 e g (hT u v t ko) a r p;have pn:∀ {b:List Nat} {f:qa} {fs:List (qa × D)} (a:db) (r:Ev),b.contains 15=true->Nat.ble (fs.length+1) 1000=true->Ai b f Nr (ga 0) (some (.ref 9)::r) (hT u v t ko++.ins 15 fs::a)=.ok (.nx (some (.ref 9)::r)) (hT u v t ko++.ins 15 (lj f (.ref (9+1+a.length)) fs)::(a++[.Ya []])):=λa r e g=>l5 e g (hT u v t ko) a r;show uk (Kb _ _ [some (.ref 9),some (.int 2),some (.int 20),some (PL u v t),some (.lst []),none,none,none] (hT u v t ko++[.ins 15 []]))=_;rw[cg];have y:wj (ae 3 jf [] (za (ga 1) (za (ga 2) (za (ga 3) Na)))) [some (.ref 9),some (.int 2),some (.int 20),some (PL u v t),some (.lst []),none,none,none] (hT u v t ko++[.ins 15 []])=.ok (.nx [some (.ref 9),some (.int 2),some (.int 20),some (PL u v t),some (.lst []),none,none,none]) (hT u v t ko++[.ins 15 []]):=by
   generalize PL u v t=L at *;generalize hT u v t ko++[.ins 15 []]=Y at *;simp[s]
  rw[y,nc,ig];rw[cg,pv (d:=.int 2) [] _ rfl rfl (by simp),nc,ig];rw[cg,pv (d:=.int 20) [] _ rfl rfl (by simp),nc,ig];rw[cg,pv (d:=.int 0) [] _ rfl rfl (by simp),nc,ig];rw[cg,pv (d:=.int 0) [] _ rfl rfl (by simp),nc,ig];rw[cg,pn [] _ rfl rfl,nc,ig];rw[cg,pn _ _ rfl rfl,nc,ig];rw[cg,pn _ _ rfl rfl,nc,ig];rw[cg,pn _ _ rfl rfl,nc,ig];rw[cg,pn _ _ rfl rfl,nc,ig];rw[cg,pn _ _ rfl rfl,nc,ig];show uk (Kb _ _ [some (.ref 9),some (.int 2),some (.int 20),some (PL u v t),some (.lst []),none,none,none] (kX u v t ko [] [] []))=_;generalize kX u v t ko aV [(.inl 1,.gt ["held"])] [(.inl 1,.Ya [] [])]=z at *;generalize kX u v t ko [] [] []=Y at *;generalize PL u v t=L at *;rw[cg];simp only[mF,Nu,gn,gj,nc,x,kt,yij,jx,Av,Hy,QJ,g7,YP,QG,Zs,bo,ot,cB,q,Lh,fH,ig];rw[lG];simp only[W7,gn,gj,nc,n,Lh,o];rw[w,yes]
 rw[h,Fz]
noncomputable def UD(l:List (Int × Int))(h:Int):List Int:=(l.filter λp=>p.2 == h).map (·.1)
theorem iS(l:List (Int × Int))(σ:db)(i:Nat)(a:i<=l.length):Ys (Cf l) i σ=some ((l[i]?).map λp=>.tup [.int p.1,.int p.2]):=by
 unfold Ys Cf;rw[eb,pb];cases e:l[i]? with
 |some p=>rfl
 |none=>
  have:=Eb.mp e;simp;omega
noncomputable abbrev qG(s:Ev->M NX):Ev->M D:=yr s [0] (Bn 2 (Ah (Zd 0) (Ah (Zd 1) io))) (eT (Qa oEq (ga 1) (ga 2))) (ga 0)
theorem yt9(l:List (Int × Int))(c:l.length<=1000)(h:Int)(a:Option D){σ σ':db}{s:Ev->M NX}(d:s [some (.int h),a] σ=.ok (Ys (Cf l)) σ'):qG s [some (.int h),a] σ=.ok (.ref σ'.length) (σ'++[.lst ((UD l h).map D.int)]):=by
 show qd (s [some (.int h),a]) (WF _ (eT (Qa oEq (ga 1) (ga 2))) (ga 0) (Tv [0] [some (.int h),a])) σ=_;rw[Up,d,nc];show qd (xj (Ys (Cf l)) σ'.length _ _ (ga 0) 1001 0 (none::none::[some (.int h)])) _ (σ'++[.lst []])=_;rw[Up,jN (λ_=>True) (λp=>.tup [.int p.1,.int p.2]) (λp=>D.int p.1) (λp=>some (D.int p.2)) (λp=>p.2 == h) (λp=>D.int p.1) (λi j b=>iS l _ i b) (λx o e _=>⟨rfl,trivial⟩) (λp _ j=>⟨by simp,λ_=>by simp⟩) c 1001 0 none none [] trivial (by omega) (by omega) (by simp),nc];unfold UD;simp[de,ik]
theorem N7{a:D}{h:Int}{ws:List Int}{σ:db}(e:QF (ga 1) (qG (iu (ga 1))) [some (.int h),some a] σ=.ok (.ref σ.length) (σ++[.lst (ws.map D.int)])):Ff [.int h,a] σ=.ok (.lst (ws.map D.int)) σ:=by
 unfold qG at e;unfold Ff MM;have fz:=Wy (σ:=σ) (xs:=ws.map D.int) (by simp);have b:cl (.lst (ws.map D.int))=true:=by simp
 generalize ws.map D.int=c at *;rw[Ul,Gz,wt];show Eh σ (uk (Ke _ [some (.int h),some a] σ))=_;rw[Kx,HB,e,fz,Lh,Ez,vy,dI b]
theorem Y5{σ:db}{n:Nat}{a b:Ob}(h:σ[n]?=some a)(j:db):((σ.set n b)++j).set n a=σ++j:=by
 have c:=(ma.mp h).1;rw[List.set_append_left _ _ (by simpa using c),List.set_set];congr 1;apply Lf;intro i;rw[Cb];by_cases e:n=i
 ·subst e;rw[ia rfl,ia c,h]
 ·rw[ja e]
theorem lX(l:List (Int × Int))(d:l.length<=1000)(h:Int){σ:db}{k:Nat}(a:σ[k]?=some (.Ya (Cf l))):Ff [.int h,.ref k] σ=.ok (.lst ((UD l h).map D.int)) σ:=by
 refine N7 ?_;have w:=yt9 l d h (some (.ref k)) (σ:=σ) (σ':=σ.set k (.Kc (Cf l))) (s:=iu (ga 1)) (by
  show qd (ga 1 _) OA σ=_;rw[Up,gn,gj,nc];unfold OA;simp only[a])
 have hb:=(ma.mp a).1;have c:((σ.set k (.Kc (Cf l)))++[.lst ((UD l h).map D.int)])[k]?=some (.Kc (Cf l)):=by
  rw[Ta (by simpa using hb),Cb,ia rfl,ia hb]
 have e:=Y5 (b:=.Kc (Cf l)) a [.lst ((UD l h).map D.int)];show Gu (λ_=>true) (ga 1 [some (.int h),some (.ref k)]) (qG (iu (ga 1)) [some (.int h),some (.ref k)]) σ=_;unfold Gu;rw[gn,gj];dsimp only;rw[a];dsimp only;rw[w];unfold Jx;simp only[Ee,c];rw[e,Vx]
@[simp] theorem zwf(f a fi:Ev->M D)(ρ:Ev)(σ:db):LH f a fi ρ σ=rm ρ (rK ρ a fi) (f ρ σ):=ip ..
@[simp] theorem zws(a fi:Ev->M D)(d:D)(ρ:Ev)(σ:db):rK ρ a fi d σ=rm ρ (HJ ρ fi) (a ρ σ):=ip ..
@[simp] theorem zwt(fi:Ev->M D)(x:D)(ρ:Ev)(σ:db):HJ ρ fi x σ=rm ρ (oC ρ x) (fi ρ σ):=ip ..
theorem SY{i j:Nat}(h:tg i=tg j):i=j:=by
 have:(i:Int)=j:=by
  unfold tg at h;injection h with _ h;injection h with h _;injection h
 omega
open Classical in
theorem fV(i:Nat):AG (tN i) (tg i)=tN (i+1):=by
 have h:tg i ∉ tN i:=λz=>by
  obtain⟨j,a,e⟩:=Db.mp z;have:=SY e;have:=Lg.mp a;omega
 unfold AG;rw[ja h];unfold tN;rw[List.range_succ,Bg];rfl
theorem ZX(B:Bx)(m:B.ko=.Ya kV)(i:Nat)(l:i<10){o:Int}(p:o=0\/o=1)(b d e f h j:Option D):lz [some (.ref 1),b,d,e,f,h,j,some (.int i),some (.int o)] (.Kc wW::tl { B with T:=tN i })=.ok (.nx [some (.ref 1),b,d,e,f,h,j,some (.int i),some (.int o)]) (.Kc wW::tl { B with T:=tN (i+1) }):=by
 have q:gc [16] "keepers" (.ref 1) (.Kc wW::tl { B with T:=tN i })=.ok (.ref 7) (.Kc wW::tl { B with T:=tN i }):=dj (c:=16) (fs:=My B.u B.v B.t) rfl rfl rfl;have s:gc [16] "things" (.ref 1) (.Kc wW::tl { B with T:=tN i })=.ok (.ref 8) (.Kc wW::tl { B with T:=tN i }):=dj (c:=16) (fs:=My B.u B.v B.t) rfl rfl rfl;have n:mv (.int o) (.ref 7) (.Kc wW::tl { B with T:=tN i })=.ok (.bl true) (.Kc wW::tl { B with T:=tN i }):=by
  have g:(.Kc wW::tl { B with T:=tN i }:db)[7]?=some B.ko:=rfl;unfold mv ej;simp only[Pk,g,m];rcases p with rfl|rfl<;>rfl
 have r:∀ a,oC a (.ref 8) (.tup [.str "word",.int i]) (.Kc wW::tl { B with T:=tN i })=.ok (.nx a) (.Kc wW::tl { B with T:=tN (i+1) }):=λa=>by
  have g:(.Kc wW::tl { B with T:=tN i }:db)[8]?=some (.eg (tN i)):=rfl;have k:ut [.str "word",.int i]=some (tg i):=rfl;unfold oC;simp only[k,g];rw[ia (show (tN i).length<li by unfold tN;simp;exact ym l (by decide)),fV];rfl
 unfold lz;generalize (.Kc wW::tl { B with T:=tN (i+1) }:db)=w at *;generalize (.Kc wW::tl { B with T:=tN i }:db)=Y at *;simp[q,s,n,r]
theorem ygv(B:Bx)(t:B.ko=.Ya kV)(g h k l m n:Option D):∀ (j i f:Nat) (x7 c:Option D),i+j=10->f=1001 - i->∃ p q,
  bp (Ys wW) (Bn 2 (Ah (Zd 7) (Ah (Zd 8) io))) lz f i [some (.ref 1),g,h,k,l,m,n,x7,c] (.Kc wW::tl { B with T:=tN i })=.ok (.nx [some (.ref 1),g,h,k,l,m,n,p,q]) (.Kc wW::tl { B with T:=tN 10 }):=by
 intro j;induction j with
 |zero=>
  intro i f x7 c d s;obtain⟨a,rfl⟩:∃ a,f=a+1:=⟨f - 1,by omega⟩
  obtain rfl:i=10:=by omega
  exact⟨x7,c,EB rfl⟩
 |succ j w=>
  intro i f x7 c d s;obtain⟨a,rfl⟩:∃ a,f=a+1:=⟨f - 1,by omega⟩
  have b:i<10:=by omega
  have v:∀ i:Nat,i<10->∃ o:Int,(o=0\/o=1)/\wL[i]?=some ((i:Int),o):=by
   intro i b
   match i,b with
   |0,_=>exact⟨0,.inl rfl,rfl⟩
   |1,_=>exact⟨1,.inr rfl,rfl⟩
   |2,_=>exact⟨0,.inl rfl,rfl⟩
   |3,_=>exact⟨1,.inr rfl,rfl⟩
   |4,_=>exact⟨0,.inl rfl,rfl⟩
   |5,_=>exact⟨1,.inr rfl,rfl⟩
   |6,_=>exact⟨0,.inl rfl,rfl⟩
   |7,_=>exact⟨1,.inr rfl,rfl⟩
   |8,_=>exact⟨0,.inl rfl,rfl⟩
   |9,_=>exact⟨1,.inr rfl,rfl⟩
  obtain⟨o,u,e⟩:=v i b;have nx:Ys wW i (.Kc wW::tl { B with T:=tN i })=some (some (.tup [.int i,.int o])):=by
   have:=iS wL (.Kc wW::tl { B with T:=tN i }) i (pd b);rw[e]at this;exact this
  obtain⟨p,q,r⟩:=w (i+1) a (some (.int i)) (some (.int o)) (by omega) (by omega);refine⟨p,q,?_⟩;rw[ox nx (ρ1:=[some (.ref 1),g,h,k,l,m,n,some (.int i),some (.int o)]) (nr rfl),ZX B t i b u,nc,Rl,r]
noncomputable def B0(u v t:Int):Bx:=⟨u,v,t,0,.held,[],0,[],.gt ["held"],.Ya kV,tN 10,.Ya aV,[]⟩
theorem aB{cs:List Nat}{f:qa}{fs:List (qa × D)}{b:Ev->M D}{d:D}(c:cs.contains 16=true)(e:Nat.ble (fs.length+1) 1000=true){ds es:db}{r:Ev}(g:b (some (.ref 1)::r) (.Ya wW::.ins 16 fs::ds)=.ok d (.Ya wW::.ins 16 fs::es)):Ai cs f b (ga 0) (some (.ref 1)::r) (.Ya wW::.ins 16 fs::ds)=.ok (.nx (some (.ref 1)::r)) (.Ya wW::.ins 16 (lj f d fs)::es):=by
 have p:∀ a,Xt a cs f d (.ref 1) (.Ya wW::.ins 16 fs::es)=.ok (.nx a) (.Ya wW::.ins 16 (lj f d fs)::es):=λa=>AK (τ:=[.Ya wW]) c (Hj e);rw[wy,g,Lh,ry,gj,Lh,p]
theorem T5(σ:db):Eh σ (KA (.lst [.int 2]) σ)=.ok (.lst [.int 2]) σ:=by
 have e:KA (.lst [.int 2]) σ=.ok (.ref σ.length) (σ++[.lst [.int 2]]):=by
  have s:tp (sm [2])=[2]:=VD (Ay [2]) (xG [2]) (by simp);unfold KA;rw[show Oi σ (.lst [.int 2])=some (([2]:List Int).map D.int)from rfl];simp only[ah,wM];rw[ia (by decide),s];rfl
 rw[e];exact Wy (by simp)
theorem yck{u v t:Int}(P:Gx u v t):jp 16 5 Wq [PL u v t,.lst [.int 2],.int 20,.ref 0] [.Ya wW]=.ok (.ref 1) (S (B0 u v t)):=by
 have bk:=mX P;have o:=Z9 u v t (.Ya []);have k:yK [some (.ref 1),some (PL u v t),some (.lst [.int 2]),some (.int 20),some (.ref 0),some (.ref 0),some (.int 2),none,none] (hT u v t (.Ya []))=.ok (.nx [some (.ref 1),some (PL u v t),some (.lst [.int 2]),some (.int 20),some (.ref 0),some (.ref 0),some (.int 2),none,none]) (S { B0 u v t with T:=[] }):=by
  have w:Ff [.int 2,.ref 0] (hT u v t (.Ya []))=.ok (.lst []) (hT u v t (.Ya [])):=lX wL (by decide) 2 rfl;have pl:gc [9,14,16] "pots" (.ref 1) (hT u v t (.Ya []))=.ok (PL u v t) (hT u v t (.Ya [])):=dj (c:=16) (fs:=My u v t) rfl rfl rfl;have m:gc [16] "keepers" (.ref 1) (kX u v t (.Ya []) aV [(.inl 1,.gt ["held"])] [(.inl 1,.Ya [] [])])=.ok (.ref 7) (kX u v t (.Ya []) aV [(.inl 1,.gt ["held"])] [(.inl 1,.Ya [] [])]):=dj (c:=16) (fs:=My u v t) rfl rfl rfl;have p:∀ h,ft h (.ref 9) (.ref 7) (.int 2) (kX u v t (.Ya []) aV [(.inl 1,.gt ["held"])] [(.inl 1,.Ya [] [])])=.ok (.nx h) (S { B0 u v t with T:=[] }):=λh=>rfl;unfold yK;generalize S { B0 u v t with T:=[] }=A at *;generalize kX u v t (.Ya []) aV [(.inl 1,.gt ["held"])] [(.inl 1,.Ya [] [])]=z at *;generalize hT u v t (.Ya [])=Y at *;generalize PL u v t=L at *;simp only[EQ,bQ,B5,kt,gn,gj,nc,Zs,Rv,pl,CG,bo,ot,m5,w,bY,zf,o,Lh,yZ,m,rX,p]
 obtain⟨x,y,n⟩:=ygv (B0 u v t) rfl (some (PL u v t)) (some (.lst [.int 2])) (some (.int 20)) (some (.ref 0)) (some (.ref 0)) (some (.int 2)) 10 0 1001 none none rfl rfl;have j:∀ r,gc [16] "public" (.ref 1) (.Ya wW::.ins 16 [("public",.ref 2)]::r)=.ok (.ref 2) (.Ya wW::.ins 16 [("public",.ref 2)]::r):=λr=>dj (c:=16) (fs:=[("public",.ref 2)]) rfl rfl rfl;have e:∀ fs r,Bb [.ref 2] (.Ya wW::.ins 16 fs::.ins 9 (Gq u v t 0)::r)=.ok (PL u v t) (.Ya wW::.ins 16 fs::.ins 9 (Gq u v t 0)::r):=λfs r=>SO (d:=0) rfl;have f:∀ fs r g,eo [(9,Bb)] 1 "made_of" g (.ref 2) (.Ya wW::.ins 16 fs::.ins 9 (Gq u v t 0)::r)=(g (.Ya wW::.ins 16 fs::.ins 9 (Gq u v t 0)::r)).bind (Kj 1 Bb (.ref 2)):=λfs r g=>zt (show Km _ (.ref 2)=some (9,Gq u v t 0)from rfl) rfl rfl;rw[HN];show lv 1 (Wq [.ref 1,PL u v t,.lst [.int 2],.int 20,.ref 0] [.Ya wW,.ins 16 []])=_;have a:Wq [.ref 1,PL u v t,.lst [.int 2],.int 20,.ref 0] [.Ya wW,.ins 16 []]=.ok .Jb (S (B0 u v t)):=by
  unfold Wq GO;rw[Ul,wt];show uk (Kb _ _ [some (.ref 1),some (PL u v t),some (.lst [.int 2]),some (.int 20),some (.ref 0),none,none,none,none] [.Ya wW,.ins 16 []])=_;rw[cg,aB (d:=.ref 2) (es:=.ins 9 (Gq u v t 0)::[.lst [Cl.D (u+v) t .held,qp],.lst [.ref 5,.ref 6],.Ya [],.Ya []]) rfl rfl (by
   generalize B:PL u v t=L at *;simp only[bQ,kt,gn,gj,nc,Zs,bo,ot];exact bk),nc,ig]
  show uk (Kb _ _ [some (.ref 1),some (PL u v t),some (.lst [.int 2]),some (.int 20),some (.ref 0),none,none,none,none] (.Ya wW::.ins 16 [("public",.ref 2)]::.ins 9 (Gq u v t 0)::[.lst [Cl.D (u+v) t .held,qp],.lst [.ref 5,.ref 6],.Ya [],.Ya []]))=_;rw[cg,aB (d:=PL u v t) (fs:=[("public",.ref 2)]) (es:=.ins 9 (Gq u v t 0)::[.lst [Cl.D (u+v) t .held,qp],.lst [.ref 5,.ref 6],.Ya [],.Ya []]) rfl rfl (by
   have e:=e [("public",.ref 2)] [.lst [Cl.D (u+v) t .held,qp],.lst [.ref 5,.ref 6],.Ya [],.Ya []];have f:=f [("public",.ref 2)] [.lst [Cl.D (u+v) t .held,qp],.lst [.ref 5,.ref 6],.Ya [],.Ya []];simp only[Nu,Rv,gj,nc,j,f,bo,Ww,e]),nc,ig]
  rw[cg,aB (d:=.int 20) rfl rfl (by simp;rfl),nc,ig];rw[cg,aB (d:=.ref 7) (es:=.ins 9 (Gq u v t 0)::[.lst [Cl.D (u+v) t .held,qp],.lst [.ref 5,.ref 6],.Ya [],.Ya [],.Ya []]) rfl rfl (nr rfl),nc,ig];rw[cg,aB (d:=.lst []) rfl rfl (by simp;rfl),nc,ig];rw[cg,aB (d:=.ref 8) (es:=.ins 9 (Gq u v t 0)::[.lst [Cl.D (u+v) t .held,qp],.lst [.ref 5,.ref 6],.Ya [],.Ya [],.Ya [],.eg []]) rfl rfl (nr rfl),nc,ig];show uk (Kb _ _ [some (.ref 1),some (PL u v t),some (.lst [.int 2]),some (.int 20),some (.ref 0),none,none,none,none] (hT u v t (.Ya [])))=_;have l:iA (eT (Qa Ny (ga 4) (eC .Jb))) (eC (.Ya [] [])) (ga 4) [some (.ref 1),some (PL u v t),some (.lst [.int 2]),some (.int 20),some (.ref 0),none,none,none,none] (hT u v t (.Ya []))=.ok (.ref 0) (hT u v t (.Ya [])):=by
   have i:∀ σ,Ny (.ref 0) .Jb σ=.ok (.bl false) σ:=λσ=>nr rfl;generalize hT u v t (.Ya [])=Y at *;generalize PL u v t=L at *;simp[i]
  rw[cg,Tu,l,Lh,WA,nc,ig];show uk (Kb _ _ [some (.ref 1),some (PL u v t),some (.lst [.int 2]),some (.int 20),some (.ref 0),some (.ref 0),none,none,none] (hT u v t (.Ya [])))=_;rw[cg,Ky,JC,HB,Rv];simp only[gn,gj,nc,T5,zE,Lh,oA];rw[Ks];simp only[gb,ib];rw[k,nc,Rl,zy,nc,ig];have q:qv (ga 5) (fr (iu (ga 5)) (Bn 2 (Ah (Zd 7) (Ah (Zd 8) io))) lz) [some (.ref 1),some (PL u v t),some (.lst [.int 2]),some (.int 20),some (.ref 0),some (.ref 0),some (.int 2),none,none] (S { B0 u v t with T:=[] })=.ok (.nx [some (.ref 1),some (PL u v t),some (.lst [.int 2]),some (.int 20),some (.ref 0),some (.ref 0),some (.int 2),x,y]) (S (B0 u v t)):=by
   show Gu Vw (ga 5 _) (fr (iu (ga 5)) _ lz _) _=_;unfold Gu;simp only[gn,gj];rw[show (S { B0 u v t with T:=[] })[0]?=some (.Ya wW)from rfl];dsimp only;rw[lG];have s:iu (ga 5) [some (.ref 1),some (PL u v t),some (.lst [.int 2]),some (.int 20),some (.ref 0),some (.ref 0),some (.int 2),none,none] (S { B0 u v t with T:=[] })=.ok (Ys wW) (.Kc wW::tl { B0 u v t with T:=[] }):=by
    show qd (ga 5 _) OA _=_;rw[Up];simp only[gn,gj,nc];rfl
   rw[s,Lh];have b:BB (Bn 2 (Ah (Zd 7) (Ah (Zd 8) io))) lz [some (.ref 1),some (PL u v t),some (.lst [.int 2]),some (.int 20),some (.ref 0),some (.ref 0),some (.int 2),none,none] (Ys wW) (.Kc wW::tl { B0 u v t with T:=[] })=_:=n;rw[b];unfold Jx;simp only[Vw,Ee,show (.Kc wW::tl { B0 u v t with T:=tN 10 }:db)[0]?=some (.Kc wW)from rfl];rfl
  rw[q,yes]
 rw[a,Fz]
theorem o0{σ:db}{n:Nat}(h:n<σ.length):Eh σ (.ok (.ref n) σ)=.ok (.ref n) σ:=by
 unfold Eh;dsimp only;rw[ia Wm];have:fz σ.length σ 6 (.ref n)=some (.ref n):=by unfold fz;rw[ja (by simp[cl])];dsimp only;rw[ia h]
 rw[this]
theorem qO{k:List Key}(h:k∈tN 10):k.head?=some (.inr "word"):=by
 obtain⟨i,_,rfl⟩:=Db.mp h;rfl
section
variable(B:Bx)
theorem hW:Pa [.ref 1] (S B)=.ok (.ref 2) (S B):=by
 have a:=Yy B;have fz:Eh (S B) (.ok (.ref 2) (S B))=.ok (.ref 2) (S B):=o0 (by unfold S tl;simp);unfold Pa mO;generalize S B=Y at *;simp[a,fz]
theorem LI{k:Nat}{ρ:Ev}(b:ga k ρ (S B)=.ok (.ref 1) (S B)):Od [(16,Pa)] 1 "book" (ga k) Na ρ (S B)=.ok (.ref 2) (S B):=by
 have c:=λfs=>Os B (m:="book") 1 Pa fs rfl;have a:=hW B;generalize S B=Y at *;simp only[Nu,b,nc,c,bo,Ww,a]
theorem GA{k:Nat}{ρ:Ev}(a:ga k ρ (S B)=.ok (.ref 1) (S B)):Od [(9,Ab)] 1 "today" (Od [(16,Pa)] 1 "book" (ga k) Na) Na ρ (S B)=.ok (.int B.d) (S B):=by
 have b:=LI B a;have c:=λfs=>zq B (m:="today") 1 Ab fs rfl;have t:=kL B;generalize S B=Y at *;rw[Nu,b];simp only[nc,c,bo,Ww,t]
theorem yE{k:Nat}{ρ:Ev}{x:D}(a:ga k ρ (S B)=.ok (.ref 1) (S B))(hd:Sa [.ref 2,.int 0] (S B)=.ok x (S B)):Od [(9,Sa)] 2 "due_of" (Od [(16,Pa)] 1 "book" (ga k) Na) (za (eC (.int 0)) Na) ρ (S B)=.ok x (S B):=by
 have b:=LI B a;have c:=λfs=>YN (B:=B) fs;generalize S B=Y at *;rw[Nu,b];simp only[nc,c,kt,Hy,Zs,bo,ot,cB,hd]
theorem rM{k:Nat}{ρ:Ev}(a:ga k ρ (S B)=.ok (.ref 1) (S B)):Od [(9,rb)] 2 "told" (Od [(16,Pa)] 1 "book" (ga k) Na) (za (eC (.int 0)) Na) ρ (S B)=.ok B.c.tl (S B):=by
 have b:=LI B a;have d:=λfs=>zq B (m:="told") 2 rb fs rfl;have hd:=FH B;generalize S B=Y at *;rw[Nu,b];simp only[nc,d,kt,Hy,Zs,bo,ot,cB,hd]
theorem aG{x y z:Int}(hd:Sa [.ref 2,.int 0] (S B)=.ok (.tup [.int x,.int y,.int z]) (S B)){h:Int}(a:h=0\/h=1):jd [.ref 1,.int h] (S B)=.ok (.int (if h=0 then x else y)) (S B):=by
 have b:=Yy B;have m:=λfs=>zq B (m:="coin_of") 2 Md fs rfl;have c:=MV hd a;unfold jd kN;generalize S B=Y at *;simp[b,m,c]
variable(hk:B.ko=.Ya kV)(hT:B.T=tN 10)
section
include hk
theorem zM{s:Int}(c:s=0\/s=1):lb [.ref 1,.int 0,.int s] (S B)=.ok (.bl true) (S B):=by
 have pl:=ya5 B;have h:=jQ B;have d:Ld [.ref 1,.int 0] (S B)=.ok (.bl true) (S B):=by
  have l:∀ σ,cq [PL B.u B.v B.t] σ=.ok (.int 2) σ:=λσ=>nr rfl;have b:=λσ=>bt (i:=0) (a:=0) (b:=1) (by omega) σ;unfold Ld BQ;generalize S B=Y at *;generalize PL B.u B.v B.t=L at *;simp[pl,l,b]
 have j:=λfs=>Os B (m:="has_pot") 2 Ld fs rfl;have k:=XC c (S B);have e:=ZF B.u B.v B.t (S B);have f:Qb (pD B.u B.v B.t) (.int s) (S B)=.ok (.int s) (S B):=by
  rcases c with rfl|rfl
  ·exact p0 ..
  ·exact p1 ..
 have n:mv (.int s) (.ref 7) (S B)=.ok (.bl true) (S B):=by
  have g:(S B)[7]?=some B.ko:=rfl;unfold mv ej;simp only[Pk,g,hk];rcases c with rfl|rfl<;>rfl
 unfold lb UQ;generalize S B=Y at *;generalize PL B.u B.v B.t=L at *;generalize pD B.u B.v B.t=o at *;simp[pl,h,d,j,k,e,f,n]
theorem nS(fs:M (List D)):eo [(16,lb)] 3 "is_side_of_band" fs (.ref 1) (S B)=(fs (S B)).bind (Kj 3 lb (.ref 1)):=Os B _ _ _ rfl
theorem EH{s:Int}(a:s=0\/s=1):Ra [.ref 1,.int 0,.int s] (S B)=.ok .Jb (S B):=by
 have h:=zM B hk a;have m:=λfs=>nS B hk fs;unfold Ra AO;generalize S B=Y at *;simp[h,m]
include hT
open Classical in
theorem DZ{w:Int}(a:0<=w/\w<=9):wb [.ref 1,.tup [.str "word",.int w]] (S B)=.ok (.bl true) (S B):=by
 have b:=vM B;have o:Tw (.tup [.str "word",.int w]) (.ref 8) (S B)=.ok (.bl true) (S B):=by
  have g:(S B)[8]?=some (.eg B.T):=rfl;have m:tg w∈tN 10:=Db.mpr ⟨w.toNat,Lg.mpr (by omega),by unfold tg;rw[Int.toNat_of_nonneg a.1]⟩;unfold Tw;simp only[show ut [.str "word",.int w]=some (tg w)from rfl,g,hT,m,decide_true]
 unfold wb NK;generalize S B=Y at *;simp[b,o]
omit hT in
theorem gT{x:D}{t:qa}{s:Int}(a:s=0\/s=1)(b:(t == ("word" : qa))=false)(o:Tw (.tup [.str t,.int 0,.int s,x]) (.ref 8) (S B)=.ok (.bl false) (S B)):wb [.ref 1,.tup [.str t,.int 0,.int s,x]] (S B)=.ok (.bl true) (S B):=by
 have c:=vM B;have h:=zM B hk a;have m:=λfs=>nS B hk fs;unfold wb NK;generalize S B=Y at *;simp[c,o,h,m,b]
open Classical in
theorem N0{s n:Int}(a:s=0\/s=1):wb [.ref 1,Bv s n] (S B)=.ok (.bl true) (S B):=by
 refine gT B hk a (by decide) ?_;have g:(S B)[8]?=some (.eg B.T):=rfl;have m:¬ ([.inr "strike",.inl 0,.inl s,.inl n]:List Key)∈tN 10:=λz=>by
  have:=qO z;injection this with e;injection e with e;exact absurd e (by decide)
 unfold Tw;simp only[show ut [.str "strike",.int 0,.int s,.int n]=some [.inr "strike",.inl 0,.inl s,.inl n]from rfl,g,hT,m,decide_false]
open Classical in
theorem A4{s n a b:Int}{ts:List Ti}(f:s=0\/s=1):wb [.ref 1,Qu s (yc n a b ts)] (S B)=.ok (.bl true) (S B):=by
 refine gT B hk f (by decide) ?_;have g:(S B)[8]?=some (.eg B.T):=rfl;have i:ut [.str "agree",.int 0,.int s,yc n a b ts]=none:=rfl;have h:Rz 5 (.tup [.str "agree",.int 0,.int s,yc n a b ts])=true/\∃ d c t,[D.str "agree",.int 0,.int s,yc n a b ts]=d::c/\Pk d=some t/\∀ k∈tN 10,k.head?≠some t:=by
  refine⟨?_,_,_,.inr "agree",rfl,rfl,λk hm e=>?_⟩
  ·simp[Rz,Pk,yc,Ti.D]
  ·rw[qO hm]at e;injection e with e;injection e with e;exact absurd e (by decide)
 unfold Tw;simp only[i,g,hT];rw[ia h]
theorem aK(fs:M (List D)):eo [(16,wb)] 2 "band_can" fs (.ref 1) (S B)=(fs (S B)).bind (Kj 2 wb (.ref 1)):=Os B _ _ _ rfl
theorem JX{w:Int}(a:0<=w/\w<=9)(b:B.s.length<1000):af [.ref 1,.int 0,.int w] (S B)=.ok .Jb (S { B with s:=Cm B.s w B.d }):=by
 have c:=DZ B hk hT a;have m:=λfs=>aK B hk hT fs;have f:=Yy B;have e:=λfs=>zq B (m:="show") 3 bf fs rfl;have s:=gZ B a b;unfold af BS;generalize S { B with s:=Cm B.s w B.d }=g at *;generalize S B=Y at *;simp[c,m,f,e,s]
theorem IX(P:Gx B.u B.v B.t)(g:B.c=.held){s n a b:Int}{ts:List Ti}(e:s=0\/s=1)(h:Sq n a b ts)(i:a+b+Im ts=B.w):kf [.ref 1,.int 0,.int s,yc n a b ts] (S B)=.ok .Jb (S { B with c:=.laid s n a b ts B.d }):=by
 have f:=EH B hk e;have j:=λfs=>Os B (m:="check_side_of_band") 3 Ra fs rfl;have r:=jG h (S B);have p:=bD s (S B);have c:=A4 B hk hT (s:=1 - s) (n:=n) (a:=a) (b:=b) (ts:=ts) (by omega);have m:=λfs=>aK B hk hT fs;have q:=Yy B;have k:=λfs=>zq B (m:="lay") 5 fg fs rfl;have l:=ykz B P g e h i;have o:∀ (fn:List D->M D) (x a b c d:D) (σ:db),Kj 5 fn x [a,b,c,d] σ=fn [x,a,b,c,d] σ:=λ_ _ _ _ _ _ _=>Ey rfl;unfold Qu at c l;unfold kf rR;generalize S { B with c:=.laid s n a b ts B.d }=y at *;generalize S B=Y at *;generalize yc n a b ts=X at *;simp[f,j,r,p,c,m,q,k,l,o]
theorem AH{s n a b d z:Int}{ts:List Ti}(g:B.c=.laid s n a b ts d)(u:s=0\/s=1)(hz:z=0\/z=1)(hn:0<=n/\n<=1000000) :
  Pb [.ref 1,.int 0,.int z] (S B)=if z=1 - s/\B.d<d+B.t then .ok .Jb (S { B with c:=.taken z })else .ex ⟨2⟩ (S B):=by
 have f:=EH B hk hz;have j:=λfs=>Os B (m:="check_side_of_band") 3 Ra fs rfl;have q:=bD z (S B);have e:=FH B;rw[g]at e;have e:rb [.ref 2,.int 0] (S B)=.ok (.tup [.str "laid",.int s,yc n a b ts,.int d]) (S B):=e;have o:=λfs=>zq B (m:="told") 2 rb fs rfl;have i:∀ σ,Qb (yc n a b ts) (.int 0) σ=.ok (.int n) σ:=λσ=>by simp[yc]
 have c:=N0 B hk hT (s:=1 - z) (n:=n) (by omega);have m:=λfs=>aK B hk hT fs;have r:=Yy B;have k:=λfs=>zq B (m:="strike") 4 Xd fs rfl;have l:=G8 B g u hz hn;have ne:∀ σ,iq (.str "laid") (.str "laid") σ=.ok (.bl false) σ:=λσ=>SF (b:=true) (by simp[qm,kd,Ar,Yk]);have p:∀ (fn:List D->M D) (x a b c:D) (σ:db),Kj 4 fn x [a,b,c] σ=fn [x,a,b,c] σ:=λ_ _ _ _ _ _=>Ey rfl;unfold Bv at c l;unfold Pb JK;generalize S { B with c:=.taken z }=v at *;generalize S B=Y at *;generalize yc n a b ts=X at *;by_cases h:z=1 - s/\B.d<d+B.t
 ·rw[ia h]at l ⊢;simp[f,j,q,e,o,i,c,m,r,k,l,ne,p]
 ·rw[ja h]at l ⊢;simp[f,j,q,e,o,i,c,m,r,k,l,ne,p]
theorem mP{s z:Int}(e:B.c=.taken s)(hz:z=0\/z=1):Pb [.ref 1,.int 0,.int z] (S B)=.ex ⟨2⟩ (S B):=by
 have d:=EH B hk hz;have f:=λfs=>Os B (m:="check_side_of_band") 3 Ra fs rfl;have a:=FH B;rw[e]at a;have a:rb [.ref 2,.int 0] (S B)=.ok (.tup [.str "taken",.int s]) (S B):=a;have g:=λfs=>zq B (m:="told") 2 rb fs rfl;have h:=Yy B;have ne:∀ σ,iq (.str "taken") (.str "laid") σ=.ok (.bl true) σ:=λσ=>SF (b:=false) (by simp[qm,kd,Ar,Yk];decide);unfold Pb JK;generalize S B=Y at *;simp[d,f,a,g,h,ne]
end
end
theorem NC(ρ:Ev)(g:Ev->M Fl)(σ:db):zx ρ ⟨2⟩ (⟨(Ax [(2,true)]),none,g⟩::[]) σ=(g ρ σ).bind OD:=by
 rw[zte rfl,yj5]
theorem BE{B:Bx}{z:Int}(h:Pb [.ref 1,.int 0,.int z] (S B)=.ex ⟨2⟩ (S B)):Ac [.ref 1,.int z] (S B)=.ok (.bl true) (S B):=by
 have m:=λfs=>Os B (m:="strike") 3 Pb fs rfl;unfold Ac IR;generalize S B=Y at *;simp[m,h,NC]
@[simp] theorem yfj(d a b c:D)(r:List D)(ρ:Ev)(σ:db):Eu ρ d (.ref σ.length) (.int 2) (σ++[.lst (a::b::c::r)])=.ok (.nx ρ) (σ++[.lst (a::b::d::r)]):=by
 have:qy (.ref σ.length) (.int 2) d (σ++[.lst (a::b::c::r)])=.ok () (σ++[.lst (a::b::d::r)]):=by
  simp only[qy,NA];rw[show Lr (a::b::c::r).length 2=some 2 by simp[Lr];omega];simp
 unfold Eu;rw[this]
@[simp] theorem yqt(a b c:D)(r:List D)(σ:db):Qb (.ref σ.length) (.int 2) (σ++[.lst (a::b::c::r)])=.ok c (σ++[.lst (a::b::c::r)]):=lK (show Lm _ ((2:Nat):Int)=_ from Pw rfl)
theorem oS{c:Ev->M Bool}{a b:Ev->M Fl}{ρ:Ev}{σ:db}{r:Out Fl}(h:c ρ σ=.ok false σ)(n:b ρ σ=r):Jg c a b ρ σ=r:=by rw[Qy,h,Lh,QG,n]
theorem yzg(t:Ti)(ρ:Ev):Bn 4 (Ah (Zd 7) (Ah (Zd 8) (Ah (Zd 9) (Ah (Zd 10) io)))) t.D ρ=some ((((ρ.set 7 (some (.int t.p))).set 8 (some (.int t.a))).set 9 (some (.int t.w))).set 10 (some (.int t.y))):=rfl
section
variable{σ:db}{r:Nat}{l:List (Int × Int)}(hd:∀ j,ej (σ++j) (.ref r)=some (Cf l))
include hd
theorem T6(g i j k:Option D)(y:Int)(t:Ti)(b:t.p=0\/t.p=1)(A c H:Int) :
  hG [g,i,j,k,some (.ref r),some (.int y),some (.ref σ.length),some (.int t.p),some (.int t.a),some (.int t.w),some (.int t.y)] (σ++[.lst [.int A,.int c,.int H]])
   = .ok (.nx [g,i,j,k,some (.ref r),some (.int y),some (.ref σ.length),some (.int t.p),some (.int t.a),some (.int t.w),some (.int t.y)]) (σ++[.lst [.int (A+(if fo l y t=some 0 then t.a else 0)),.int (c+(match fo l y t with|some s=>if s=0 then 0 else t.a|none=>0)),.int (H+(match fo l y t with|some _=>0|none=>t.a))]]):=by
 have f:=wT (hd [.lst [.int A,.int c,.int H]]) t.w;unfold hG;have no:ou l t=false->((Jg (eT (Qa Gy (ga 5) (ga 10))) (sx (Qa ki (Qa Qb (ga 6) (ga 7)) (ga 8)) (ga 6) (ga 7)) (sx (Qa ki (Qa Qb (ga 6) (eC (.int 2))) (ga 8)) (ga 6) (eC (.int 2)))) [g,i,j,k,some (.ref r),some (.int y),some (.ref σ.length),some (.int t.p),some (.int t.a),some (.int t.w),some (.int t.y)] (σ++[.lst [.int A,.int c,.int H]])
   = .ok (.nx [g,i,j,k,some (.ref r),some (.int y),some (.ref σ.length),some (.int t.p),some (.int t.a),some (.int t.w),some (.int t.y)]) (σ++[.lst [.int (A+(if fo l y t=some 0 then t.a else 0)),.int (c+(match fo l y t with|some s=>if s=0 then 0 else t.a|none=>0)),.int (H+(match fo l y t with|some _=>0|none=>t.a))]])):=λh=>by
  by_cases o:y ≥ t.y
  ·have e:fo l y t=some t.p:=by unfold fo;rw[h];simp;omega
   have hb:decide (y ≥ t.y)=true:=by simpa using o
   rw[e];rcases b with b|b<;>simp[hb,b]
  ·have e:fo l y t=none:=by unfold fo;rw[h];simp;omega
   have hb:decide (y ≥ t.y)=false:=by simpa using o
   rw[e];simp[hb]
 cases d:val l t.w with
 |none=>
  rw[d]at f;have n:=no (by unfold ou;rw[d]);exact oS (by simp[f]) n
 |some v=>
  rw[d]at f;have m:=KQ (hd [.lst [.int A,.int c,.int H]]) d;by_cases h:v<t.y
  ·have e:fo l y t=some (1 - t.p):=by unfold fo ou;rw[d];simp[h]
   have hb:decide (v<t.y)=true:=by simpa using h
   rw[e];rcases b with b|b<;>simp[f,m,hb,b]
  ·have hb:decide (v<t.y)=false:=by simpa using h
   have n:=no (by unfold ou;rw[d];exact hb);exact oS (by simp[f,m,hb]) n
theorem gP(f g h i:Option D)(y:Int):∀ (ts:List Ti) (A d H:Int) (x7 j k b:Option D),(∀ t∈ts,t.p=0\/t.p=1)->∃ m n o c,
  Pm (Bn 4 (Ah (Zd 7) (Ah (Zd 8) (Ah (Zd 9) (Ah (Zd 10) io))))) hG (ts.map Ti.D) [f,g,h,i,some (.ref r),some (.int y),some (.ref σ.length),x7,j,k,b] (σ++[.lst [.int A,.int d,.int H]])
   = .ok (.nx [f,g,h,i,some (.ref r),some (.int y),some (.ref σ.length),m,n,o,c]) (σ++[.lst [.int (A+sA l y ts),.int (d+sB l y ts),.int (H+sH l y ts)]])
 |[],A,d,H,x7,j,k,b,_=>⟨x7,j,k,b,by simp[sA,sB,sH]⟩
 |t::ts,A,d,H,x7,j,k,b,q=>by
  have v:=T6 hd f g h i y t (q t Aa) A d H;obtain⟨m,n,o,c,e⟩:=gP f g h i y ts (A+(if fo l y t=some 0 then t.a else 0)) (d+(match fo l y t with|some s=>if s=0 then 0 else t.a|none=>0)) (H+(match fo l y t with|some _=>0|none=>t.a)) (some (.int t.p)) (some (.int t.a)) (some (.int t.w)) (some (.int t.y)) (λt u=>q t (ya _ u));refine⟨m,n,o,c,?_⟩;rw[Da,uR (yzg t _)];simp only[gb,ib];rw[v,nc,Rl,e];simp only[sA,sB,sH,Int.add_assoc]<;>rfl
theorem kT(n a b w d t y:Int){ts:List Ti}(k:∀ t∈ts,t.p=0\/t.p=1):Hf [yc n a b ts,.int w,.int d,.int t,.ref r,.int y] σ=.ok (.tup ((zv l y w d t a b ts).map D.int)) σ:=by
 have m:∀ σ,Qb (yc n a b ts) (.int 1) σ=.ok (.tup [.int a,.int b]) σ:=λσ=>by simp[yc]
 have o:∀ σ,Qb (yc n a b ts) (.int 2) σ=.ok (.tup (ts.map Ti.D)) σ:=λσ=>by simp[yc]
 have q:∀ (a b c:D) (σ:db),ZD [a,b,c] σ=.ok (.ref σ.length) (σ++[.lst [a,b,c]]):=λ_ _ _ _=>nr rfl;unfold Hf cP zv;by_cases f:y<d+t
 ·have hb:decide (y<d+t)=true:=by simpa using f
  rw[ia f];generalize yc n a b ts=X at *;simp[hb]
 ·have hb:decide (y<d+t)=false:=by simpa using f
  rw[ja f];obtain⟨v,x,z,u,e⟩:=gP hd (some (yc n a b ts)) (some (.int w)) (some (.int d)) (some (.int t)) y ts a b 0 none none none none k;rw[cE]at e;generalize yc n a b ts=X at *;generalize sA l y ts=g at *;generalize sB l y ts=h at *;generalize sH l y ts=i at *;generalize ts.map Ti.D=TT at *;have j:=zs2 (σ:=σ) (a:=.lst [.int (a+g),.int (b+h),.int i]) (d:=.tup [.int (a+g),.int (b+h),.int i]) (by simp);have s:∀ xs,dG [.ref σ.length] (σ++[.lst xs])=.ok (.tup xs) (σ++[.lst xs]):=λxs=>by unfold dG;simp only[JT];rfl
  simp[hb,m,o,q,e,j,s]
end
theorem eK(l:List (Int × Int))(y w d t a b:Int)(ts:List Ti):∃ A B C,zv l y w d t a b ts=[A,B,C]:=by
 unfold zv;split
 ·exact⟨_,_,_,rfl⟩
 ·exact⟨_,_,_,rfl⟩
structure Wd(l:List (Int × Int)):Prop where
 nd:(l.map (·.1)).Nodup
 w:∀ z∈l,0<=z.1/\z.1<=9
theorem WM:∀ (n:Nat) (l:List Int),l.Nodup->(∀ x∈l,0<=x/\x<n)->l.length<=n
 |0,l,_,h=>by
  cases l with
  |nil=>simp
  |cons x l=>have:=h x Aa;omega
 |n+1,l,nd,h=>by
  have a:=WM n (l.erase (n:Int)) (nd.erase _) (λx b=>by
   have:=(pU nd).mp b;have:=h x this.2;omega)
  by_cases m:(n:Int)∈l
  ·rw[Oq m]at a;omega
  ·rw[List.erase_of_not_mem m]at a;omega
theorem Wd.len{l:List (Int × Int)}(h:Wd l):l.length<=10:=by
 have:=WM 10 (l.map (·.1)) h.nd (λx a=>by
  obtain⟨z,b,rfl⟩:=Db.mp a;have:=h.w z b;omega)
 simpa using this
theorem mM{w:Int}:∀ {l:List (Int × Int)},val l w=none->w ∉ l.map (·.1)/\(l.any λp=>decide (p.1=w))=false
 |[],_=>⟨by simp,rfl⟩
 |p::l,h=>by
  unfold val at h;rw[Hc]at h;by_cases e:p.1=w
  ·rw[Um e]at h;cases h
  ·rw[Xc e]at h;obtain⟨a,b⟩:=mM (l:=l) h;refine⟨λz=>?_,by rw[ee,Xc e,b];rfl⟩;rw[Da]at z;rcases Ha.mp z with z|z
   ·exact e z.symm
   ·exact a z
theorem Wd.Cm{l:List (Int × Int)}(h:Wd l){w y:Int}(i:0<=w/\w<=9):Wd (Cm l w y):=by
 unfold K57.Cm;cases e:val l w with
 |some v=>exact h
 |none=>
  obtain⟨d,f⟩:=mM e;show Wd (qt l w y);unfold qt;rw[f,ja (by simp)];refine⟨?_,λz j=>?_⟩
  ·rw[Bg];exact ui.mpr ⟨h.nd,by simp,λa g b hb=>by
    have:b=w:=by simpa using hb
    subst this;exact λz=>d (by rw[<-z];exact g)⟩
  ·rcases Ud.mp j with c|c
   ·exact h.w z c
   ·rw[Jd.mp c];exact i
noncomputable def Bl(ns:List Int)(k:Nat):Int:=ns.getD k 0
theorem oz(ns:List Int)(k:Int)(a:0<=k)(σ:db):Wb [.je ns,.int k] σ=.ok (.int (Bl ns k.toNat)) σ:=by
 unfold Wb fP Bl;by_cases h:k<ns.length
 ·simp[h,S9 a h]
 ·have e:ns.length<=k.toNat:=by omega
  simp[h,uj e]
structure DI(c:Cl)(k:Nat)(B:Bx):Prop where
 c:B.c=c
 ko:B.ko=.Ya kV
 ao:B.ao=.Ya aV
 T:B.T=tN 10
 h:ww B.h
 K:B.K.length<=10 * k
 s:Wd B.s
theorem UM{B:Bx}(a:B.ko=.Ya kV)(b:B.ao=.Ya aV):Bw B=B:=by
 cases B;simp only at a b;subst a b;rfl
theorem DI.next{c:Cl}{k:Nat}{B:Bx}(I:DI c k B)(f:k<=80):∃ C,DI c (k+1) C/\C.u=B.u/\C.v=B.v/\C.t=B.t/\C.d=B.d+1/\C.s=B.s/\C.J=B.J/\Vb [.ref 1] (S B)=.ok .Jb (S C):=by
 have g:=I.K;obtain⟨C,N,e⟩:=GZ B I.h I.s.len (by omega);rw[UM I.ko I.ao]at e;obtain⟨a,b,l,K,h,rfl⟩:=N;refine⟨{ B with d:=B.d+1,l:=l,K:=K,h:=h },⟨I.c,I.ko,I.ao,I.T,a,yb b (by omega),I.s⟩,rfl,rfl,rfl,rfl,rfl,rfl,?_⟩;rw[e,UM (B:={ B with d:=B.d+1,l:=l,K:=K,h:=h }) I.ko I.ao]
theorem v9{σ:db}{r:Nat}{l:List (Int × Int)}(g:σ[r]?=some (.Ya (Cf l)))(a:l.length<=10)(w y:Int):∃ x,YC (.ref r) [.int w,.int y] σ=.ok x (σ.set r (.Ya (Cf (Cm l w y)))):=by
 unfold YC;simp only[Pk,g];rw[ia (show (Cf l).length<li by rw[gC];exact ci a (by decide)),sC];unfold Cm;cases val l w with
 |some v=>
  refine⟨.int v,?_⟩;show Out.ok (D.int v) σ=_;congr 1;exact(Lf λi=>by
   rw[Cb];by_cases e:r=i
   ·subst e;rw[ia rfl,ia (ma.mp g).1,g]
   ·rw[ja e])
 |none=>exact⟨.int y,by dsimp only[Option.map_none];rw[uK]⟩
section
variable{s n a b:Int}{ts:List Ti}{d:Int}(ns:List Int)(hp:∀ t∈ts,t.p=0\/t.p=1)
include hp
theorem XU{k:Nat}{B:Bx}(I:DI (.laid s n a b ts d) k B)(hk:k<=80)(hw:a+b+Im ts=B.w)(q:B.J=[.Ya (Cf B.s)])(i:Nat)(hi:i<70)(x7 N g f:Option D):∃ C y9 L,DI (.laid s n a b ts d) (k+1) C/\C.u=B.u/\C.v=B.v/\C.t=B.t/\C.d=B.d+1/\C.J=[.Ya (Cf C.s)]/\
  BC [some (.ref 1),some (yc n a b ts),some (.int B.w),some (.int B.t),some (.je ns),some (.int d),some (.ref 16),x7,some (.int i),N,g,f] (S B)=.ok (.nx [some (.ref 1),some (yc n a b ts),some (.int B.w),some (.int B.t),some (.je ns),some (.int d),some (.ref 16),x7,some (.int i),y9,L,f]) (S C):=by
 have y:∀ B:Bx,B.J=[.Ya (Cf B.s)]->(S B)[16]?=some (.Ya (Cf B.s)):=λB h=>by
  show B.J[0]?=_;rw[h];rfl
 have hd:∀ j,ej (S B++j) (.ref 16)=some (Cf B.s):=λj=>by
  unfold ej;dsimp only;rw[Ta (ma.mp (y B q)).1,y B q]
 have ld:=kT hd n a b B.w d B.t B.d hp;have E:=hJ I.c hw;have ne:=EK (σ:=S B) (x:=.tup ((zv B.s B.d B.w d B.t a b ts).map D.int)) (by
  obtain⟨A,p,C,e⟩:=eK B.s B.d B.w d B.t a b ts;rw[e];simp[pl])
 have s1:v1 [some (.ref 1),some (yc n a b ts),some (.int B.w),some (.int B.t),some (.je ns),some (.int d),some (.ref 16),x7,some (.int i),N,g,f] (S B)=.ok (.nx [some (.ref 1),some (yc n a b ts),some (.int B.w),some (.int B.t),some (.je ns),some (.int d),some (.ref 16),x7,some (.int i),some (.int B.d),g,f]) (S B):=by
  unfold v1;rw[Tu,GA B (by simp)];simp
 have s2:v2 [some (.ref 1),some (yc n a b ts),some (.int B.w),some (.int B.t),some (.je ns),some (.int d),some (.ref 16),x7,some (.int i),some (.int B.d),g,f] (S B)=.ok (.nx [some (.ref 1),some (yc n a b ts),some (.int B.w),some (.int B.t),some (.je ns),some (.int d),some (.ref 16),x7,some (.int i),some (.int B.d),g,f]) (S B):=by
  have E:=yE B (k:=0) (ρ:=[some (.ref 1),some (yc n a b ts),some (.int B.w),some (.int B.t),some (.je ns),some (.int d),some (.ref 16),x7,some (.int i),some (.int B.d),g,f]) (by simp) E;unfold v2;rw[Qy,jx,Av,E];generalize S B=Y at *;generalize yc n a b ts=X at *;generalize D.tup ((zv B.s B.d B.w d B.t a b ts).map D.int)=DU at *;simp[ld,ne]
 obtain⟨c,s3⟩:∃ c:Int,∀ σ,v3 [some (.ref 1),some (yc n a b ts),some (.int B.w),some (.int B.t),some (.je ns),some (.int d),some (.ref 16),x7,some (.int i),some (.int B.d),g,f] σ=.ok (.nx [some (.ref 1),some (yc n a b ts),some (.int B.w),some (.int B.t),some (.je ns),some (.int d),some (.ref 16),x7,some (.int i),some (.int B.d),some (.int c),f]) σ:=by
  refine⟨Bl ns (6+(i:Int) % 6).toNat / (1+(i:Int) / 6),λσ=>?_⟩;have V:=λσ=>oz ns (6+(i:Int) % 6) (by omega) σ;have od:=LF (σ:=σ) (Bl ns (6+(i:Int) % 6).toNat) (1+(i:Int) / 6) (by omega) (by omega);unfold v3;generalize yc n a b ts=X at *;generalize Bl ns (6+(i:Int) % 6).toNat=CE at *;simp[V,od]
 have z:0<=c / 5 % 10/\c / 5 % 10<=9:=by omega
 obtain⟨p,O,hu,hv,ht,H,G,s4⟩:∃ p:Bx,DI (.laid s n a b ts d) k p/\p.u=B.u/\p.v=B.v/\p.t=B.t/\p.d=B.d/\p.J=[.Ya (Cf p.s)]/\v4 [some (.ref 1),some (yc n a b ts),some (.int B.w),some (.int B.t),some (.je ns),some (.int d),some (.ref 16),x7,some (.int i),some (.int B.d),some (.int c),f] (S B)=.ok (.nx [some (.ref 1),some (yc n a b ts),some (.int B.w),some (.int B.t),some (.je ns),some (.int d),some (.ref 16),x7,some (.int i),some (.int B.d),some (.int c),f]) (S p):=by
  unfold v4;by_cases e:c % 5=0
  ·refine⟨{ B with s:=Cm B.s (c / 5 % 10) B.d,J:=[.Ya (Cf (Cm B.s (c / 5 % 10) B.d))] },⟨I.c,I.ko,I.ao,I.T,I.h,I.K,I.s.Cm z⟩,rfl,rfl,rfl,rfl,rfl,?_⟩;have F:(c % 5 == 0)=true:=by simpa using e
   have sh:=JX B I.ko I.T z (ci I.s.len (by decide));have ms:=λfs=>Os B (m:="show") 3 af fs rfl;obtain⟨x,M⟩:=v9 (σ:=S { B with s:=Cm B.s (c / 5 % 10) B.d }) (r:=16) (l:=B.s) (by show B.J[0]?=_;rw[q];rfl) I.s.len (c / 5 % 10) B.d;have es:(S { B with s:=Cm B.s (c / 5 % 10) B.d }).set 16 (.Ya (Cf (Cm B.s (c / 5 % 10) B.d)))=S { B with s:=Cm B.s (c / 5 % 10) B.d,J:=[.Ya (Cf (Cm B.s (c / 5 % 10) B.d))] }:=by
    unfold S tl;simp only[gb,q,ib];rfl
   rw[es]at M;have md:∀ o fs,pA o fs (.ref 16) (S { B with s:=Cm B.s (c / 5 % 10) B.d })=(fs (S { B with s:=Cm B.s (c / 5 % 10) B.d })).bind (o (.ref 16)):=λo fs=>by
    have:ej (S { B with s:=Cm B.s (c / 5 % 10) B.d }) (.ref 16)=some (Cf B.s):=by
     unfold ej;dsimp only;rw[show (S { B with s:=Cm B.s (c / 5 % 10) B.d })[16]?=B.J[0]? from rfl,q];rfl
    unfold pA;rw[this];rfl
   generalize S { B with s:=Cm B.s (c / 5 % 10) B.d,J:=[.Ya (Cf (Cm B.s (c / 5 % 10) B.d))] }=Y3 at *;generalize S { B with s:=Cm B.s (c / 5 % 10) B.d }=Q at *;generalize S B=Y at *;generalize yc n a b ts=X at *;simp[F,ms,sh,md,M]
  ·have F:(c % 5 == 0)=false:=by simpa using e
   refine⟨B,I,rfl,rfl,rfl,rfl,q,?_⟩;generalize S B=Y at *;generalize yc n a b ts=X at *;simp[F]
 obtain⟨C,P,Z,cv,ct,U,W,R,ny⟩:=O.next hk;refine⟨C,some (.int B.d),some (.int c),P,by rw[Z,hu],by rw[cv,hv],by rw[ct,ht],by rw[U,H],by rw[R,G,W],?_⟩;have s5:v5 [some (.ref 1),some (yc n a b ts),some (.int B.w),some (.int B.t),some (.je ns),some (.int d),some (.ref 16),x7,some (.int i),some (.int B.d),some (.int c),f] (S p)=.ok (.nx [some (.ref 1),some (yc n a b ts),some (.int B.w),some (.int B.t),some (.je ns),some (.int d),some (.ref 16),x7,some (.int i),some (.int B.d),some (.int c),f]) (S C):=by
  have mn:=λfs=>Os p (m:="next_day") 1 Vb fs rfl;unfold v5;generalize S C=Q at *;generalize S p=Y at *;generalize yc n a b ts=X at *;simp[mn,ny]
 unfold BC;rw[cg,s1,nc,ig,cg,s2,nc,ig,cg,s3,nc,ig,cg,s4,nc,ig,s5]
theorem Q2(u v t:Int)(M:a+b+Im ts=u+v)(x7 e:Option D):∀ (m i k:Nat) (B:Bx) (h g c:Option D),B.u=u->B.v=v->B.t=t->DI (.laid s n a b ts d) k B->i+m<=70->k+m<=80->B.J=[.Ya (Cf B.s)]->∃ C P w f,DI (.laid s n a b ts d) (k+m) C/\C.u=u/\C.v=v/\C.t=t/\C.J=[.Ya (Cf C.s)]/\
  Pm (Zd 8) BC ((List.range' i m).map λ(j:Nat)=>D.int j) [some (.ref 1),some (yc n a b ts),some (.int (u+v)),some (.int t),some (.je ns),some (.int d),some (.ref 16),x7,h,g,c,e] (S B)=.ok (.nx [some (.ref 1),some (yc n a b ts),some (.int (u+v)),some (.int t),some (.je ns),some (.int d),some (.ref 16),x7,P,w,f,e]) (S C):=by
 intro m;induction m with
 |zero=>intro i k B h g c l o p I _ _ q;exact⟨B,h,g,c,I,l,o,p,q,by rw[Vi,ce,zy]⟩
 |succ m N=>
  intro i k B h g c l o p I U V q;subst l o p;obtain⟨C,w,f,A,F,cv,ct,T,E,r⟩:=XU ns hp I (by omega) M q i (by omega) x7 g c e;obtain⟨y,Q,R,x,z,G,H,K,L,O⟩:=N (i+1) (k+1) C (some (.int i)) w f F cv ct A (by omega) (by omega) E;refine⟨y,Q,R,x,by rw[show k+(m+1)=k+1+m by omega];exact z,G,H,K,L,?_⟩;have r:BC [some (.ref 1),some (yc n a b ts),some (.int (B.u+B.v)),some (.int B.t),some (.je ns),some (.int d),some (.ref 16),x7,some (.int i),g,c,e] (S B)=_:=r;rw[mh,Da,Ks];simp only[gb,ib];rw[r,nc,Rl];exact O
theorem zy0{k:Nat}{B:Bx}(I:DI (.laid s n a b ts d) k B)(hk:k<=10)(r:a+b+Im ts=B.w)(p:B.d=d)(q:B.s=[])(O:B.J=[]):∃ C k',DI (.laid s n a b ts d) k' C/\C.u=B.u/\C.v=B.v/\C.t=B.t/\qg [.ref 1,yc n a b ts,.int B.w,.int B.t,.je ns] (S B)=.ok (.bl true) (S C):=by
 have hm:0<=Bl ns 5 % 70/\Bl ns 5 % 70<70:=by omega
 have R:DI (.laid s n a b ts d) k { B with J:=[.Ya (Cf B.s)] }:=⟨I.c,I.ko,I.ao,I.T,I.h,I.K,I.s⟩
 obtain⟨C,i,l,e,F,o,cv,ct,U,P⟩:=Q2 (d:=d) ns hp B.u B.v B.t r (some (.int (Bl ns 5 % 70))) none (Bl ns 5 % 70).toNat 0 k { B with J:=[.Ya (Cf B.s)] } none none none rfl rfl rfl R (by omega) (by omega) rfl;refine⟨C,_,F,o,cv,ct,?_⟩;have E:a+b+Im ts=C.w:=by unfold Bx.w at r ⊢;rw[o,cv];exact r
 have g:=hJ F.c E;obtain⟨A,f,H,N⟩:=eK C.s C.d C.w d C.t a b ts;rw[N]at g;have g:Sa [.ref 2,.int 0] (S C)=.ok (.tup [.int A,.int f,.int H]) (S C):=g;have G:=aG C (x:=A) (y:=f) (z:=H) g (h:=0) (.inl rfl);have L:=aG C (x:=A) (y:=f) (z:=H) g (h:=1) (.inr rfl);have hd:∀ j,ej (S C++j) (.ref 16)=some (Cf C.s):=λj=>by
  unfold ej;dsimp only;rw[show (S C++j)[16]?=(C.J++j)[0]? from rfl,U];rfl
 have ld:=kT hd n a b C.w d C.t C.d hp;rw[N]at ld;have ew:C.w=B.w:=by unfold Bx.w;rw[o,cv]
 rw[ew,ct]at ld;have mc:=λfs=>Os C (m:="coin") 2 jd fs rfl;have W:=QC (σ:=S C) (x:=.tup [.int A,.int f,.int H]) (by simp[pl]);have Z:=QC (σ:=S C) (x:=.tup [.int A,.int f]) (by simp[pl]);have M:=λσ=>oz ns 5 (by omega) σ;rw[show (5:Int).toNat=5 from rfl]at M;have s1:w1 [some (.ref 1),some (yc n a b ts),some (.int B.w),some (.int B.t),some (.je ns),none,none,none,none,none,none,none] (S B)=.ok (.nx [some (.ref 1),some (yc n a b ts),some (.int B.w),some (.int B.t),some (.je ns),some (.int d),none,none,none,none,none,none]) (S B):=by
  unfold w1;rw[Tu,GA B (by simp),p];simp
 have s2:w2 [some (.ref 1),some (yc n a b ts),some (.int B.w),some (.int B.t),some (.je ns),some (.int d),none,none,none,none,none,none] (S B)=.ok (.nx [some (.ref 1),some (yc n a b ts),some (.int B.w),some (.int B.t),some (.je ns),some (.int d),some (.ref 16),none,none,none,none,none]) (S { B with J:=[.Ya (Cf B.s)] }):=by
  have el:(S B).length=16:=by unfold S tl;rw[O];rfl
  have es:S B++[.Ya []]=S { B with J:=[.Ya (Cf B.s)] }:=by rw[ys6,O,q];rfl
  unfold w2;rw[Tu,jK,Lh,el,es];simp
 have s3:∀ σ,w3 [some (.ref 1),some (yc n a b ts),some (.int B.w),some (.int B.t),some (.je ns),some (.int d),some (.ref 16),none,none,none,none,none] σ=.ok (.nx [some (.ref 1),some (yc n a b ts),some (.int B.w),some (.int B.t),some (.je ns),some (.int d),some (.ref 16),some (.int (Bl ns 5 % 70)),none,none,none,none]) σ:=λσ=>by
  unfold w3;generalize yc n a b ts=X at *;simp[M]
 have s4:w4 [some (.ref 1),some (yc n a b ts),some (.int B.w),some (.int B.t),some (.je ns),some (.int d),some (.ref 16),some (.int (Bl ns 5 % 70)),none,none,none,none] (S { B with J:=[.Ya (Cf B.s)] })=.ok (.nx [some (.ref 1),some (yc n a b ts),some (.int B.w),some (.int B.t),some (.je ns),some (.int d),some (.ref 16),some (.int (Bl ns 5 % 70)),i,l,e,none]) (S C):=by
  have rk:=IE (σ:=S { B with J:=[.Ya (Cf B.s)] }) (j:=Bl ns 5 % 70) (by omega) (by omega);rw[<-DG]at P;unfold w4;rw[Ky];simp only[eS,gn,gj,nc,rk,Lh,oA];exact P
 have s5:w5 [some (.ref 1),some (yc n a b ts),some (.int B.w),some (.int B.t),some (.je ns),some (.int d),some (.ref 16),some (.int (Bl ns 5 % 70)),i,l,e,none] (S C)=.ok (.nx [some (.ref 1),some (yc n a b ts),some (.int B.w),some (.int B.t),some (.je ns),some (.int d),some (.ref 16),some (.int (Bl ns 5 % 70)),i,l,e,some (.tup [.int A,.int f,.int H])]) (S C):=by
  have V:=GA C (k:=0) (ρ:=[some (.ref 1),some (yc n a b ts),some (.int B.w),some (.int B.t),some (.je ns),some (.int d),some (.ref 16),some (.int (Bl ns 5 % 70)),i,l,e,none]) (by simp);unfold w5;have ld:Hf [yc n a b ts,.int B.w,.int d,.int B.t,.ref 16,.int C.d] (S C)=.ok (.tup [.int A,.int f,.int H]) (S C):=ld;generalize S C=Y at *;generalize yc n a b ts=X at *;simp only[Tu,CG,kt,gn,gj,nc,Zs,V,bo,ot];simp[ld]
 have s6:w6 [some (.ref 1),some (yc n a b ts),some (.int B.w),some (.int B.t),some (.je ns),some (.int d),some (.ref 16),some (.int (Bl ns 5 % 70)),i,l,e,some (.tup [.int A,.int f,.int H])] (S C)=.ok (.rt (.bl true)) (S C):=by
  have g:=yE C (k:=0) (ρ:=[some (.ref 1),some (yc n a b ts),some (.int B.w),some (.int B.t),some (.je ns),some (.int d),some (.ref 16),some (.int (Bl ns 5 % 70)),i,l,e,some (.tup [.int A,.int f,.int H])]) (by simp) g;have sl:Iz (.tup [.int A,.int f,.int H]) none (some 2) (S C)=.ok (.tup [.int A,.int f]) (S C):=by rw[hL];rfl
  simp only[Ee,show ((1:Int)=0)=False by simp,Ch]at G L;have q1:Qa oEq (Od [(9,Sa)] 2 "due_of" (Od [(16,Pa)] 1 "book" (ga 0) Na) (za (eC (.int 0)) Na)) (ga 11) [some (.ref 1),some (yc n a b ts),some (.int B.w),some (.int B.t),some (.je ns),some (.int d),some (.ref 16),some (.int (Bl ns 5 % 70)),i,l,e,some (.tup [.int A,.int f,.int H])] (S C)=.ok (.bl true) (S C):=by
   rw[Av,g];generalize S C=Y at *;generalize D.tup [.int A,.int f,.int H]=Q at *;simp[W]
  unfold w6;rw[Kx,OR,q1];generalize S C=Y at *;generalize yc n a b ts=X at *;generalize D.tup [.int A,.int f,.int H]=Q at *;simp[mc,G,L,sl,Z]
 unfold qg SS;rw[Ul,wt];show uk (Kb _ _ [some (.ref 1),some (yc n a b ts),some (.int B.w),some (.int B.t),some (.je ns),none,none,none,none,none,none,none] (S B))=_;rw[cg,s1,nc,ig,cg,s2,nc,ig,cg,s3,nc,ig,cg,s4,nc,ig,cg,s5,nc,ig,s6,vy]
end
theorem uC(σ:db):Fu (.int 10) (.int 12) σ=.ok (.int 1000000000000) σ:=LA (by simp[kx])
theorem p6(σ:db):Fu (.int 10) (.int 6) σ=.ok (.int 1000000) σ:=LA (by simp[kx])
theorem t0(ts:List Ti)(t:Ti):Im (ts++[t])=Im ts+t.a:=by simp[Im]
structure SI(x coin:Int)(i:Nat)(vf:Int)(ts:List Ti):Prop where
 r:0<=vf
 e:vf+Im ts=coin
 t:∀ t∈ts,t.Ok
 l:ts.length<=i
 w:∀ t∈ts,∃ j:Nat,j<i/\t.w=(x+7 * j) % 10
 d:(ts.map Ti.w).Nodup
theorem GU(ns:List Int)(c coin:Int)(i:Nat)(B:i<2){vf:Int}{ts:List Ti}(I:SI (c / 12) coin i vf ts)(v x7 o:Option D)(σ:db):∃ f k J K,SI (c / 12) coin (i+1) f k/\
  FD [some (.int coin),some (.je ns),some (.int c),some (.tup (ts.map Ti.D)),some (.int vf),some (.int i),v,x7,o] σ=.ok (.nx [some (.int coin),some (.je ns),some (.int c),some (.tup (k.map Ti.D)),some (.int f),some (.int i),J,K,o]) σ:=by
 have O:=I.r;by_cases h:vf > 0
 ·have hb:decide (vf > 0)=true:=by simpa using h
  have x:=λσ=>oz ns 4 (by omega) σ;have hm:0<min vf 1000000000000:=by omega
  generalize E:Bl ns (4:Int).toNat / (3+(i:Int))=z at *;have M:=ez z (show min vf 1000000000000≠0 by omega);have N:=kw z hm;have u:=LF (σ:=σ) (Bl ns (4:Int).toNat) (3+(i:Int)) (by omega) (by omega);rw[E]at u;have F:=yS (σ:=σ) z (min vf 1000000000000) hm;generalize z % min vf 1000000000000=m at *;have u3:=XN (σ:=σ) (NR (i:=3) (j:=(i:Int)) (by decide) (by decide));have u7:=XN (σ:=σ) (NR (i:=7) (j:=(i:Int)) (by decide) (by decide));have G:=LF (σ:=σ) c (3+3 * (i:Int)) (by omega) (by omega);have H:=LF (σ:=σ) c (24+(i:Int)) (by omega) (by omega);have s:=I.l;have n:=KI (σ:=σ) (xs:=ts.map Ti.D) (ys:=[Ti.D ⟨c / (3+3 * (i:Int)) % 2,1+m,(c / 12+7 * (i:Int)) % 10,c / (24+(i:Int)) % 60⟩]) (by simp;exact yb (Nat.add_le_add_right (yb s (pd B)) 1) (by decide));have C:∀ t∈ts,t.w≠(c / 12+7 * (i:Int)) % 10:=λt g=>by
   obtain⟨j,q,e⟩:=I.w t g;rw[e];obtain rfl:i=1:=by omega
   obtain rfl:j=0:=by omega
   simp only[Int.natCast_zero,Int.natCast_one];omega
  refine⟨vf - (1+m),ts++[⟨c / (3+3 * (i:Int)) % 2,1+m,(c / 12+7 * (i:Int)) % 10,c / (24+(i:Int)) % 60⟩],some (.int (1+m)),some (Ti.D ⟨c / (3+3 * (i:Int)) % 2,1+m,(c / 12+7 * (i:Int)) % 10,c / (24+(i:Int)) % 60⟩),⟨by omega,?_,?_,by simp;exact s,?_,?_⟩,?_⟩
  ·rw[t0];have:=I.e;dsimp only;omega
  ·intro t g;rcases Ud.mp g with y|y
   ·exact I.t t y
   ·rw[Jd.mp y];exact⟨by dsimp only;omega,by dsimp only;omega,by dsimp only;omega,by dsimp only;omega⟩
  ·intro t g;rcases Ud.mp g with y|y
   ·obtain⟨j,q,e⟩:=I.w t y;exact⟨j,by omega,e⟩
   ·rw[Jd.mp y];exact⟨i,by omega,rfl⟩
  ·rw[Bg];exact ui.mpr ⟨I.d,by simp,λa A b hb=>by
    obtain⟨t,g,rfl⟩:=Db.mp A;have:b=(c / 12+7 * (i:Int)) % 10:=by simpa using hb
    rw[this];exact C t g⟩
  ·rw[Bg];show _=Out.ok (Fl.nx [some (.int coin),some (.je ns),some (.int c),some (.tup (ts.map Ti.D++[Ti.D ⟨c / (3+3 * (i:Int)) % 2,1+m,(c / 12+7 * (i:Int)) % 10,c / (24+(i:Int)) % 60⟩])),some (.int (vf - (1+m))),some (.int i),_,_,o]) σ;unfold FD;unfold Ti.D at n ⊢;dsimp only at n ⊢;generalize Bl ns (4:Int).toNat=L at *;generalize ts.map (λt:Ti=>D.tup [.int t.p,.int t.a,.int t.w,.int t.y])=TT at *;simp[hb,x,uC,u,F,u3,u7,G,H,n]
 ·have hb:decide (vf > 0)=false:=by simpa using h
  refine⟨vf,ts,v,x7,⟨I.r,I.e,I.t,Nat.le_succ_of_le I.l,λt g=>?_,I.d⟩,?_⟩
  ·obtain⟨j,q,e⟩:=I.w t g;exact⟨j,by omega,e⟩
  ·unfold FD;generalize ts.map Ti.D=TT at *;simp[hb]
theorem E6(ns:List Int)(c coin:Int)(f:Option D)(σ:db):∀ (m i:Nat) (vf:Int) (ts:List Ti) (e d x7:Option D),i+m<=2->SI (c / 12) coin i vf ts->∃ a b u g h,SI (c / 12) coin (i+m) a b/\
  Pm (Zd 5) FD ((List.range' i m).map λ(j:Nat)=>D.int j) [some (.int coin),some (.je ns),some (.int c),some (.tup (ts.map Ti.D)),some (.int vf),e,d,x7,f] σ=.ok (.nx [some (.int coin),some (.je ns),some (.int c),some (.tup (b.map Ti.D)),some (.int a),u,g,h,f]) σ:=by
 intro m;induction m with
 |zero=>intro i vf ts e d x7 _ I;exact⟨vf,ts,e,d,x7,I,by rw[Vi,ce,zy]⟩
 |succ m p=>
  intro i vf ts e d x7 y I;obtain⟨q,s,g,h,k,n⟩:=GU ns c coin i (by omega) I d x7 f σ;obtain⟨r,t,v,w,x,l,o⟩:=p (i+1) q s (some (.int i)) g h (by omega) k;refine⟨r,t,v,w,x,by rw[show i+(m+1)=i+1+m by omega];exact l,?_⟩;rw[mh,Da,Ks,<-o];simp only[gb,ib];rw[n,nc,Rl]
theorem zW(ns:List Int){coin:Int}(o:0<=coin)(y:coin<=2000000000000)(σ:db):∃ n a b ts,Sq n a b ts/\a+b+Im ts=coin/\Qf [.int coin,.je ns] σ=.ok (yc n a b ts) σ:=by
 have m:=λσ=>oz ns 3 (by omega) σ;generalize Bl ns (3:Int).toNat=c at *;have hm:0<=c % 3/\c % 3<3:=by omega
 obtain⟨vf,ts,E,F,G,I,k⟩:=E6 ns c coin none σ (c % 3).toNat 0 coin [] none none none (by omega) ⟨o,by simp[Im],by simp,by simp,by simp,by simp⟩;have z:=I.r;have w:=ez (c / 48) (show vf+1≠0 by omega);have x:=kw (c / 48) (show 0<vf+1 by omega);have u:=yS (σ:=σ) (c / 48) (vf+1) (by omega);have B:=I.l;have s:∀ ts:List Ti,(∀ t∈ts,t.Ok)->0<=Im ts:=λts=>by
  induction ts with
  |nil=>intro _;simp[Im]
  |cons t ts q=>
   intro h;have a:=q λt p=>h t (ya _ p);have b:=(h t Aa).a;simp only[Im,Da,BA]at a ⊢;omega
 have C:=s ts I.t;have A:=I.e;generalize i:c / 48 % (vf+1)=f at *;refine⟨c / 5 % 1000001,f,vf - f,ts,⟨by omega,by omega,by omega,I.t,by omega,I.d⟩,by omega,?_⟩;have g:cl (.tup [.int (c / 5 % 1000001),.tup [.int f,.int (vf - f)],.tup (ts.map Ti.D)])=true:=kz ..;rw[<-DG]at k;have v:=IE (σ:=σ) (j:=c % 3) (by omega) (by omega);simp only[ce]at k;unfold Qf oM yc;generalize ts.map Ti.D=TT at *;simp[m,v,k,u,i,p6,g]
theorem N9(a b c d e f:Option D)(cl:Cl):∀ (m i k:Nat) (B:Bx) (x7:Option D),DI cl k B->k+m<=80->∃ C g,DI cl (k+m) C/\C.u=B.u/\C.v=B.v/\C.t=B.t/\C.s=B.s/\C.J=B.J/\
  Pm (Zd 7) rG ((List.range' i m).map λ(j:Nat)=>D.int j) [a,b,c,d,e,f,some (.ref 1),x7,none,none,none,none,none] (S B)=.ok (.nx [a,b,c,d,e,f,some (.ref 1),g,none,none,none,none,none]) (S C):=by
 intro m;induction m with
 |zero=>intro i k B x7 I _;exact⟨B,x7,I,rfl,rfl,rfl,rfl,rfl,by rw[Vi,ce,zy]⟩
 |succ m A=>
  intro i k B x7 I L;obtain⟨C,n,q,cv,ct,_,p,o,G⟩:=I.next (by omega);obtain⟨h,g,l,r,w,x,y,z,E⟩:=A (i+1) (k+1) C (some (.int i)) n (by omega);refine⟨h,g,by rw[show k+(m+1)=k+1+m by omega];exact l,by rw[r,q],by rw[w,cv],by rw[x,ct],by rw[y,p],by rw[z,o],?_⟩;have H:rG [a,b,c,d,e,f,some (.ref 1),some (.int i),none,none,none,none,none] (S B)=.ok (.nx [a,b,c,d,e,f,some (.ref 1),some (.int i),none,none,none,none,none]) (S C):=by
   have F:=λfs=>Os B (m:="next_day") 1 Vb fs rfl;unfold rG;generalize S C=K at *;generalize S B=Y at *;simp[F,G]
  rw[mh,Da,Ks];simp only[gb,ib];rw[H,nc,Rl,E]
theorem A0(b c e f:Option D):∃ o,Pm (Zd 5) RC (Gv 10) [b,c,e,f,some (.ref 0),none,none,none,none,none,none,none,none] [.Ya []]=.ok (.nx [b,c,e,f,some (.ref 0),o,none,none,none,none,none,none,none]) [.Ya wW]:=⟨_,by
 have h:∀ (w:Nat) (l:List (Int × Int)) (a:Option D),l.length<100->RC [b,c,e,f,some (.ref 0),some (.int w),none,none,none,none,none,none,none] [.Ya (Cf l)]=.ok (.nx [b,c,e,f,some (.ref 0),some (.int w),none,none,none,none,none,none,none]) [.Ya (Cf (qt l w ((w:Int) % 2)))]:=λw l a g=>by
  have s:=λρ=>oJ (ρ:=ρ) (σ:=[.Ya (Cf l)]) (n:=0) (d:=.int ((w:Int) % 2)) (w:=w) (kvs:=Cf l) rfl (by rw[gC];omega);rw[uK]at s;have s:∀ ρ,ft ρ (.int ((w:Int) % 2)) (.ref 0) (.int w) [.Ya (Cf l)]=.ok (.nx ρ) [.Ya (Cf (qt l w ((w:Int) % 2)))]:=s;unfold RC;generalize ([Ob.Ya (Cf (qt l w ((w:Int) % 2)))]:db)=p at *;generalize ([Ob.Ya (Cf l)]:db)=Y at *;simp[s]
 have go:∀ (m i:Nat) (l:List (Int × Int)) (a:Option D),l.length+m<100->Pm (Zd 5) RC ((List.range' i (m+1)).map λ(j:Nat)=>D.int j) [b,c,e,f,some (.ref 0),a,none,none,none,none,none,none,none] [.Ya (Cf l)]=.ok (.nx [b,c,e,f,some (.ref 0),some (.int ((i+m:Nat):Int)),none,none,none,none,none,none,none]) [.Ya (Cf ((List.range' i (m+1)).foldl (λl (w:Nat)=>qt l w ((w:Int) % 2)) l))]:=by
  intro m;induction m with
  |zero=>
   intro i l a g;rw[mh,Da,Ks];simp only[gb,ib];rw[h i l a (by omega),nc,Rl,Vi,ce,zy];rfl
  |succ m k=>
   intro i l a g;have pl:=zvu l i ((i:Int) % 2);rw[mh,Da,Ks];simp only[gb,ib];rw[h i l a (by omega),nc,Rl,k (i+1) _ _ (by omega),Fe,show i+1+m=i+(m+1) by omega]
 rw[DG];exact go 9 0 [] none (by decide)⟩
theorem iv(ns:List Int)(d0:ns.length<=63):∃ σ,Gn [.je ns] []=.ok (.bl true) σ:=by
 have c0:=λσ=>oz ns 0 (by omega) σ;have c1:=λσ=>oz ns 1 (by omega) σ;have c2:=λσ=>oz ns 2 (by omega) σ;generalize Bl ns (0:Int).toNat=c at *;obtain⟨u,hu⟩:∃ u,u=Bl ns (1:Int).toNat % 1000000000001:=⟨_,rfl⟩
 obtain⟨v,hv⟩:∃ v,v=Bl ns (2:Int).toNat % 1000000000001:=⟨_,rfl⟩
 obtain⟨t,ht⟩:∃ t,t=2+c % 29:=⟨_,rfl⟩
 have P:Gx u v t:=⟨by omega,by omega,by omega⟩
 have s1:u1 [some (.je ns),none,none,none,none,none,none,none,none,none,none,none,none] []=.ok (.nx [some (.je ns),some (.int c),none,none,none,none,none,none,none,none,none,none,none]) []:=by
  unfold u1;simp[c0]
 have s2:u2 [some (.je ns),some (.int c),none,none,none,none,none,none,none,none,none,none,none] []=.ok (.nx [some (.je ns),some (.int c),some (.int t),none,none,none,none,none,none,none,none,none,none]) []:=by
  unfold u2;simp[ht]
 have s3:u3 [some (.je ns),some (.int c),some (.int t),none,none,none,none,none,none,none,none,none,none] []=.ok (.nx [some (.je ns),some (.int c),some (.int t),some (.tup [.int u,.int v]),none,none,none,none,none,none,none,none,none]) []:=by
  unfold u3;simp[c1,c2,uC,hu,hv]
 have s4:u4 [some (.je ns),some (.int c),some (.int t),some (.tup [.int u,.int v]),none,none,none,none,none,none,none,none,none] []=.ok (.nx [some (.je ns),some (.int c),some (.int t),some (.tup [.int u,.int v]),some (.ref 0),none,none,none,none,none,none,none,none]) [.Ya []]:=by
  unfold u4;simp
 obtain⟨l,lw⟩:=A0 (some (.je ns)) (some (.int c)) (some (.int t)) (some (.tup [.int u,.int v]));have s5:u5 [some (.je ns),some (.int c),some (.int t),some (.tup [.int u,.int v]),some (.ref 0),none,none,none,none,none,none,none,none] [.Ya []]=.ok (.nx [some (.je ns),some (.int c),some (.int t),some (.tup [.int u,.int v]),some (.ref 0),l,none,none,none,none,none,none,none]) [.Ya wW]:=by
  have rk:=IE (σ:=[.Ya []]) (j:=10) (by omega) (by omega);unfold u5;rw[Ky];simp only[eS,Hy,nc,rk,Lh,oA];exact lw
 have s6:u6 [some (.je ns),some (.int c),some (.int t),some (.tup [.int u,.int v]),some (.ref 0),l,none,none,none,none,none,none,none] [.Ya wW]=.ok (.nx [some (.je ns),some (.int c),some (.int t),some (.tup [.int u,.int v]),some (.ref 0),l,some (.ref 1),none,none,none,none,none,none]) (S (B0 u v t)):=by
  have mk:=yck P;unfold PL pD qD at mk;have a1:∀ σ,ki (.tup [.int 0,.int 1]) (.tup [.int u,.int v]) σ=.ok (.tup [.int 0,.int 1,.int u,.int v]) σ:=λσ=>KI (show (4:Nat)<=li by decide);have a2:∀ σ,ki (.tup [.int 0,.int 1,.int u,.int v]) (.tup [.int t]) σ=.ok (.tup [.int 0,.int 1,.int u,.int v,.int t]) σ:=λσ=>KI (show (5:Nat)<=li by decide);unfold u6;generalize S (B0 u v t)=Z at *;generalize ([Ob.Ya wW]:db)=Y at *;simp[a1,a2,mk]
 have I0:DI .held 0 (B0 u v t):=⟨rfl,rfl,rfl,rfl,.inl rfl,by show ([]:Kv).length<=_;simp,⟨Oj,λz hz=>nomatch hz⟩⟩
 obtain⟨e,F,I,b1,b2,b3,b4,b5,l7⟩:=N9 (some (.je ns)) (some (.int c)) (some (.int t)) (some (.tup [.int u,.int v])) (some (.ref 0)) l .held (c / 29 % 5).toNat 0 0 (B0 u v t) none I0 (by omega);have s7:u7 [some (.je ns),some (.int c),some (.int t),some (.tup [.int u,.int v]),some (.ref 0),l,some (.ref 1),none,none,none,none,none,none] (S (B0 u v t))=.ok (.nx [some (.je ns),some (.int c),some (.int t),some (.tup [.int u,.int v]),some (.ref 0),l,some (.ref 1),F,none,none,none,none,none]) (S e):=by
  have rk:=IE (σ:=S (B0 u v t)) (j:=c / 29 % 5) (by omega) (by omega);rw[<-DG]at l7;have q:tz (Qa zo (Qa rs (ga 1) (eC (.int 29))) (eC (.int 5))) [some (.je ns),some (.int c),some (.int t),some (.tup [.int u,.int v]),some (.ref 0),l,some (.ref 1),none,none,none,none,none,none] (S (B0 u v t))=.ok (.seq (Gv (c / 29 % 5).toNat)) (S (B0 u v t)):=by
   generalize S (B0 u v t)=Y at *;simp[rk]
  unfold u7;rw[Ky,q,Lh,oA,l7]
 have a6:e.u=u:=b1;have a7:e.v=v:=b2;have a3:e.t=t:=b3;have a8:e.w=u+v:=by unfold Bx.w;rw[a6,a7]
 obtain⟨i,b0⟩:∃ s,s=c / 145 % 2:=⟨_,rfl⟩
 have N:i=0\/i=1:=by omega
 have pu:=P.u;have pv:=P.v;obtain⟨n,a,b,k,so,sw,ls⟩:=zW ns (coin:=u+v) (by omega) (by omega) (S e);have hw:a+b+Im k=e.w:=by rw[a8];exact sw
 have hp:∀ t∈k,t.p=0\/t.p=1:=λt ht=>(so.t t ht).p;have s8:u8 [some (.je ns),some (.int c),some (.int t),some (.tup [.int u,.int v]),some (.ref 0),l,some (.ref 1),F,none,none,none,none,none] (S e)=.ok (.nx [some (.je ns),some (.int c),some (.int t),some (.tup [.int u,.int v]),some (.ref 0),l,some (.ref 1),F,some (.int i),none,none,none,none]) (S e):=by
  unfold u8;generalize S e=Y at *;simp[b0]
 have s9:u9 [some (.je ns),some (.int c),some (.int t),some (.tup [.int u,.int v]),some (.ref 0),l,some (.ref 1),F,some (.int i),none,none,none,none] (S e)=.ok (.nx [some (.je ns),some (.int c),some (.int t),some (.tup [.int u,.int v]),some (.ref 0),l,some (.ref 1),F,some (.int i),some (.int (u+v)),none,none,none]) (S e):=by
  unfold u9;generalize S e=Y at *;simp
 have b8:UJ [some (.je ns),some (.int c),some (.int t),some (.tup [.int u,.int v]),some (.ref 0),l,some (.ref 1),F,some (.int i),some (.int (u+v)),none,none,none] (S e)=.ok (.nx [some (.je ns),some (.int c),some (.int t),some (.tup [.int u,.int v]),some (.ref 0),l,some (.ref 1),F,some (.int i),some (.int (u+v)),some (yc n a b k),none,none]) (S e):=by
  unfold UJ;generalize S e=Y at *;generalize yc n a b k=X at *;simp[ls]
 have b9:RH [some (.je ns),some (.int c),some (.int t),some (.tup [.int u,.int v]),some (.ref 0),l,some (.ref 1),F,some (.int i),some (.int (u+v)),some (yc n a b k),none,none] (S e)=.ok (.nx [some (.je ns),some (.int c),some (.int t),some (.tup [.int u,.int v]),some (.ref 0),l,some (.ref 1),F,some (.int i),some (.int (u+v)),some (yc n a b k),some (.int e.d),none]) (S e):=by
  unfold RH;rw[Tu,GA e (by simp)];simp
 obtain⟨G,y⟩:∃ G:Ev,G=[some (.je ns),some (.int c),some (.int t),some (.tup [.int u,.int v]),some (.ref 0),l,some (.ref 1),F,some (.int i),some (.int (u+v)),some (yc n a b k),some (.int e.d),none]:=⟨_,rfl⟩
 have P1:Gx e.u e.v e.t:=by rw[a6,a7,a3];exact P
 have la:=IX e I.ko I.T P1 I.c N so hw;obtain⟨B2,o⟩:∃ B2:Bx,B2={ e with c:=.laid i n a b k e.d }:=⟨_,rfl⟩
 rw[<-o]at la;have W:DI (.laid i n a b k e.d) (0+(c / 29 % 5).toNat) B2:=by subst o;exact⟨rfl,I.ko,I.ao,I.T,I.h,I.K,I.s⟩
 have e6:∀ Y,ga 6 G Y=.ok (.ref 1) Y:=λY=>by rw[y];simp
 have c3:dL G (S e)=.ok (.nx G) (S B2):=by
  have ml:=λfs=>Os e (m:="lay") 4 kf fs rfl;have O:=rM B2 (e6 (S B2));rw[W.c]at O;have O:Od [(9,rb)] 2 "told" (Od [(16,Pa)] 1 "book" (ga 6) Na) (za (eC (.int 0)) Na) G (S B2)=.ok (.tup [.str "laid",.int i,yc n a b k,.int e.d]) (S B2):=O;have ne:=EK (σ:=S B2) (x:=.tup [.str "laid",.int i,yc n a b k,.int e.d]) (by simp[pl,yc,Ti.D]);have m4:∀ (fn:List D->M D) (x a b c:D) (σ:db),Kj 4 fn x [a,b,c] σ=fn [x,a,b,c] σ:=λ_ _ _ _ _ _=>Ey rfl;have q1:eT (Qa wx (Od [(16,kf)] 4 "lay" (ga 6) (za (eC (.int 0)) (za (ga 8) (za (ga 10) Na)))) (eC .Jb)) G (S e)=.ok false (S B2):=by
   rw[y];generalize S B2=Z at *;generalize S e=Y at *;generalize yc n a b k=X at *;simp[ml,la,m4]
  have q2:eT (Qa iq (Od [(9,rb)] 2 "told" (Od [(16,Pa)] 1 "book" (ga 6) Na) (za (eC (.int 0)) Na)) (Li (za (eC (.str "laid")) (za (ga 8) (za (ga 10) (za (ga 11) Na)))))) G (S B2)=.ok false (S B2):=by
   rw[jx,Av,O,y];generalize S B2=Z at *;generalize yc n a b k=X at *;simp[ne]
  unfold dL;rw[Qy,lM,q1];simp[q2,-jx]
 have hn:0<=n/\n<=1000000:=so.n;have U:B2.w=u+v:=by subst o;exact a8
 have a4:B2.t=t:=by subst o;exact a3
 have rf:=BE (B:=B2) (z:=i) (by rw[AH B2 W.ko W.T W.c N N hn,ja (by omega)]);obtain⟨C,k',J,cu,cv,ct,dy⟩:=zy0 ns hp W (by omega) (by rw[U];exact sw) (by subst o;rfl) (by subst o;exact b4) (by subst o;exact b5);have a9:C.w=u+v:=by rw[<-U];unfold Bx.w;rw[cu,cv]
 have a5:C.t=t:=by rw[ct,a4]
 rw[U,a4]at dy;have c4:SH G (S B2)=.ok (.nx G) (S C):=by
  unfold SH;rw[y];generalize S C=Z at *;generalize S B2=Y at *;generalize yc n a b k=X at *;simp[rf,dy]
 have R:=hJ J.c (by rw[a9];exact sw);obtain⟨DU,a0⟩:∃ x,x=D.tup ((zv C.s C.d C.w e.d C.t a b k).map D.int):=⟨_,rfl⟩
 have b6:pl 8 DU=true:=by
  obtain⟨A,B',H,e3⟩:=eK C.s C.d C.w e.d C.t a b k;rw[a0,e3];simp[pl]
 rw[<-a0]at R;obtain⟨f,g⟩:∃ f:Ev,f=[some (.je ns),some (.int c),some (.int t),some (.tup [.int u,.int v]),some (.ref 0),l,some (.ref 1),F,some (.int i),some (.int (u+v)),some (yc n a b k),some (.int e.d),some DU]:=⟨_,rfl⟩
 have L:∀ Y,ga 6 f Y=.ok (.ref 1) Y:=λY=>by rw[g];simp
 have c5:TH G (S C)=.ok (.nx f) (S C):=by
  unfold TH;rw[Tu,yE C (e6 _) R,y,g];simp
 have Q:∀ r,(Kb VC (Kb yF (Kb IF bH))) f (S C)=r->Gn [.je ns] []=uk r:=λr hr=>by
  unfold Gn IM;rw[wt];show uk (Kb _ _ [some (.je ns),none,none,none,none,none,none,none,none,none,none,none,none] [])=_;rw[cg,s1,nc,ig,cg,s2,nc,ig,cg,s3,nc,ig,cg,s4,nc,ig,cg,s5,nc,ig,cg,s6,nc,ig,cg,s7,nc,ig,cg,s8,nc,ig,cg,s9,nc,ig,cg,b8,nc,ig,cg,b9,nc,ig,<-y,cg,c3,nc,ig,cg,c4,nc,ig,cg,c5,nc,ig,hr]
 by_cases hd:C.d ≥ e.d+t
 ·have hb:decide (C.d ≥ e.d+t)=true:=by simpa using hd
  have b7:=BE (B:=C) (z:=1 - i) (by rw[AH C J.ko J.T J.c N (by omega) hn,ja (by rw[a5];omega)]);have ed:=yE C (L _) R;have dd:=GA C (L _);have eq:=QC (σ:=S C) b6;have q1:Qa oEq (Od [(9,Sa)] 2 "due_of" (Od [(16,Pa)] 1 "book" (ga 6) Na) (za (eC (.int 0)) Na)) (ga 12) f (S C)=.ok (.bl true) (S C):=by
   rw[Av,ed,g];generalize S C=Y at *;simp[eq]
  have q2:eT (Qa Gy (Od [(9,Ab)] 1 "today" (Od [(16,Pa)] 1 "book" (ga 6) Na) Na) (Qa ki (ga 11) (ga 2))) f (S C)=.ok true (S C):=by
   rw[jx,Av,dd,g];generalize S C=Y at *;simp[hb]
  have q3:ae 2 Ac [] (za (ga 6) (za (Qa Bq (eC (.int 1)) (ga 8)) Na)) f (S C)=.ok (.bl true) (S C):=by
   rw[g];generalize S C=Y at *;simp[b7]
  refine⟨S C,Q (.ok (.rt (.bl true)) (S C)) ?_⟩;unfold VC;rw[cg,Qy,q2,Lh,yqn,Kx,OR,q3];simp[q1,-Av]
 ·have hb:decide (C.d ≥ e.d+t)=false:=by simpa using hd
  have dd:=GA C (L _);have q2:eT (Qa Gy (Od [(9,Ab)] 1 "today" (Od [(16,Pa)] 1 "book" (ga 6) Na) Na) (Qa ki (ga 11) (ga 2))) f (S C)=.ok false (S C):=by
   rw[jx,Av,dd,g];generalize S C=Y at *;simp[hb]
  have st:=AH C J.ko J.T J.c N (z:=1 - i) (by omega) hn;rw[ia ⟨rfl,by rw[a5];omega⟩]at st;obtain⟨E,hE⟩:∃ E:Bx,E={ C with c:=.taken (1 - i) }:=⟨_,rfl⟩
  rw[<-hE]at st;have Ec:E.c=.taken (1 - i):=by subst hE;rfl
  have V:E.ko=.Ya kV:=by subst hE;exact J.ko
  have ET:E.T=tN 10:=by subst hE;exact J.T
  have Ew:E.w=u+v:=by subst hE;exact a9
  have c6:VC f (S C)=.ok (.nx f) (S C):=by
   unfold VC;rw[Qy,q2,Lh,QG,RQ]
  have c7:yF f (S C)=.ok (.nx f) (S E):=by
   have ms:=λfs=>Os C (m:="strike") 3 Pb fs rfl;have O:=rM E (L (S E));rw[Ec]at O;have O:Od [(9,rb)] 2 "told" (Od [(16,Pa)] 1 "book" (ga 6) Na) (za (eC (.int 0)) Na) f (S E)=.ok (.tup [.str "taken",.int (1 - i)]) (S E):=O;have ne:=EK (σ:=S E) (x:=.tup [.str "taken",.int (1 - i)]) (by simp[pl]);have q3:eT (Qa wx (Od [(16,Pb)] 3 "strike" (ga 6) (za (eC (.int 0)) (za (Qa Bq (eC (.int 1)) (ga 8)) Na))) (eC .Jb)) f (S C)=.ok false (S E):=by
    rw[g];generalize S E=Z at *;generalize S C=Y at *;generalize yc n a b k=X at *;simp[ms,st]
   have q4:eT (Qa iq (Od [(9,rb)] 2 "told" (Od [(16,Pa)] 1 "book" (ga 6) Na) (za (eC (.int 0)) Na)) (Li (za (eC (.str "taken")) (za (Qa Bq (eC (.int 1)) (ga 8)) Na)))) f (S E)=.ok false (S E):=by
    rw[jx,Av,O,g];generalize S E=Z at *;generalize yc n a b k=X at *;simp[ne]
   unfold yF;rw[Qy,lM,q3];simp[q4,-jx]
  have r1:=BE (B:=E) (z:=1 - i) (mP E V ET Ec (by omega));have r2:=BE (B:=E) (z:=i) (mP E V ET Ec N);have c8:IF f (S E)=.ok (.nx f) (S E):=by
   unfold IF;rw[g];generalize S E=Y at *;generalize yc n a b k=X at *;simp[r1,r2]
  have du:=YY (B:=E) Ec;have k1:=aG E du (h:=1 - i) (by omega);have k2:=aG E du (h:=i) N;have mc:=λfs=>Os E (m:="coin") 2 jd fs rfl;have x1:(if 1 - i=0 then Tt (1 - i) 0 E.w else Wt (1 - i) 0 E.w)=u+v:=by
   rw[Ew];unfold Tt Wt;rcases N with rfl|rfl<;>simp
  have x2:(if i=0 then Tt (1 - i) 0 E.w else Wt (1 - i) 0 E.w)=0:=by
   rw[Ew];unfold Tt Wt;rcases N with rfl|rfl<;>simp
  rw[x1]at k1;rw[x2]at k2;have c9:bH f (S E)=.ok (.rt (.bl true)) (S E):=by
   unfold bH;rw[g];generalize S E=Y at *;generalize yc n a b k=X at *;simp[mc,k1,k2]
  refine⟨S E,Q (.ok (.rt (.bl true)) (S E)) ?_⟩;rw[cg,c6,nc,ig,cg,c7,nc,ig,cg,c8,nc,ig,c9]
end K57
open PySem PySem.W PyProof.Rows
set_option maxRecDepth 100000 in
set_option maxHeartbeats 0 in
theorem PySem.Challenge.cw_sidebook_k57_the_band_by_itself_holds : PySem.Challenge.rw_sidebook_k57_the_band_by_itself.Holds := by
 w_on;refine hd ?_
 k_fill
 refine L4.UV (l:=PySem.Challenge.rw_sidebook_k57_the_band_by_itself) (k:=14) (x:="_law_script") (fn:=K57.Gn) rfl rfl ⟨rfl,by decide,by decide⟩ (λw h Y=>km_in_of Y) ?F K57.iv;case F=>
  intro w mg h KX G
  refine' (have q0:nsIn (L2.Zf KX) mainGlobals "NoDeed" = some (some (.ref ?C2)):=?p0;have q3:nsIn (L2.Zf KX) mainGlobals "Claim" = some (some (.ref ?C5)):=?p3;have q4:nsIn (L2.Zf KX) mainGlobals "Held" = some (some (.ref ?C6)):=?p4;have q5:nsIn (L2.Zf KX) mainGlobals "Laid" = some (some (.ref ?C7)):=?p5;have q6:nsIn (L2.Zf KX) mainGlobals "Taken" = some (some (.ref ?C8)):=?p6;have q7:nsIn (L2.Zf KX) mainGlobals "Book" = some (some (.ref ?C9)):=?p7;have q8:nsIn (L2.Zf KX) mainGlobals "Account" = some (some (.ref ?C10)):=?p8;have q9:nsIn (L2.Zf KX) mainGlobals "Calm" = some (some (.ref ?C11)):=?p9;have q10:nsIn (L2.Zf KX) mainGlobals "Offered" = some (some (.ref ?C12)):=?p10;have q11:nsIn (L2.Zf KX) mainGlobals "Waiting" = some (some (.ref ?C13)):=?p11;?_);(case p0|p3|p4|p5|p6|p7|p8|p9|p10|p11=>dsimp only[L2.Zf];first|k_is|k_exc|rfl)
  refine' (have q12:nsIn (L2.Zf KX) mainGlobals "View" = some (some (.ref ?C14)):=?uC;have q13:nsIn (L2.Zf KX) mainGlobals "Keeper" = some (some (.ref ?C15)):=?p13;have q14:nsIn (L2.Zf KX) mainGlobals "Hall" = some (some (.ref ?C16)):=?p14;have q15:findIn (L2.Zf KX) (.ref ?C5) "__init__" = some (some (.ref ?C17)):=?p15;have q17:findIn (L2.Zf KX) (.ref ?C9) "__init__" = some (some (.ref ?C30)):=?p17;have q19:findIn (L2.Zf KX) (.ref ?C9) "made_of" = some (some (.ref ?C44)):=?p19;have q21:findIn (L2.Zf KX) (.ref ?C15) "learn" = some (some (.ref ?C57)):=?p21;have q23:findIn (L2.Zf KX) (.ref ?C15) "hold" = some (some (.ref ?C56)):=?p23;have q25:findIn (L2.Zf KX) (.ref ?C10) "__init__" = some (some (.ref ?C45)):=?p25;have q27:findIn (L2.Zf KX) (.ref ?C15) "__init__" = some (some (.ref ?C55)):=?p27;?_);(case uC|p13|p14|p15|p17|p19|p21|p23|p25|p27=>dsimp only[L2.Zf];first|k_is|k_exc|rfl)
  refine' (have q29:findIn (L2.Zf KX) (.ref ?C16) "__init__" = some (some (.ref ?C79)):=?p29;have q31:findIn (L2.Zf KX) (.ref ?C9) "today" = some (some (.ref ?C32)):=?p31;have q33:findIn (L2.Zf KX) (.ref ?C15) "looked" = some (some (.ref ?C59)):=?p33;have q35:findIn (L2.Zf KX) (.ref ?C9) "check_pot" = some (some (.ref ?C31)):=?p35;have q37:findIn (L2.Zf KX) (.ref ?C6) "told" = some (some (.ref ?C18)):=?p37;have q39:findIn (L2.Zf KX) (.ref ?C7) "told" = some (some (.ref ?C22)):=?p39;have q41:findIn (L2.Zf KX) (.ref ?C8) "told" = some (some (.ref ?C27)):=?p41;have q43:findIn (L2.Zf KX) (.ref ?C9) "told" = some (some (.ref ?C38)):=?p43;have q45:findIn (L2.Zf KX) (.ref ?C9) "shown_for" = some (some (.ref ?C39)):=?p45;have q47:findIn (L2.Zf KX) (.ref ?C9) "all_shown" = some (some (.ref ?C43)):=?p47;?_);(case p29|p31|p33|p35|p37|p39|p41|p43|p45|p47=>dsimp only[L2.Zf];first|k_is|k_exc|rfl)
  refine' (have q49:findIn (L2.Zf KX) (.ref ?C15) "strike_all" = some (some (.ref ?C75)):=?p49;have q51:findIn (L2.Zf KX) (.ref ?C15) "show_all" = some (some (.ref ?C77)):=?p51;have q53:findIn (L2.Zf KX) (.ref ?C15) "lay_all" = some (some (.ref ?C78)):=?p53;have q55:findIn (L2.Zf KX) (.ref ?C15) "look" = some (some (.ref ?C74)):=?p55;have q57:findIn (L2.Zf KX) (.ref ?C9) "next_day" = some (some (.ref ?C33)):=?p57;have q59:findIn (L2.Zf KX) (.ref ?C16) "next_day" = some (some (.ref ?C101)):=?p59;have q61:findIn (L2.Zf KX) (.ref ?C16) "book" = some (some (.ref ?C80)):=?p61;have q63:findIn (L2.Zf KX) (.ref ?C16) "has_pot" = some (some (.ref ?C84)):=?p63;have q65:findIn (L2.Zf KX) (.ref ?C16) "is_side_of_band" = some (some (.ref ?C85)):=?p65;have q67:findIn (L2.Zf KX) (.ref ?C16) "check_side_of_band" = some (some (.ref ?C86)):=?p67;?_);(case p49|p51|p53|p55|p57|p59|p61|p63|p65|p67=>dsimp only[L2.Zf];first|k_is|k_exc|rfl)
  refine' (have q69:findIn (L2.Zf KX) (.ref ?C9) "may_lie" = some (some (.ref ?C35)):=?p69;have q71:findIn (L2.Zf KX) (.ref ?C7) "__init__" = some (some (.ref ?C21)):=?p71;have q73:findIn (L2.Zf KX) (.ref ?C9) "lay" = some (some (.ref ?C36)):=?p73;have q75:findIn (L2.Zf KX) (.ref ?C16) "band_can" = some (some (.ref ?C87)):=?p75;have q77:findIn (L2.Zf KX) (.ref ?C16) "lay" = some (some (.ref ?C98)):=?p77;have q79:findIn (L2.Zf KX) (.ref ?C7) "waits" = some (some (.ref ?C23)):=?p79;have q81:findIn (L2.Zf KX) (.ref ?C7) "may_strike" = some (some (.ref ?C25)):=?p81;have q83:findIn (L2.Zf KX) (.ref ?C8) "__init__" = some (some (.ref ?C26)):=?p83;have q85:findIn (L2.Zf KX) (.ref ?C9) "strike" = some (some (.ref ?C37)):=?p85;have q87:findIn (L2.Zf KX) (.ref ?C16) "strike" = some (some (.ref ?C99)):=?p87;?_);(case p69|p71|p73|p75|p77|p79|p81|p83|p85|p87=>dsimp only[L2.Zf];first|k_is|k_exc|rfl)
  refine' (have q89:findIn (L2.Zf KX) (.ref ?C6) "comes" = some (some (.ref ?C19)):=?p89;have q91:findIn (L2.Zf KX) (.ref ?C7) "comes" = some (some (.ref ?C24)):=?p91;have q93:findIn (L2.Zf KX) (.ref ?C8) "comes" = some (some (.ref ?C28)):=?p93;have q95:findIn (L2.Zf KX) (.ref ?C9) "due_of" = some (some (.ref ?C40)):=?p95;have q97:findIn (L2.Zf KX) (.ref ?C9) "show" = some (some (.ref ?C34)):=?p97;have q99:findIn (L2.Zf KX) (.ref ?C16) "show" = some (some (.ref ?C97)):=?p99;have q101:findIn (L2.Zf KX) (.ref ?C9) "coin_of" = some (some (.ref ?C41)):=?p101;have q103:findIn (L2.Zf KX) (.ref ?C16) "coin" = some (some (.ref ?C83)):=?p103;?_);(case p89|p91|p93|p95|p97|p99|p101|p103=>dsimp only[L2.Zf];first|k_is|k_exc|rfl);refine⟨λn=>([0,0,?C2,0,0,?C5,?C6,?C7,?C8,?C9,?C10,?C11,?C12,?C13,?C14,?C15,?C16,?C17,?C18,?C19,0,?C21,?C22,?C23,?C24,?C25,?C26,?C27,?C28,0,?C30,?C31,?C32,?C33,?C34,?C35,?C36,?C37,?C38,?C39,?C40,?C41,0,?C43,?C44,?C45,0,0,0,0,0,0,0,0,0,?C55,?C56,?C57,0,?C59,0,0,0,0,0,0,0,0,0,0,0,0,0,0,?C74,?C75,0,?C77,?C78,?C79,?C80,0,0,?C83,?C84,?C85,?C86,?C87,0,0,0,0,0,0,0,0,0,?C97,?C98,?C99,0,?C101]:List Addr).getD n 0,K57.R8 ?_⟩;constructor;all_goals (try dsimp only[L2.Zf,List.getD_cons_succ,List.getD_cons_zero]);all_goals (first
   |(refine' L4.tV KX G (λ_ _ _ _ _ _ us hl=>?z) ?a ?l ?c ?k;(case z=>first|exact(match us,hl with|[_],_=>rfl)|exact(match us,hl with|[_,_],_=>rfl)|exact(match us,hl with|[_,_,_],_=>rfl)|exact(match us,hl with|[_,_,_,_],_=>rfl)|exact(match us,hl with|[_,_,_,_,_],_=>rfl)|exact(match us,hl with|[_,_,_,_,_,_],_=>rfl)|exact(match us,hl with|[_,_,_,_,_,_,_],_=>rfl));(case a|l|c|k=>k_is))
   |(refine' L4.yV (λ_ _ _ _ _ _ us hl=>?z) ?l ?c ?k;(case z=>first|exact(match us,hl with|[_],_=>rfl)|exact(match us,hl with|[_,_],_=>rfl)|exact(match us,hl with|[_,_,_],_=>rfl)|exact(match us,hl with|[_,_,_,_],_=>rfl)|exact(match us,hl with|[_,_,_,_,_],_=>rfl)|exact(match us,hl with|[_,_,_,_,_,_],_=>rfl)|exact(match us,hl with|[_,_,_,_,_,_,_],_=>rfl));(case l|c|k=>k_is))
   |(refine' L4.A3 KX G K57.f9 ?a ?l ?c ?k ?d;(case a|l|c|k|d=>k_is))
   |(refine' L4.tK K57.o9 ?l ?c ?d;(case l|c|d=>k_is))
   |(refine' L4.tK K57.zbh ?l ?c ?d;(case l|c|d=>k_is))
   |(refine' L4.tK K57.BW ?l ?c ?d;(case l|c|d=>k_is))
   |(refine' L4.HZ KX G ?a ?b;(case a=>k_is);(case b=>kernel_rfl))
   |(refine' L4.bV KX G ?a;(case a=>k_is))
   |(refine' mg_of KX G ?a;(case a=>k_is))
   |(refine' mg_none_of KX G ?a;(case a=>k_is))
   |(refine' ⟨⟨?a,?b,?c,?d⟩,?e,?f,?g,?h⟩;(case a|b|c|d|e|f|g|h=>k_is))
   |(refine' ⟨?a,?b,?c,?d⟩;(case a|b|c|d=>k_is))
   |(refine' ⟨?a,?b,?c⟩;(case a|b|c=>k_is))
   |k_is
   |k_exc
   |rfl)
