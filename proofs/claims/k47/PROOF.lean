import PyProof.Rows.All
import OpenK.KLine
import OpenK.KOwn
import KE.KNestM
import KE.KDictOf
import Wide.FinOn
import Lean
import PyProof.EqAt
import PyProof.EqKinds
import PyProof.TupleCall
import PyProof.NeKinds
import PyProof.NsDelKeeps
import KE.KTryMore
import PyProof.WalksMore
import PyProof.Rows.SetFrom
import KE.KEqDict
import PyProof.ToksMono
import PyProof.StrCalls6
import PyProof.StrBlock2
import PyProof.SliceStr2
import PyProof.StrLawsTight
import PyProof.InstStoreFacts
import PyProof.Rows.FStr
import PyProof.FactsAll.set
import KE.KDictLaws
import KE.KIntText
import PyProof.Rows.StrWeight2
import PyProof.StrWalks
import PyProof.StrBlockH
import PyProof.WalksEnum
import PyProof.ZipIter
import PyProof.EnumMake
import PyProof.FitsReplace
import PyProof.StrLawsIn
import PyProof.Rows.SortWalk
import PyProof.DictUpdate
import KE.KDictList
import KE.KDictSum
import KE.KPairComp
import PyProof.FactsAll.dict
import KE.KMinKey
import KE.KLam
import PyProof.DictWalks
import PyProof.DictValues
import PySem.Challenge.RW_sidebook_k47_nothing_behind_a_laying
set_option Elab.async false
set_option linter.all false
set_option maxRecDepth 100000
namespace PySem.W.Fast
def tw1571166765992488568:=0
def tw15469561042530557560:=0
def tw10133859619468971488:=0
def tw2442021597525575310:=0
def tw2885690892925829340:=0
def tw10547057200615259343:=0
def tw9723594395974361472:=0
def tw861502493610598483:=0
def tw2964640727653848319:=0
def tw1765523129119087622:=0
def tw14741289099931302040:=0
def tw16952672246017521922:=0
def tw14455545822193828066:=0
def tw18081126092374225324:=0
def tw7774113678449685934:=0
def tw8019529560031987753:=0
def tw4287531850137106228:=0
def tw10600413367226739535:=0
def tw5771433454967703170:=0
def tw11736338228926984083:=0
def tw16008359073273489704:=0
def tw3116142745294760271:=0
def tw11509211604773734946:=0
def tw3877615705368685908:=0
def tw5320619654261168702:=0
def tw7387728532749555685:=0
def tw16998588944726240723:=0
def tw14546174082565282566:=0
def tw1537541725227008683:=0
def tw11449968299874610285:=0
def tw5306753302271460952:=0
def tw1402340071739887797:=0
def tw12884060626414724322:=0
def tw8919978131948313185:=0
def tw14508066593742663482:=0
def tw13578020157988156910:=0
def tw3992765435912101610:=0
def tw4139333405863992284:=0
def tw9431664283623546001:=0
def tw1068154355462001576:=0
def tw3110587219445414310:=0
def tw13758190518337804936:=0
def tw1607123104830579860:=0
def tw2285686636504529566:=0
def tw13160504802963445071:=0
def tw685176793378778422:=0
def tw977512076041815475:=0
def tw15359611588545569252:=0
def tw17613222154834848340:=0
def tw12770481643036789091:=0
def tw7375019352735875252:=0
def tw3308634892276815127:=0
def tw6703304554741867743:=0
def tw6344153461787385748:=0
def tw6408665033692976793:=0
def tw1799641797098859658:=0
def tw8514659027417952518:=0
def tw10876078143196172821:=0
def tw8291256780589285916:=0
def tw8997383693586321770:=0
def tw9294201344175945319:=0
def tw14372219517969529114:=0
def tw13484562703626004877:=0
def tw4565167180653195659:=0
def tw11156245012059776263:=0
def tw5992840812097835891:=0
def tw11308061921803828041:=0
def tw5395340147747708899:=0
def tw8760152093665844161:=0
def tw18004296560267143027:=0
def tw890339118813698166:=0
def tw10539347186207431242:=0
def tw11161164713144168021:=0
def tw7363655315013122544:=0
def tw6508132753307246276:=0
def tw7424060955962978353:=0
def tw3520257249291928256:=0
def tw6631347999910079877:=0
def tw11220919329744738794:=0
def tw14811107726043686439:=0
def tw7485256538410118956:=0
def tw11326235942716756430:=0
def tw9201617497623189827:=0
def tw14715273107921467267:=0
def tw5371794888043636658:=0
def tw2466311954974566718:=0
def tw10295913840692754127:=0
def tw14332157829676619468:=0
def tw8498532028676091811:=0
def tw7837367980739423823:=0
def tw786537726763496527:=0
def tw3303267245142563540:=0
def tw12826555694032677247:=0
def tw11468729153070441980:=0
def tw13073492499399858440:=0
def tw8725675927981157988:=0
def tw36045766105701399:=0
def tw3279746063893128733:=0
def tw18367749455379333440:=0
def tw296083027919845158:=0
def tw1158361714356455011:=0
def tw15326580083554890809:=0
def tw5342471268416680606:=0
def tw9969077435446430640:=0
def tw14845619989558847073:=0
def tw11793702604926673555:=0
def tw15060872555676474952:=0
def tw3681537716864247207:=0
def tw13303234937177203706:=0
def tw9878177214627512989:=0
def tw10159399881129095643:=0
def tw4483904966330829159:=0
def tw2392593158011319353:=0
def tw18335596039185421423:=0
def tw14617222483516278133:=0
def tw14538725608371270373:=0
def tw15418378422589880096:=0
def tw10151330197121100416:=0
def tw14594842627406614536:=0
def tw9402243437249704421:=0
def tw4514232752302053791:=0
def tw17184031218471190783:=0
def tw14647417624928369756:=0
def tw3719891259706897012:=0
def tw6216382948874008006:=0
def tw2080317491765294665:=0
def tw11384182702204212275:=0
def tw4480162626587320490:=0
def tw211337195705725219:=0
def tw13343918040275786880:=0
def tw9619071485814978506:=0
def tw3214969091617688553:=0
def tw2894314189432023629:=0
def tw11489344026974618541:=0
def tw17267597263503486738:=0
def tw14260533273033392520:=0
def tw14061609134260724683:=0
def tw13343301709244559618:=0
def tw7480016910919988345:=0
def tw2546767868308347339:=0
def tw14556482736207283325:=0
def tw8590580007683888701:=0
def tw9399754086935153974:=0
def tw17435391645217708394:=0
def tw1804834754348979943:=0
def tw5002640475654186023:=0
def tw14782954611325821827:=0
def tw5667099127317398114:=0
def tw9197174079833555027:=0
def tw13215348057498601715:=0
def tw5221592684559293012:=0
def tw172746767574481773:=0
def tw2595618661548880785:=0
def tw2759284407945088205:=0
def tw12091130801917272685:=0
def tw14833712730911297017:=0
def tw13345342141187717317:=0
def tw12182174808115992843:=0
def tw757356599333046425:=0
def tw17261404542052806724:=0
def tw785946285636773999:=0
def tw9689729476882780088:=0
def tw866652123128751154:=0
def tw5285915839522022235:=0
def tw1010972086116683374:=0
def tw16522183678017940807:=0
def tw13861969467909019144:=0
def tw4470585836733325578:=0
def tw7538781388859322016:=0
def tw908480701973217441:=0
def tw182723221234572337:=0
def tw13557862171009465336:=0
def tw2172276787581067923:=0
def tw11212356425047092601:=0
def tw12798174099139212305:=0
def tw16766484511958638138:=0
def tw16919654943277366748:=0
def tw7873005593776767234:=0
def tw9679390387850249182:=0
def tw7777189000029798807:=0
def tw6973427100653255629:=0
def tw16226643914720891334:=0
def tw9768418358887946270:=0
def tw5010956058597451964:=0
def tw12542895121996172375:=0
def tw11107512795663914464:=0
def tw2595585439558603231:=0
def tw13394580363473044415:=0
def tw4607425872040536859:=0
def tw1000662321505670351:=0
def tw17731313482808627303:=0
def tw17397653436517662659:=0
def tw5537553045615171315:=0
def tw896878414759379649:=0
def tw10026605065719503897:=0
def tw8392358500681263680:=0
def tw5816495043963226922:=0
def tw12528221419883600679:=0
def tw2641800013201688601:=0
def tw16108870410212019532:=0
def tw593343749668468936:=0
def tw12132732476715806282:=0
def tw2528511596961503537:=0
def tw8115137120850386438:=0
def tw16493865465440409018:=0
def tw18407495941553956032:=0
def tw10861573186032746274:=0
def tw15805137534098808535:=0
def tw6984818610989830729:=0
def tw8222940686941784037:=0
def tw3075201292733833056:=0
def tw5274481202262711730:=0
def tw17883462748017686043:=0
def tw6058616519681280931:=0
def tw15173544498738437827:=0
def tw9113380124883318265:=0
def tw15764947353670896545:=0
def tw18418582437962087742:=0
def tw17680797132471856694:=0
def tw14135006944967825841:=0
def tw5233118043267047457:=0
def tw10387345722656961088:=0
def tw7220529860990300233:=0
def tw4547051000311932777:=0
def tw15831126876759372255:=0
def tw15702583709834301711:=0
def tw12550775161083096063:=0
def tw6828597562223498359:=0
def tw15733337929971156237:=0
def tw12041797014711123256:=0
def tw12297992134047619483:=0
def tw17678831435119133177:=0
def tw6060609690816243450:=0
def tw16839002366802243188:=0
def tw17334828202450815106:=0
def tw11859619671507778021:=0
def tw10094733558918713432:=0
def tw3592811809046731828:=0
def tw13053770412826190925:=0
def tw258204147387103276:=0
def tw8157277791214410489:=0
def tw4436474186459923750:=0
def tw17590705303994421779:=0
def tw8413399678365625193:=0
def tw13002473133791111888:=0
def tw2781441929908095834:=0
def tw14607143338591219252:=0
def tw13459084325293418506:=0
def tw14022695629967993375:=0
def tw1848955828906020544:=0
def tw14081431093454284249:=0
def tw14172470266813156586:=0
def tw12549542988036985293:=0
def tw5240077947681225987:=0
def tw17694573340227235524:=0
def tw14934011241717051027:=0
def tw4884199854448574:=0
def tw5344687154915797982:=0
def tw8080008513338510535:=0
def tw14564479935002850509:=0
def tw8319933024895762948:=0
def tw2358075552688931204:=0
def tw9186807149237001177:=0
def tw5217270863462422736:=0
def tw6597789921013551971:=0
def tw4267111383703672358:=0
def tw2527701527901579348:=0
def tw6651725471809605288:=0
def tw11272164335830466941:=0
def tw256182404569192445:=0
def tw14537775516033599862:=0
def tw4991487270385306882:=0
def tw17346623794827051843:=0
def tw9320515035125037321:=0
def tw13937768818610491111:=0
def tw14611616552423853409:=0
def tw13631397514672939371:=0
def tw8521684928402303493:=0
def tw16765560720781731146:=0
def tw5263133172445716209:=0
def tw9950792792127014553:=0
def tw8422229294311615681:=0
def tw10624116801336726872:=0
def tw3297117884562324255:=0
def tw3374319085511977134:=0
def tw7867829370405329436:=0
def tw7828442866392281868:=0
def tw13141587033338554882:=0
def tw3456351732281881909:=0
def tw14958820412457663293:=0
def tw13913613514976480042:=0
def tw646091604453992162:=0
def tw3328811466098603303:=0
def tw15627779663793561183:=0
def tw15699961213505342161:=0
def tw12843764043397292189:=0
def tw5449563278759341024:=0
def tw9860861378791804195:=0
def tw10698057553749749337:=0
def tw9806118890596472461:=0
def tw11401859456886640639:=0
def tw2956708394376553000:=0
def tw16902085369446701243:=0
def tw14842496431369740429:=0
def tw17577329170770402720:=0
def tw17188069144378779261:=0
def tw2950685276103557050:=0
def tw11766667032028208565:=0
def tw2827255003249426055:=0
def tw2708214617527550399:=0
def tw16279288168775177219:=0
def tw5008593111378822452:=0
def tw12901003280762261817:=0
def tw866717566613908145:=0
def tw17260811203177919210:=0
def tw18157406047293677543:=0
def tw1891733041441978011:=0
def tw12627051441459223148:=0
end PySem.W.Fast
section
open PySem PySem.W PyProof.Rows
set_option maxHeartbeats 0
open_top hd for PySem.Challenge.rw_sidebook_k47_nothing_behind_a_laying
end
def ye:=@beq_eq_false_iff_ne
def Uh:=@beq_iff_eq
def Vh:=@beq_self_eq_true
def Ad:=@congrArg
def pe:=@decide_eq_false
def bj:=@decide_eq_true
def ke:=@decide_eq_true_eq
def Dq:=@if_false
def qa:=@if_neg
def ia:=@if_pos
def Ng:=@if_true
def wn:=@or_false
open Array renaming append_assoc->Sk,getElem?_eq_getElem->ai,getElem?_eq_some_iff->Zc,getElem?_extract->qr,getElem?_push->zt,length_toList->kh,toArray_toList->Es
open Bool renaming and_assoc->cz,and_eq_true->Da,and_false->bz,false_eq_true->Gu,false_ne_true->Xa,false_or->Tk,not_true->Fq,or_eq_true->wj
open Classical renaming choose_spec->zaB
open Int renaming le_refl->gu
open List renaming all_cons->qf,all_eq_true->Ub,all_map->dm,any_cons->Je,any_eq_false->Mv,any_eq_true->xn,append_nil->mf,drop_eq_getElem_cons->ci,drop_eq_nil_of_le->Hr,filterMap_cons->xh,filter_cons->Ri,filter_eq_self->fu,find?_cons->De,foldl_cons->lh,getD_eq_getElem?_getD->Kf,getElem?_append_left->xb,getElem?_append_right->gd,getElem?_cons_succ->sr,getElem?_cons_zero->Si,getElem?_eq_getElem->vc,getElem?_eq_none_iff->jc,getElem?_eq_some_iff->ra,getElem?_map->Eb,getElem?_of_mem->xt,getElem?_replicate->pr,getElem?_set->Dc,getElem?_set_ne->Uj,getElem?_set_self->Zi,getElem?_take_of_lt->Cq,getElem?_toArray->Cs,getElem_mem->yn,getElem_of_mem->cu,length_append->qe,length_cons->Rb,length_drop->Yw,length_map->rc,length_nil->gy,length_set->fy,length_take->vn,lookup_cons->Ua,map_cons->Sa,map_map->HB,map_nil->wg,mem_append->uj,mem_append_left->Qa,mem_append_right->Oa,mem_cons->ib,mem_cons_of_mem->nb,mem_cons_self->Xb,mem_filter->Go,mem_filterMap->jl,mem_map->Ge,mem_of_getElem?->Ha,mem_range->Dp,mem_singleton->ll,nil_append->iy,nodup_cons->vj,not_mem_nil->Te,of_mem_zip->Ho,range_succ_eq_map->cj,set_append_left->Bt,set_append_right->Dj,set_cons_succ->Ya,set_cons_zero->Za,size_toArray->va,take_length->bx
open List.Perm renaming cons_inv->zaE
open List.cons renaming injEq->yt
open Nat renaming le_of_ble_eq_true->At,le_of_eq->rs,le_of_lt->Pf,le_refl->ya,le_succ->Io,le_trans->cc,lt_irrefl->Md,lt_of_le_of_lt->Uv,lt_of_lt_of_le->Ja,lt_succ_of_lt->ui,lt_succ_self->Rc,lt_trans->Ds,ne_of_gt->Cg,ne_of_lt->Ea,not_lt->JL,one_ne_zero->ez,zero_le->Zt
open Ne renaming symm->Ye
open Option renaming bind_eq_some_iff->ti,getD_none->Fu,isSome_iff_exists->Fe,isSome_map->ql,map_eq_some_iff->Sb,map_some->ah
open Option.some renaming inj->yb,injEq->mh
open Prod renaming ext->bU
open PyProof.Rows renaming AllBare->Tg,IntsAre->fm,IsTup->Hu,callWith_builtin1->gH,callWith_type1->Ze,slot_tuple_getitem->yc,Subscript_->pA,args_tuple_getitem->oA,boot_dict->OD,boot_isinstance->iH,boot_list->xi,boot_sum->ML,boot_tuple->Ki,entry_tuple_getitem->az,envOfC->ag,get?_update_seq->lH,seqObj->Ol,slicePart_none->IL,subscriptTail->ku,subscriptTail_builtinR->Rv,tupleItemsOf_->cU
open PyProof.Rows.IsTup renaming new->Pv
open PySem renaming Around->Fa,BindsTo->xf,Builtin->Zv,CmpOp->Hq,DictEntry->Ku,Drawn->NL,Env->Hg,ExceptHandler->qg,Expr->Ca,FuncData->me,GenState->Hs,IsPair->TL,IsPart->Ml,Keyword->gk,Model->Ll,NameKind->ff,Obj->Bc,Params->PL,PassesOwn->vq,PlainAttrs->xo,Pos->re,Program->Aa,boot_len->Gb,mem_of_lookup->Pe,Result->vA,Sem->uo,SetTable->gf,Shared->aa,World->Ia,assign->yj,assignEach->bf,atKey->Ks,attributeBase->Ud,backTo->nc,backToKw->Wg,behindInMarks->af,behindIsImport->QL,binaryOp->Gf,bindC->Ju,bindL->Iu,callWith->Nl,call_list_seq->sU,callerA->Xg,cellsFrom->TD,codeAny_builtin->bi,codeAny_handlers_test->ax,codeAny_mono->ni,compareOp->Wb,concat_meets->Nv,eval->Ib,evalPart_none->dU,foldedSetIterable->Ug,getItem->ej,getMethod->yh,handleBy->SL,holding->ve,intBits_le_64->aU,isTrue->uA,keywordEach->Re,leaving->LB,noFill_tuple_add->sq,noteFrame->Ig,plainId_quiet->xj,rawInt->Ee,richCompare->jy,seqIndex_neg->Qv,seqIndex_of->dy,seqItems?->XD,seq_tuple_add->au,setFlight->zi,setItem->Yv,sizeLine_eq->cy,sliceBounds->Kh,slot_list_getitem->FB,standAt->Dh,starEach->pa,subscripted->Jq,swappedStores->ju,swapsWith->yi,swapsWithSole->iu,sysModules->Dg,tupleKind->uq,tupleKind_room_in1->Ii,typeOf->Js,valueAt->tp,wpAny_Call_Name_kw->wf,wpAny_Call_method_late->Tv,wpAny_Name->lA,wpAny_assign_Name->CB,wpAny_bind->ba,wpAny_call->Bs,wpAny_callSpecial?_slot->Eu,wpAny_call_entry->tq,wpAny_comprehension_free->du,wpAny_execs_cons->ID,wpAny_execs_nil->sk,wpAny_field->Il,wpAny_handleBy_cons->dz,wpAny_holding->Td,wpAny_isSame_ref_other->Xv,wpAny_isTrue_Compare1->Xw,wpAny_letGo->Gq,wpAny_load->nA,wpAny_loadPart_at->dj,wpAny_mono->bc,wpAny_newFunctionEnv->Kl,wpAny_newList->tU,wpAny_newObj_type->Qe,wpAny_passesOwn->Yh,wpAny_pure->xa,wpAny_pyIter_enum->GB,wpAny_pyIter_list->ip,wpAny_pyIter_tuple->qA,wpAny_pyIter_zip->JD,wpAny_seqItems->Fs,wpAny_sequenceKey->DB,wpAny_standAt->Yt,wpAny_truthy_bool->sd,wpAny_tryCatch->Zf,wpAny_typeOf->Ov,wpAny_updateSeq->ur,wp_field_iff->Wv,wp_setField_iff->jH
open PySem.Around renaming frames_deeper->Gr,under->Iq,under_plainId->Bf
open PySem.Bind renaming checkArgs->Ip
open PySem.BindsTo renaming of_defaults->Ke
open PySem.Builtin.Builtins renaming bindParams->Qj
open PySem.Builtin.List renaming listExtendWith->nH,listTooLong->oh
open PySem.Builtin.Range renaming rangeSize->QD
open PySem.Builtin.Slice renaming sliceAdjust->Vg,sliceApplied->Uk,sliceFields->VD,slicePartIndex->UD,slicePlaces->pf
open PySem.Builtin.Tuple renaming tupleExact->yf,tupleHashOf->ZD,tupleIsExact->WD,tupleItemsOf->Vk
open PySem.Calls renaming Name_function_global->gp,callWith_builtin->Xi,evalArgs_plain->As
open PySem.CmpOp renaming In->OL,NotIn->KB
open PySem.Code renaming frames->RD,isFrame->Ir
open PySem.DictEntry renaming refKey->zaF
open PySem.EntryCells renaming newEntry->wq
open PySem.F renaming cmp_object->LL,args_tuple_add_2->Zh,entry_min_loop->Ji,entry_tuple_add->li,plainAttrs_dict->pi,plainAttrs_list->Nd,plain_list_iadd->Ep,plain_min_loop->Yc,slot_dict_items->oi,slot_dict_update->lp,slot_list_append->Qf,slot_list_extend->pp,slot_tuple_add->Hi,type_dict_items->Fp,type_list_append->Rf,type_list_extend->qp
open PySem.Heap renaming FlyingW->NB,HeldW->Gp,SameBut->Of,get?_eq_some->Vv,get?_push_of_some->ka,get?_push_size->gb,get?_update_other->aj,get?_update_self->ts,lt_size->za,size_push->vg
open PySem.Heap.DictOf renaming new->KL
open PySem.Heap.IsSliceOf renaming new->EB
open PySem.Heap.IsTuple renaming push->kH
open PySem.Heap.SameBut renaming update->Ti
open PySem.IsL renaming update->zaA
open PySem.Manifest renaming signature?->vr
open PySem.NameKind renaming cell->Lc,free->lb
open PySem.Obj renaming data_mapFields->Jl,mapFields->Mi,mapSeq->Nf
open PySem.PassesOwn renaming leaving->zaC,looking->zaD
open PySem.Sem renaming wp_bind'->Wm,wp_mono->bu
open PySem.SeqAt renaming EqAt->zd,RcAt->Lh,RcNeAt->zh,in_listAt->Zw,in_tupleAt->Sv
open PySem.SeqAt.EqAt renaming bool_bool->iU,bool_int->jU,bool_none->hU,bool_str->kU,int_bool->mU,int_int->nU,int_none->lU,int_str->Aq,none_bool->eU,none_int->fU,none_str->gU,same->kl,str_bool->pU,str_int->Bq,str_none->oU,str_str->qU
open PySem.SetTable renaming below->rf,fresh->Lu,has->cx,insertAt->uk
open PySem.SetTable.below renaming go->vp
open PySem.SetTable.probe renaming go->Yg
open PySem.Str renaming ofString->Sf
open PySem.Value renaming bool->Ff,bytes->JB,float->Gs,int->Li,isInt->IB,isStrOf->gz,none->pb,ref->jb,str->Xm,type->PD
open PySem.W.WData renaming int->mH
open PySem.W.WShape renaming has->MB
open PySem.Walks renaming list->jp
open PySem.WalksT renaming zip2->rA
open PySem.Within renaming cons->fH
noncomputable section
namespace L2
open PySem PySem.Spec PyProof.Rows
abbrev Key:=Sum Int Str
noncomputable def Yz:Key->Value->Bool
 | .inl k,v=>IB k v
 | .inr x,v=>gz x v
noncomputable def fX(w:Ia):Key->Int
 | .inl k=>hashInt k
 | .inr x=>hashStr w x
theorem Av:∀ {k:Key} {v:Value},Yz k v=true->(∃ i t,k=Sum.inl i/\v=Li i t)\/(∃ x t,k=Sum.inr x/\v=Xm x t)
 | .inl i,v,h=>by
  obtain⟨t,e⟩:=Value.isInt_shape (k:=i) (v:=v) h;exact .inl ⟨i,t,rfl,e⟩
 | .inr x,v,h=>by
  obtain⟨t,e⟩:=Value.isStrOf_shape (x:=x) (v:=v) h;exact .inr ⟨x,t,rfl,e⟩
theorem T6(i:Int)(t:Tok):Yz (.inl i) (.int i t)=true:=by simp[Yz,IB]
theorem pZ(x:Str)(t:Tok):Yz (.inr x) (.str x t)=true:=by simp[Yz,gz]
theorem zW(a b:Int):decide ((Sum.inl a:Key)=Sum.inl b)=(a == b):=by
 by_cases e:a=b
 ·subst e;simp
 ·have h:¬ (Sum.inl a:Key)=Sum.inl b:=λq=>e (Sum.inl.inj q);rw[pe h];exact(ye.mpr e).symm
theorem nW(a b:Str):decide ((Sum.inr a:Key)=Sum.inr b)=decide (a=b):=by
 by_cases e:a=b
 ·subst e;simp
 ·have h:¬ (Sum.inr a:Key)=Sum.inr b:=λq=>e (Sum.inr.inj q);rw[pe h,pe e]
theorem AU(a:Int)(b:Str):decide ((Sum.inl a:Key)=Sum.inr b)=false:=pe (λq=>nomatch q)
theorem X9(a:Str)(b:Int):decide ((Sum.inr a:Key)=Sum.inl b)=false:=pe (λq=>nomatch q)
def El(prog:Aa)(w:Ia):PySem.KeyKind prog w Key where
 is:=Yz
 hash:=fX w
 inj:=λv a b d hb=>by
  rcases Av d with⟨i,t,rfl,rfl⟩|⟨x,t,rfl,rfl⟩
  ·rcases Av hb with⟨j,u,rfl,e⟩|⟨y,u,rfl,e⟩
   ·injection e with e1 _;rw[e1]
   ·exact nomatch e
  ·rcases Av hb with⟨j,u,rfl,e⟩|⟨y,u,rfl,e⟩
   ·exact nomatch e
   ·injection e with e1 _;rw[e1]
 byValue:=λk v h=>by
  rcases Av h with⟨i,t,rfl,rfl⟩|⟨x,t,rfl,rfl⟩<;>rfl
 pyHash:=λc h=>by
  rcases Av c with⟨i,t,rfl,rfl⟩|⟨x,t,rfl,rfl⟩
  ·exact wpAny_pyHash_int h
  ·exact wpAny_pyHash_str h
 eqBool:=λf c h=>by
  rcases Av f with⟨i,t,rfl,rfl⟩|⟨x,t,rfl,rfl⟩
  ·rcases Av c with⟨j,u,rfl,rfl⟩|⟨y,u,rfl,rfl⟩
   ·rw[zW]at h;exact wpAny_eqBool_int h
   ·rw[AU]at h;exact Aq i t y u _ _ _ _ h
  ·rcases Av c with⟨j,u,rfl,rfl⟩|⟨y,u,rfl,rfl⟩
   ·rw[X9]at h;exact Bq x t j u _ _ _ _ h
   ·rw[nW]at h;exact wpAny_eqBool_str h
 «strs»:=λk x t v h=>by
  rcases Av h with⟨i,u,rfl,e⟩|⟨y,u,rfl,e⟩
  ·exact nomatch e
  ·injection e with e1 _;subst e1;cases v<;>rfl
theorem L3(prog:Aa)(w:Ia)(k:Key)(v:Value):(El prog w).is k v=Yz k v:=rfl
theorem tZ(prog:Aa)(w:Ia)(i:Int)(t:Tok):(El prog w).is (.inl i) (.int i t)=true:=T6 i t
theorem d8(prog:Aa)(w:Ia)(x:Str)(t:Tok):(El prog w).is (.inr x) (.str x t)=true:=pZ x t
inductive V where
 |Vb|bl (b:Bool)|int (i:Int)|str (x:Str)|tG (b:Array UInt8)|rz (b:UInt64)|ref (a:Addr)|ty (n:String)
 deriving DecidableEq
def Ed:V->Value->Prop
 | .Vb,u=>u=pb
 | .bl b,u=>u=Ff b
 | .int i,u=>∃ t,u=Li i t
 | .str x,u=>∃ t,u=Xm x t
 | .tG b,u=>∃ t,u=JB b t
 | .rz b,u=>∃ t,u=Gs b t
 | .ref a,u=>u=jb a
 | .ty n,u=>u=PD n
abbrev ue:List V->List Value->Prop:=Paired Ed
theorem ue.length{xs:List V}{us:List Value}(r:ue xs us):xs.length=us.length:=Paired.length r
theorem ue.get:∀ {xs:List V} {us:List Value} {i:Nat} {x:V},ue xs us->xs[i]?=some x->∃ u,us[i]?=some u/\Ed x u
 |_,_,_,_,.nil,e=>by simp at e
 |_,_,0,_,.cons r _,e=>by simp at e;subst e;exact⟨_,rfl,r⟩
 |_,_,i+1,x,.cons _ t,e=>by
  obtain⟨u,h1,a⟩:=ue.get (i:=i) (x:=x) t (by simpa using e);exact⟨u,by simpa using h1,a⟩
theorem ue.set{x:V}{u:Value}(r:Ed x u):∀ {xs:List V} {us:List Value} (i:Nat),ue xs us->ue (xs.set i x) (us.set i u)
 |_,_,_,.nil=>.nil
 |_,_,0,.cons _ t=>.cons r t
 |_,_,i+1,.cons q t=>.cons q (ue.set r i t)
theorem ue.append:∀ {xs ys:List V} {us ws:List Value},ue xs us->ue ys ws->ue (xs++ys) (us++ws)
 |_,_,_,_,.nil,s=>s
 |_,_,_,_,.cons r t,s=>.cons r (ue.append t s)
theorem ue.take:∀ {xs:List V} {us:List Value} (n:Nat),ue xs us->ue (xs.take n) (us.take n)
 |_,_,0,_=>.nil
 |_,_,_+1,.nil=>.nil
 |_,_,n+1,.cons r t=>.cons r (ue.take n t)
theorem ue.drop:∀ {xs:List V} {us:List Value} (n:Nat),ue xs us->ue (xs.drop n) (us.drop n)
 |_,_,0,r=>r
 |_,_,_+1,.nil=>.nil
 |_,_,n+1,.cons _ t=>ue.drop n t
theorem ue.none_of:∀ {xs:List V} {us:List Value} {i:Nat},ue xs us->xs[i]?=none->us[i]?=none:=fun {xs us i} r e=>by
 have h1:=r.length;have a:xs.length<=i:=jc.mp e;exact jc.mpr (by omega)
def zq:Option V->Option Value->Prop
 |some v,some u=>Ed v u
 |none,none=>True
 |_,_=>False
def KV{a:Type}:List (a × V)->List (a × Value)->Prop:=Paired λ(p:a × V) (q:a × Value)=>p.1=q.1/\Ed p.2 q.2
noncomputable def kV:Key->V
 | .inl i=>.int i
 | .inr x=>.str x
inductive HO where
 |lst (xs:List V)
 |tup (xs:List V)
 |dK (kvs:List (Key × V))|dT (kvs:List (List Key × V))
 |set (S:Int->Bool) (n:Nat)
 |ins (C dx:Addr) (fs:List (Str × V))
 |own (x:Addr)
 |xd (fs:List (Str × V))
 |met (f x:Addr)
 |oG (lo hi:Int)
 |Hb (o:Bc) (u:HO)
 |Im (ps:Array Value)
 |ext (φ:Heap->Prop)
abbrev Hp:=Addr->Option HO
noncomputable def upd(H:Hp)(a:Addr)(o:HO):Hp:=λb=>if b=a then some o else H b
theorem Og{H:Hp}{a:Addr}{o:HO}:upd H a o a=some o:=by unfold upd;rw[ia rfl]
theorem Qd{H:Hp}{a b:Addr}{o:HO}(h:b≠a):upd H a o b=H b:=by unfold upd;rw[qa h]
theorem CK{H:Hp}{a b:Addr}{o u:HO}(h:H a=some o)(h':H b=some u)(d:o≠u):a≠b:=by
 intro e;subst e;rw[h]at h';exact d (yb h')
theorem gq{H:Hp}{a b:Addr}{o:HO}(h:H a=some o)(h':H b=none):a≠b:=by
 intro e;subst e;rw[h]at h';cases h'
section
variable(P:Aa)(w:Ia)
def qj(H:Hp)(h:Heap)(a:Addr):HO->Prop
 | .lst xs=>xs.length<=sizeLine/\∃ (b:List Value) (n:Nat),ue xs b/\h.get? a=some { cls:=.type "list",data:=.seq b.toArray n }
 | .tup xs=>xs.length<=sizeLine/\∃ b:List Value,ue xs b/\Hu h a b.toArray
 | .dK c=>c.length<=sizeLine/\(a == Dg)=false/\∃ j,KV c j/\h.DictOf (El P w) a j
 | .dT c=>c.length<=sizeLine/\(a == Dg)=false/\∃ xs:List (List Key × Addr × Value),
   Paired (λ(p:List Key × V) (q:List Key × Addr × Value)=>p.1=q.1/\H q.2.1=some (.tup (p.1.map kV))/\Ed p.2 q.2.2) c xs/\
   ∃ o g k,h.get? a=some o/\o.ExactDict/\o.data=.dict g k/\g.toList=xs.map (entryOfKey (uq (El P w)))/\(xs.map (·.1)).Nodup
 | .set S n=>h.SetOf (intKind P w) a S n
 | .ins C e fs=>H e=some (.own a)/\fs.length<=1000/\e≠a/\h.get? a=some (W.instObj C e)/\
   ∃ d,h.Ns1 e d/\(∀ f,zq (fs.lookup f) (d f))/\PySem.Within d (fs.map (·.1))
 | .own _=>∃ o,h.get? a=some o
 | .xd fs=>∃ d,h.Ns1 a d/\∀ f,zq (fs.lookup f) (d f)
 | .oG lo l=>∃ t u v,h.get? a=some { cls:=.type "range",data:=.fields #[.int lo t,.int l u,.int 1 v] }
 | .Hb o u=>h.get? a=some o/\qj H h a u
 | .Im m=>h.get? a=some { cls:=.none,data:=.fields m }
 | .met f x=>h.get? a=some (W.methodObj (.ref f) (.ref x))
 | .ext φ=>φ h/\(∃ o,h.get? a=some o)/\∀ h1 i:Heap,φ h1->(∀ o,h1.get? a=some o->i.get? a=some o)->φ i
def Ni(H:Hp)(h:Heap):Prop:=∀ a o,H a=some o->qj P w H h a o
end
section
variable{P:Aa}{w:Ia}{H H':Hp}{h h':Heap}{a:Addr}{o:HO}
theorem qj.lt(x:qj P w H h a o):a<h.objs.size:=by
 cases o with
 |lst xs=>obtain⟨_,_,_,_,e⟩:=x;exact za e
 |tup xs=>obtain⟨_,_,_,p⟩:=x;exact p.lt
 |dK b=>obtain⟨_,_,_,_,o,_,_,e,_⟩:=x;exact za e
 |dT b=>obtain⟨_,_,_,_,o,_,_,e,_⟩:=x;exact za e
 |set S n=>obtain⟨o,_,_,_,e,_⟩:=x;exact za e
 |ins C c fs=>obtain⟨_,_,_,e,_⟩:=x;exact za e
 |own y=>obtain⟨_,e⟩:=x;exact za e
 |xd fs=>obtain⟨_,⟨_,_,_,e,_⟩,_⟩:=x;exact za e
 |oG lo d=>obtain⟨_,_,_,e⟩:=x;exact za e
 |Hb g u=>obtain⟨e,_⟩:=x;exact za e
 |Im i=>exact za (show h.get? a=some _ from x)
 |met f y=>exact za (show h.get? a=some _ from x)
 |ext j=>obtain⟨_,⟨_,e⟩,_⟩:=x;exact za e
theorem Paired.Rq{e g:Type}{F G:e->g->Prop}:∀ {c:List e} {d:List g},Paired F c d->(∀ a b,F a b->G a b)->Paired G c d
 |_,_,.nil,_=>.nil
 |_,_,.cons r t,f=>.cons (f _ _ r) (Paired.Rq t f)
theorem qj.zk(x:qj P w H h a o)(k:∀ b u,(b=a\/H b=some (.own a))->h.get? b=some u->h'.get? b=some u)
  (F:∀ b,H b=some (.own a)->H' b=some (.own a)) (ht:∀ b xs,H b=some (.tup xs)->H' b=some (.tup xs)):qj P w H' h' a o:=by
 induction o with
 |lst xs=>obtain⟨z,l,n,r,e⟩:=x;exact⟨z,l,n,r,k _ _ (.inl rfl) e⟩
 |tup xs=>obtain⟨z,l,r,g,e,c⟩:=x;exact⟨z,l,r,g,k _ _ (.inl rfl) e,c⟩
 |dK m=>obtain⟨z,y,I,r,g,j,i,e,c⟩:=x;exact⟨z,y,I,r,g,j,i,k _ _ (.inl rfl) e,c⟩
 |dT m=>
  obtain⟨z,y,xs,r,g,j,i,e,c⟩:=x;exact⟨z,y,xs,Paired.Rq r λp q z=>⟨z.1,ht _ _ z.2.1,z.2.2⟩,g,j,i,k _ _ (.inl rfl) e,c⟩
 |set S n=>obtain⟨g,j,i,t,e,c⟩:=x;exact⟨g,j,i,t,k _ _ (.inl rfl) e,c⟩
 |ins C J fs=>
  obtain⟨d,z,ne,e,s,⟨A,j,i,E,c⟩,r⟩:=x;exact⟨F _ d,z,ne,k _ _ (.inl rfl) e,s,⟨A,j,i,k _ _ (.inr d) E,c⟩,r⟩
 |own y=>obtain⟨g,e⟩:=x;exact⟨g,k _ _ (.inl rfl) e⟩
 |xd fs=>obtain⟨s,⟨A,j,i,e,c⟩,r⟩:=x;exact⟨s,⟨A,j,i,k _ _ (.inl rfl) e,c⟩,r⟩
 |oG lo K=>obtain⟨t,u,v,e⟩:=x;exact⟨t,u,v,k _ _ (.inl rfl) e⟩
 |Hb g u G=>obtain⟨e,q⟩:=x;exact⟨k _ _ (.inl rfl) e,G q⟩
 |Im B=>
  have e:h.get? a=some { cls:=.none,data:=.fields B }:=x;show h'.get? a=some { cls:=.none,data:=.fields B };exact k a _ (.inl rfl) e
 |met f y=>
  have e:h.get? a=some (W.methodObj (.ref f) (.ref y)):=x;show h'.get? a=some (W.methodObj (.ref f) (.ref y));exact k a _ (.inl rfl) e
 |ext L=>obtain⟨p,⟨o,e⟩,D⟩:=x;exact⟨D _ _ p λo q=>k _ _ (.inl rfl) q,⟨o,k _ _ (.inl rfl) e⟩,D⟩
theorem Ni.lt(x:Ni P w H h)(e:H a=some o):a<h.objs.size:=(x a o e).lt
theorem Ni.fresh(x:Ni P w H h)(e:h.objs.size<=a):H a=none:=by
 cases q:H a with
 |none=>rfl
 |some u=>exact absurd (Ja (x.lt q) e) (Md _)
theorem Ni.kept(x:Ni P w H h)(k:∀ b u,h.get? b=some u->h'.get? b=some u):Ni P w H h':=λa o e=>
 (x a o e).zk (λb u _ q=>k b u q) (λ_ q=>q) λ_ _ q=>q
theorem Ni.laid(x:Ni P w H h)(k:∀ b u,h.get? b=some u->h'.get? b=some u)(f:h.objs.size<=a)(d:qj P w (upd H a o) h' a o):Ni P w (upd H a o) h':=λb u e=>by
 have hn:=x.fresh f;by_cases hb:b=a
 ·subst hb;rw[Og]at e;cases e;exact d
 ·rw[Qd hb]at e;exact(x b u e).zk (λc v _ q=>k c v q) (λc q=>by rw[Qd (gq q hn)];exact q) λc xs q=>by rw[Qd (gq q hn)];exact q
end
def Rd(H:Hp)(a:Addr)(u:HO):Prop:=H a=some u\/∃ o,H a=some (.Hb o u)
theorem Rd.of{H:Hp}{a:Addr}{u:HO}(h:H a=some u):Rd H a u:=.inl h
theorem Rd.ok{P:Aa}{w:Ia}{H:Hp}{h:Heap}{a:Addr}{u:HO}(r:Rd H a u)(x:Ni P w H h):qj P w H h a u:=by
 rcases r with r|⟨o,r⟩
 ·exact x a u r
 ·obtain⟨_,q⟩:=x a _ r;exact q
def zD:Option HO->Prop
 |some (.lst _)=>True
 |some (.dK _)=>True
 |some (.dT _)=>True
 |some (.set _ _)=>True
 |some (.ins _ _ _)=>True
 |some (.ext _)=>True
 |_=>False
section
variable{P:Aa}{w:Ia}{H:Hp}{h h':Heap}{x e:Addr}{o':HO}
theorem Ni.write(ok:Ni P w H h)(g:zD (H x))(l:e=x\/H e=some (.own x))(k:∀ b u,b≠e->h.get? b=some u->h'.get? b=some u)(i:∃ u,h'.get? e=some u)
  (j:qj P w (upd H x o') h' x o'):Ni P w (upd H x o') h':=λb u q=>by
 have d:∀ c y,H c=some (.own y)->c≠x:=λc y r z=>by subst z;rw[r]at g;exact g
 have f:∀ c xs,H c=some (.tup xs)->c≠x:=λc xs r z=>by subst z;rw[r]at g;exact g
 by_cases hb:b=x
 ·subst hb;rw[Og]at q;cases q;exact j
 ·rw[Qd hb]at q;by_cases a:b=e
  ·have m:H b=some (.own x):=by
    rcases l with z|z
    ·exact absurd (a.trans z) hb
    ·rw[a];exact z
   rw[q]at m;cases m;obtain⟨v,n⟩:=i;exact⟨v,by rw[a];exact n⟩
  ·refine(ok b u q).zk (λc v hc r=>k c v ?_ r) (λc r=>by rw[Qd (d c b r)];exact r) λc xs r=>by rw[Qd (f c xs r)];exact r
   rcases hc with rfl|hc
   ·exact a
   ·rintro rfl;rcases l with z|z
    ·exact d c b hc z
    ·rw[hc]at z;cases z;exact hb rfl
end
structure Un(fs ex:List Addr)(H H':Hp)(h h':Heap):Prop where
 keep:∀ b o,h.get? b=some o->H b=none->b ∉ fs->b ∉ ex->h'.get? b=some o
 slot:∀ b o,h.get? b=some o->H b=none->b∈fs->b ∉ ex->∃ sl,h'.get? b=some { o with slots:=sl }
 free:∀ b o,h.get? b=some o->H b=none->b ∉ ex->H' b=none
 there:∀ b o,h.get? b=some o->b ∉ ex->∃ o',h'.get? b=some o'
 Gi:∀ b xs,H b=some (.tup xs)->H' b=some (.tup xs)
 vh:∀ b o u,H b=some (.Hb o u)->H' b=some (.Hb o u)
 di:∀ b ps,H b=some (.Im ps)->∃ more,H' b=some (.Im (ps++more))
section
variable{fs fs' ex ex':List Addr}{H H1 H2:Hp}{h h1 h2 h':Heap}{a x e:Addr}{o:HO}
theorem Un.any(u:Un fs ex H H1 h h1){b:Addr}{ob:Bc}(q:h.get? b=some ob)(n:H b=none)(a:b ∉ ex):∃ c,h1.get? b=some { ob with slots:=c }:=by
 by_cases hb:b∈fs
 ·exact u.slot b ob q n hb a
 ·exact⟨ob.slots,u.keep b ob q n hb a⟩
theorem Un.trans(a:Un fs ex H H1 h h1)(b:Un fs ex H1 H2 h1 h2):Un fs ex H H2 h h2 where
 keep:=λc e q n hc d=>b.keep c e (a.keep c e q n hc d) (a.free c e q n d) hc d
 slot:=λc e q n hc d=>by
  obtain⟨o,f⟩:=a.slot c e q n hc d;obtain⟨j,g⟩:=b.slot c _ f (a.free c e q n d) hc d;exact⟨j,g⟩
 free:=λc e q n d=>by
  obtain⟨i,f⟩:=a.there c e q d;exact b.free c i f (a.free c e q n d) d
 there:=λc e q d=>by
  obtain⟨i,f⟩:=a.there c e q d;exact b.there c i f d
 Gi:=λc xs q=>b.Gi c xs (a.Gi c xs q)
 vh:=λc e xs q=>b.vh c e xs (a.vh c e xs q)
 di:=λc m q=>by
  obtain⟨k,f⟩:=a.di c m q;obtain⟨l,g⟩:=b.di c _ f;exact⟨k++l,by rw[g,Sk]⟩
theorem Un.kept(k:∀ b u,h.get? b=some u->h'.get? b=some u):Un fs ex H H h h':=
 ⟨λb a q _ _ _=>k b a q,λb a q _ _ _=>⟨a.slots,k b a q⟩,λ_ _ _ n _=>n,λb a q _=>⟨a,k b a q⟩,λ_ _ q=>q,λ_ _ _ q=>q,λ_ c q=>⟨#[],by rw[q];simp⟩⟩
theorem Un.refl:Un fs ex H H h h:=Un.kept λ_ _ q=>q
theorem Un.laid(k:∀ b u,h.get? b=some u->h'.get? b=some u)(c:h.objs.size<=a)(hn:H a=none):Un fs ex H (upd H a o) h h' where
 keep:=λb u q _ _ _=>k b u q
 slot:=λb u q _ _ _=>⟨u.slots,k b u q⟩
 free:=λb u q n _=>by rw[Qd (Ea (Ja (za q) c))];exact n
 there:=λb u q _=>⟨u,k b u q⟩
 Gi:=λb xs q=>by rw[Qd (gq q hn)];exact q
 vh:=λb u xs q=>by rw[Qd (gq q hn)];exact q
 di:=λb d q=>⟨#[],by rw[Qd (gq q hn),q];simp⟩
theorem Un.write(c:zD (H x))(g:e=x\/H e=some (.own x))(k:∀ b u,b≠e->h.get? b=some u->h'.get? b=some u)(d:∃ u,h'.get? e=some u):Un fs ex H (upd H x o) h h':=by
 have f:∀ b,H b=none->b≠x:=λb n z=>by subst z;rw[n]at c;exact c
 have hb:∀ b,H b=none->b≠e:=λb n z=>by
  subst z;rcases g with r|r
  ·exact f b n r
  ·rw[n]at r;cases r
 have hm:∀ b u,H b=some u->¬ zD (some u)->b≠x:=λb u q nm z=>by subst z;rw[q]at c;exact nm c
 refine⟨λb u q n _ _=>k b u (hb b n) q,λb u q n _ _=>⟨u.slots,k b u (hb b n) q⟩,λb u q n _=>by rw[Qd (f b n)];exact n,λb u q _=>?_,
  λb xs q=>by rw[Qd (hm b _ q λz=>z)];exact q,λb u xs q=>by rw[Qd (hm b _ q λz=>z)];exact q,λb i q=>⟨#[],by rw[Qd (hm b _ q λz=>z),q];simp⟩⟩
 by_cases a:b=e
 ·subst a;exact d
 ·exact⟨u,k b u a q⟩
theorem Un.mono(u:Un fs ex H H1 h h1)(e:∀ b∈fs,b∈fs')(d:∀ b∈ex,b∈ex'):Un fs' ex' H H1 h h1:=
 ⟨λb c q n hb a=>u.keep b c q n (λz=>hb (e b z)) λz=>a (d b z),λ_ _ q n _ a=>u.any q n λz=>a (d _ z),λb c q n a=>u.free b c q n λz=>a (d b z),λb c q a=>u.there b c q λz=>a (d b z),u.Gi,u.vh,u.di⟩
end
noncomputable def wE(h:Heap)(H:Hp):List Addr:=(List.range h.objs.size).filter λa=>(H a).isSome
def vt(h:Heap)(H:Hp):Heap:=W.hideAll h (wE h H)
theorem sT(h:Heap)(H:Hp):(vt h H).objs.size=h.objs.size:=W.hideAll_size _ _
theorem UP{h:Heap}{H:Hp}{b:Addr}{o:Bc}(e:h.get? b=some o)(n:H b=none):(vt h H).get? b=some o:=
 W.hideAll_get _ e λhm=>by
  have q:(H b).isSome=true:=(Go.mp hm).2;rw[n]at q;simp at q
theorem UL{h:Heap}{H:Hp}{b:Addr}{o:Bc}(e:(vt h H).get? b=some o):h.get? b=some o/\H b=none:=by
 have a:h.get? b=some o:=W.of_hideAll (wE h H) e;refine⟨a,?_⟩;cases q:H b with
 |none=>rfl
 |some x=>
  have hm:b∈wE h H:=Go.mpr ⟨Dp.mpr (za a),by simp[q]⟩;have z:(vt h H).get? b=none:=W.hideAll_none (wE h H) hm;rw[z]at e;cases e
noncomputable def kY(g h:Heap)(L:Addr):List (Addr × Bc):=(List.range h.objs.size).filterMap λa=>if a=L\/(g.get? a).isSome=true then none else (h.get? a).map λo=>(a,o)
def ug(g h:Heap)(L d:Addr):List (Addr × Bc):=(kY g h L).filter λp=>decide (p.1≠d)
structure Mod(K:W.Frag)(mg:Str->Option Value)(base:Heap):Prop where
 xw:K.In base
 glob:base.Ns mainGlobals mg
 blt:∃ mb,base.Ns builtinsNs mb/\∀ x:Str,x ≠ "__name__"->mb x=bootBuiltins x
 nolimit:base.NoLimit
structure Cx where
 prog:Aa
 w:Ia
 K:W.Frag
 mg:Str->Option Value
 base:Heap
 A:Fa
 N:List Str
 s₀:aa
 H₀:Hp
 env:Hg
 outer:List Hg
 stack:List Hg
 ex:List Addr
 fn:Str->Bool
 calm:Bool
 pn:List (Addr × Bc)
 xe:Value->aa->Prop
noncomputable def Nj(l:List Hg):List Addr:=l.filterMap (·.frame)
abbrev Cx.fs(X:Cx):List Addr:=Nj X.outer
def yJ(sc:Scope)(x:Str):Prop:=sc.names.lookup x=some .local\/sc.names.lookup x=some .cell\/sc.names.lookup x=some .free
def Loc(sc:Scope)(x:Str):Prop:=sc.names.lookup x=some .local\/sc.names.lookup x=some .cell
def VY(env:Hg)(h:Heap)(m:Str->Option Value)(x:Str)(u:Value):Prop:=
 (env.kindOf x=some .local/\m x=some u)\/((env.kindOf x=some .cell\/env.kindOf x=some .free)/\∃ c,env.cells.lookup x=some c/\h.IsCell c (some u))
structure Cx.Ok(X:Cx):Prop where
 mod:Mod X.K X.mg X.base
 kind:X.env.scope.kind=.function
 glob:X.env.globals=mainGlobals
 blt:X.env.builtins=builtinsNs
 above:X.s₀.heap.objs.size<=X.env.locals
 inj:∀ x y c,X.env.cells.lookup x=some c->X.env.cells.lookup y=some c->x=y
 has:∀ x,(X.env.kindOf x=some .cell\/X.env.kindOf x=some .free)->∃ c,X.env.cells.lookup x=some c
 uy:∀ x c,X.fn x=true->X.env.cells.lookup x=some c->X.s₀.heap.objs.size<=c
 hd:X.calm=true->X.A.handled=none
 frames:X.A.frames=some X.stack
 Np:X.stack=X.outer\/(X.stack=X.env::X.outer/\X.env.frame=some X.env.locals)
 iA:∀ b∈X.ex,b≠X.env.locals/\∀ x c,X.env.cells.lookup x=some c->c≠b
 bs:∀ b o,X.base.get? b=some o->X.s₀.heap.get? b=some o/\X.H₀ b=none
 Os:X.base.objs.size<=X.s₀.heap.objs.size
 Xq:∀ b o,X.base.get? b=some o->b ∉ X.ex
 ar:∀ b∈X.ex,b ∉ X.fs
 Ij:X.s₀.heap.FunFrames X.base X.outer
 Yu:∀ b∈X.fs,X.H₀ b=none
structure Inv(X:Cx)(pins:List (Addr × Bc))(σ:List (Option V))(H:Hp)(s:aa):Prop where
 ok:X.Ok
 os:s.os=X.s₀.os
 bare:Tg s.gens
 base:Un X.fs X.ex X.H₀ H X.s₀.heap s.heap
 loc:∃ m,s.heap.Ns X.env.locals m/\∀ (i:Nat) (x:Str) (v:V),X.N[i]?=some x->σ[i]?=some (some v)->yJ X.env.scope x->∃ u,Ed v u/\VY X.env s.heap m x u
 cell:∀ x c,X.env.cells.lookup x=some c->∃ v,s.heap.IsCell c v
 free:H X.env.locals=none
 rg:∀ x c,X.env.cells.lookup x=some c->H c=none
 pin:∀ p∈X.pn++pins,s.heap.get? p.1=some p.2/\H p.1=none/\p.1≠X.env.locals/\p.1 ∉ X.fs/\∀ v,p.2.data≠.cell v
 dc:Ni X.prog X.w H s.heap
 len:σ.length=X.N.length
section
variable{X:Cx}{pins:List (Addr × Bc)}{σ:List (Option V)}{H H':Hp}{s:aa}{h':Heap}
theorem Cx.Ok.cL(ok:X.Ok){b:Addr}{o:Bc}(e:X.base.get? b=some o):b ∉ X.fs:=λhb=>by
 have:=(ok.Ij.mem hb).1;rw[e]at this;cases this
theorem Inv.bs(I:Inv X pins σ H s):∀ b o,X.base.get? b=some o->s.heap.get? b=some o/\H b=none:=λb o e=>
 ⟨I.base.keep b o (I.ok.bs b o e).1 (I.ok.bs b o e).2 (I.ok.cL e) (I.ok.Xq b o e),I.base.free b o (I.ok.bs b o e).1 (I.ok.bs b o e).2 (I.ok.Xq b o e)⟩
theorem Inv.bk(I:Inv X pins σ H s):∀ b o,X.base.get? b=some o->s.heap.get? b=some o:=λb o e=>(I.bs b o e).1
theorem Inv.mod(I:Inv X pins σ H s):Mod X.K X.mg X.base:=I.ok.mod
theorem Inv.mj(I:Inv X pins σ H s):X.K.In s.heap:=I.ok.mod.xw.keeps I.bk
theorem Inv.nolimit(I:Inv X pins σ H s):s.heap.NoLimit:=I.ok.mod.nolimit.keeps I.bk
theorem Inv.lt(I:Inv X pins σ H s):X.env.locals<s.heap.objs.size:=let ⟨_,hn,_⟩:=I.loc;hn.lt
theorem Inv.sz(I:Inv X pins σ H s):X.s₀.heap.objs.size<=s.heap.objs.size:=cc I.ok.above (Pf I.lt)
theorem Inv.FC(I:Inv X pins σ H s){a:Addr}(h:s.heap.objs.size<=a):a ∉ X.fs:=λhb=>by
 obtain⟨_,o,b,_⟩:=I.ok.Ij.mem hb;exact absurd (Ja (za b) (cc I.sz h)) (Md _)
theorem Inv.px(I:Inv X pins σ H s):∀ x c,X.env.cells.lookup x=some c->c≠X.env.locals:=λx c e z=>by
 obtain⟨v,o,d,hd⟩:=I.cell x c e;obtain⟨m,⟨h,g,f,b,a,_⟩,_⟩:=I.loc;rw[z,b]at d;cases d;rw[a]at hd;cases hd
theorem Inv.Ij(I:Inv X pins σ H s):s.heap.FunFrames X.base X.outer:=by
 have all:∀ (l:List Hg),(∀ b∈Nj l,b∈X.fs)->X.s₀.heap.FunFrames X.base l->s.heap.FunFrames X.base l:=by
  intro l;induction l with
  |nil=>intro _ _;trivial
  |cons env r i=>
   intro c f;obtain⟨d,⟨L,o,a,hn,g,hd⟩,h⟩:=f;have hL:L∈X.fs:=c L (by unfold Nj;rw[xh,a];exact Xb);obtain⟨j,e⟩:=I.base.slot L o g (I.ok.Yu L hL) hL λz=>I.ok.ar L z hL;exact⟨d,⟨L,_,a,hn,e,hd⟩,i (λb hb=>c b (by unfold Nj;rw[xh,a];exact nb _ hb)) h⟩
 exact all X.outer (λ_ hb=>hb) I.ok.Ij
theorem Inv.stack(I:Inv X pins σ H s):s.heap.FunFrames X.base X.stack:=by
 rcases I.ok.Np with e|⟨e,a⟩
 ·rw[e];exact I.Ij
 ·rw[e];obtain⟨m,hn,_⟩:=I.loc;refine .cons (by rw[I.ok.kind];decide) a hn ?_ I.Ij;exact Heap.get?_none_of_le (cc I.ok.Os I.ok.above)
theorem Inv.js(I:Inv X pins σ H s):∀ b∈Nj X.stack,b∈X.env.locals::X.fs:=λb hb=>by
 rcases I.ok.Np with e|⟨e,a⟩
 ·rw[e]at hb;exact nb _ hb
 ·rw[e]at hb;unfold Nj at hb;rw[xh,a]at hb;exact hb
theorem Inv.yk(I:Inv X pins σ H s):∀ b∈Nj X.stack,H b=none:=λb hb=>by
 rcases ib.mp (I.js b hb)with e|hb
 ·rw[e];exact I.free
 ·obtain⟨_,o,a,_⟩:=I.ok.Ij.mem hb;exact I.base.free b o a (I.ok.Yu b hb) λz=>I.ok.ar b z hb
theorem Inv.step{g':Array Hs}{t':Nat}{d':NL}{ch:List Addr}(I:Inv X pins σ H s)
  (g:∀ b∈ch,(b∈X.ex\/X.s₀.heap.objs.size<=b)/\b≠X.env.locals/\(∀ x c,X.env.cells.lookup x=some c->c≠b)/\∀ p∈X.pn++pins,p.1≠b)
  (keep:∀ b o,b≠X.env.locals->b ∉ X.fs->b ∉ ch->s.heap.get? b=some o->H b=none->h'.get? b=some o)
  (slot:∀ b o,b≠X.env.locals->b∈X.fs->b ∉ ch->s.heap.get? b=some o->H b=none->∃ D,h'.get? b=some { o with slots:=D }) (free:∀ b o,b ∉ ch->s.heap.get? b=some o->H b=none->H' b=none)
  (there:∀ b o,b ∉ ch->s.heap.get? b=some o->∃ C,h'.get? b=some C)
  (Gi:∀ b xs,H b=some (.tup xs)->H' b=some (.tup xs)) (vh:∀ b o u,H b=some (.Hb o u)->H' b=some (.Hb o u)) (di:∀ b ps,H b=some (.Im ps)->∃ more,H' b=some (.Im (ps++more)))
  (ns:∀ m,s.heap.Ns X.env.locals m->h'.Ns X.env.locals m) (dc:Ni X.prog X.w H' h') (hg:Tg g') :
  Inv X pins σ H' { s with heap:=h',gens:=g',drawn:=d',toks:=t' }:=by
 have B:∀ b o,X.s₀.heap.get? b=some o->b≠X.env.locals:=λb o e=>Ea (Ja (za e) I.ok.above);have t:∀ b o,X.s₀.heap.get? b=some o->b ∉ X.ex->b ∉ ch:=λb o e a hb=>by
  rcases(g b hb).1 with z|z
  ·exact a z
  ·exact absurd (Ja (za e) z) (Md _)
 have f:∀ x c,X.env.cells.lookup x=some c->∀ v,s.heap.IsCell c v->h'.IsCell c v:=λx c e v ⟨o,y,hd⟩=>by
  have h:c ∉ ch:=λz=>(g c z).2.2.1 x c e rfl;by_cases hc:c∈X.fs
  ·obtain⟨D,q⟩:=slot c o (I.px x c e) hc h y (I.rg x c e);exact⟨_,q,hd⟩
  ·exact⟨o,keep c o (I.px x c e) hc h y (I.rg x c e),hd⟩
 refine⟨I.ok,I.os,hg,⟨λb o e n hb a=>?_,λb o e n hb a=>?_,λb o e n a=>?_,λb o e a=>?_,λb xs e=>Gi b xs (I.base.Gi b xs e),λb o xs e=>vh b o xs (I.base.vh b o xs e),λb ps e=>?_⟩,?_,λx c e=>?_,?_,λx c e=>?_,λp F=>?_,dc,I.len⟩
 ·exact keep b o (B b o e) hb (t b o e a) (I.base.keep b o e n hb a) (I.base.free b o e n a)
 ·obtain⟨D,j⟩:=I.base.slot b o e n hb a;obtain⟨E,A⟩:=slot b _ (B b o e) hb (t b o e a) j (I.base.free b o e n a);exact⟨E,A⟩
 ·obtain⟨C,j⟩:=I.base.there b o e a;exact free b C (t b o e a) j (I.base.free b o e n a)
 ·obtain⟨C,j⟩:=I.base.there b o e a;exact there b C (t b o e a) j
 ·obtain⟨L,j⟩:=I.base.di b ps e;obtain⟨M,A⟩:=di b _ j;exact⟨L++M,by rw[A,Sk]⟩
 ·obtain⟨m,hn,K⟩:=I.loc;refine⟨m,ns m hn,λi x v j A J=>?_⟩;obtain⟨u,r,l⟩:=K i x v j A J;refine⟨u,r,?_⟩;rcases l with l|⟨k,c,e,z⟩
  ·exact .inl l
  ·exact .inr ⟨k,c,e,f x c e _ z⟩
 ·obtain⟨v,z⟩:=I.cell x c e;exact⟨v,f x c e v z⟩
 ·obtain⟨m,⟨o,_,_,y,_⟩,_⟩:=I.loc;exact free _ o (λz=>(g _ z).2.1 rfl) y I.free
 ·obtain⟨v,o,y,hd⟩:=I.cell x c e;exact free c o (λz=>(g c z).2.2.1 x c e rfl) y (I.rg x c e)
 ·obtain⟨e,n,ne,G,d⟩:=I.pin p F;have h:p.1 ∉ ch:=λz=>(g p.1 z).2.2.2 p F rfl;exact⟨keep p.1 p.2 ne G h e n,free p.1 p.2 h e n,ne,G,d⟩
theorem Inv.un{t':Nat}(I:Inv X pins σ H s)(u:Un X.fs [] H H' s.heap h')(dc:Ni X.prog X.w H' h'):Inv X pins σ H' { s with heap:=h',toks:=t' }:=by
 obtain⟨m,⟨o,i,h,f,r⟩,_⟩:=id I.loc;obtain⟨l,hL⟩:=u.any f I.free (by simp);exact I.step (g':=s.gens) (d':=s.drawn) (ch:=[]) (λ_ z=>nomatch z) (λb o _ hb _ e n=>u.keep b o e n hb (by simp)) (λb o _ hb _ e n=>u.slot b o e n hb (by simp)) (λb o _ e n=>u.free b o e n (by simp)) (λb o _ e=>u.there b o e (by simp)) u.Gi u.vh u.di (λj hm=>by
  obtain⟨k,d,c,a,g⟩:=hm;rw[f]at a;cases a;exact⟨_,d,c,hL,g⟩) dc I.bare
theorem Inv.call{g':Array Hs}{t':Nat}{d':NL}{ch:List Addr}(I:Inv X pins σ H s)(u:Un (Nj X.stack) ch H H' s.heap h')(dc:Ni X.prog X.w H' h')(hg:Tg g')
  (a:∀ b∈ch,(b∈X.ex\/X.s₀.heap.objs.size<=b)/\b≠X.env.locals/\(∀ x c,X.env.cells.lookup x=some c->c≠b)/\∀ p∈X.pn++pins,p.1≠b) :
  Inv X pins σ H' { s with heap:=h',gens:=g',drawn:=d',toks:=t' }:=by
 obtain⟨m,⟨o,k,j,h,r⟩,_⟩:=id I.loc;obtain⟨t,hL⟩:=u.any h I.free λz=>(a _ z).2.1 rfl;exact I.step (ch:=ch) a (λb o hL hb hc e n=>u.keep b o e n (λz=>(ib.mp (I.js b z)).elim hL hb) hc) (λb o _ _ hc e n=>u.any e n hc) (λb o hc e n=>u.free b o e n hc) (λb o hc e=>u.there b o e hc) u.Gi u.vh u.di (λl hm=>by
  obtain⟨q,g,f,d,i⟩:=hm;rw[h]at d;cases d;exact⟨_,g,f,hL,i⟩) dc hg
theorem Inv.turned{t':Nat}{it:Addr}(I:Inv X pins σ H s)(k:∀ b o,b≠it->s.heap.get? b=some o->h'.get? b=some o)(hn:H it=none)(hL:it≠X.env.locals)
  (h1:it∈X.ex\/X.s₀.heap.objs.size<=it) (g:∀ x c,X.env.cells.lookup x=some c->c≠it) (h3:∀ p∈X.pn++pins,p.1≠it):Inv X pins σ H { s with heap:=h',toks:=t' }:=by
 have a:∀ b u,H b=some u->b≠it:=λb u e z=>by rw[z,hn]at e;cases e
 refine I.step (g':=s.gens) (d':=s.drawn) (ch:=[it]) (λb hb=>?_) (λb o _ _ hc e _=>k b o (λz=>hc (by simp[z])) e) (λb o _ _ hc e _=>⟨o.slots,k b o (λz=>hc (by simp[z])) e⟩) (λ_ _ _ _ n=>n)
  (λb o hc e=>⟨o,k b o (λz=>hc (by simp[z])) e⟩) (λ_ _ e=>e) (λ_ _ _ e=>e) (λb i e=>⟨#[],by rw[e];simp⟩) (λm hm=>?_) (λb u e=>?_) I.bare
 ·have e:b=it:=by simpa using hb
  subst e;exact⟨h1,hL,g,h3⟩
 ·obtain⟨o,f,d,h,r⟩:=hm;exact⟨o,f,d,k _ o (Ye hL) h,r⟩
 ·refine(I.dc b u e).zk (λc v hc q=>k c v ?_ q) (λ_ q=>q) λ_ _ q=>q;rcases hc with z|z
  ·rw[z];exact a b u e
  ·exact a c _ z
theorem Inv.tok(I:Inv X pins σ H s)(t:Nat):Inv X pins σ H { s with toks:=t }:=I.un (h':=s.heap) (t':=t) Un.refl I.dc
theorem Inv.kept{t':Nat}(I:Inv X pins σ H s)(k:∀ b u,s.heap.get? b=some u->h'.get? b=some u):Inv X pins σ H { s with heap:=h',toks:=t' }:=I.un (Un.kept k) (I.dc.kept k)
theorem Inv.laid{a:Addr}{o:HO}{t':Nat}(I:Inv X pins σ H s)(k:∀ b u,s.heap.get? b=some u->h'.get? b=some u)(c:s.heap.objs.size<=a)(d:qj X.prog X.w (upd H a o) h' a o) :
  Inv X pins σ (upd H a o) { s with heap:=h',toks:=t' }:=I.un (Un.laid k c (I.dc.fresh c)) (I.dc.laid k c d)
theorem Inv.write{x e:Addr}{o:HO}{t':Nat}(I:Inv X pins σ H s)(f:zD (H x))(d:e=x\/H e=some (.own x))(k:∀ b u,b≠e->s.heap.get? b=some u->h'.get? b=some u)(a:∃ u,h'.get? e=some u)
  (c:qj X.prog X.w (upd H x o) h' x o):Inv X pins σ (upd H x o) { s with heap:=h',toks:=t' }:=I.un (Un.write f d k a) (I.dc.write f d k a c)
theorem Inv.zj{a:List (Addr × Bc)}(I:Inv X pins σ H s)(h:∀ p∈a,s.heap.get? p.1=some p.2/\H p.1=none/\p.1≠X.env.locals/\p.1 ∉ X.fs/\∀ v,p.2.data≠.cell v):Inv X a σ H s:=
 ⟨I.ok,I.os,I.bare,I.base,I.loc,I.cell,I.free,I.rg,λp b=>(uj.mp b).elim (λz=>I.pin p (Qa _ z)) (h p),I.dc,I.len⟩
theorem TJ{N:List Str}(hN:N.Nodup){i j:Nat}{x:Str}(a:N[i]?=some x)(b:N[j]?=some x):i=j:=by
 obtain⟨h1,c⟩:=ra.mp a;obtain⟨e,d⟩:=ra.mp b;exact(List.getElem_inj hN).mp (c.trans d.symm)
theorem ES{M:Ll}{A:Fa}{E:Value->aa->Prop}{i:Nat}{x:Str}{v:V}{u:Value}{Q:Unit->aa->Prop}(I:Inv X pins σ H s)(hN:X.N.Nodup)(O:X.N[i]?=some x)(t:Loc X.env.scope x)(r:Ed v u)
  (h:∀ s',Inv X pins (σ.set i (some v)) H s'->(∃ a,Of a s.heap s'.heap/\(a=X.env.locals\/X.env.cells.lookup x=some a))->Q () s') (hf:X.fn x=true\/X.env.scope.names.lookup x=some .local:=by first|exact .inl rfl|exact .inr rfl|assumption):wpAny M A (storeName X.env x u) Q E s:=by
 obtain⟨m,hn,hl⟩:=id I.loc;have L:(X.env.scope.kind == .class || (X.env.scope.kind == .module && X.env.locals != X.env.globals))=false:=by rw[I.ok.kind];rfl
 have D:i<σ.length:=by rw[I.len];exact(ra.mp O).1
 have px:=I.px;have l:∀ {a:Addr} {h':Heap},(∃ o,s.heap.get? a=some o/\H a=none)->Of a s.heap h'->Ni X.prog X.w H h':=fun {a h'} ha f b ob e=>by
  obtain⟨_,_,B⟩:=ha;refine(I.dc b ob e).zk (λc T hc q=>(f.2 c ?_).trans q) (λ_ q=>q) λ_ _ q=>q;rintro rfl;rcases hc with rfl|hc
  ·rw[B]at e;cases e
  ·rw[B]at hc;cases hc
 rcases t with F|F
 ·refine wpAny_storeName_local F hn (λh' W f=>?_) L;obtain⟨oL,_,_,Y,_⟩:=id hn;refine h _ ⟨I.ok,I.os,I.bare,⟨λb o e n hb t=>?_,λb o e n hb t=>?_,I.base.free,λb o e t=>?_,I.base.Gi,I.base.vh,I.base.di⟩,⟨_,W,λj y v' g C U=>?_⟩,λy c e=>?_,I.free,I.rg,λp Z=>?_,l ⟨oL,Y,I.free⟩ f,by simpa using I.len⟩ ⟨_,f,.inl rfl⟩
  ·exact(f.2 b (Ea (Ja (za e) I.ok.above))).trans (I.base.keep b o e n hb t)
  ·obtain⟨sl,g⟩:=I.base.slot b o e n hb t;exact⟨sl,(f.2 b (Ea (Ja (za e) I.ok.above))).trans g⟩
  ·obtain⟨o',g⟩:=I.base.there b o e t;exact⟨o',(f.2 b (Ea (Ja (za e) I.ok.above))).trans g⟩
  ·by_cases hj:j=i
   ·subst hj;rw[O]at g;cases g;rw[Zi D]at C;cases C;exact⟨u,r,.inl ⟨F,by simp⟩⟩
   ·rw[Uj (Ye hj)]at C;obtain⟨u',r',q⟩:=hl j y v' g C U;refine⟨u',r',?_⟩;rcases q with⟨k,e⟩|⟨k,c,e,z⟩
    ·refine .inl ⟨k,?_⟩;have:y≠x:=λe=>hj (TJ hN g (e ▸ O));simp[this,e]
    ·exact .inr ⟨k,c,e,z.sameBut f (px y c e)⟩
  ·obtain⟨T,z⟩:=I.cell y c e;exact⟨T,z.sameBut f (px y c e)⟩
  ·obtain⟨e,n,ne,nf,d⟩:=I.pin p Z;exact⟨(f.2 p.1 ne).trans e,n,ne,nf,d⟩
 ·have G:X.fn x=true:=by
   rcases hf with z|z
   ·exact z
   ·rw[z]at F;cases F
  obtain⟨c,hc⟩:=I.ok.has x (.inl F);obtain⟨T,z⟩:=I.cell x c hc;refine wpAny_storeName_cell I.ok.kind F hc z (λh' J f=>?_);obtain⟨oc,P,R⟩:=id z;refine h { s with heap:=h' } ⟨I.ok,I.os,I.bare,⟨λb o e n hb t=>?_,λb o e n hb t=>?_,I.base.free,λb o e t=>?_,I.base.Gi,I.base.vh,I.base.di⟩,⟨m,hn.sameBut f (Ye (px x c hc)),λj y v' g C U=>?_⟩,λy S e=>?_,I.free,I.rg,λp Z=>?_,l ⟨oc,P,I.rg x c hc⟩ f,by simpa using I.len⟩ ⟨c,f,.inr hc⟩
  ·exact(f.2 b (Ea (Ja (za e) (I.ok.uy x c G hc)))).trans (I.base.keep b o e n hb t)
  ·obtain⟨sl,g⟩:=I.base.slot b o e n hb t;exact⟨sl,(f.2 b (Ea (Ja (za e) (I.ok.uy x c G hc)))).trans g⟩
  ·obtain⟨o',g⟩:=I.base.there b o e t;exact⟨o',(f.2 b (Ea (Ja (za e) (I.ok.uy x c G hc)))).trans g⟩
  ·by_cases hj:j=i
   ·subst hj;rw[O]at g;cases g;rw[Zi D]at C;cases C;exact⟨u,r,.inr ⟨.inl F,c,hc,J⟩⟩
   ·rw[Uj (Ye hj)]at C;obtain⟨u',r',q⟩:=hl j y v' g C U;refine⟨u',r',?_⟩;rcases q with q|⟨k,S,e,z'⟩
    ·exact .inl q
    ·refine .inr ⟨k,S,e,z'.sameBut f ?_⟩;rintro rfl;exact hj (TJ hN g (I.ok.inj _ _ _ e hc ▸ O))
  ·by_cases K:S=c
   ·subst K;exact⟨_,J⟩
   ·obtain⟨w2,z2⟩:=I.cell y S e;exact⟨w2,z2.sameBut f K⟩
  ·obtain⟨e,n,ne,nf,d⟩:=I.pin p Z;refine⟨(f.2 p.1 ?_).trans e,n,ne,nf,d⟩;intro q;rw[q,P]at e;have q':oc=p.2:=yb e;exact d T (by rw[<-q'];exact R)
theorem xL{M:Ll}{A:Fa}{E:Value->aa->Prop}{i:Nat}{x:Str}{v:V}{u:Value}{Q:Unit->aa->Prop}(I:Inv X pins σ H s)(hN:X.N.Nodup)(c:X.N[i]?=some x)(d:Loc X.env.scope x)(r:Ed v u)
  (h:∀ s',Inv X pins (σ.set i (some v)) H s'->Q () s') (b:X.fn x=true\/X.env.scope.names.lookup x=some .local:=by first|exact .inl rfl|exact .inr rfl|assumption):wpAny M A (storeName X.env x u) Q E s:=
 ES I hN c d r (λs' a _=>h s' a) b
theorem Inv.Dv{s':aa}{ch:List Addr}(I:Inv X pins σ H s)(d:s'.os=s.os)(u:Un (Nj X.stack) ch H H' s.heap s'.heap)(dc:Ni X.prog X.w H' s'.heap)(hg:Tg s'.gens)
  (a:∀ b∈ch,(b∈X.ex\/X.s₀.heap.objs.size<=b)/\b≠X.env.locals/\(∀ x c,X.env.cells.lookup x=some c->c≠b)/\∀ p∈X.pn++pins,p.1≠b):Inv X pins σ H' s':=by
 obtain⟨h',g',d',t',f⟩:=s';have e:f=s.os:=d;subst e;exact I.call (g':=g') (t':=t') (d':=d') u dc hg a
end
abbrev XK:=Value->Option Addr->Hp->Prop
abbrev St:=List (Option V)
abbrev VK:=V->Hp->Prop
abbrev TE:=St->Hp->VK->Prop
abbrev TT:=St->Hp->(Bool->Hp->Prop)->Prop
abbrev TA:=St->Hp->(List V->Hp->Prop)->Prop
structure Ends where
 nx:St->Hp->Prop
 rt:VK
 bk:St->Hp->Prop:=λ_ _=>False
 ct:St->Hp->Prop:=λ_ _=>False
abbrev TS:=Ends->St->Hp->Prop
def EP(X:Cx)(a:List (Addr × Bc))(σ:St)(Q:VK)(u:Value)(s':aa):Prop:=∃ v b,Inv X a σ b s'/\Ed v u/\Q v b
def TP(X:Cx)(a:List (Addr × Bc))(σ:St)(Q:Bool->Hp->Prop)(b:Bool)(s':aa):Prop:=∃ c,Inv X a σ c s'/\Q b c
def AP(X:Cx)(a:List (Addr × Bc))(σ:St)(Q:List V->Hp->Prop)(us:List Value)(s':aa):Prop:=∃ c b,Inv X a σ b s'/\ue c us/\Q c b
def SP(X:Cx)(b:List (Addr × Bc))(D:Ends)(f:Flow)(s':aa):Prop:=
 match f with
 | .next=>∃ a c,Inv X b a c s'/\D.nx a c
 | .brk=>∃ a c,Inv X b a c s'/\D.bk a c
 | .cont=>∃ a c,Inv X b a c s'/\D.ct a c
 | .ret u=>∃ v a c,Inv X b a c s'/\Ed v u/\D.rt v c
def PE(X:Cx)(e:Ca)(t:TE):Prop:=
 ∀ (a:List (Addr × Bc)) (s:aa) (σ:St) (H:Hp) (Q:VK),Inv X a σ H s->t σ H Q->wpAny (model X.prog X.w) X.A (Ib e X.env) (EP X a σ Q) X.xe s
def PT(X:Cx)(e:Ca)(t:TT):Prop:=
 ∀ (a:List (Addr × Bc)) (s:aa) (σ:St) (H:Hp) (Q:Bool->Hp->Prop),Inv X a σ H s->t σ H Q->wpAny (model X.prog X.w) X.A (uA e X.env (Ib e X.env)) (TP X a σ Q) X.xe s
def PW(X:Cx)(e:Ca)(t:TT):Prop:=
 ∀ (a:uo Value) (pins:List (Addr × Bc)) (s:aa) (σ:St) (H:Hp) (Q:Bool->Hp->Prop),Inv X pins σ H s->t σ H Q->wpAny (model X.prog X.w) X.A (uA e X.env a) (TP X pins σ Q) X.xe s
theorem PW.pt{X:Cx}{e:Ca}{t:TT}(h:PW X e t):PT X e t:=h _
def PA(X:Cx)(b:List Ca)(t:TA):Prop:=
 ∀ (a:re) (pins:List (Addr × Bc)) (s:aa) (σ:St) (H:Hp) (Q:List V->Hp->Prop),Inv X pins σ H s->t σ H Q->wpAny (model X.prog X.w) X.A (spliced (nc a (pa b X.env))) (AP X pins σ Q) X.xe s
def PS(X:Cx)(b:Stmt)(t:TS):Prop:=
 ∀ (a:List (Addr × Bc)) (s:aa) (σ:St) (H:Hp) (D:Ends),Inv X a σ H s->t D σ H->wpAny (model X.prog X.w) X.A (exec b X.env) (SP X a D) X.xe s
def Ms(X:Cx)(b:List Stmt)(t:TS):Prop:=
 ∀ (a:List (Addr × Bc)) (s:aa) (σ:St) (H:Hp) (D:Ends),Inv X a σ H s->t D σ H->wpAny (model X.prog X.w) X.A (execs b X.env) (SP X a D) X.xe s
theorem be{c:Type}{t:uo c}{Q b:c->aa->Prop}{M:Ll}{A:Fa}{E:Value->aa->Prop}{s:aa}(h:wpAny M A t Q E s)(d:∀ a s,Q a s->b a s):wpAny M A t b E s:=bc h d λ_ _ x=>x
section
variable{X:Cx}
theorem bin{a b:Ca}{j tb:TE}(n:PE X a j)(hb:PE X b tb){c:List (Addr × Bc)}{s:aa}{σ:St}{H:Hp}{R:V->V->Hp->Prop}(I:Inv X c σ H s)(h:j σ H λx i=>tb σ i λy d=>R x y d)
  {k:Type} {Q:k->aa->Prop} {f:Value->Value->uo k}
  (o:∀ v u s2 x y d,Inv X c σ d s2->Ed x v->Ed y u->R x y d->wpAny (model X.prog X.w) X.A (f v u) Q X.xe s2) :
  wpAny (model X.prog X.w) X.A (Ib a X.env) (λv e=>wpAny (model X.prog X.w) X.A (Ib b X.env) (λu g=>wpAny (model X.prog X.w) X.A (f v u) Q X.xe g) X.xe e) X.xe s:=by
 refine be (n c s σ H _ I h) λv s1 ⟨x,i,l,r,p⟩=>?_;refine be (hb c s1 σ i _ l p) λu s2 ⟨y,d,m,t,q⟩=>?_;exact o v u s2 x y d m r t q
noncomputable def F8(i:Nat):TE:=λa H Q=>∃ v,a[i]?=some (some v)/\Q v H
noncomputable def tC(v:V):TE:=λ_ H Q=>Q v H
theorem ZV{i:Nat}{x:Str}{pos:re}(hN:X.N[i]?=some x)(k:yJ X.env.scope x)(hd:(x == ("__debug__" : Str))=false:=by decide)(g:(x == ("__classdict__" : Str))=false:=by decide):PE X (.Name x pos) (F8 i):=by
 intro f s n H Q I h;obtain⟨v,e,h⟩:=h;obtain⟨m,hn,j⟩:=I.loc;obtain⟨u,r,l⟩:=j i x v hN e k;have b:EP X f n Q u s:=⟨v,H,I,r,h⟩
 rcases l with⟨d,hm⟩|⟨d,c,hc,a⟩
 ·exact lA (wpAny_loadName_local I.ok.kind d hn hm b) hd
 ·rcases d with d|d
  ·exact lA (wpAny_loadName_cell I.ok.kind d hc a b) hd
  ·exact lA (wpAny_loadName_free I.ok.kind d hc a b g) hd
theorem J8{i j pos}:PE X (.Constant (.int i) j pos) (tC (.int i)):=λ_ _ _ H _ I h=>wpAny_Constant_int ⟨.int i,H,I.tok _,⟨_,rfl⟩,h⟩
theorem D2{b j pos}:PE X (.Constant (.bool b) j pos) (tC (.bl b)):=λ_ _ _ H _ I h=>Constant_bool ⟨.bl b,H,I,rfl,h⟩
theorem WU{j pos}:PE X (.Constant .none j pos) (tC .Vb):=λ_ _ _ H _ I h=>Constant_none ⟨.Vb,H,I,rfl,h⟩
theorem MZ{x j pos}:PE X (.Constant (.str x) j pos) (tC (.str x)):=λ_ _ _ H _ I h=>Calls.Constant_str ⟨.str x,H,I.tok _,⟨_,rfl⟩,h⟩
def Gl(X:Cx)(x:Str):Prop:=X.env.kindOf x=some .globalImplicit
theorem DA{E:Value->aa->Prop}{a:List (Addr × Bc)}{s:aa}{σ:St}{H:Hp}{x:Str}{u:Value}{pos:re}{Q:Value->aa->Prop}(I:Inv X a σ H s)(hg:Gl X x)(hm:X.mg x=some u)(h:Q u s)
  (hd:(x == ("__debug__" : Str))=false:=by decide):wpAny (model X.prog X.w) X.A (Ib (.Name x pos) X.env) Q E s:=
 gp I.ok.kind hg (Calls.loadGlobal_global (by rw[I.ok.glob];exact I.mod.glob.keeps I.bk) hm h) hd
theorem Ry{E:Value->aa->Prop}{a:List (Addr × Bc)}{s:aa}{σ:St}{H:Hp}{x:Str}{u:Value}{pos:re}{Q:Value->aa->Prop}(I:Inv X a σ H s)(hg:Gl X x)(hm:X.mg x=none)(c:bootBuiltins x=some u)(h:Q u s)
  (hn:x ≠ "__name__":=by decide) (hd:(x == ("__debug__" : Str))=false:=by decide):wpAny (model X.prog X.w) X.A (Ib (.Name x pos) X.env) Q E s:=by
 obtain⟨mb,h1,b⟩:=I.mod.blt;exact gp I.ok.kind hg (Calls.loadGlobal_builtin (by rw[I.ok.glob];exact I.mod.glob.keeps I.bk) hm (by rw[I.ok.blt];exact h1.keeps I.bk) ((b x hn).trans c) h) hd
theorem UH{x:Str}{v:V}{u:Value}{pos:re}(hg:Gl X x)(hm:X.mg x=some u)(r:Ed v u)(hd:(x == ("__debug__" : Str))=false:=by decide):PE X (.Name x pos) (tC v):=
 λ_ _ _ H _ I h=>DA I hg hm ⟨v,H,I,r,h⟩ hd
theorem ycv{x:Str}{v:V}{u:Value}{pos:re}(hg:Gl X x)(hm:X.mg x=none)(a:bootBuiltins x=some u)(r:Ed v u)(hn:x ≠ "__name__":=by decide)(hd:(x == ("__debug__" : Str))=false:=by decide):PE X (.Name x pos) (tC v):=
 λ_ _ _ H _ I h=>Ry I hg hm a ⟨v,H,I,r,h⟩ hn hd
variable{a b:Ca}{ta tb:TE}{pos:re}
def PC(X:Cx)(f:Hq)(a b:Ca)(t:TE):Prop:=
 ∀ (c:List (Addr × Bc)) (s:aa) (σ:St) (H:Hp) (Q:VK),Inv X c σ H s->t σ H Q->
  wpAny (model X.prog X.w) X.A (Ib a X.env) (λv d=>wpAny (model X.prog X.w) X.A (Ib b X.env) (λu e=>wpAny (model X.prog X.w) X.A (Wb f v u) (EP X c σ Q) X.xe e) X.xe d) X.xe s
theorem oZ(b:Ca){a:Hq}(h:a≠.In)(e:a≠.NotIn):af a b=false:=by
 have c:(a == OL)=false:=by cases a<;>first|rfl|exact absurd rfl h
 have d:(a == KB)=false:=by cases a<;>first|rfl|exact absurd rfl e
 cases b<;>simp[af,c,d]
noncomputable def tB(t:TE):TT:=λb H Q=>t b H λx a=>∃ c,x=.bl c/\Q c a
theorem yls{f:Hq}{t:TE}(h:PC X f a b t)(h1:af f b=false:=by first|exact oZ _ (by decide) (by decide)|rfl):PT X (.Compare a [f] [b] pos) (tB t):=by
 intro e s m H Q I j;refine Xw (be (h e s m H _ I j) λv s1 h1=>be h1 λu s2 i=>be i λc s3 ⟨x,H1,g,l,k⟩=>?_) h1;obtain⟨d,rfl,q⟩:=k;cases l;exact sd ⟨H1,g,q⟩
theorem gY{e:Ca}{t:TE}(h:PE X e t)(f:∀ a,uA e X.env a=(do let v <-a;Dh e.pos;ve [v] (truthy v)):=by intro _;rfl):PT X e (tB t):=by
 intro b s k H Q I g;refine isTrue_plain (be (h b s k H _ I g) λv s1 ⟨x,H1,c,j,i⟩=>?_) (f _);obtain⟨d,rfl,q⟩:=i;cases j;exact sd ⟨H1,c,q⟩
variable{tA tB':TT}{ug:List Ca}
noncomputable def t7(t u:TT):TT:=λb H Q=>t b H λc a=>if c=true then u b a Q else Q false a
noncomputable def OV(t u:TT):TT:=λb H Q=>t b H λc a=>if c=true then Q true a else u b a Q
noncomputable def J1(t:TT):TT:=λb H Q=>t b H λc a=>Q (!c) a
theorem F0(d:PT X a tA):PW X (.BoolOp .And [a] pos) tA:=by
 intro g b s f H Q I h;refine isTrue_and (be (d b s f H Q I h) λc s1 e=>?_);cases c with
 |true=>exact isTrue_and_nil e
 |false=>exact e
theorem TV(d:PT X a tA):PW X (.BoolOp .Or [a] pos) tA:=by
 intro g b s f H Q I h;refine isTrue_or (be (d b s f H Q I h) λc s1 e=>?_);cases c with
 |false=>exact isTrue_or_nil e
 |true=>exact e
theorem eX(i:PT X a tA)(hb:PW X (.BoolOp .And (b::ug) pos) tB'):PW X (.BoolOp .And (a::b::ug) pos) (t7 tA tB'):=by
 intro j d s g H Q I h;refine isTrue_and (be (i d s g H _ I h) λc s1 ⟨H1,e,f⟩=>?_);cases c with
 |true=>exact hb j d s1 g H1 Q e f
 |false=>exact⟨H1,e,f⟩
theorem O2(i:PT X a tA)(hb:PW X (.BoolOp .Or (b::ug) pos) tB'):PW X (.BoolOp .Or (a::b::ug) pos) (OV tA tB'):=by
 intro j d s g H Q I h;refine isTrue_or (be (i d s g H _ I h) λc s1 ⟨H1,e,f⟩=>?_);cases c with
 |true=>exact⟨H1,e,f⟩
 |false=>exact hb j d s1 g H1 Q e f
theorem uX(e:PT X a tA):PT X (.UnaryOp .Not a pos) (J1 tA):=by
 intro b s f H Q I h;exact isTrue_not (e b s f H (λc d=>Q (!c) d) I h)
noncomputable def P5(ta tb:TE):TE:=λb H Q=>ta b H λx a=>∃ c,x=.bl c/\if c=true then tb b a Q else Q (.bl false) a
noncomputable def S5(ta tb:TE):TE:=λb H Q=>ta b H λx a=>∃ c,x=.bl c/\if c=true then Q (.bl true) a else tb b a Q
noncomputable def GW(ta:TE):TE:=λb H Q=>ta b H λx a=>∃ c,x=.bl c/\Q (.bl (!c)) a
theorem r6{op}{t:TE}(h:PE X a t):PE X (.BoolOp op [a] pos) t:=λb s d H Q I c=>BoolOp_one (h b s d H Q I c)
theorem Z0(i:PE X a ta)(hb:PE X (.BoolOp .And (b::ug) pos) tb):PE X (.BoolOp .And (a::b::ug) pos) (P5 ta tb):=by
 intro d s g H Q I h;refine BoolOp_and (be (i d s g H _ I h) λv s1 ⟨x,H1,f,j,e⟩=>?_);obtain⟨c,rfl,e⟩:=e;cases j;refine sd ?_;cases c with
 |true=>exact hb d s1 g H1 Q f e
 |false=>exact⟨.bl false,H1,f,rfl,e⟩
theorem yrb(i:PE X a ta)(hb:PE X (.BoolOp .Or (b::ug) pos) tb):PE X (.BoolOp .Or (a::b::ug) pos) (S5 ta tb):=by
 intro d s g H Q I h;refine BoolOp_or (be (i d s g H _ I h) λv s1 ⟨x,H1,f,j,e⟩=>?_);obtain⟨c,rfl,e⟩:=e;cases j;refine sd ?_;cases c with
 |false=>exact hb d s1 g H1 Q f e
 |true=>exact⟨.bl true,H1,f,rfl,e⟩
theorem yk7(f:PE X a ta):PE X (.UnaryOp .Not a pos) (GW ta):=by
 intro b s i H Q I h;refine UnaryOp_ (be (f b s i H _ I h) λv s1 ⟨x,H1,e,g,d⟩=>?_);obtain⟨c,rfl,d⟩:=d;cases g;exact not_of (sd ⟨.bl (!c),H1,e,rfl,d⟩)
noncomputable def TX(t:TT)(ta tb:TE):TE:=λa H Q=>t a H λc b=>if c=true then ta a b Q else tb a b Q
theorem Q7{c:Ca}(hc:PT X c tA)(j:PE X a ta)(hb:PE X b tb):PE X (.IfExp c a b pos) (TX tA ta tb):=by
 intro e s f H Q I h;refine wpAny_IfExp (be (hc e s f H _ I h) λd s1 ⟨H1,g,i⟩=>?_);cases d with
 |true=>exact j e s1 f H1 Q g i
 |false=>exact hb e s1 f H1 Q g i
end
def lf(K:W.Frag)(H:Hp)(a:Addr)(xs:List V):Prop:=
 Rd H a (.lst xs)\/
  ∃ (o:Bc) (b:Array Value) (n:Nat),K.lookup a=some o/\o.cls=.type "list"/\o.dict=none/\o.data=.seq b n/\b.size<=sizeLine/\ue xs b.toList
def Ah(K:W.Frag)(H:Hp)(a:Addr)(xs:List V):Prop:=
 Rd H a (.tup xs)\/
  ∃ (o:Bc) (b:Array Value) (n:Nat),K.lookup a=some o/\o.cls=.type "tuple"/\o.data=.seq b n/\b.size<=sizeLine/\ue xs b.toList
noncomputable def yty:Value->Option V
 | .none=>some .Vb
 | .bool b=>some (.bl b)
 | .int i _=>some (.int i)
 | .str x _=>some (.str x)
 | .bytes b _=>some (.tG b)
 | .float b _=>some (.rz b)
 | .ref a=>some (.ref a)
 | .type n=>some (.ty n)
 |_=>none
theorem Ed.abs{x:V}{u:Value}(r:Ed x u):yty u=some x:=by
 cases x with
 |Vb=>cases r;rfl
 |bl _=>cases r;rfl
 |int _=>obtain⟨t,rfl⟩:=r;rfl
 |str _=>obtain⟨t,rfl⟩:=r;rfl
 |tG _=>obtain⟨t,rfl⟩:=r;rfl
 |rz _=>obtain⟨t,rfl⟩:=r;rfl
 |ref _=>cases r;rfl
 |ty _=>cases r;rfl
theorem Ed.inj{x y:V}{u:Value}(r:Ed x u)(q:Ed y u):x=y:=yb (r.abs.symm.trans q.abs)
theorem ue.inj:∀ {xs ys:List V} {us:List Value},ue xs us->ue ys us->xs=ys
 |_,_,_,.nil,.nil=>rfl
 |_,_,_,.cons r t,.cons a b=>by rw[r.inj a,ue.inj t b]
section
variable{X:Cx}{pins:List (Addr × Bc)}{σ:St}{H:Hp}{s:aa}{a:Addr}{xs ys:List V}
theorem lf.of{K:W.Frag}(h:H a=some (.lst xs)):lf K H a xs:=.inl (.inl h)
theorem Ah.of{K:W.Frag}(h:H a=some (.tup xs)):Ah K H a xs:=.inl (.inl h)
theorem Inv.list(I:Inv X pins σ H s)(h:lf X.K H a xs):∃ its:List Value,ue xs its/\PlainL s.heap a its.toArray/\xs.length<=sizeLine:=by
 rcases h with h|⟨o,its,n,b,hc,hd,c,d,r⟩
 ·obtain⟨z,its,n,r,e⟩:=h.ok I.dc;exact⟨its,r,⟨_,n,e,rfl,rfl,rfl⟩,z⟩
 ·refine⟨its.toList,r,⟨o,n,I.mj a o b,hc,hd,by simpa using c⟩,?_⟩;have e:=r.length;simp only[kh]at e;omega
theorem Inv.tuple(I:Inv X pins σ H s)(h:Ah X.K H a xs):∃ its:List Value,ue xs its/\Hu s.heap a its.toArray/\xs.length<=sizeLine:=by
 rcases h with h|⟨o,its,n,b,hc,c,d,r⟩
 ·obtain⟨z,its,r,p⟩:=h.ok I.dc;exact⟨its,r,p,z⟩
 ·refine⟨its.toList,r,⟨o,I.mj a o b,hc,n,by simpa using c⟩,?_⟩;have e:=r.length;simp only[kh]at e;omega
theorem Inv.Ck(I:Inv X pins σ H s)(h:lf X.K H a xs)(h':lf X.K H a ys):xs=ys:=by
 obtain⟨b,r,⟨o,n,e,_,_,d⟩,_⟩:=I.list h;obtain⟨its',g,⟨j,i,f,_,_,c⟩,_⟩:=I.list h';rw[e]at f;cases f;rw[d]at c;injection c with d1 _;have:b=its':=by simpa using Ad Array.toList d1
 subst this;exact r.inj g
theorem Inv.Ot(I:Inv X pins σ H s)(h:Ah X.K H a xs)(h':Ah X.K H a ys):xs=ys:=by
 obtain⟨b,r,⟨o,e,_,n,d⟩,_⟩:=I.tuple h;obtain⟨its',g,⟨j,f,_,i,c⟩,_⟩:=I.tuple h';rw[e]at f;cases f;rw[d]at c;injection c with d1 _;have:b=its':=by simpa using Ad Array.toList d1
 subst this;exact r.inj g
end
abbrev Cx.Rm(X:Cx)(E:Value->aa->Prop):Cx:={ X with xe:=E }
noncomputable abbrev Cx.So(X:Cx):Cx:=X.Rm λ_ _=>False
theorem Cx.Ok.Rm{X:Cx}(ok:X.Ok)(E:Value->aa->Prop):(X.Rm E).Ok:=
 ⟨ok.mod,ok.kind,ok.glob,ok.blt,ok.above,ok.inj,ok.has,ok.uy,ok.hd,ok.frames,ok.Np,ok.iA,ok.bs,ok.Os,ok.Xq,ok.ar,ok.Ij,ok.Yu⟩
theorem Cx.Ok.Xh{X:Cx}{E:Value->aa->Prop}(ok:(X.Rm E).Ok):X.Ok:=
 ⟨ok.mod,ok.kind,ok.glob,ok.blt,ok.above,ok.inj,ok.has,ok.uy,ok.hd,ok.frames,ok.Np,ok.iA,ok.bs,ok.Os,ok.Xq,ok.ar,ok.Ij,ok.Yu⟩
section
variable{X:Cx}{pins:List (Addr × Bc)}{σ:St}{H:Hp}{s:aa}{E:Value->aa->Prop}
theorem Inv.Rm(I:Inv X pins σ H s)(E:Value->aa->Prop):Inv (X.Rm E) pins σ H s:=⟨I.ok.Rm E,I.os,I.bare,I.base,I.loc,I.cell,I.free,I.rg,I.pin,I.dc,I.len⟩
theorem Inv.Xh(I:Inv (X.Rm E) pins σ H s):Inv X pins σ H s:=⟨I.ok.Xh,I.os,I.bare,I.base,I.loc,I.cell,I.free,I.rg,I.pin,I.dc,I.len⟩
theorem SP.Xh{D:Ends}{f:Flow}{s':aa}(h:SP (X.Rm E) pins D f s'):SP X pins D f s':=by
 cases f with
 |next=>obtain⟨a,b,I,q⟩:=h;exact⟨a,b,I.Xh,q⟩
 |brk=>obtain⟨a,b,I,q⟩:=h;exact⟨a,b,I.Xh,q⟩
 |cont=>obtain⟨a,b,I,q⟩:=h;exact⟨a,b,I.Xh,q⟩
 |ret u=>obtain⟨v,a,b,I,r,q⟩:=h;exact⟨v,a,b,I.Xh,r,q⟩
theorem PE.So{e:Ca}{t:TE}(h:PE X.So e t):PE X e t:=λpins s σ H Q I c=>
 bc (h pins s σ H Q (I.Rm _) c) (λ_ _ ⟨v,a,b,r,q⟩=>⟨v,a,b.Xh,r,q⟩) λ_ _ z=>False.elim z
theorem PT.So{e:Ca}{t:TT}(h:PT X.So e t):PT X e t:=λpins s σ H Q I c=>
 bc (h pins s σ H Q (I.Rm _) c) (λ_ _ ⟨a,b,q⟩=>⟨a,b.Xh,q⟩) λ_ _ z=>False.elim z
theorem Ms.So{a:List Stmt}{t:TS}(h:Ms X.So a t):Ms X a t:=λpins s σ H D I b=>
 bc (h pins s σ H D (I.Rm _) b) (λ_ _ q=>q.Xh) λ_ _ z=>False.elim z
end
section
variable{X:Cx}{st:Stmt}{ug:List Stmt}{t u:TS}{e:Ca}{te:TE}{pos:re}
noncomputable def wY:TS:=λD a H=>D.nx a H
noncomputable def eV(t u:TS):TS:=λD a H=>t { D with nx:=u D } a H
theorem w6:Ms X [] wY:=λ_ _ a H _ I h=>sk ⟨a,H,I,h⟩
theorem zvi(h1:PS X st t)(e:Ms X ug u):Ms X (st::ug) (eV t u):=by
 intro a s g H D I h;refine ID (be (h1 a s g H { D with nx:=u D } I h) λf s1 q=>?_);cases f with
 |next=>
  obtain⟨b,c,d,q⟩:=q;exact e a s1 b c D d q
 |ret v=>exact q
 |brk=>exact q
 |cont=>exact q
theorem AX(h1:PS X st t):Ms X [st] t:=by
 intro a s b H D I h;refine ID (be (h1 a s b H D I h) λf s1 q=>?_);cases f with
 |next=>exact sk q
 |ret v=>exact q
 |brk=>exact q
 |cont=>exact q
theorem Inv.quiet{a:List (Addr × Bc)}{σ:St}{H:Hp}{s:aa}(I:Inv X a σ H s):interactive X.env=false:=by simp[interactive,I.ok.kind]
noncomputable def pV(te:TE):TS:=λD a H=>te a H λ_ b=>D.nx a b
theorem V2(d:PE X e te)(f:yi e none pos.line X.env=pure false:=by rfl):PS X (.Expr e pos) (pV te):=by
 intro a s b H D I h;exact wpAny_Expr_any (be (d a s b H _ I h) λv s1 ⟨x,H1,c,i,g⟩=>⟨b,H1,c,g⟩) I.quiet f
noncomputable def oW(te:TE):TS:=λD a H=>te a H D.rt
theorem kX(d:PE X e te):PS X (.Return (some e) pos) (oW te):=by
 intro a s b H D I h;exact wpAny_Return_some (be (d a s b H _ I h) λv s1 ⟨x,H1,c,g,f⟩=>⟨x,b,H1,c,g,f⟩)
noncomputable def lX(c:TT)(t u:TS):TS:=λD a H=>c a H λb d=>if b=true then t D a d else u D a d
theorem lV{c:Ca}{a b:List Stmt}{j:TT}(hc:PT X c j)(k:Ms X a t)(hb:Ms X b u):PS X (.If c a b pos) (lX j t u):=by
 intro e s f H D I h;refine wpAny_If (be (hc e s f H _ I h) λd s1 ⟨H1,g,i⟩=>?_);cases d with
 |true=>exact k e s1 f H1 D g i
 |false=>exact hb e s1 f H1 D g i
end
abbrev TG:=V->St->Hp->(St->Hp->Prop)->Prop
abbrev Ky:=List V->St->Hp->(St->Hp->Prop)->Prop
def PG(X:Cx)(a:Ca)(t:TG):Prop:=
 ∀ (b:List (Addr × Bc)) (s:aa) (σ:St) (H:Hp) (v:V) (u:Value) (Q:St->Hp->Prop),Inv X b σ H s->Ed v u->t v σ H Q->
  wpAny (model X.prog X.w) X.A (yj a X.env u) (λ_ e=>∃ c d,Inv X b c d e/\Q c d) X.xe s
def yC(X:Cx)(f:List Ca)(t:Ky):Prop:=
 ∀ (a:List (Addr × Bc)) (s:aa) (σ:St) (H:Hp) (d:List V) (us:List Value) (Q:St->Hp->Prop),Inv X a σ H s->ue d us->t d σ H Q->
  wpAny (model X.prog X.w) X.A (assignInOrder ((bf f X.env).map (·.2)) us) (λ_ e=>∃ b c,Inv X a b c e/\Q b c) X.xe s
abbrev EF:=V->V->V->Hp->(Hp->Prop)->Prop
def uH(X:Cx)(t:EF):Prop:=
 ∀ (a:List (Addr × Bc)) (s:aa) (σ:St) (H:Hp) (o i v:V) (d c u:Value) (Q:Hp->Prop),Inv X a σ H s->Ed o d->Ed i c->Ed v u->t o i v H Q->
  wpAny (model X.prog X.w) X.A (Yv d c u) (λ_ e=>∃ b,Inv X a σ b e/\Q b) X.xe s
section
variable{X:Cx}{pos:re}
noncomputable def aO(i:Nat):TG:=λv a H Q=>Q (a.set i (some v)) H
theorem yc1{i:Nat}{x:Str}(hN:X.N.Nodup)(d:X.N[i]?=some x)(e:Loc X.env.scope x)(c:X.fn x=true\/X.env.scope.names.lookup x=some .local:=by first|exact .inl rfl|exact .inr rfl|assumption):PG X (.Name x pos) (aO i):=by
 intro a s g H v u Q I r h;exact CB (xL I hN d e r (λf b=>⟨_,H,b,h⟩) c)
noncomputable def nX:Ky:=λa b H Q=>a=[]/\Q b H
noncomputable def N2(t:TG)(u:Ky):Ky:=λc d H Q=>∃ v r,c=v::r/\t v d H λa b=>u r a b Q
theorem yc2:yC X [] nX:=by
 intro a s b H d c Q I r h;obtain⟨e,h⟩:=h;subst e;cases r;exact assignInOrder_nil ⟨b,H,I,h⟩
theorem hW{e:Ca}{b:List Ca}{t:TG}{u:Ky}(h1:PG X e t)(g:yC X b u)
  (i:(bf (e::b) X.env).map (·.2)=yj e X.env::(bf b X.env).map (·.2):=by rfl):yC X (e::b) (N2 t u):=by
 intro a s l H o m Q I r h;obtain⟨v,n,f,h⟩:=h;subst f;cases r with
 |cons r k=>
  rw[i];refine assignInOrder_cons (be (h1 a s l H _ _ _ I r h) λ_ s1 ⟨c,H1,d,j⟩=>?_);exact g a s1 c H1 _ _ Q d k j
noncomputable def A5(K:W.Frag)(n:Nat)(t:Ky):TG:=λv b H Q=>∃ a xs,v=.ref a/\Ah K H a xs/\xs.length=n/\t xs b H Q
theorem uW{d:List Ca}{k:Nat}{t:Ky}{n:Nat}(hc:X.calm=true)(h:yC X d t)
  (hn:(bf d X.env).length=n:=by rfl) (f:(bf d X.env).findIdx? (·.1)=none:=by rfl):PG X (.Tuple d k pos) (A5 X.K n t):=by
 intro c s j H v u Q I r g;obtain⟨a,xs,m,hq,q,g⟩:=g;subst m;cases r;obtain⟨x,i,ht,y⟩:=I.tuple hq;refine assign_Tuple_tuple (I.ok.hd hc) ht (by simp[hn,<-q,i.length]) f λp w=>?_;have l:Inv X c j H { s with heap:=p }:=I.kept (t':=s.toks) λb o e=>w b o (Ea (za e)) e;exact h c _ j H xs _ Q l (by simpa using i) g
noncomputable def iV(to e:TE)(t:EF):TG:=λv a H Q=>to a H λo b=>e a b λi c=>t o i v c λd=>Q a d
theorem WQ{o i:Ca}{to e:TE}{t:EF}(p:PE X o to)(n:PE X i e)(q:uH X t)
  (m:∀ v,yj (.Subscript o i pos) X.env v=(do
   let b <-ve [v] (Ib o X.env);let c <-ve [v,b] (Ib i X.env)
   Dh pos
   ve [v,b,c] (Yv b c v)
   release [v,b,c] []):=by intro _;rfl):PG X (.Subscript o i pos) (iV to e t):=by
 intro a s d H v u Q I r h;rw[m];refine ba (Td (be (p a s d H _ I h) λb s1 ⟨x,H1,j,B,w⟩=>?_));refine ba (Td (be (n a s1 d H1 _ j w) λc s2 ⟨y,f,k,C,z⟩=>?_));refine ba (Yt (ba (Td (be (q a s2 d f x y v b c u _ k B C r z) λ_ s3 ⟨g,l,A⟩=>?_))));exact wpAny_release ⟨d,g,l,A⟩
noncomputable def QO(c:TE)(g:TG):TS:=λD a H=>c a H λx b=>g x a b D.nx
theorem QR{tg e:Ca}{b:TE}{g:TG}(f:PE X e b)(hg:PG X tg g)(i:iu [tg] e pos.line X.env=pure false:=by rfl)(j:ju [tg] e X.env=pure none:=by rfl)
  (h1:(bf [tg] X.env).map (·.2)=[yj tg X.env]:=by rfl):PS X (.Assign [tg] e pos) (QO b g):=by
 intro a s c H D I h;refine wpAny_Assign_stores (be (f a s c H _ I h) λv s1 ⟨x,H1,d,l,k⟩=>?_) i j;rw[h1];exact be (hg a s1 c H1 x v _ d l k) λ_ s2 q=>q
theorem ylr{i:Nat}{x:Str}{e:Ca}{c:TE}{a:re}(hN:X.N.Nodup)(k:X.N[i]?=some x)(m:Loc X.env.scope x)(g:PE X e c)(l:yi e (some (.Name x a)) pos.line X.env=pure false:=by rfl)(j:X.fn x=true\/X.env.scope.names.lookup x=some .local:=by first|exact .inl rfl|exact .inr rfl|assumption) :
  PS X (.Assign [.Name x a] e pos) (QO c (aO i)):=by
 intro b s p H D I h;refine wpAny_Assign_Name (be (g b s p H _ I h) λv s1 ⟨y,H1,d,o,n⟩=>?_) l;exact xL d hN k m o (λs2 f=>⟨_,H1,f,n⟩) j
end
section
variable{X:Cx}{pos:re}
end
structure It where
 go:Nat->Hp->Prop
 rB:Nat->Hp->V->Hp->Prop
 stop:Nat->Hp->Prop
def Nm(X:Cx)(a:List (Addr × Bc))(H:Hp)(b:Addr):Prop:=
 H b=none/\b≠X.env.locals/\b ∉ X.fs/\(b∈X.ex\/X.s₀.heap.objs.size<=b)/\(∀ x c,X.env.cells.lookup x=some c->c≠b)/\∀ p∈X.pn++a,p.1≠b
theorem Inv.Qp{X:Cx}{a:List (Addr × Bc)}{σ:St}{H d:Hp}{s:aa}{b:Addr}(I:Inv X a σ H s)(hb:s.heap.objs.size<=b)(hn:d b=none):Nm X a d b:=by
 refine⟨hn,Cg (Ja I.lt hb),I.FC hb,.inr (cc I.sz hb),λx c e z=>?_,λp f z=>?_⟩
 ·obtain⟨v,q⟩:=I.cell x c e;exact absurd (Ja q.lt (by rw[z];exact hb)) (Md _)
 ·exact absurd (Ja (za (I.pin p f).1) (by rw[z];exact hb)) (Md _)
structure Turn(P:Aa)(w:Ia)(K:W.Frag)(tg:Ca)(J:It)(fp:List Addr)(it:Addr)(tn:Nat->Heap->Prop):Prop where
 mem:it∈fp
 obj:∀ i h,tn i h->∀ b∈fp,∃ o,h.get? b=some o/\∀ v,o.data≠.cell v
 keep:∀ i h h',tn i h->(∀ b∈fp,∀ o,h.get? b=some o->h'.get? b=some o)->tn i h'
 item:∀ (X:Cx),X.prog=P->X.w=w->X.K=K->X.calm=true->∀ (i:Nat) (pins:List (Addr × Bc)) (s:aa) (σ:St) (H:Hp) (E:Value->aa->Prop),Inv X pins σ H s->(∀ b∈fp,Nm X pins H b)->tn i s.heap->J.go i H->
  wpAny (model P w) X.A (pyNext (.ref it)) (λr s1=>∃ u,r=some u/\
   wpAny (model P w) X.A (letOwnedTupleGo tg (.ref it) u) (λ_ s2=>∃ x H',Inv X pins σ H' s2/\Ed x u/\J.rB i H x H'/\tn (i+1) s2.heap/\∀ b∈fp,H' b=none) E s1) E s
 done:∀ (X:Cx),X.prog=P->X.w=w->X.K=K->X.calm=true->∀ (i:Nat) (pins:List (Addr × Bc)) (s:aa) (σ:St) (H:Hp) (E:Value->aa->Prop),Inv X pins σ H s->(∀ b∈fp,Nm X pins H b)->tn i s.heap->J.stop i H->
  wpAny (model P w) X.A (pyNext (.ref it)) (λr s1=>r=none/\Inv X pins σ H s1) E s
 self:∀ (A:Fa) (i:Nat) (s:aa) (Q:Value->aa->Prop) (E:Value->aa->Prop),tn i s.heap->Q (.ref it) s->wpAny (model P w) A (pyIter (.ref it)) Q E s
abbrev TI:=St->Hp->(It->Hp->Prop)->Prop
def pO(X:Cx)(a:List (Addr × Bc))(σ:St)(tg:Ca)(R:It->Hp->Prop)(d:Value)(s2:aa):Prop:=
 ∃ (f:Addr) (e:List Addr) (g:Nat->Heap->Prop) (J:It) (c:Hp),d=.ref f/\Inv X a σ c s2/\Turn X.prog X.w X.K tg J e f g/\g 0 s2.heap/\(∀ b∈e,Nm X a c b)/\R J c
def PI(X:Cx)(tg b:Ca)(c:TI):Prop:=
 ∀ (a:List (Addr × Bc)) (s:aa) (σ:St) (H:Hp) (R:It->Hp->Prop),Inv X a σ H s->c σ H R->
  wpAny (model X.prog X.w) X.A (Ib b X.env) (λv s1=>wpAny (model X.prog X.w) X.A (pyIter v) (pO X a σ tg R) X.xe s1) X.xe s
theorem kE {M : Ll} {A : Fa} {E : Value -> aa -> Prop} {s : aa} {tg : Ca} {it : Addr} {u : Value} {o : Bc} {n : String} {vs : Array Value} {Q : Unit -> aa -> Prop} (b : s.heap.get? it = some o) (hc : o.cls = .type n) (hd : o.data = .fields vs)
    (hn : ["enumerate","zip","dict_itemiterator","dict_reverseitemiterator","odict_iterator","itertools.zip_longest","itertools.pairwise"].contains n = false) (a : Q () s) : wpAny M A (letOwnedTupleGo tg (.ref it) u) Q E s := by
  unfold letOwnedTupleGo;cases tg <;> first
    | exact xa a
    | (cases u <;> first
        | exact xa a
        | (refine ba (nA b ?_)
           rw [hc, hd];show wpAny M A (if (["enumerate","zip","dict_itemiterator","dict_reverseitemiterator","odict_iterator","itertools.zip_longest","itertools.pairwise"].contains n && vs[0]? == some (Ee _)) = true then _ else _) Q E s;rw [qa (by intro h; rw [hn, Bool.false_and] at h; cases h)];exact xa a))
noncomputable def vJ(K:W.Frag)(a:Addr):It:=
 ⟨λi H=>∃ xs x,lf K H a xs/\xs[i]?=some x,λi H x b=>b=H/\∀ xs,lf K H a xs->xs[i]?=some x,λi H=>∃ xs,lf K H a xs/\xs.length<=i⟩
noncomputable def YI(K:W.Frag)(a:Addr):It:=
 ⟨λi H=>∃ xs x,Ah K H a xs/\xs[i]?=some x,λi H x b=>b=H/\∀ xs,Ah K H a xs->xs[i]?=some x,λi H=>∃ xs,Ah K H a xs/\xs.length<=i⟩
noncomputable def EL(b:Int)(n:Nat):It:=⟨λi _=>i<n,λi H x a=>a=H/\x=.int (b+i),λi _=>n<=i⟩
theorem B0{P:Aa}{w:Ia}{K:W.Frag}{tg:Ca}(a it:Addr):Turn P w K tg (vJ K a) [it] it (λi h=>h.IsListIter it a i) where
 mem:=by simp
 obj:=λi h f b hb=>by
  have e:b=it:=by simpa using hb
  subst e;obtain⟨o,e,c,d⟩:=f;exact⟨o,e,λv z=>by rw[d]at z;cases z⟩
 keep:=λi h l f k=>f.at λo e=>k it (by simp) o e
 item:=by
  intro X B C A hc i g s J H E I m f hg;subst B C A;obtain⟨xs,x,hq,D⟩:=hg;obtain⟨F,G,p,Q⟩:=I.list hq;obtain⟨u,O,R⟩:=G.get D;obtain⟨n,q,N,r,t,y⟩:=m it (by simp);refine wpAny_pyNext_list_item f p.isList (x:=u) (by simpa using O) λl j S=>?_;have L:Inv X g J H { s with heap:=l }:=I.turned (t':=s.toks) (λb o hb e=>(S.2 b hb).trans e) n q r t y;obtain⟨o,e,c,d⟩:=id j;exact⟨u,rfl,kE (s:={ s with heap:=l }) e c d (by decide) ⟨x,H,L,R,⟨rfl,λU hy=>by rw[I.Ck hy hq];exact D⟩,j,λb hb=>(m b hb).1⟩⟩
 done:=by
  intro X B C A hc i g s J H E I m f hg;subst B C A;obtain⟨xs,hq,D⟩:=hg;obtain⟨F,G,p,Q⟩:=I.list hq;obtain⟨n,q,N,r,t,y⟩:=m it (by simp);have T:=G.length;exact wpAny_pyNext_list_end (I.ok.hd hc) f p.isList (by simp;omega) λl M=>⟨rfl,I.turned (t':=s.toks) (λb o hb e=>M b o hb e) n q r t y⟩
 self:=λ_ _ _ _ _ f h=>wpAny_pyIter_listiter f h
theorem xZ{P:Aa}{w:Ia}{K:W.Frag}{tg:Ca}(a it:Addr):Turn P w K tg (YI K a) [it] it (λi h=>h.IsTupleIter it a i) where
 mem:=by simp
 obj:=λi h f b hb=>by
  have e:b=it:=by simpa using hb
  subst e;obtain⟨o,e,c,d⟩:=f;exact⟨o,e,λv z=>by rw[d]at z;cases z⟩
 keep:=λi h m f k=>f.at λo e=>k it (by simp) o e
 item:=by
  intro X C D B hc i g s J H E I n f hg;subst C D B;obtain⟨xs,x,hq,F⟩:=hg;obtain⟨j,G,p,Q⟩:=I.tuple hq;obtain⟨u,O,R⟩:=G.get F;obtain⟨q,r,N,t,y,A⟩:=n it (by simp);refine wpAny_pyNext_tuple_item f (show s.heap.IsTuple a j.toArray from p) (x:=u) (by simpa using O) λm l S=>?_;have L:Inv X g J H { s with heap:=m }:=I.turned (t':=s.toks) (λb o hb e=>(S.2 b hb).trans e) q r t y A;obtain⟨o,e,c,d⟩:=id l;exact⟨u,rfl,kE (s:={ s with heap:=m }) e c d (by decide) ⟨x,H,L,R,⟨rfl,λU hy=>by rw[I.Ot hy hq];exact F⟩,l,λb hb=>(n b hb).1⟩⟩
 done:=by
  intro X C D B hc i g s J H E I n f hg;subst C D B;obtain⟨xs,hq,F⟩:=hg;obtain⟨j,G,p,Q⟩:=I.tuple hq;obtain⟨q,r,N,t,y,A⟩:=n it (by simp);have T:=G.length;exact wpAny_pyNext_tuple_end (I.ok.hd hc) f (show s.heap.IsTuple a j.toArray from p) (by simp;omega) λm M=>⟨rfl,I.turned (t':=s.toks) (λb o hb e=>M b o hb e) q r t y A⟩
 self:=λ_ _ _ _ _ f h=>wpAny_pyIter_tupleiter f h
theorem Z4{P:Aa}{w:Ia}{K:PySem.W.Frag}{tg:Ca}(it:Addr)(j:Int)(n:Nat):Turn P w K tg (EL j n) [it] it (λi h=>IsRangeIter h it (j+(i:Nat) * 1) ((n:Int) - (i:Nat)) 1) where
 mem:=by simp
 obj:=λi h a b hb=>by
  have e:b=it:=by simpa using hb
  subst e;exact⟨_,a,λv z=>by
   have L:Data.fields _=Data.cell v:=z;cases L⟩
 keep:=λi h f a k=>k it (by simp) _ a
 item:=by
  intro X x y u hc i c s B H E I g a hg;subst x y u;obtain⟨l,m,F,p,q,r⟩:=g it (by simp);have W:=Walks.range (prog:=X.prog) (w:=X.w) (I.ok.hd hc) it j 1 n;refine W.item i s _ _ hg a λv f A G d J=>?_;obtain⟨t,rfl⟩:=G;have C:Inv X c B H { s with heap:=f,toks:=A }:=I.turned (λb o hb e=>J b o (by simpa using hb) e) l m p q r;refine⟨_,rfl,kE (s:={ s with heap:=f,toks:=A }) (n:="range_iterator") d rfl rfl (by decide) ⟨.int (j+i),H,C,⟨t,?_⟩,⟨rfl,rfl⟩,d,λb hb=>(g b hb).1⟩⟩;rw[Int.mul_one]
 done:=by
  intro X x y u hc i c s B H E I g a hg;subst x y u;obtain⟨l,m,F,p,q,r⟩:=g it (by simp);exact wpAny_pyNext_range_end (I.ok.hd hc) a (by have:n<=i:=hg;omega) λf D=>⟨rfl,I.turned (t':=s.toks) (λb o hb e=>D b o hb e) l m p q r⟩
 self:=λ_ _ _ _ _ a h=>wpAny_pyIter_rangeiter a h
section
variable{X:Cx}{tg:Ca}
theorem U1{c:List (Addr × Bc)}{σ:St}{H:Hp}{s:aa}{R:It->Hp->Prop}{E:Value->aa->Prop}{lo a:Int}{t u v:Tok}{tk:Nat}(I:Inv X c σ H s)(h1:-(2 ^ 62)<=lo)(h:lo<2 ^ 62)(h3:-(2 ^ 62)<=a)(h4:a<2 ^ 62)
  (q:R (EL lo (a - lo).toNat) H):wpAny (model X.prog X.w) X.A (pyIter (.ref s.heap.objs.size)) (pO X c σ tg R) E { s with heap:=s.heap.push { cls:=.type "range",data:=.fields #[.int lo t,.int a u,.int 1 v] },toks:=tk }:=by
 refine wpAny_pyIter_range (IsRange.new ..) (small_one h1 h h3 h4) ?_;have d:Inv X c σ H { s with heap:=s.heap.push { cls:=.type "range",data:=.fields #[.int lo t,.int a u,.int 1 v] },toks:=tk }:=I.kept λb o e=>ka _ e;refine⟨(s.heap.push { cls:=.type "range",data:=.fields #[.int lo t,.int a u,.int 1 v] }).objs.size,[(s.heap.push { cls:=.type "range",data:=.fields #[.int lo t,.int a u,.int 1 v] }).objs.size],_,_,H,rfl,
  d.kept (t':=tk) λb o e=>ka _ e,Z4 _ lo (a - lo).toNat,?_,λb hb=>?_,q⟩
 ·have f:lo+((0:Nat):Int) * 1=lo:=by simp
  have g:(((a - lo).toNat:Nat):Int) - ((0:Nat):Int)=QD lo a 1:=by rw[rangeSize_one];split<;>omega
  show IsRangeIter _ _ (lo+((0:Nat):Int) * 1) ((((a - lo).toNat:Nat):Int) - ((0:Nat):Int)) 1;rw[f,g];exact gb _ rfl
 ·have e:b=(s.heap.push { cls:=.type "range",data:=.fields #[.int lo t,.int a u,.int 1 v] }).objs.size:=by simpa using hb
  subst e;exact d.Qp (ya _) (d.dc.fresh (ya _))
def S4(b:TA):TI:=λd H R=>b d H λc a=>∃ j:Int,c=[.int j]/\-(2 ^ 62)<=j/\j<2 ^ 62/\R (EL 0 j.toNat) a
theorem J9{a:Ca}{d:TA}{p pos:re}(hg:Gl X "range")(hm:X.mg "range" = none)(g:PA X [a] d)(i:pa [a] X.env=[(false,Ib a X.env)]:=by rfl):PI X tg (.Call (.Name "range" p) [a] [] pos) (S4 d):=by
 intro b s n H R I h;refine Call_ (Ry I hg hm boot_range (Ze (be (g pos b s n H _ I h) λus s1 ⟨o,H1,f,l,c⟩=>?_) i rfl));obtain⟨j,e,c,k,q⟩:=c;subst e;cases l with
 |cons r m=>
  cases m;obtain⟨t,rfl⟩:=r;exact call_range_1 (U1 f (by omega) (by omega) c k (by simpa using q))
noncomputable def e5(j:TI)(g:TG)(tb:TS):TS:=λD a H=>j a H λJ f=>∃ W:Nat->Nat->St->Hp->Prop,(∃ m,W 0 m a f)/\∀ i m a H,W i m a H->
 (J.stop i H/\D.nx a H)\/(J.go i H/\∃ N:St->Hp->Prop,(∀ c b,N c b->∃ e,e<m/\W (i+1) e c b)/\∀ x b,J.rB i H x b->g x a b λd h=>tb { D with nx:=N,ct:=N,bk:=D.nx } d h)
noncomputable def oC(a:List Addr)(h:Heap):List (Addr × Bc):=a.filterMap λb=>(h.get? b).map λo=>(b,o)
theorem VG{a:List Addr}{h:Heap}{b:Addr}{o:Bc}(hb:b∈a)(e:h.get? b=some o):(b,o)∈oC a h:=jl.mpr ⟨b,hb,by rw[e];rfl⟩
theorem rX{a:List Addr}{h:Heap}{p:Addr × Bc}(d:p∈oC a h):p.1∈a/\h.get? p.1=some p.2:=by
 obtain⟨b,hb,e⟩:=jl.mp d;cases q:h.get? b with
 |none=>rw[q]at e;cases e
 |some o=>
  rw[q]at e;have c:(b,o)=p:=yb e;subst c;exact⟨hb,q⟩
theorem Inv.pinned{a:List (Addr × Bc)}{σ:St}{H:Hp}{s:aa}{c:List Addr}(I:Inv X a σ H s)(j:∀ b∈c,Nm X a H b)(k:∀ b∈c,∃ o,s.heap.get? b=some o/\∀ v,o.data≠.cell v):Inv X (a++oC c s.heap) σ H s:=
 I.zj λp l=>(uj.mp l).elim (λz=>I.pin p (Oa _ z)) λz=>by
  obtain⟨hb,e⟩:=rX z;obtain⟨g,h,i,_⟩:=j p.1 hb;obtain⟨o,f,d⟩:=k p.1 hb;rw[e]at f;cases f;exact⟨e,g,h,i,d⟩
theorem Inv.Ek{a pl:List (Addr × Bc)}{σ:St}{H:Hp}{s:aa}(I:Inv X (a++pl) σ H s):Inv X a σ H s:=I.zj λp b=>I.pin p (Oa _ (Qa _ b))
theorem SQ{p:Ca}{z:List Stmt}{wi:TI}{g:TG}{tb:TS}{pos:re}(G:vq (model X.prog X.w) X.A X.env X.xe)(hc:X.calm=true)(hi:PI X tg p wi)(hg:PG X tg g)(hb:Ms X z tb)
  (hs:∀ x,Ug p X.env x=pure x:=by intro _;rfl):PS X (.For tg p z [] pos) (e5 wi g tb):=by
 intro a s σ H D I h;refine wpAny_For (be (hi a s σ H _ I h) λv s1 h1=>be h1 λa0 s2 h2=>?_) hs;obtain⟨it,E,tn,J,H2,e,I2,T,U,f2,W,⟨m0,w0⟩,M⟩:=h2;subst e;have q:∀ {H':Hp},(∀ b∈E,H' b=none)->∀ b∈E,Nm X a H' b:=λhn b hb=>⟨hn b hb,(f2 b hb).2⟩
 refine codeAny_forLoop_any (λn s'=>∃ i t H',Inv X a t H' s'/\tn i s'.heap/\(∀ b∈E,H' b=none)/\W i n t H') ?_ m0 ⟨0,σ,H2,I2,U,λb hb=>(f2 b hb).1,w0⟩;rintro n s3 ⟨i,y,O,Z,L,F,w3⟩;rcases M i n y O w3 with⟨stop,qn⟩|⟨go,N,hN,step⟩
 ·refine Yh G (be (T.done X rfl rfl rfl hc i a s3 y O X.xe Z (q F) L stop) λr s4 ⟨R,I4⟩=>?_);subst R;exact sk ⟨y,O,I4,qn⟩
 ·refine Yh G (be (T.item X rfl rfl rfl hc i a s3 y O X.xe Z (q F) L go) λr s4 ⟨u,R,h4⟩=>?_);subst R;refine Yh G (be h4 λ_ s5 ⟨x,Y,I5,r5,y5,C,Q⟩=>?_);have P:=I5.pinned (q Q) (T.obj _ _ C);refine Yh G (be (hg _ s5 y Y x u _ P r5 (step x Y y5)) λ_ s6 ⟨V,H6,I6,q6⟩=>?_);refine Yh G (be (hb _ s6 V H6 _ I6 q6) λf S B=>?_);have l:∀ {c:St} {j:Hp},Inv X (a++oC E s5.heap) c j S->N c j->∃ m,m<n/\∃ i t H',Inv X a t H' S/\tn i S.heap/\(∀ b∈E,H' b=none)/\W i m t H':=fun {c j} k K=>by
   obtain⟨m',hm,w7⟩:=hN c j K;refine⟨m',hm,i+1,c,j,k.Ek,T.keep _ _ _ C λb hb o e=>(k.pin (b,o) (Oa _ (Oa _ (VG hb e)))).1,λb hb=>?_,w7⟩;obtain⟨o,e,d⟩:=T.obj _ _ C b hb;exact(k.pin (b,o) (Oa _ (Oa _ (VG hb e)))).2.1
  cases f with
  |next=>obtain⟨c,j,k,K⟩:=B;exact l k K
  |cont=>obtain⟨c,j,k,K⟩:=B;exact l k K
  |brk=>obtain⟨c,j,k,B⟩:=B;exact⟨c,j,k.Ek,B⟩
  |ret v=>obtain⟨x7,c,j,k,r7,B⟩:=B;exact⟨x7,c,j,k.Ek,r7,B⟩
end
abbrev R2:=V->V->Hp->VK->Prop
def Bi(X:Cx)(f:Value->Value->uo Value)(r:R2):Prop:=
 ∀ (a:List (Addr × Bc)) (s:aa) (σ:St) (H:Hp) (x y:V) (v u:Value) (Q:VK),Inv X a σ H s->Ed x v->Ed y u->r x y H Q->
  wpAny (model X.prog X.w) X.A (f v u) (EP X a σ Q) X.xe s
def bF(X:Cx)(f:Value->uo Value)(r:V->Hp->VK->Prop):Prop:=
 ∀ (a:List (Addr × Bc)) (s:aa) (σ:St) (H:Hp) (x:V) (v:Value) (Q:VK),Inv X a σ H s->Ed x v->r x H Q->
  wpAny (model X.prog X.w) X.A (f v) (EP X a σ Q) X.xe s
def Fo(X:Cx)(f:Value)(r:List V->Hp->VK->Prop):Prop:=
 ∀ (a:List (Addr × Bc)) (s:aa) (σ:St) (H:Hp) (xs:List V) (us:List Value) (Q:VK),Inv X a σ H s->ue xs us->r xs H Q->
  wpAny (model X.prog X.w) X.A (call f us) (EP X a σ Q) X.xe s
noncomputable def DC(r:R2)(d tb:TE):TE:=λa H Q=>d a H λx b=>tb a b λy c=>r x y c Q
def tUn(r:V->Hp->VK->Prop)(b:TE):TE:=λc H Q=>b c H λx a=>r x a Q
def rI(C:Int->Int->Prop)(g:Int->Int->V):R2:=λx y H Q=>∃ i j,x=.int i/\y=.int j/\C i j/\Q (g i j) H
noncomputable def Mr(g:Int->Int->V):R2:=λx y H Q=>∃ i j,x=.int i/\y=.int j/\Q (g i j) H
def rU(g:Int->V):V->Hp->VK->Prop:=λx H Q=>∃ i,x=.int i/\Q (g i) H
section
variable{X:Cx}{a b c:Ca}{ta tb tc:TE}{pos:re}
theorem lL(l:PE X a ta)(hb:PE X b tb){c:List (Addr × Bc)}{s:aa}{σ:St}{H:Hp}{R:V->V->Hp->Prop}(I:Inv X c σ H s)
  (h:ta σ H λx i=>tb σ i λy d=>R x y d) {Q:Value->aa->Prop} {f:Value->Value->uo Value}
  (m:∀ v u s2 x y d,Inv X c σ d s2->Ed x v->Ed y u->R x y d->wpAny (model X.prog X.w) X.A (f v u) Q X.xe s2) :
  wpAny (model X.prog X.w) X.A (Ib a X.env) (λv e=>wpAny (model X.prog X.w) X.A (Ib b X.env) (λu g=>wpAny (model X.prog X.w) X.A (f v u) Q X.xe g) X.xe e) X.xe s:=by
 refine be (l c s σ H _ I h) λv s1 ⟨x,i,j,p,n⟩=>?_;refine be (hb c s1 σ i _ j n) λu s2 ⟨y,d,k,q,o⟩=>?_;exact m v u s2 x y d k p q o
theorem Q4{d:Operator}{r:R2}(i:Bi X (Gf d) r)(g:PE X a ta)(hb:PE X b tb):PE X (.BinOp a d b pos) (DC r ta tb):=by
 intro c s l H Q I h;exact wpAny_BinOp (lL g hb I h λv u s2 x y e f j k q=>i c s2 l e x y v u Q f j k q)
theorem B6{c:UnaryOp}{r:V->Hp->VK->Prop}(g:bF X (unaryOp c) r)(f:PE X a ta):PE X (.UnaryOp c a pos) (tUn r ta):=by
 intro b s d H Q I h;exact UnaryOp_ (be (f b s d H _ I h) λv s1 ⟨x,H1,e,j,i⟩=>g b s1 d H1 x v Q e j i)
theorem aI{f:Value->Value->uo Value}{C:Int->Int->Prop}{g:Int->Int->Int}
  (a:∀ (i j:Int) (t u:Tok) (s:aa) (Q:Value->aa->Prop) (E:Value->aa->Prop),C i j->Q (.int (g i j) s.toks) { s with toks:=s.toks+1 }->wpAny (model X.prog X.w) X.A (f (.int i t) (.int j u)) Q E s) :
  Bi X f (rI C λi j=>.int (g i j)):=by
 intro b s k H x y v u Q I c d h;obtain⟨i,j,rfl,rfl,hc,q⟩:=h;obtain⟨t,rfl⟩:=c;obtain⟨e,rfl⟩:=d;exact a i j t e s _ _ hc ⟨.int (g i j),H,I.tok _,⟨_,rfl⟩,q⟩
theorem NP{f:Value->Value->uo Value}{g:Int->Int->Int}
  (a:∀ (i j:Int) (t u:Tok) (s:aa) (Q:Value->aa->Prop) (E:Value->aa->Prop),Q (.int (g i j) s.toks) { s with toks:=s.toks+1 }->wpAny (model X.prog X.w) X.A (f (.int i t) (.int j u)) Q E s) :
  Bi X f (Mr λi j=>.int (g i j)):=by
 intro b s k H x y v u Q I c d h;obtain⟨i,j,rfl,rfl,q⟩:=h;obtain⟨t,rfl⟩:=c;obtain⟨e,rfl⟩:=d;exact a i j t e s _ _ ⟨.int (g i j),H,I.tok _,⟨_,rfl⟩,q⟩
theorem BE{f:Value->Value->uo Value}{g:Int->Int->Bool}
  (a:∀ (i j:Int) (t u:Tok) (s:aa) (Q:Value->aa->Prop) (E:Value->aa->Prop),Q (.bool (g i j)) s->wpAny (model X.prog X.w) X.A (f (.int i t) (.int j u)) Q E s) :
  Bi X f (Mr λi j=>.bl (g i j)):=by
 intro b s k H x y v u Q I c d h;obtain⟨i,j,rfl,rfl,q⟩:=h;obtain⟨t,rfl⟩:=c;obtain⟨e,rfl⟩:=d;exact a i j t e s _ _ ⟨.bl (g i j),H,I,rfl,q⟩
def kO(i j:Int):Prop:=0<j/\j<1073741824
def lS(i j:Int):Prop:=0<=j/\j<=1000000/\i.natAbs<2 ^ 64
def wM(i j:Int):Prop:=(-(2 ^ 64)<i/\i<2 ^ 64)\/(-(2 ^ 64)<j/\j<2 ^ 64)
theorem wM.ok{i j:Int}(h:wM i j):IntMulOk i j:=by
 rcases h with⟨h1,a⟩|⟨h1,a⟩
 ·exact .of_left (aU h1 a)
 ·exact .of_right (aU h1 a)
theorem E7:Bi X (Gf .Add) (Mr λi j=>.int (i+j)):=NP λ_ _ _ _ _ _ _ q=>add_int q
theorem Rw:Bi X (Gf .Sub) (Mr λi j=>.int (i - j)):=NP λ_ _ _ _ _ _ _ q=>sub_int q
theorem dD:Bi X (Gf .FloorDiv) (rI kO λi j=>.int (i / j)):=aI λi j _ _ _ _ _ hc q=>by
 have h1:(0:Int)<j:=hc.1;have a:j<1073741824:=hc.2;exact floordiv_int (by omega) (by rw[Int.fdiv_eq_ediv_of_nonneg i (by omega)];exact q) (.inl (PyProof.noPylong_small (by omega)))
theorem Vw:Bi X (Gf .Mod) (rI (λ_ j=>0<j) λi j=>.int (i % j)):=aI λi j _ _ _ _ _ hc q=>by
 have h1:(0:Int)<j:=hc;exact mod_int' (by omega) (by rw[Int.fmod_eq_emod_of_nonneg i (by omega)];exact q)
theorem QG:Bi X (Gf .Pow) (rI lS λi j=>.int (i ^ j.toNat)):=aI λ_ _ _ _ _ _ _ hc q=>pow_int_small hc.1 hc.2.1 hc.2.2 q
theorem K8{f:Value->uo Value}{g:Int->Int}
  (a:∀ (i:Int) (t:Tok) (s:aa) (Q:Value->aa->Prop) (E:Value->aa->Prop),Q (.int (g i) s.toks) { s with toks:=s.toks+1 }->wpAny (model X.prog X.w) X.A (f (.int i t)) Q E s) :
  bF X f (rU λi=>.int (g i)):=by
 intro b s d H x v Q I c h;obtain⟨i,rfl,q⟩:=h;obtain⟨t,rfl⟩:=c;exact a i t s _ _ ⟨.int (g i),H,I.tok _,⟨_,rfl⟩,q⟩
theorem ym3:bF X (unaryOp .USub) (rU λi=>.int (-i)):=K8 λ_ _ _ _ _ q=>neg_int q
end
section
variable{X:Cx}{a b c:Ca}{ta tb tc:TE}{pos:re}
theorem E1{a:List (Addr × Bc)}{σ:St}{H:Hp}{s:aa}{Q:VK}{k b:Bool}(I:Inv X a σ H s)(q:Q (.bl k) H)(e:k=b):EP X a σ Q (.bool b) s:=by
 subst e;exact⟨.bl k,H,I,rfl,q⟩
theorem eB:Bi X (Wb .Lt) (Mr λi j=>.bl (decide (i<j))):=BE λ_ _ _ _ _ _ _ q=>lt_int q
theorem mS:Bi X (Wb .LtE) (Mr λi j=>.bl (decide (i<=j))):=BE λ_ _ _ _ _ _ _ q=>le_int q
theorem qK:Bi X (Wb .Gt) (Mr λi j=>.bl (decide (j<i))):=BE λ_ _ _ _ _ _ _ q=>gt_int q
theorem RX:Bi X (Wb .GtE) (Mr λi j=>.bl (decide (j<=i))):=BE λ_ _ _ _ _ _ _ q=>ge_int q
theorem SI:Bi X (Wb .Is) (λx y H Q=>y=.Vb/\Q (.bl (decide (x=.Vb))) H):=by
 intro a s d H x y v u Q I b c h;obtain⟨rfl,q⟩:=h;cases c;refine is_none_gen (E1 I q ?_);cases x<;>first
  |(cases b;rfl)
  |(obtain⟨t,rfl⟩:=b;rfl)
theorem Bi.or{f:Value->Value->uo Value}{r b:R2}(h:Bi X f r)(h':Bi X f b):Bi X f (λx y H Q=>r x y H Q\/b x y H Q):=by
 intro a s e H x y v u Q I c d q;rcases q with q|q
 ·exact h a s e H x y v u Q I c d q
 ·exact h' a s e H x y v u Q I c d q
theorem ng(b:Ca){a:Hq}(h:a≠.In:=by decide)(e:a≠.NotIn:=by decide):af a b=false:=by
 have c:(a == OL)=false:=by cases a<;>first|rfl|exact absurd rfl h
 have d:(a == KB)=false:=by cases a<;>first|rfl|exact absurd rfl e
 cases b<;>simp[af,c,d]
theorem K4{d:Hq}{r:R2}(i:Bi X (Wb d) r)(g:PE X a ta)(hb:PE X b tb)(hm:af d b=false):PE X (.Compare a [d] [b] pos) (DC r ta tb):=by
 intro c s l H Q I h;exact wpAny_Compare1 (lL g hb I h λv u s2 x y e f j k q=>i c s2 l e x y v u Q f j k q) hm
noncomputable def N5(t:TE):TT:=λb H Q=>t b H λx a=>∃ k,x=.bl k/\Q k a
theorem eZ{f:Hq}{r:R2}(p:Bi X (Wb f) r)(o:PE X a ta)(hb:PE X b tb)(hm:af f b=false):PT X (.Compare a [f] [b] pos) (N5 (DC r ta tb)):=by
 intro d s g H Q I h;refine Xw (be (o d s g H _ I h) λv s1 ⟨x,H1,l,A,q⟩=>be (hb d s1 g H1 _ l q) λu s2 ⟨y,i,m,B,t⟩=>
  be (p d s2 g i x y v u _ m A B t) λc s3 ⟨z,j,n,C,k,e,w⟩=>?_) hm
 subst e;cases C;exact sd ⟨j,n,w⟩
noncomputable def m5(r f:R2)(ta tb tc:TE):TE:=λa H Q=>ta a H λx c=>tb a c λy d=>r x y d λz b=>∃ k,z=.bl k/\
 (if k=true then tc a b λg e=>f y g e Q else Q (.bl false) b)
theorem dX{l g:Hq}{r p:R2}(E:Bi X (Wb l) r)(j:Bi X (Wb g) p)(D:PE X a ta)(hb:PE X b tb)(hc:PE X c tc)
  (hm:lastMarks [l,g] [b,c]=false:=by with_unfolding_all rfl):PE X (.Compare a [l,g] [b,c] pos) (m5 r p ta tb tc):=by
 intro f s i H Q I h;refine Compare_chain (be (D f s i H _ I h) λv s1 ⟨x,H1,A,K,F⟩=>chain_link (be (hb f s1 i H1 _ A F) λu s2 ⟨y,t,B,q,G⟩=>
  be (E f s2 i t x y v u _ B K q G) λd s3 ⟨z,m,n,L,k,e,o⟩=>?_)) hm
 subst e;cases L;refine sd ?_;cases k with
 |false=>exact ite_ff ⟨.bl false,m,n,rfl,o⟩
 |true=>exact ite_tt (chain_last (be (hc f s3 i m _ n o) λN s4 ⟨O,w,C,M,J⟩=>j f s4 i w y O u N Q C q M J))
theorem nF:(sizeLine:Nat)<2 ^ 63:=by rw[cy];decide
theorem L7:Bi X (Gf .Add) (λx y H Q=>∃ i j,x=.str i/\y=.str j/\i.length+j.length<=sizeLine/\Q (.str (i++j)) H):=by
 intro a s g H x y v u Q I c d h;obtain⟨i,j,rfl,rfl,b,q⟩:=h;obtain⟨t,rfl⟩:=c;obtain⟨e,rfl⟩:=d;exact add_str (λe f=>⟨.str (i++j),H,I.tok _,⟨_,rfl⟩,q⟩) b
theorem Xu{x:V}{us:List Value}(r:ue [x] us):∃ u,us=[u]/\Ed x u:=by
 cases r with
 |cons a b=>cases b;exact⟨_,rfl,a⟩
theorem xI{x y:V}{us:List Value}(r:ue [x,y] us):∃ u w',us=[u,w']/\Ed x u/\Ed y w':=by
 cases r with
 |cons a b=>
  cases b with
  |cons c d=>cases d;exact⟨_,_,rfl,a,c⟩
theorem G2(hc:X.calm=true):Fo X (.builtin "min") (λxs H Q=>∃ i j,xs=[.int i,.int j]/\Q (.int (if j<i then j else i)) H):=by
 intro a s g H xs e Q I r h;obtain⟨i,j,rfl,q⟩:=h;obtain⟨u,f,rfl,⟨t,rfl⟩,⟨c,rfl⟩⟩:=xI r;refine min_two_ints (I.ok.hd hc) λb d k=>⟨_,H,I.kept k,?_,q⟩
 by_cases hj:j<i
 ·rw[ia hj,ia hj];exact⟨_,rfl⟩
 ·rw[qa hj,qa hj];exact⟨_,rfl⟩
end
structure Qr(h:Heap)(x dx C:Addr)(mA:Str->Option Value):Prop where
 obj:h.get? x=some (W.instObj C dx)
 ns:h.Ns1 dx mA
 ne:dx≠x
theorem g9{h:Heap}{c:Addr}{f:Str->Option Value}(n:h.Ns1 c f):∃ od,h.get? c=some od/\∀ name,W.lookIn name od=some (f name):=by
 obtain⟨o,d,k,j,hd,i,_,hm⟩:=n;refine⟨o,j,λname=>?_⟩;have e:=hm name;unfold nsFind findBy at e;rw[<-Array.find?_toList]at e;unfold W.lookIn;rw[hd];dsimp only;split
 ·rename_i y q
  rw[q]at e;exact Ad some e
 ·rename_i q
  rw[q]at e;have a:d.toList.any (·.refKey)=false:=by
   rw[Mv];intro y hy;obtain⟨z,t,b⟩:=i y (Array.mem_toList_iff.mp hy);simp[zaF,b]
  have g:¬ d.toList.any (·.refKey)=true:=by rw[a];exact Xa
  rw[qa g];exact Ad some e
theorem Qr.look{h:Heap}{x a C:Addr}{b:Str->Option Value}(I:Qr h x a C b):∃ od,W.InstAt h x (W.instObj C a) C (some od)/\∀ name,W.lookIn name od=some (b name):=
 let ⟨od,d,c⟩:=g9 I.ns
 ⟨od,⟨I.obj,rfl,rfl,d⟩,c⟩
section
variable{prog:Aa}{w:Ia}{A:Fa}{E:Value->aa->Prop}{s:aa}{K:W.Frag}{x dx C f:Addr}{mA:Str->Option Value}{name:Str}{v:Value}
theorem OY{a:Bool}{Q:Value->aa->Prop}(X:K.In s.heap)(I:Qr s.heap x dx C mA)(hg:W.plainGet K C name=true)(d:W.hasDictIn K C=true)
  (c:W.findIn K (.ref C) name=some none) (f:mA name=some v) (b:W.handedIn v=true) (h:Q v { s with toks:=s.toks+1 }) :
  wpAny (model prog w) A (getAttr (.ref x) name a) Q E s:=by
 obtain⟨g,J,e⟩:=I.look;exact W.get_value X J (W.plainGet_of hg).1 (W.findObj_own d c rfl (by rw[e,f])) b h
theorem V8{pl:uo Bool}{Q:Value × List Value->aa->Prop}(X:K.In s.heap)(I:Qr s.heap x dx C mA)(hg:W.plainGet K C name=true)
  (a:W.findIn K (.ref C) name=some (some (.ref f))) (ht:W.isFn K (.ref f)=true) (c:mA name=none) (h:Q (.ref f,[.ref x]) s) :
  wpAny (model prog w) A (yh (.ref x) name pl) Q E s:=by
 obtain⟨d,J,b⟩:=I.look;exact W.method_fn X J (W.plainGet_of hg).1 (W.plainGet_of hg).2 a (Uh.mp ht) (by show (W.lookIn name d).map (·.isSome)=some false;rw[b,c];rfl) h
theorem o8{ns:List Str}{Q:Unit->aa->Prop}(X:K.In s.heap)(I:Qr s.heap x dx C mA)
  (n:W.findIn K (.ref C) "__setattr__" = some (some (.builtin "object.__setattr__"))) (m:W.plainOver K C=true) (ht:W.takerIn K C name=some none) (l:W.hasDictIn K C=true)
  (o:PySem.Within mA ns) (hsz:ns.length<=sizeLine)
  (h:∀ h',Qr h' x dx C (λy=>if y=name then some v else mA y)->Of dx s.heap h'->Q () { s with heap:=h',toks:=s.toks+2 }) :
  wpAny (model prog w) A (setAttr (.ref x) name v) Q E s:=by
 obtain⟨z,J,t⟩:=I.look;refine W.set_plain X J n (W.osa_open (s:={ s with toks:=s.toks+1 }) (r:=none) X J m ht λb=>?_);obtain⟨q,hc,f⟩:=W.any_some l;have p:s.heap.get? x=some ⟨.ref C,some dx,.plain,#[]⟩:=I.obj;refine ba (xa (ba (ba (wpAny_loadPart p (ba (W.Looks.here (s:={ s with toks:=s.toks+1 }) (W.looks_clsIn X hc) ?_))))));rw[f];refine xa (a:=some dx) (ba (xa (ba ?_)));refine wpAny_nsSet1 (s:={ s with toks:=s.toks+1 }) I.ns λh' c d=>?_;obtain⟨u,k,j,i,g,e⟩:=c.count (fH name v o);refine ba (wpAny_lookBehind i (by rw[g];exact pastItsLine_dict (cc e (by rw[Rb];omega))) ?_);exact xa (h _ ⟨(d.2 _ (Ye I.ne)).trans I.obj,c,I.ne⟩ d)
theorem zt4{R:vA->aa->Prop}{vs:List Value}{kw:List (Str × Value)}(X:K.In s.heap)(hm:W.makesIn K C=true)
  (b:W.findIn K (.ref C) "__init__" = some (some (.ref f))) (a:W.typeIn K (.ref f)=some (.type "function"))
  (h:codeAny (model prog w) (A.under (.builtin "type.__call__" ⟨.ref C::vs,kw⟩)) (.call (.ref f) ⟨.ref (s.heap.objs.size+1)::vs,kw⟩) (W.InitBack (s.heap.objs.size+1) R)
   { s with heap:=(s.heap.push W.emptyDict).push (W.instObj C s.heap.objs.size) }) :
  codeAny (model prog w) A (.call (.ref C) ⟨vs,kw⟩) R s:=by
 obtain⟨c,g,d,t,os⟩:=s;exact W.make_core (W.makes_of X hm) (W.looks_findIn X b) (λself=>W.bind_fn X self a) (.inl rfl) h
end
noncomputable def xp(f:Str)(v:V):List (Str × V)->List (Str × V)
 |[]=>[(f,v)]
 |(g,x)::r=>if g=f then (g,v)::r else (g,x)::xp f v r
theorem eM(f g:Str)(v:V):∀ fs:List (Str × V),(xp f v fs).lookup g=if g=f then some v else fs.lookup g
 |[]=>by
  show List.lookup g [(f,v)]=_;by_cases h:g=f
  ·have hb:(g == f)=true:=Uh.mpr h;simp only[List.lookup,hb,ia h]
  ·have hb:(g == f)=false:=ye.mpr h;simp only[List.lookup,hb,qa h]
 |(k,x)::r=>by
  have b:=eM f g v r;rw[show xp f v ((k,x)::r)=(if k=f then (k,v)::r else (k,x)::xp f v r)from rfl];by_cases a:k=f
  ·rw[ia a];by_cases h:g=k
   ·have hb:(g == k)=true:=Uh.mpr h;simp only[List.lookup,hb,ia (h.trans a)]
   ·have hb:(g == k)=false:=ye.mpr h;simp only[List.lookup,hb,qa (λe:g=f=>h (e.trans a.symm))]
  ·rw[qa a];by_cases h:g=k
   ·have hb:(g == k)=true:=Uh.mpr h;simp only[List.lookup,hb,qa (λe:g=f=>a (h.symm.trans e))]
   ·have hb:(g == k)=false:=ye.mpr h;simp only[List.lookup,hb];exact b
theorem GJ(f:Str)(v:V):∀ fs:List (Str × V),f∈(xp f v fs).map (·.1)/\∀ g,g∈fs.map (·.1)->g∈(xp f v fs).map (·.1)
 |[]=>⟨by simp[xp],λg h=>by simp at h⟩
 |(k,x)::r=>by
  obtain⟨b,c⟩:=GJ f v r;rw[show xp f v ((k,x)::r)=(if k=f then (k,v)::r else (k,x)::xp f v r)from rfl];by_cases a:k=f
  ·rw[ia a];subst a;exact⟨by simp,λg h=>by simpa using h⟩
  ·rw[qa a];refine⟨?_,λg h=>?_⟩
   ·rw[Sa];exact nb _ b
   ·rw[Sa]at h ⊢;rcases ib.mp h with e|e
    ·exact ib.mpr (.inl e)
    ·exact nb _ (c g e)
theorem CM(f:Str)(v:V):∀ fs:List (Str × V),(xp f v fs).length<=fs.length+1
 |[]=>by simp[xp]
 |(k,x)::r=>by
  have b:=CM f v r;rw[show xp f v ((k,x)::r)=(if k=f then (k,v)::r else (k,x)::xp f v r)from rfl];by_cases a:k=f
  ·rw[ia a,Rb,Rb];omega
  ·rw[qa a,Rb,Rb];omega
theorem zq.some_of{v:V}{o:Option Value}(r:zq (some v) o):∃ u,o=some u/\Ed v u:=by
 cases o with
 |none=>exact(show False from r).elim
 |some u=>exact⟨u,rfl,r⟩
theorem zq.none_of{o:Option Value}(r:zq none o):o=none:=by
 cases o with
 |none=>rfl
 |some u=>exact(show False from r).elim
theorem Z6{v:V}{u:Value}(r:Ed v u):W.handedIn u=true:=by
 cases v with
 |Vb=>cases (show u=pb from r);rfl
 |bl b=>cases (show u=Ff b from r);rfl
 |int i=>obtain⟨t,e⟩:=(show ∃ t,u=Li i t from r);cases e;rfl
 |str x=>obtain⟨t,e⟩:=(show ∃ t,u=Xm x t from r);cases e;rfl
 |tG b=>obtain⟨t,e⟩:=(show ∃ t,u=JB b t from r);cases e;rfl
 |rz b=>obtain⟨t,e⟩:=(show ∃ t,u=Gs b t from r);cases e;rfl
 |ref a=>cases (show u=jb a from r);rfl
 |ty n=>cases (show u=PD n from r);rfl
section
variable{P:Aa}{w:Ia}{H H':Hp}{h h':Heap}{a C dx:Addr}{fs fs':List (Str × V)}
theorem vE(dc:Ni P w H h)(e:H a=some (.ins C dx fs)):∃ b,Qr h a dx C b/\(∀ f,zq (fs.lookup f) (b f))/\PySem.Within b (fs.map (·.1))/\fs.length<=1000/\H dx=some (.own a):=by
 obtain⟨d,z,ne,c,b,n,r,q⟩:=(show qj P w H h a (.ins C dx fs)from dc a _ e)
 exact⟨b,⟨c,n,ne⟩,r,q,z,d⟩
end
structure wl(K:W.Frag)(C:Addr):Prop where
 pg:W.plainGet K C Str.empty=true
 hd:W.hasDictIn K C=true
 po:W.plainOver K C=true
 sa:W.findIn K (.ref C) "__setattr__" = some (some (.builtin "object.__setattr__"))
theorem wl.get{K:W.Frag}{C:Addr}(c:wl K C)(f:Str):W.plainGet K C f=true:=c.pg
def jg(K:W.Frag)(C:Addr)(f:Str):Prop:=W.findIn K (.ref C) f=some none
theorem jg.aD{K:W.Frag}{C:Addr}{f:Str}(n:jg K C f):W.takerIn K C f=some none:=by
 unfold W.takerIn;rw[show W.findIn K (.ref C) f=some none from n];rfl
structure Con(K:W.Frag)(C:Addr)(f:Str)(v:V)(u:Value):Prop where
 at_:W.findIn K (.ref C) f=some (some u)
 rel:Ed v u
 get:W.specialIn K u "__get__" = some none
 cp:W.copiedNames.contains f=false
structure Cd(K:W.Frag)(C:Addr)(m:Str)(f:Addr):Prop where
 at_:W.findIn K (.ref C) m=some (some (.ref f))
 fn:W.isFn K (.ref f)=true
 kp:W.keepIn K (.ref f)=true
section
variable{X:Cx}{pins:List (Addr × Bc)}{σ:St}{H:Hp}{s:aa}{a C dx:Addr}{fs:List (Str × V)}{f:Str}{v:V}{A:Fa}{E:Value->aa->Prop}
theorem zlr{b:Bool}{Q:Value->aa->Prop}(I:Inv X pins σ H s)(e:H a=some (.ins C dx fs))(c:wl X.K C)(n:jg X.K C f)(l:fs.lookup f=some v)
  (h:∀ u s',Inv X pins σ H s'->Ed v u->Q u s'):wpAny (model X.prog X.w) A (getAttr (.ref a) f b) Q E s:=by
 obtain⟨i,O,r,_,_,_⟩:=vE I.dc e;obtain⟨u,g,d⟩:=zq.some_of (v:=v) (o:=i f) (by rw[<-l];exact r f);exact OY I.mj O (c.get f) c.hd n g (Z6 d) (h u _ (I.tok _) d)
theorem aG{m:Str}{g:Addr}{pl:uo Bool}{Q:Value × List Value->aa->Prop}(I:Inv X pins σ H s)(e:H a=some (.ins C dx fs))(c:wl X.K C)(k:Cd X.K C m g)(l:fs.lookup m=none)
  (h:Q (.ref g,[.ref a]) s):wpAny (model X.prog X.w) A (yh (.ref a) m pl) Q E s:=by
 obtain⟨b,O,r,_,_,_⟩:=vE I.dc e;have hn:b m=none:=zq.none_of (by rw[<-l];exact r m);exact V8 I.mj O (c.get m) k.at_ k.fn hn h
theorem zm2{y:V}{u:Value}{Q:Unit->aa->Prop}(I:Inv X pins σ H s)(e:H a=some (.ins C dx fs))(c:wl X.K C)(n:jg X.K C f)(B:fs.length<1000)(t:Ed y u)
  (h:∀ s',Inv X pins σ (upd H a (.ins C dx (xp f y fs))) s'->Q () s'):wpAny (model X.prog X.w) A (setAttr (.ref a) f u) Q E s:=by
 obtain⟨j,O,r,k,_,i⟩:=vE I.dc e;have p:(fs.map (·.1)).length<=sizeLine:=by rw[rc,cy];omega
 refine o8 I.mj O c.sa c.po n.aD c.hd k p λm d v=>h _ ?_;have hd:∃ o,m.get? dx=some o:=let ⟨o,_,_,l,_⟩:=d.ns;⟨o,l⟩;refine I.write (x:=a) (e:=dx) (by rw[e];exact True.intro) (.inr i) (λb q hb z=>(v.2 b hb).trans z) hd ?_;refine⟨by rw[Qd O.ne];exact i,?_,O.ne,d.obj,_,d.ns,λg=>?_,λg hg=>?_⟩
 ·have:=CM f y fs;omega
 ·show zq ((xp f y fs).lookup g) (if g=f then some u else j g);rw[eM];by_cases q:g=f
  ·rw[ia q,ia q];exact t
  ·rw[qa q,qa q];exact r g
 ·by_cases q:g=f
  ·rw[q];exact(GJ f y fs).1
  ·refine(GJ f y fs).2 g (k g λz=>hg ?_);show (if g=f then some u else j g)=none;rw[qa q];exact z
theorem Inv.made(I:Inv X pins σ H s):Inv X pins σ (upd (upd H s.heap.objs.size (.own (s.heap.objs.size+1))) (s.heap.objs.size+1) (.ins C s.heap.objs.size []))
  { s with heap:=(s.heap.push W.emptyDict).push (W.instObj C s.heap.objs.size) }:=by
 have c:(s.heap.push W.emptyDict).get? s.heap.objs.size=some W.emptyDict:=gb s.heap rfl;have f:((s.heap.push W.emptyDict).push (W.instObj C s.heap.objs.size)).get? (s.heap.objs.size+1)=some (W.instObj C s.heap.objs.size):=by
  have:=gb (s.heap.push W.emptyDict) (o:=W.instObj C s.heap.objs.size) rfl
  rwa [vg]at this
 have g:(s.heap.push W.emptyDict).Ns s.heap.objs.size (λ_=>none):=⟨W.emptyDict,#[],_,c,rfl,(λe h=>absurd h (by simp)),λ_=>rfl⟩
 have d:=I.laid (a:=s.heap.objs.size) (o:=.own (s.heap.objs.size+1)) (h':=s.heap.push W.emptyDict) (t':=s.toks) (λb u q=>ka _ q) (ya _) ⟨_,c⟩;refine d.laid (a:=s.heap.objs.size+1) (o:=.ins C s.heap.objs.size []) (t':=s.toks) (λb u q=>ka _ q) (rs (vg _ _)) ?_;have ne:s.heap.objs.size≠s.heap.objs.size+1:=Ea (Rc _);refine⟨by rw[Qd ne,Og],Zt _,ne,f,λ_=>none,(Heap.Ns1.of_empty g).at λo q=>ka _ q,λ_=>True.intro,λy hy=>absurd rfl hy⟩
theorem zxv{prog:Aa}{w:Ia}{env:Hg}{e:Ca}{f:Str}{pos:re}{s:aa}{Q:Value->aa->Prop}(hb:Ud e f env (Ib e env)=Ib e env)
  (h:wpAny (model prog w) A (Ib e env) (λo a=>wpAny (model prog w) A (getAttr o f true) Q E a) E s):wpAny (model prog w) A (Ib (.Attribute e f pos) env) Q E s:=
 Attribute_any_ h (by rw[arm_eval_Attribute,hb])
end
def K6(K:W.Frag)(d:TE)(f:Str):TE:=λe H Q=>d e H λx b=>∃ a C c fs v,x=.ref a/\b a=some (.ins C c fs)/\wl K C/\jg K C f/\fs.lookup f=some v/\Q v b
def yw8(K:W.Frag)(g h:TE)(f:Str):TS:=λD b H=>h b H λy e=>g b e λx c=>∃ a C d fs,x=.ref a/\c a=some (.ins C d fs)/\wl K C/\jg K C f/\fs.length<1000/\
 D.nx b (upd c a (.ins C d (xp f y fs)))
section
variable{X:Cx}{o e value:Ca}{f:Str}{pos pos' tpos:re}{ta tv:TE}
theorem ZZ(j:PE X e ta)(hb:Ud e f X.env (Ib e X.env)=Ib e X.env):PE X (.Attribute e f pos) (K6 X.K ta f):=by
 intro b s o H Q I h;refine zxv hb (be (j b s o H _ I h) λu s1 ⟨x,H1,d,m,a,C,p,fs,v,ex,i,c,n,l,q⟩=>?_);subst ex;obtain rfl:u=jb a:=m;exact zlr d i c n l λr s2 g k=>⟨v,H1,g,k,q⟩
theorem nZ(k:PE X o ta)(p:PE X value tv)(m:yi value (some (.Attribute o f pos')) pos.line X.env=pure false):PS X (.Assign [.Attribute o f pos'] value pos) (yw8 X.K ta tv f):=by
 intro b s d H D I h;refine plainObj_wpAny_Assign_Attribute (be (p b s d H _ I h) λu s1 ⟨y,H1,e,w,q⟩=>be (k b s1 d H1 _ e q) λr s2 ⟨x,z,g,v,a,C,A,fs,ex,j,c,n,l,t⟩=>?_) m;subst ex;obtain rfl:r=jb a:=v;exact zm2 g j c n l w λB i=>⟨d,_,i,t⟩
end
section
variable{X:Cx}{pins:List (Addr × Bc)}{σ:St}{H:Hp}{s:aa}{A:Fa}{E:Value->aa->Prop}{Q:Value->aa->Prop}{c:Value}{b:Bool}
inductive vl(K:W.Frag)(H:Hp):V->Value->Prop where
 |Vb:vl K H .Vb (.type "NoneType")
 |bl (x:Bool):vl K H (.bl x) (.type "bool")
 |int (i:Int):vl K H (.int i) (.type "int")
 |str (x:Str):vl K H (.str x) (.type "str")
 |rz (x:UInt64):vl K H (.rz x) (.type "float")
 |lst {a:Addr} {xs:List V} (e:H a=some (.lst xs)):vl K H (.ref a) (.type "list")
 |Hb {a:Addr} {o:Bc} {xs:List V} (e:H a=some (.Hb o (.lst xs))):vl K H (.ref a) (.type "list")
 |tup {a:Addr} {xs:List V} (e:H a=some (.tup xs)):vl K H (.ref a) (.type "tuple")
 |dK {a:Addr} {kvs:List (Key × V)} (e:H a=some (.dK kvs)):vl K H (.ref a) (.type "dict")
 |dT {a:Addr} {kvs:List (List Key × V)} (e:H a=some (.dT kvs)):vl K H (.ref a) (.type "dict")
 |ins {a C dx:Addr} {fs:List (Str × V)} (e:H a=some (.ins C dx fs)) (cl:wl K C) (ha:W.findIn K (.ref C) "__class__" = some (some (.builtin "object.__class__")))
   (hn:W.specialIn K (.builtin "object.__class__") "__get__" = some (some (.builtin "getset_descriptor.__get__"))) (htk:W.takesIn K (.builtin "object.__class__")=some true)
   (hm:W.mroIn K C (.type "object")=some true):vl K H (.ref a) (.ref C)
theorem bS{x:V}{u t:Value}(I:Inv X pins σ H s)(f:Ed x u)(ty:vl X.K H x t)(e:W.kitOne X.K t c=some b)(h:∀ tk,Q (.bool b) { s with toks:=tk }) :
  wpAny (model X.prog X.w) A (call (.builtin "isinstance") [u,c]) Q E s:=by
 cases ty with
 |Vb=>cases (show u=pb from f);exact W.kia_one W.kitx_none I.mj True.intro e (λz=>nomatch z) h
 |bl y=>cases (show u=Ff y from f);exact W.kia_one W.kitx_bool I.mj True.intro e (λz=>nomatch z) h
 |int i=>obtain⟨t,q⟩:=(show ∃ t,u=Li i t from f);cases q;exact W.kia_one W.kitx_int I.mj True.intro e (λz=>nomatch z) h
 |str y=>obtain⟨t,q⟩:=(show ∃ t,u=Xm y t from f);cases q;exact W.kia_one W.kitx_str I.mj True.intro e (λz=>nomatch z) h
 |rz y=>obtain⟨t,q⟩:=(show ∃ t,u=Gs y t from f);cases q;exact W.kia_one W.kitx_float I.mj True.intro e (λz=>nomatch z) h
 |@lst a xs d=>
  cases (show u=jb a from f);obtain⟨_,_,n,_,h1⟩:=(show qj X.prog X.w H s.heap a (.lst xs)from I.dc a _ d)
  exact W.kia_one W.kitx_list I.mj ⟨_,h1,rfl⟩ e (λz=>nomatch z) h
 |@Hb a v xs d=>
  cases (show u=jb a from f);obtain⟨_,_,_,n,_,h1⟩:=(show qj X.prog X.w H s.heap a (.Hb v (.lst xs))from I.dc a _ d)
  exact W.kia_one W.kitx_list I.mj ⟨_,h1,rfl⟩ e (λz=>nomatch z) h
 |@tup a xs d=>
  cases (show u=jb a from f);obtain⟨_,_,_,p⟩:=(show qj X.prog X.w H s.heap a (.tup xs)from I.dc a _ d)
  obtain⟨o,h1,j,_⟩:=p;exact W.kia_one W.kitx_tuple I.mj ⟨o,h1,j⟩ e (λz=>nomatch z) h
 |@dK a g d=>
  cases (show u=jb a from f);obtain⟨_,_,G,_,p⟩:=(show qj X.prog X.w H s.heap a (.dK g)from I.dc a _ d)
  obtain⟨o,m,l,h1,j,_⟩:=p;exact W.kia_one W.kitx_dict I.mj ⟨o,h1,j.1⟩ e (λz=>nomatch z) h
 |@dT a g d=>
  cases (show u=jb a from f);obtain⟨_,_,xs,_,o,m,l,h1,j,_⟩:=(show qj X.prog X.w H s.heap a (.dT g)from I.dc a _ d)
  exact W.kia_one W.kitx_dict I.mj ⟨o,h1,j.1⟩ e (λz=>nomatch z) h
 |@ins a C B fs d cl r hn k hm=>
  cases (show u=jb a from f);obtain⟨D,O,_⟩:=vE I.dc d;obtain⟨F,J,_⟩:=O.look;exact W.kia_one (W.kitx_own (cl.get _) cl.hd r hn k hm) I.mj J e (λz=>nomatch z) h
end
structure jd(k:Nat)(A:Fa):Prop where
 hd:A.handled=none
 dp:A.depth+3 * k+5<recursionLimit
 un:A.units+16 * k+200<cLine
theorem jd.mono{j k:Nat}{A:Fa}(r:jd k A)(h:j<=k):jd j A:=⟨r.hd,by have:=r.dp;omega,by have:=r.un;omega⟩
theorem jd.deeper{k:Nat}{A:Fa}(r:jd (k+1) A)(env:Hg):jd k (A.deeper env):=
 ⟨r.hd,by have:=r.dp;show A.depth+1+3 * k+5<_;omega,by have:=r.un;show A.units+3+16 * k+200<_;omega⟩
theorem jd.in1{k:Nat}{A:Fa}(r:jd (k+1) A):jd k A.in1:=
 ⟨r.hd,by have:=r.dp;show A.depth+3 * k+5<_;omega,by have:=r.un;show A.units+1+16 * k+200<_;omega⟩
theorem oV{A:Fa}{C:Addr}{us:List Value}{kw:List (Str × Value)}:(A.under (.builtin "type.__call__" ⟨.ref C::us,kw⟩)).depth=A.depth+1:=by
 first|rfl|simp[Iq,Code.weight,Code.isCreation,Code.isGuard,Code.isCaller,RD,Ir,guardIds]
theorem GX{A:Fa}{C:Addr}{us:List Value}{kw:List (Str × Value)}:(A.under (.builtin "type.__call__" ⟨.ref C::us,kw⟩)).units=A.units+1:=by
 first|rfl|simp[Iq,Code.cUnits,RD,Ir]
theorem jd.make{k:Nat}{A:Fa}(r:jd (k+1) A)(C:Addr)(us:List Value)(kw:List (Str × Value)):jd k (A.under (.builtin "type.__call__" ⟨.ref C::us,kw⟩)):=
 ⟨r.hd,by have:=r.dp;rw[oV];omega,by have:=r.un;rw[GX];omega⟩
theorem jd.depth{k:Nat}{A:Fa}(r:jd k A):A.depth<recursionLimit:=by have:=r.dp;omega
theorem jd.units{k:Nat}{A:Fa}(r:jd k A):A.units+64<cLine:=by have:=r.un;omega
noncomputable def LY:TA:=λ_ H Q=>Q [] H
noncomputable def P2(d:TE)(e:TA):TA:=λa H Q=>d a H λx b=>e a b λxs c=>Q (x::xs) c
section
variable{X:Cx}{e:Ca}{es:List Ca}{te:TE}{t:TA}{pos:re}
theorem zy:PA X [] LY:=λ_ _ _ _ H Q I h=>Calls.spliced_nil ⟨[],H,I,.nil,h⟩
theorem Lv(g:PE X e te)(i:PA X es t)(j:pa (e::es) X.env=(false,Ib e X.env)::pa es X.env:=by rfl):PA X (e::es) (P2 te t):=by
 intro pos a s b H Q I h;rw[j];show wpAny _ _ (spliced ((false,Ib e X.env)::nc pos (pa es X.env))) _ _ s;refine Calls.spliced_cons (be (g a s b H _ I h) λu s1 ⟨x,H1,d,m,k⟩=>?_);exact be (i pos a s1 b H1 _ d k) λus s2 ⟨xs,c,f,n,l⟩=>⟨x::xs,c,f,.cons m n,l⟩
def mX(t:TA):TE:=λb H Q=>t b H λxs a=>xs.length<=sizeLine/\∀ p,a p=none->Q (.ref p) (upd a p (.tup xs))
def UU(t:TA):TE:=λb H Q=>t b H λxs a=>xs.length<=sizeLine/\∀ p,a p=none->Q (.ref p) (upd a p (.lst xs))
theorem yla{x1}(h:PA X es t):PE X (.Tuple es x1 pos) (mX t):=by
 intro a s f H Q I hq;refine wpAny_Tuple_spliced (be (h pos a s f H _ I hq) λus s1 ⟨xs,H1,c,r,z,q⟩=>⟨by rw[<-r.length];exact z,?_⟩);have d:H1 s1.heap.objs.size=none:=c.dc.fresh (ya _);refine⟨.ref s1.heap.objs.size,upd H1 s1.heap.objs.size (.tup xs),c.laid (t':=s1.toks) (λb u e=>ka _ e) (ya _) ?_,rfl,q _ d⟩;exact⟨z,us,r,⟨_,gb _ rfl,rfl,_,rfl⟩⟩
theorem jR(h:PA X es t):PE X (.List es pos) (UU t):=by
 intro a s f H Q I hq;refine wpAny_List_spliced (be (h pos a s f H _ I hq) λus s1 ⟨xs,H1,c,r,z,q⟩=>⟨by rw[<-r.length];exact z,?_⟩);have d:H1 s1.heap.objs.size=none:=c.dc.fresh (ya _);refine⟨.ref s1.heap.objs.size,upd H1 s1.heap.objs.size (.lst xs),c.laid (t':=s1.toks) (λb u e=>ka _ e) (ya _) ?_,rfl,q _ d⟩;exact⟨z,us,0,r,gb _ rfl⟩
end
abbrev Sp:=List V->Hp->VK->XK->Prop
abbrev Xt:=List Hg->Hp->aa->XK->Value->aa->Prop
structure Sm(P:Aa)(w:Ia)(K:W.Frag)(mg:Str->Option Value)(base:Heap)(A:Fa)(outer:List Hg)(s:aa)(H:Hp):Prop where
 frames:A.frames=some outer
 mod:Mod K mg base
 bs:∀ b o,base.get? b=some o->s.heap.get? b=some o/\H b=none
 Os:base.objs.size<=s.heap.objs.size
 Ij:s.heap.FunFrames base outer
 Yu:∀ b∈Nj outer,H b=none
 dc:Ni P w H s.heap
 bare:Tg s.gens
def CE(outer:List Hg)(P:Aa)(w:Ia)(H:Hp)(s:aa)(Q:VK)(u:Value)(s':aa):Prop:=
 ∃ v a,s'.os=s.os/\Tg s'.gens/\Un (Nj outer) [] H a s.heap s'.heap/\Ni P w a s'.heap/\Ed v u/\Q v a
def CR(a:Xt)(outer:List Hg)(P:Aa)(w:Ia)(H:Hp)(s:aa)(Q:VK)(E:XK)(r:vA)(s':aa):Prop:=
 match r with
 | .ok (.ret u)=>CE outer P w H s Q u s'
 | .ok _=>False
 | .error e=>a outer H s E e s'
structure ph(P:Aa)(w:Ia)(K:W.Frag)(mg:Str->Option Value)(base:Heap)(CX:Xt)(k:Nat)(f:Addr)(fd:me)(ps:List Str)(sp:Sp):Prop where
 len:∀ vs H Q E,sp vs H Q E->vs.length=ps.length
 run:∀ (A:Fa) (outer:List Hg) (s:aa) (H:Hp) (args:Args) (us:List Value) (vs:List V) (Q:VK) (E:XK),jd k A->Sm P w K mg base A outer s H->xf s fd args (ps.zip us)->ue vs us->sp vs H Q E->
  codeAny (model P w) A (.call (.ref f) args) (CR CX outer P w H s Q E) s
theorem ph.mono{P:Aa}{w:Ia}{K:W.Frag}{mg:Str->Option Value}{base:Heap}{b:Xt}{j k:Nat}{f:Addr}{c:me}{ps:List Str}{sp:Sp}(F:ph P w K mg base b j f c ps sp)(h:j<=k) :
  ph P w K mg base b k f c ps sp:=⟨F.len,λA outer s H a e g Q E d=>F.run A outer s H a e g Q E (d.mono h)⟩
theorem ph.imp{P:Aa}{w:Ia}{K:W.Frag}{mg:Str->Option Value}{base:Heap}{b:Xt}{k:Nat}{f:Addr}{c:me}{ps:List Str}{sp sp':Sp}(F:ph P w K mg base b k f c ps sp)
  (h:∀ vs H Q E,sp' vs H Q E->sp vs H Q E):ph P w K mg base b k f c ps sp':=
 ⟨λvs H Q E q=>F.len vs H Q E (h _ _ _ _ q),λA outer s H a j vs Q E e d hb i g=>F.run A outer s H a j vs Q E e d hb i (h _ _ _ _ g)⟩
theorem Sm.make{P:Aa}{w:Ia}{K:W.Frag}{mg:Str->Option Value}{base:Heap}{A:Fa}{outer:List Hg}{s:aa}{H:Hp}(e:Sm P w K mg base A outer s H)(C:Addr)(us:List Value)(kw:List (Str × Value)) :
  Sm P w K mg base (A.under (.builtin "type.__call__" ⟨.ref C::us,kw⟩)) outer s H:=⟨by first|exact e.frames|(simpa [Iq,Code.envs,Ir,pushEnvs]using e.frames),e.mod,e.bs,e.Os,e.Ij,e.Yu,e.dc,e.bare⟩
theorem Sm.in1{P:Aa}{w:Ia}{K:W.Frag}{mg:Str->Option Value}{base:Heap}{A:Fa}{outer:List Hg}{s:aa}{H:Hp}(e:Sm P w K mg base A outer s H) :
  Sm P w K mg base A.in1 outer s H:=⟨e.frames,e.mod,e.bs,e.Os,e.Ij,e.Yu,e.dc,e.bare⟩
section
variable{X:Cx}{pins:List (Addr × Bc)}{σ:St}{H:Hp}{s s':aa}
theorem Inv.sD(I:Inv X pins σ H s):Sm X.prog X.w X.K X.mg X.base X.A X.stack s H:=
 ⟨I.ok.frames,I.ok.mod,I.bs,cc I.ok.Os I.sz,I.stack,I.yk,I.dc,I.bare⟩
theorem Inv.after{Q:VK}{u:Value}(I:Inv X pins σ H s)(h:CE X.stack X.prog X.w H s Q u s'):EP X pins σ Q u s':=by
 obtain⟨v,c,os,bare,un,dc,r,q⟩:=h;obtain⟨e,g,d,t,a⟩:=s';obtain rfl:a=s.os:=os;exact⟨v,c,I.call (h':=e) (g':=g) (d':=d) (t':=t) (ch:=[]) un dc bare (λb z=>absurd z (by simp)),r,q⟩
end
def Rr(K:W.Frag)(a:me)(ps:List Str)(ds:List Value):Prop:=
 ∀ (s:aa) (us:List Value),K.In s.heap->(us++ds).length=ps.length->xf s a ⟨us,[]⟩ (ps.zip (us++ds))
theorem Rr.all{K:W.Frag}{a:me}{ps:List Str}(h:∀ us:List Value,us.length=ps.length->bindArgs a ⟨us,[]⟩=pure (ps.zip us)):Rr K a ps []:=λs us _ b=>by
 rw[mf]at b ⊢;exact .of_eq (h us b)
section
variable{X:Cx}{CX:Xt}{k:Nat}{f C:Addr}{fd:me}{ps:List Str}{sp:Sp}{dvs:List V}{ds:List Value}{E:XK}{x m:Str}{p pos apos:re}{e o:Ca}{es:List Ca}{ta:TE}{t:TA}
structure Mk(K:W.Frag)(C f:Addr):Prop where
 makes:W.makesIn K C=true
 init:W.findIn K (.ref C) "__init__" = some (some (.ref f))
 fn:W.isFn K (.ref f)=true
 kp:W.keepIn K (.ref C)=true
end
section
variable{X:Cx}{CX:Xt}{k:Nat}{f C:Addr}{fd:me}{ps ks:List Str}{sp:Sp}{E:XK}{x m:Str}{p pos apos kpos:re}{e o:Ca}{es:List Ca}{kws:List gk}{te ta:TE}{t tk:TA}{nm:Option Str}
structure eI(K:W.Frag)(fd:me)(ps ks:List Str)(g:List Value->List Value->List Value)(gV:List V->List V->List V):Prop where
 to:∀ (s:aa) (us ws:List Value),K.In s.heap->(g us ws).length=ps.length->xf s fd ⟨us,ks.zip ws⟩ (ps.zip (g us ws))
 rel:∀ {vs:List V} {us:List Value} {zs:List V} {ws:List Value},ue vs us->ue zs ws->ue (gV vs zs) (g us ws)
variable{g:List Value->List Value->List Value}{gV:List V->List V->List V}
end
structure ua(N P:List Str)(sc:Scope):Prop where
 kind:sc.kind=.function
 co:sc.isCoroutine=false
 gen:sc.isGenerator=false
 nd:N.Nodup
 pre:N.take P.length=P
 par:∀ x∈P,sc.names.lookup x=some .local\/sc.names.lookup x=some .cell
 oz:∀ y∈sc.names,y.2≠.free
theorem pT{a:Str->Option ff}{x:Str}:∀ {binds:List (Str × Value)} {m:Str->Option Value},(∀ v,(x,v) ∉ binds)->Iu a binds m x=m x
 |[],_,_=>rfl
 |(n,v)::r,m,h=>by
  unfold Iu;rw[pT λw b=>h w (nb _ b)];split
  ·have:x≠n:=by rintro rfl;exact h v Xb
   simp[this]
  ·rfl
theorem MR{a:Str->Option ff}{x:Str}:∀ {binds:List (Str × Value)} {m:Str->Option Value},(∀ v,(x,v) ∉ binds)->Ju a binds m x=m x
 |[],_,_=>rfl
 |(n,v)::r,m,h=>by
  unfold Ju;rw[MR λw b=>h w (nb _ b)];split
  ·rfl
  ·have:x≠n:=by rintro rfl;exact h v Xb
   simp[this]
theorem aQ{a:Str->Option ff}{x:Str}{v:Value}:∀ {P:List Str} {vs:List Value} {i:Nat} {m:Str->Option Value},P.Nodup->P[i]?=some x->vs[i]?=some v->a x=some .local->
  Iu a (P.zip vs) m x=some v
 |[],_,_,_,_,h,_,_=>by simp at h
 |_::_,[],_,_,_,_,h,_=>by simp at h
 |p::P,w::vs,0,m,nd,h1,b,c=>by
  simp at h1 b;subst h1;subst b;show Iu a ((p,w)::P.zip vs) m p=_;unfold Iu;rw[pT λv d=>(vj.mp nd).1 (Ho d).1,ia c];simp
 |p::P,w::vs,i+1,m,nd,h1,b,c=>by
  show Iu a ((p,w)::P.zip vs) m x=_;unfold Iu;exact aQ (i:=i) (vj.mp nd).2 (by simpa using h1) (by simpa using b) c
theorem DS{a:Str->Option ff}{x:Str}{v:Value}:∀ {P:List Str} {vs:List Value} {i:Nat} {m:Str->Option Value},P.Nodup->P[i]?=some x->vs[i]?=some v->a x≠some .local->
  Ju a (P.zip vs) m x=some v
 |[],_,_,_,_,h,_,_=>by simp at h
 |_::_,[],_,_,_,_,h,_=>by simp at h
 |p::P,w::vs,0,m,nd,h1,b,c=>by
  simp at h1 b;subst h1;subst b;show Ju a ((p,w)::P.zip vs) m p=_;unfold Ju;rw[MR λv d=>(vj.mp nd).1 (Ho d).1,qa c];simp
 |p::P,w::vs,i+1,m,nd,h1,b,c=>by
  show Ju a ((p,w)::P.zip vs) m x=_;unfold Ju;exact DS (i:=i) (vj.mp nd).2 (by simpa using h1) (by simpa using b) c
noncomputable def qv(N:List Str)(vs:List V):St:=vs.map some++List.replicate (N.length - vs.length) none
noncomputable def zp(b:Xt)(P:Aa)(w:Ia)(K:W.Frag)(mg:Str->Option Value)(base:Heap)(N:List Str)(qual:Str)(scope:Scope)(f:Addr)(cd:Value)(A:Fa)(outer:List Hg)(s:aa)(H:Hp)(E:XK):Cx where
 prog:=P
 w:=w
 K:=K
 mg:=mg
 base:=base
 A:=A.deeper (ag qual scope s.heap.objs.size f cd)
 N:=N
 s₀:=s
 H₀:=H
 env:=ag qual scope s.heap.objs.size f cd
 outer:=outer
 stack:=ag qual scope s.heap.objs.size f cd::outer
 ex:=[]
 calm:=true
 fn:=λ_=>true
 pn:=[]
 xe:=λe d=>wpAny (model P w) (A.deeper (ag qual scope s.heap.objs.size f cd)) (LB (ag qual scope s.heap.objs.size f cd) e) (λ_ a=>b outer H s E e a) (λc a=>b outer H s E c a) d
theorem qT{sc:Scope}{n:Nat}{x:Str}(h:sc.names.lookup x=some .cell):∃ c,(TD n sc.names []).lookup x=some c:=by
 have q:=W.cellsFrom_some sc.names n [] (.inl h);exact Fe.mp q
theorem G0{t:Xt}{P:Aa}{w:Ia}{K:W.Frag}{mg:Str->Option Value}{base:Heap}{N ps:List Str}{qual:Str}{scope:Scope}{f:Addr}{cd:Value}{A:Fa}{outer:List Hg}{s s1:aa}{H:Hp}{E:XK}{us:List Value}{vs:List V}
  (S:ua N ps scope) (hd:A.handled=none) (g:Sm P w K mg base A outer s H) (I:vs.length=ps.length) (r:ue vs us)
  (x:InCallC s s.heap.objs.size (Iu (ag qual scope s.heap.objs.size f cd).kindOf (ps.zip us) λ_=>none) (TD (s.heap.objs.size+1) scope.names []) (Ju (ag qual scope s.heap.objs.size f cd).kindOf (ps.zip us) λ_=>none) s1) :
  Inv (zp t P w K mg base N qual scope f cd A outer s H E) [] (qv N vs) H s1:=by
 have F:ps.length<=N.length:=by have:=Ad List.length S.pre;rw[vn]at this;omega
 obtain⟨h1,J,rfl,B⟩:=x.done;have j:∀ b:Addr,b ∉ (zp t P w K mg base N qual scope f cd A outer s H E).ex:=λb z=>absurd (show b∈([]:List Addr)from z) (by simp);refine⟨⟨g.mod,S.kind,rfl,rfl,ya _,λy z c h1 d=>?_,λy hy=>?_,λy c _ h=>?_,λ_=>hd,Gr g.frames,.inr ⟨rfl,rfl⟩,λb z=>absurd z (j b),g.bs,g.Os,λb _ _=>j b,λb z=>absurd z (j b),g.Ij,g.Yu⟩,
  rfl,g.bare,Un.kept B,⟨_,x.toInCall.ns,λi y v h1 d h3=>?_⟩,λy c h=>⟨_,x.cell y c h⟩,g.dc.fresh (ya _),λy c h=>?_,λp l=>absurd (show p∈([]:List (Addr × Bc))from l) (by simp),g.dc.kept B,?_⟩
 ·exact name_of_addr x.apart (Pe h1) (Pe d)
 ·have hy:scope.names.lookup y=some .cell\/scope.names.lookup y=some .free:=hy;rcases hy with hy|hy
  ·exact qT hy
  ·exact absurd rfl (S.oz _ (Pe hy))
 ·exact Pf (x.above y c (Pe h))
 ·have o:i<vs.length:=by
   unfold qv at d;by_cases o:i<vs.length
   ·exact o
   ·rw[gd (by simpa using o)]at d;rw[pr]at d;split at d<;>cases d
  have D:vs[i]?=some v:=by
   unfold qv at d;rw[xb (by simpa using o),Eb]at d;cases e:vs[i]? with
   |none=>rw[e]at d;cases d
   |some a=>rw[e]at d;cases d;rfl
  obtain⟨u,C,G⟩:=r.get D;have l:ps[i]?=some y:=by
   rw[<-S.pre,Cq (by omega)];exact h1
  have m:ps.Nodup:=by rw[<-S.pre];exact S.nd.sublist (List.take_sublist _ _)
  refine⟨u,G,?_⟩;rcases S.par y (Ha l)with k|k
  ·exact .inl ⟨k,aQ m l C k⟩
  ·obtain⟨c,e⟩:=qT (n:=s.heap.objs.size+1) k;refine .inr ⟨.inl k,c,e,?_⟩;have q:=x.cell y c e;rw[DS m l C (by show scope.names.lookup y≠_;rw[k];decide)]at q;exact q
 ·exact g.dc.fresh (Pf (x.above y c (Pe h)))
 ·unfold qv;show _=N.length;rw[qe,rc,List.length_replicate];omega
theorem jQ{C:Xt}{P:Aa}{w:Ia}{K:W.Frag}{mg:Str->Option Value}{base:Heap}{k:Nat}{f:Addr}{name qual:Str}{c:Arguments}{d:List Stmt}{scope:Scope}{U kV m X a ct oc:Value}{R od:Option Addr}
  {L:Array (Option Value)} {N ps:List Str} {sp:Sp} (lk:K.lookup f=some ⟨oc,od,.func (W.fnOf name qual c d scope U kV m X R a ct),L⟩) (D:W.codeIn K a qual=true) (S:ua N ps scope)
  (len:∀ vs H Q E,sp vs H Q E->vs.length=ps.length)
  (i:∀ (A:Fa) (outer:List Hg) (s:aa) (H:Hp) (vs:List V) (Q:VK) (E:XK),jd k (A.deeper (ag qual scope s.heap.objs.size f a))->sp vs H Q E->
   ∃ t,Ms (zp C P w K mg base N qual scope f a A outer s H E) d t/\t { nx:=λ_ h=>Q .Vb h,rt:=Q } (qv N vs) H) :
  ph P w K mg base C (k+1) f (W.fnOf name qual c d scope U kV m X R a ct) ps sp:=by
 refine⟨len,λA outer s H T us vs Q E F p hb r B=>?_⟩;have hl:=len _ _ _ _ B;have O:K.In s.heap:=p.mod.xw.keeps λb o e=>(p.bs b o e).1;have G:s.heap.NoLimit:=p.mod.nolimit.keeps λb o e=>(p.bs b o e).1;have j:∀ y∈ps.zip us,scope.names.lookup y.1=some .local\/(scope.names.lookup y.1=some .cell/\((TD (s.heap.objs.size+1) scope.names []).lookup y.1).isSome=true):=λ⟨n,v⟩ hy=>by
  rcases S.par n (Ho hy).1 with q|q
  ·exact .inl q
  ·exact .inr ⟨q,W.cellsFrom_some _ _ _ (.inl q)⟩
 refine codeAny_call_function F.depth (O _ _ lk) rfl S.co S.gen rfl (W.codeRec_of O D) (hb _ _ _ _ ?_);refine wpAny_newFunctionEnv_cells S.kind j λenv Z s1 x=>?_;subst Z;refine⟨G.keeps x.toInCall.keep,codeAny_func ?_⟩;obtain⟨t,ht,hq⟩:=i A outer s H vs Q E (F.deeper _) B;have I:Inv (zp C P w K mg base N qual scope f a A outer s H E) [] (qv N vs) H s1:=G0 S F.hd p hl r x;refine bc (ht [] s1 (qv N vs) H _ I hq) (λY s' l=>?_) λe s' l=>l;have z:∀ {g:St} {h:Hp} {v:V} {u:Value},Inv (zp C P w K mg base N qual scope f a A outer s H E) [] g h s'->Ed v u->Q v h->CE outer P w H s Q u s':=
  fun {g h v u} J M q=>⟨v,h,J.os,J.bare,J.base,J.dc,M,q⟩
 cases Y with
 |ret u=>
  obtain⟨v,g,h,J,M,q⟩:=l;exact z J M q
 |next=>
  obtain⟨g,h,J,q⟩:=l;exact z (v:=V.Vb) (u:=pb) J rfl q
 |brk=>
  obtain⟨_,_,_,q⟩:=l;exact False.elim q
 |cont=>
  obtain⟨_,_,_,q⟩:=l;exact False.elim q
section
variable{X:Cx}{x:Str}{p pos:re}{e:Ca}{es:List Ca}{t:TA}{id T:String}{r:List V->Hp->VK->Prop}
def QK(r:List V->Hp->VK->Prop)(t:TA):TE:=λc H Q=>t c H λb a=>r b a Q
theorem aF(hc:Fo X (.builtin id) r)(hg:Gl X x)(hm:X.mg x=none)(j:bootBuiltins x=some (.builtin id))(g:PA X (e::es) t)(hn:x ≠ "__name__":=by decide)(b:(x == ("__debug__" : Str))=false:=by decide)
  (i:pa (e::es) X.env=(false,Ib e X.env)::pa es X.env:=by rfl) (c:(nc pos (pa es X.env)).any (·.1)=false:=by rfl):PE X (.Call (.Name x p) (e::es) [] pos) (QK r t):=by
 intro a s d H Q I h;refine wf (Ry I hg hm j ?_ hn b);exact gH (be (g pos a s d H _ I h) λus s1 ⟨m,H1,f,l,k⟩=>hc a s1 d H1 m us Q f l k) i c
theorem BP(hc:Fo X (.type T) r)(hg:Gl X x)(hm:X.mg x=none)(j:bootBuiltins x=some (.type T))(g:PA X (e::es) t)(hn:x ≠ "__name__":=by decide)(b:(x == ("__debug__" : Str))=false:=by decide)
  (i:pa (e::es) X.env=(false,Ib e X.env)::pa es X.env:=by rfl) (c:(nc pos (pa es X.env)).any (·.1)=false:=by rfl):PE X (.Call (.Name x p) (e::es) [] pos) (QK r t):=by
 intro a s d H Q I h;refine wf (Ry I hg hm j ?_ hn b);exact Ze (be (g pos a s d H _ I h) λus s1 ⟨m,H1,f,l,k⟩=>hc a s1 d H1 m us Q f l k) i c
end
end L2
namespace HT
open PySem PyProof.Rows
section
open PySem.SeqAt
open PySem.AutoSeq1 (wpAny_loadPart')
open PySem.MeetsSeq PySem.MeetsSeq2 PySem.MeetsSeq3
end
section
variable{prog:Aa}{w:Ia}{A:Fa}{E:Value->aa->Prop}{s:aa}
theorem fx{t b:Addr}{vs a:List Value}{Q:Value->aa->Prop}(ht:Hu s.heap t vs.toArray)(hb:Hu s.heap b a.toArray)(o:vs≠[])
  (h1:a=[]->Q (.ref t) s) (r:a≠[]->Q (.ref s.heap.objs.size) { s with heap:=s.heap.push { cls:=.type "tuple",data:=.seq (vs++a).toArray } })
  (hsz:vs.length+a.length<=sizeLine):wpAny (model prog w) A (Gf .Add (.ref t) (.ref b)) Q E s:=by
 obtain⟨⟨cls,m,data,q⟩,i,hc,n,hd⟩:=id ht;obtain⟨⟨l,d,k,h⟩,c,f,p,g⟩:=id hb;simp only at hc hd f g;subst hc hd f g;have e:vs.toArray++a.toArray=(vs++a).toArray:=by simp
 by_cases j:a=[]
 ·exact Nv ⟨_,i,rfl⟩ ⟨_,c,rfl⟩ sq au Hi li (Zh _ _)
   (tuple_addW1 t b vs.toArray a.toArray n p m d q h (by simpa using o) (by simp[j])) ⟨i,c,h1 j⟩
 ·refine Nv ⟨_,i,rfl⟩ ⟨_,c,rfl⟩ sq au Hi li (Zh _ _)
   (tuple_addW2 t b vs.toArray a.toArray n p m d q h (by simpa using o) (by simpa using j) (by rw[va,va];exact hsz)) ⟨i,c,?_⟩
  rw[e];exact r j
noncomputable def Hf(n d:Nat):Option Int->Nat
 |none=>d
 |some v=>if v<0 then (v+(n:Int)).toNat else min v.toNat n
theorem z6(n d:Nat)(hd:d<=n)(o:Option Int):Hf n d o<=n:=by
 cases o with
 |none=>exact hd
 |some v=>
  show (if v<0 then (v+(n:Int)).toNat else min v.toNat n)<=n;by_cases a:v<0
  ·rw[ia a];omega
  ·rw[qa a];exact Nat.min_le_right _ _
theorem iN(v:Int)(n d:Nat):(if v<0 then max (v+(n:Int)) 0 else min v (n:Int))=((Hf n d (some v):Nat):Int):=by
 show (if v<0 then max (v+(n:Int)) 0 else min v (n:Int))=(((if v<0 then (v+(n:Int)).toNat else min v.toNat n):Nat):Int);by_cases a:v<0
 ·simp only[ia a];omega
 ·simp only[qa a];omega
theorem BZ(b a:Option Int)(n:Nat):Vg b a 1 (n:Int)=(((Hf n 0 b:Nat):Int),((Hf n n a:Nat):Int)):=by
 have h1:¬ ((1:Int)<0):=by omega
 unfold Vg;simp only[h1,Dq];refine bU ?_ ?_
 ·cases b with
  |none=>rfl
  |some v=>exact iN v n 0
 ·cases a with
  |none=>rfl
  |some v=>exact iN v n n
theorem NW(i j:Nat):pf (i:Int) (j:Int) 1=j - i:=by
 unfold pf;have h1:(1:Int) > 0:=by omega
 simp only[h1,Ng,Int.ediv_one];split<;>omega
theorem eN{v:Value}{o:Option Int}{Q:Option Int->aa->Prop}(p:Ml v o)(h:Q o s):wpAny (model prog w) A (UD v) Q E s:=by
 cases p with
 |none=>exact IL h
 |int i t=>exact slicePart_int h
theorem pR{g:Addr}{e f:Value}{a c:Option Int}{n:Nat}{Q:Int × Int × Nat->aa->Prop}(j:s.heap.IsSliceOf g e f .none)(pl:Ml e a)(k:Ml f c)
  (h:Q (((Hf n 0 a:Nat):Int),1,Hf n n c - Hf n 0 a) s):wpAny (model prog w) A (Uk (.ref g) (pure (n:Int))) Q E s:=by
 obtain⟨os,d,i,b⟩:=id j;unfold Uk VD;refine ba (ba (Il d b (x:=e) rfl (ba (Il d b (x:=f) rfl (ba (Il d b (x:=.none) rfl (xa ?_)))))));refine ba (IL ?_);show wpAny _ _ (if ((1:Int) == 0)=true then _ else _) _ _ s;rw[qa (by decide)];refine ba (eN pl (ba (eN k (ba (xa ?_)))));show wpAny _ _ (match Vg a c 1 (n:Int)with|(a,c)=>pure (a,(1:Int),pf a c 1)) _ _ s;rw[BZ a c n];show wpAny _ _ (pure (((Hf n 0 a:Nat):Int),(1:Int),pf ((Hf n 0 a:Nat):Int) ((Hf n n c:Nat):Int) 1)) _ _ s;rw[NW];exact xa h
theorem BY(xs:Array Value)(i k:Nat):((List.range k).filterMap λ(m:Nat)=>xs[((i:Int)+(m:Int) * 1).toNat]?).toArray=((xs.toList.drop i).take k).toArray:=by
 have e:(λ(m:Nat)=>xs[((i:Int)+(m:Int) * 1).toNat]?)=λm=>xs[i+m]?:=by
  funext m;have:((i:Int)+(m:Int) * 1).toNat=i+m:=by omega
  rw[this]
 rw[e];have:=pick_run xs i k;rw[List.filterMap_map]at this;have a:((λx=>xs[x]?) ∘ λx=>i+x)=λm=>xs[i+m]?:=rfl;rw[a]at this;rw[this]
theorem Qk{t j:Addr}{a:Array Value}{l n:Value}{c d:Option Int}{Q:Value->aa->Prop}(ht:Hu s.heap t a)(k:s.heap.IsSliceOf j l n .none)(pl:Ml l c)(r:Ml n d)
  (p:¬ (Hf a.size 0 c=0/\Hf a.size a.size d=a.size))
  (h:Q (.ref s.heap.objs.size) { s with heap:=s.heap.push { cls:=.type "tuple",data:=.seq ((a.toList.drop (Hf a.size 0 c)).take (Hf a.size a.size d - Hf a.size 0 c)).toArray } })
  (hsz:a.size<=sizeLine):wpAny (model prog w) A (ej (.ref t) (.ref j)) Q E s:=by
 have b:sizeOk (.seq ((a.toList.drop (Hf a.size 0 c)).take (Hf a.size a.size d - Hf a.size 0 c)).toArray):=by
  show ((a.toList.drop (Hf a.size 0 c)).take (Hf a.size a.size d - Hf a.size 0 c)).toArray.size<=sizeLine;rw[va,vn,Yw,kh];omega
 have hj:Hf a.size a.size d<=a.size:=z6 _ _ (ya _) d;obtain⟨os,i,f,o⟩:=id k;have e:s.TypeIs (.ref j) "slice":=⟨os,i,f⟩
 unfold ej;try with_reducible refine Td ?_
 first|refine ba (xa ?_)|skip
 refine ba (DB ht.typeIs (by decide) ?_);refine ba (Eu (name:=Sf "__getitem__") ht.typeIs yc
  (tq yc ht.typeIs az ?_ (oA _ _)))
 show wpAny _ _ (Vk (.ref t) >>= _) _ _ s;refine ba (cU ht ?_);refine ba (Ov e ?_);rw[ia (by decide)];refine ba (pR k pl r ?_);have g:¬ ((((Hf a.size 0 c:Nat):Int) == 0 && (1:Int) == 1 && (Hf a.size a.size d - Hf a.size 0 c) == a.size)=true):=by
  intro q;rw[Da,Da]at q;have u:((Hf a.size 0 c:Nat):Int)=0:=eq_of_beq q.1.1;have v:Hf a.size a.size d - Hf a.size 0 c=a.size:=eq_of_beq q.2;exact p ⟨by omega,by omega⟩
 show wpAny _ _ (if (((Hf a.size 0 c:Nat):Int) == 0 && (1:Int) == 1 && (Hf a.size a.size d - Hf a.size 0 c) == a.size)=true then _ else _) _ _ s;rw[qa g,BY];first
  |exact ba (m:=yf _) (Qe (xa ⟨_,rfl,xa h⟩) b)
  |exact ba (m:=yf _) (Qe (ba (xa (xa ⟨_,rfl,xa h⟩))) b)
  |exact ba (ba (m:=yf _) (Qe (xa (xa ⟨_,rfl,xa h⟩)) b))
  |exact ba (ba (m:=yf _) (Qe (xa ⟨_,rfl,xa h⟩) b))
end
end HT
namespace L2
open PySem PySem.Spec PyProof.Rows
abbrev TO:=St->Hp->(Option Int->Hp->Prop)->Prop
def PO(X:Cx)(e:Option Ca)(t:TO):Prop:=
 ∀ (a:List (Addr × Bc)) (s:aa) (σ:St) (H:Hp) (Q:Option Int->Hp->Prop),Inv X a σ H s->t σ H Q->
  wpAny (model X.prog X.w) X.A (evalPart e X.env) (λu c=>∃ o b,Inv X a σ b c/\Ml u o/\Q o b) X.xe s
noncomputable def K2:TO:=λ_ H Q=>Q none H
noncomputable def WY(t:TE):TO:=λb H Q=>t b H λx a=>∃ i,x=.int i/\Q (some i) a
theorem yM{ns:List Int}:∀ {us:List Value},ue (ns.map V.int) us->fm us ns:=by
 induction ns with
 |nil=>intro us r;rw[wg]at r;cases r;exact .nil
 |cons n ns a=>
  intro us r;rw[Sa]at r;cases r with
  |cons b c=>
   obtain⟨t,e⟩:=b;subst e;exact .cons n t (a c)
section
variable{X:Cx}{e:Ca}{te:TE}{lo hi:Option Ca}{tl th:TO}{pos p2:re}
theorem GZ:PO X none K2:=by
 intro a s b H Q I h;rw[dU];exact xa ⟨none,H,I,.none,h⟩
theorem uU(h:PE X e te):PO X (some e) (WY te):=by
 intro a s g H Q I c;rw[evalPart_some];refine be (h a s g H _ I c) λu s1 ⟨x,H1,b,f,d⟩=>?_;obtain⟨i,rfl,q⟩:=d;obtain⟨t,rfl⟩:=f;exact⟨some i,H1,b,.int i t,q⟩
def Cw(X:Cx)(r:V->Option Int->Option Int->Hp->VK->Prop):Prop:=
 ∀ (a:List (Addr × Bc)) (s:aa) (σ:St) (H:Hp) (x:V) (v c d:Value) (lo hi:Option Int) (b:Addr) (Q:VK),Inv X a σ H s->Ed x v->s.heap.IsSliceOf b c d .none->Ml c lo->Ml d hi->r x lo hi H Q->
  ∃ T e,typeLookup (.type T) "__getitem__" = pure (some (.builtin e))/\s.TypeIs v T/\wpAny (model X.prog X.w) X.A (ej v (.ref b)) (EP X a σ Q) X.xe s
theorem Cw.or{r d:V->Option Int->Option Int->Hp->VK->Prop}(h:Cw X r)(h':Cw X d):Cw X (λx lo hi H Q=>r x lo hi H Q\/d x lo hi H Q):=by
 intro a s j H x v g i lo hi f Q I e b pl c q;rcases q with q|q
 ·exact h a s j H x v g i lo hi f Q I e b pl c q
 ·exact h' a s j H x v g i lo hi f Q I e b pl c q
def XY(r:V->Option Int->Option Int->Hp->VK->Prop)(te:TE)(tl th:TO):TE:=λa H Q=>te a H λx b=>tl a b λl c=>th a c λu d=>r x l u d Q
theorem OZ{r:V->Option Int->Option Int->Hp->VK->Prop}(y:Cw X r)(p:PE X e te)(t:PO X lo tl)(z:PO X hi th):PE X (.Subscript e (.Slice lo hi none p2) pos) (XY r te tl th):=by
 intro a s c H Q I h;refine pA (be (p a s c H _ I h) λv s1 ⟨x,H1,j,E,B⟩=>?_);refine wpAny_Slice (be (t a s1 c H1 _ j B) λd s2 ⟨l,i,k,pl,C⟩=>be (z a s2 c i _ k C) λf s3 ⟨u,g,m,pu,D⟩=>?_);rw[dU];refine xa ?_;have n:Inv X a c g { s3 with heap:=s3.heap.push { cls:=.type "slice",data:=.fields #[d,f,.none] } }:=m.kept (t':=s3.toks) λb G q=>ka _ q;obtain⟨T,F,o,ht,hg⟩:=y a { s3 with heap:=s3.heap.push { cls:=.type "slice",data:=.fields #[d,f,.none] } } c g x v d f l u s3.heap.objs.size Q n E (EB ..) pl pu D;show wpAny (model X.prog X.w) X.A (ku e (.Slice lo hi none p2) v (.ref s3.heap.objs.size)) (EP X a c Q) X.xe { s3 with heap:=s3.heap.push { cls:=.type "slice",data:=.fields #[d,f,.none] } };exact tail_any (ops:=[.ref s3.heap.objs.size,v]) ht o hg (by with_unfolding_all rfl)
def Py(xs:List V)(lo hi:Option Int):List V:=(xs.drop (HT.Hf xs.length 0 lo)).take (HT.Hf xs.length xs.length hi - HT.Hf xs.length 0 lo)
theorem GP(xs:List V)(lo hi:Option Int):(Py xs lo hi).length<=xs.length:=by
 unfold Py;rw[vn,Yw];omega
def BN(K:W.Frag):V->Option Int->Option Int->Hp->VK->Prop:=λx lo hi H Q=>∃ a xs,x=.ref a/\Ah K H a xs/\
 ¬ (HT.Hf xs.length 0 lo=0/\HT.Hf xs.length xs.length hi=xs.length)/\∀ p,H p=none->Q (.ref p) (upd H p (.tup (Py xs lo hi)))
theorem yl9:Cw X (BN X.K):=by
 intro f s u H x v p t lo hi n Q I l g pl k h;obtain⟨a,xs,rfl,j,i,q⟩:=h;cases l;obtain⟨d,r,ht,e⟩:=I.tuple j;have c:d.toArray.size=xs.length:=by rw[va];exact r.length.symm
 refine⟨"tuple",_,yc.lookup,ht.typeIs,?_⟩;refine HT.Qk ht g pl k (by rw[c];exact i) ?_ (by rw[c];exact e);rw[c];refine⟨.ref s.heap.objs.size,_,I.laid (t':=s.toks) (o:=.tup (Py xs lo hi)) (λb m q=>ka _ q) (ya _) ?_,rfl,q _ (I.dc.fresh (ya _))⟩;exact⟨cc (GP xs lo hi) e,_,(r.drop (HT.Hf xs.length 0 lo)).take (HT.Hf xs.length xs.length hi - HT.Hf xs.length 0 lo),Pv _ _⟩
def Y0(K:W.Frag):R2:=λx y H Q=>∃ a b xs c,x=.ref a/\y=.ref b/\Ah K H a xs/\Ah K H b c/\xs≠[]/\xs.length+c.length<=sizeLine/\
 (c=[]->Q (.ref a) H)/\(c≠[]->∀ p,H p=none->Q (.ref p) (upd H p (.tup (xs++c))))
theorem ue.pq{xs:List V}{us:List Value}(r:ue xs us):us=[] ↔ xs=[]:=by
 cases r with
 |nil=>simp
 |cons _ _=>simp
theorem M5:Bi X (Gf .Add) (Y0 X.K):=by
 intro g s B H x y v u Q I p r h;obtain⟨a,b,xs,t,rfl,rfl,i,hb,j,e,m,n⟩:=h;cases p;cases r;obtain⟨k,d,l,_⟩:=I.tuple i;obtain⟨f,c,p2,_⟩:=I.tuple hb;refine HT.fx l p2 (λz=>j (d.pq.mp z)) (λz=>⟨.ref a,H,I,rfl,m (c.pq.mp z)⟩) (λz=>?_) (by rw[<-d.length,<-c.length];exact e);refine⟨.ref s.heap.objs.size,_,I.laid (t':=s.toks) (o:=.tup (xs++t)) (λb A q=>ka _ q) (ya _) ?_,rfl,n (λw=>z (c.pq.mpr w)) _ (I.dc.fresh (ya _))⟩;exact⟨by rw[qe];exact e,_,d.append c,Pv _ _⟩
end
noncomputable def dt(n:Nat)(i:Int):Option Nat:=if 0<=i then (if i<n then some i.toNat else none)else if -(n:Int)<=i then some (i+n).toNat else none
def yl{α:Type}(xs:List α)(i:Int):Option α:=(dt xs.length i).bind λj=>xs[j]?
theorem IQ{n:Nat}{i:Int}{j:Nat}(h:dt n i=some j):seqIndex? i n=some j/\j<n/\-(n:Int)<=i/\i<n:=by
 unfold dt at h;by_cases h0:0<=i
 ·rw[ia h0]at h;by_cases h1:i<n
  ·rw[ia h1]at h;have e:i.toNat=j:=yb h;exact⟨by rw[dy h0 h1,e],by omega,by omega,h1⟩
  ·rw[qa h1]at h;cases h
 ·rw[qa h0]at h;by_cases h1:-(n:Int)<=i
  ·rw[ia h1]at h;have e:(i+n).toNat=j:=yb h;exact⟨by rw[Qv (by omega) h1,e],by omega,h1,by omega⟩
  ·rw[qa h1]at h;cases h
theorem QP{a:Type}{xs:List a}{i:Int}{v:a}(h:yl xs i=some v):∃ j,seqIndex? i xs.length=some j/\xs[j]?=some v/\j<xs.length/\-(xs.length:Int)<=i/\i<xs.length:=by
 unfold yl at h;cases e:dt xs.length i with
 |none=>rw[e]at h;cases h
 |some j=>
  rw[e]at h;obtain⟨h1,b,h3,h4⟩:=IQ e;exact⟨j,h1,h,b,h3,h4⟩
theorem Ps{a:Type}{xs:List a}{j:Nat}{v:a}(h:xs[j]?=some v):yl xs (j:Int)=some v:=by
 have hj:j<xs.length:=(ra.mp h).1;have e:dt xs.length (j:Int)=some j:=by
  unfold dt;rw[ia (by omega),ia (by omega)];simp
 unfold yl;rw[e];exact h
def IJ(b:Ca):Prop:=∀ o i,Jq b false o i=operate [o,i] (ej o i)
def Ex(X:Cx)(r:R2):Prop:=
 ∀ (b a:Ca) (pins:List (Addr × Bc)) (s:aa) (σ:St) (H:Hp) (x y:V) (v u:Value) (Q:VK),Inv X pins σ H s->Ed x v->Ed y u->r x y H Q->
  Jq a false v u=operate [v,u] (ej v u)->wpAny (model X.prog X.w) X.A (ku b a v u) (EP X pins σ Q) X.xe s
def Gv(X:Cx)(b:String)(r:V->List V->Hp->VK->Prop):Prop:=
 ∀ (a:List (Addr × Bc)) (s:aa) (σ:St) (H:Hp) (x:V) (xs:List V) (v:Value) (us:List Value) (Q:VK),Inv X a σ H s->Ed x v->ue xs us->r x xs H Q->
  wpAny (model X.prog X.w) X.A (call (.builtin b) (v::us)) (EP X a σ Q) X.xe s
section
variable{X:Cx}{a b:Ca}{ta tb:TE}{pos:re}
theorem Ex.or{r e:R2}(h:Ex X r)(h':Ex X e):Ex X (λx y H Q=>r x y H Q\/e x y H Q):=by
 intro b a c s i H x y v u Q I f g q d;rcases q with q|q
 ·exact h b a c s i H x y v u Q I f g q d
 ·exact h' b a c s i H x y v u Q I f g q d
theorem Gv.or{b:String}{r c:V->List V->Hp->VK->Prop}(h:Gv X b r)(h':Gv X b c):Gv X b (λx xs H Q=>r x xs H Q\/c x xs H Q):=by
 intro a s g H x xs v f Q I e d q;rcases q with q|q
 ·exact h a s g H x xs v f Q I e d q
 ·exact h' a s g H x xs v f Q I e d q
theorem JZ{r:R2}(g:Ex X r)(f:PE X a ta)(hb:PE X b tb)(i:IJ b):PE X (.Subscript a b pos) (DC r ta tb):=by
 intro c s l H Q I h;exact pA (lL f hb I h λv u s2 x y d e j k q=>g a b c s2 l d x y v u Q e j k q (i _ _))
noncomputable def qJ(K:W.Frag):R2:=λx y H Q=>∃ p xs i v,x=.ref p/\y=.int i/\lf K H p xs/\yl xs i=some v/\Q v H
noncomputable def AI(K:W.Frag):R2:=λx y H Q=>∃ p xs i v,x=.ref p/\y=.int i/\Ah K H p xs/\yl xs i=some v/\Q v H
theorem yaq:Ex X (qJ X.K):=by
 intro f e a s l H x y v u Q I B C h k;obtain⟨p,xs,i,z,rfl,rfl,hq,o,q⟩:=h;cases B;obtain⟨t,rfl⟩:=C;obtain⟨c,r,pl,E⟩:=I.list hq;obtain⟨j,h1,m,h3,h4,n⟩:=QP o;obtain⟨w,g,d⟩:=r.get m;have A:=r.length;have hn:=nF;have b:EP X a l Q w s:=⟨z,H,I,d,q⟩
 by_cases h0:0<=i
 ·have hj:i.toNat=j:=by
   rw[dy h0 n]at h1;exact yb h1
  exact item_listR pl.isList h0 (by omega) (by rw[hj];simpa using g) b k
 ·have hj:(i+(c.toArray.size:Int)).toNat=j:=by
   rw[Qv (by omega) h4]at h1;rw[va,<-A];exact yb h1
  exact Rv (x:=w) pl.isList.typeIs FB.lookup
   (wpAny_getItem_list_neg (Q:=λr D=>r=w/\EP X a l Q r D) pl.isList (by omega) (by rw[va]<;>omega) (by omega) (by rw[hj];simpa using g) ⟨rfl,b⟩) k
theorem yi7:Ex X (AI X.K):=by
 intro e d a s f H x y v u Q I A B h n;obtain⟨p,xs,i,z,rfl,rfl,hq,l,q⟩:=h;cases A;obtain⟨t,rfl⟩:=B;obtain⟨o,r,pl,E⟩:=I.tuple hq;obtain⟨j,h1,k,h3,h4,D⟩:=QP l;obtain⟨w,g,c⟩:=r.get k;have m:=r.length;have hn:=nF;have b:EP X a f Q w s:=⟨z,H,I,c,q⟩
 exact Rv (x:=w) pl.typeIs slot_tuple_getitem.lookup
  (getItem_tuple (j:=j) (Q:=λr C=>r=w/\EP X a f Q r C) pl (by omega) (by omega) (by rw[va,<-m];exact h1) (by simpa using g) ⟨rfl,b⟩) n
theorem bV(its:List Value)(n j:Nat)(u:Value):Nf (·.setIfInBounds j u) { cls:=.type "list",data:=.seq its.toArray n }={ cls:=.type "list",data:=.seq (its.set j u).toArray n }:=by
 simp[Nf]
theorem Inv.lst{a:List (Addr × Bc)}{σ:St}{H:Hp}{s:aa}{p:Addr}{xs:List V}(I:Inv X a σ H s)(h:H p=some (.lst xs)) :
  ∃ (its:List Value) (n:Nat),ue xs its/\s.heap.get? p=some { cls:=.type "list",data:=.seq its.toArray n }/\xs.length<=sizeLine:=by
 obtain⟨z,its,n,r,e⟩:=I.dc p _ h;exact⟨its,n,r,e,z⟩
theorem Inv.Oz{a:List (Addr × Bc)}{σ:St}{H:Hp}{s:aa}{p:Addr}{xs ys:List V}{its its':List Value}{n c:Nat}{f:Bc->Bc}(I:Inv X a σ H s)(h:H p=some (.lst xs))
  (g:s.heap.get? p=some { cls:=.type "list",data:=.seq its.toArray n }) (d:f { cls:=.type "list",data:=.seq its.toArray n }={ cls:=.type "list",data:=.seq its'.toArray c }) (r:ue ys its') (i:ys.length<=sizeLine) (t:Nat) :
  Inv X a σ (upd H p (.lst ys)) { s with heap:=s.heap.update p f,toks:=t }:=by
 have e:(s.heap.update p f).get? p=some { cls:=.type "list",data:=.seq its'.toArray c }:=by
  rw[ts f g (by rw[d]<;>rfl),d]
 refine I.write (x:=p) (e:=p) (by rw[h];trivial) (.inl rfl) (λb u hb q=>(aj _ _ (Ye hb)).trans q) ⟨_,e⟩ ?_;exact⟨i,its',c,r,e⟩
def C0:V->V->V->Hp->(Hp->Prop)->Prop:=λo i v H Q=>∃ p xs k j,o=.ref p/\i=.int k/\H p=some (.lst xs)/\dt xs.length k=some j/\Q (upd H p (.lst (xs.set j v)))
theorem zwc:uH X C0:=by
 intro b s y H o i v B A u Q I w m x h;obtain⟨p,xs,k,j,rfl,rfl,g,hj,q⟩:=h;cases w;obtain⟨t,rfl⟩:=m;obtain⟨a,n,r,e,l⟩:=I.lst g;obtain⟨h1,z,h3,h4⟩:=IQ hj;have d:=r.length;have hn:=nF;have f:Inv X b y (upd H p (.lst (xs.set j v))) { s with heap:=s.heap.update p (Nf (·.setIfInBounds j u)) }:=
  I.Oz g e (bV a n j u) (r.set x j) (by rw[fy];exact l) s.toks
 by_cases h0:0<=k
 ·have c:k.toNat=j:=by
   rw[dy h0 h4]at h1;exact yb h1
  exact W.ki_setAt e h0 (by omega) (by rw[va,<-d];exact h4) (by rw[c];exact⟨_,f,q⟩)
 ·have c:(k+(a.toArray.size:Int)).toNat=j:=by
   rw[Qv (by omega) h3]at h1;rw[va,<-d];exact yb h1
  exact W.ki_setBack e (by omega) (by rw[va,<-d];exact h3) (by omega) (by rw[c];exact⟨_,f,q⟩)
theorem EY(b a:Option Int)(n:Nat):(Kh b a none n).1=((HT.Hf n 0 b:Nat):Int)/\(Kh b a none n).2.1=((HT.Hf n n a:Nat):Int)/\(Kh b a none n).2.2=1:=by
 refine⟨?_,?_,rfl⟩
 ·cases b with
  |none=>simp[Kh,HT.Hf]
  |some i=>
   simp only[Kh,HT.Hf,Fu,show (1:Int) > 0 by decide,Ng];by_cases h:i<0
   ·simp only[h,Ng]<;>omega
   ·simp only[h,Dq]<;>omega
 ·cases a with
  |none=>simp[Kh,HT.Hf]
  |some i=>
   simp only[Kh,HT.Hf,Fu,show (1:Int) > 0 by decide,Ng];by_cases h:i<0
   ·simp only[h,Ng]<;>omega
   ·simp only[h,Dq]<;>omega
theorem zhi(its:List Value)(a b:Option Int):slicePick its.toArray a b none=((its.drop (HT.Hf its.length 0 a)).take (HT.Hf its.length its.length b - HT.Hf its.length 0 a)).toArray:=by
 obtain⟨h1,c,h3⟩:=EY a b its.toArray.size;unfold slicePick;rw[h1,c,h3];simp only[sliceRange_one,pick_run,va]<;>rfl
def eQ(K:W.Frag):V->Option Int->Option Int->Hp->VK->Prop:=λx c b H Q=>∃ a xs,x=.ref a/\lf K H a xs/\∀ p,H p=none->Q (.ref p) (upd H p (.lst (Py xs c b)))
theorem t9:Cw X (eQ X.K):=by
 intro f s w H x v t u d e p Q I m g pl l h;obtain⟨a,xs,rfl,i,q⟩:=h;cases m;obtain⟨k,r,ht,j⟩:=I.list i;have c:=r.length;refine⟨"list",_,FB.lookup,ht.isList.typeIs,?_⟩;refine wpAny_getItem_list_slice ht.isList g pl l .none (by simp) ?_ (by rw[va]<;>omega);rw[zhi,<-c];refine⟨.ref s.heap.objs.size,_,I.laid (t':=s.toks) (o:=.lst (Py xs d e)) (λb n q=>ka _ q) (ya _) ?_,rfl,q _ (I.dc.fresh (ya _))⟩;exact⟨cc (GP xs d e) j,_,0,(r.drop (HT.Hf xs.length 0 d)).take (HT.Hf xs.length xs.length e - HT.Hf xs.length 0 d),gb _ rfl⟩
noncomputable def Bj:V->Bool
 | .Vb=>true
 | .bl _=>true
 | .int _=>true
 | .str _=>true
 |_=>false
noncomputable def Sj:V->V->Bool
 | .Vb,.Vb=>true
 | .bl a,.bl b=>a == b
 | .bl a,.int b=>(if a then 1 else 0) == b
 | .int a,.bl b=>a == (if b then 1 else 0)
 | .int a,.int b=>a == b
 | .str a,.str b=>a == b
 |_,_=>false
theorem MJ{A:Fa}{s:aa}{y x:V}{u v:Value}(f:Ed y u)(c:Ed x v)(g:Bj y=true)(e:Bj x=true):zd A s u v (Sj y x):=by
 cases y with
 |Vb=>
  cases f;cases x with
  |Vb=>cases c;exact kl _
  |bl b=>cases c;exact eU b
  |int b=>obtain⟨t,rfl⟩:=c;exact fU b t
  |str b=>obtain⟨t,rfl⟩:=c;exact gU b t
  |_=>exact absurd (show false=true from e) Xa
 |bl a=>
  cases f;cases x with
  |Vb=>cases c;exact hU a
  |bl b=>cases c;exact iU a b
  |int b=>obtain⟨t,rfl⟩:=c;exact jU a b t
  |str b=>obtain⟨t,rfl⟩:=c;exact kU a b t
  |_=>exact absurd (show false=true from e) Xa
 |int a=>
  obtain⟨d,rfl⟩:=f;cases x with
  |Vb=>cases c;exact lU a d
  |bl b=>cases c;exact mU a d b
  |int b=>obtain⟨t,rfl⟩:=c;exact nU a d b t
  |str b=>obtain⟨t,rfl⟩:=c;exact Aq a d b t
  |_=>exact absurd (show false=true from e) Xa
 |str a=>
  obtain⟨d,rfl⟩:=f;cases x with
  |Vb=>cases c;exact oU a d
  |bl b=>cases c;exact pU a d b
  |int b=>obtain⟨t,rfl⟩:=c;exact Bq a d b t
  |str b=>obtain⟨t,rfl⟩:=c;exact qU a d b t
  |_=>exact absurd (show false=true from e) Xa
 |_=>exact absurd (show false=true from g) Xa
def xx(x:V)(u:Value):Bool:=match u with
 | .none=>Sj .Vb x
 | .bool b=>Sj (.bl b) x
 | .int i _=>Sj (.int i) x
 | .str z _=>Sj (.str z) x
 |_=>false
theorem US{x y:V}{u:Value}(r:Ed y u)(f:Bj y=true):xx x u=Sj y x:=by
 cases y with
 |Vb=>cases r;rfl
 |bl b=>cases r;rfl
 |int i=>obtain⟨t,rfl⟩:=r;rfl
 |str z=>obtain⟨t,rfl⟩:=r;rfl
 |_=>exact absurd (show false=true from f) Xa
theorem VI{x:V}:∀ {xs:List V} {us:List Value},ue xs us->xs.all Bj=true->us.any (xx x)=xs.any λy=>Sj y x
 |_,_,.nil,_=>rfl
 |y::xs,u::us,.cons r t,f=>by
  rw[qf,Da]at f;rw[Je,Je,US r f.1,VI t f.2]
theorem cK{A:Fa}{s:aa}{x:V}{v:Value}(c:Ed x v)(b:Bj x=true):∀ {xs:List V} {us:List Value},ue xs us->xs.all Bj=true->∀ u∈us,zd A s u v (xx x u)
 |_,_,.nil,_=>λu a=>by cases a
 |y::xs,u::us,.cons r t,f=>λd a=>by
  rw[qf,Da]at f;rcases ib.mp a with rfl|a
  ·rw[US r f.1];exact MJ r c f.1 b
  ·exact cK c b t f.2 d a
def rG(x:V)(xs:List V):Bool:=xs.any λy=>Sj y x
def IS(K:W.Frag)(a:Bool):R2:=λx y H Q=>∃ p xs,y=.ref p/\(lf K H p xs\/Ah K H p xs)/\Bj x=true/\xs.all Bj=true/\Q (.bl (if a then !rG x xs else rG x xs)) H
theorem yT:Bi X (Wb .In) (IS X.K false):=by
 intro d s i H x y v u Q I e g h;obtain⟨p,xs,rfl,hq,c,fs,q⟩:=h;cases g;rcases hq with hq|hq
 ·obtain⟨a,r,pl,f⟩:=I.list hq;refine Zw (xx x) pl.isList (λw b=>cK e c r fs w (by simpa using b)) ⟨.bl _,H,I,rfl,?_⟩;rw[show a.toArray.any (xx x)=a.any (xx x) by simp,VI r fs];exact q
 ·obtain⟨a,r,pl,f⟩:=I.tuple hq;refine Sv (xx x) pl (λw b=>cK e c r fs w (by simpa using b)) ⟨.bl _,H,I,rfl,?_⟩;rw[show a.toArray.any (xx x)=a.any (xx x) by simp,VI r fs];exact q
theorem Oq:Fo X (.builtin "len") (λxs H Q=>∃ p ys,xs=[.ref p]/\(lf X.K H p ys\/Ah X.K H p ys)/\Q (.int ys.length) H):=by
 intro d s i H xs g Q I r h;obtain⟨p,ys,rfl,hq,q⟩:=h;obtain⟨u,rfl,f⟩:=Xu r;cases f;have hn:=nF;rcases hq with hq|hq
 ·obtain⟨b,c,pl,e⟩:=I.list hq;have a:=c.length;exact Calls.call_len_list pl.isList (by simp only[va]<;>omega) ⟨.int ys.length,H,I.tok _,⟨s.toks+1,by rw[va,a]⟩,q⟩
 ·obtain⟨b,c,pl,e⟩:=I.tuple hq;have a:=c.length;exact len_tuple pl (by simp only[va]<;>omega) ⟨.int ys.length,H,I.tok _,⟨s.toks+1,by rw[va,a]⟩,q⟩
theorem Fo.or{f:Value}{r b:List V->Hp->VK->Prop}(h:Fo X f r)(h':Fo X f b):Fo X f (λxs H Q=>r xs H Q\/b xs H Q):=by
 intro a s e H xs d Q I c q;rcases q with q|q
 ·exact h a s e H xs d Q I c q
 ·exact h' a s e H xs d Q I c q
theorem By:Fo X (.type "list") (λxs H Q=>∃ p ys,xs=[.ref p]/\(lf X.K H p ys\/Ah X.K H p ys)/\∀ l,H l=none->Q (.ref l) (upd H l (.lst ys))):=by
 intro k s x H xs y Q I r h;obtain⟨p,ys,rfl,hq,q⟩:=h;obtain⟨u,rfl,v⟩:=Xu r;cases v;have g:∀ (a:List Value),ue ys a->ys.length<=sizeLine->∀ (c:Heap) (d:Nat),(∀ b t,s.heap.get? b=some t->c.get? b=some t)->
   c.get? s.heap.objs.size=some { cls:=.type "list",dict:=none,data:=.seq a.toArray d,slots:=#[] }->EP X k x Q (.ref s.heap.objs.size) { s with heap:=c }:=λa f j c d kp e=>
  ⟨.ref s.heap.objs.size,_,I.laid (t':=s.toks) kp (ya _) (show qj X.prog X.w _ c _ (.lst ys)from⟨j,a,d,f,e⟩),rfl,q _ (I.dc.fresh (ya _))⟩
 rcases hq with hq|hq
 ·obtain⟨a,f,pl,j⟩:=I.list hq;have i:=f.length;obtain⟨o,m,hc,n,hd⟩:=pl.isList;exact sU p (.inl rfl) m hc hd (λc d kp e=>g a f j c d kp e) (by simp only[va]<;>omega)
 ·obtain⟨a,f,pl,j⟩:=I.tuple hq;have i:=f.length;obtain⟨o,m,hc,n,hd⟩:=pl;exact sU p (.inr rfl) m hc hd (λc d kp e=>g a f j c d kp e) (by simp only[va]<;>omega)
theorem OX:Fo X (.type "tuple") (λxs H Q=>∃ p ys,xs=[.ref p]/\((lf X.K H p ys/\∀ l,H l=none->Q (.ref l) (upd H l (.tup ys)))\/(Ah X.K H p ys/\Q (.ref p) H))):=by
 intro a s k H xs t Q I r h;obtain⟨p,ys,rfl,h⟩:=h;obtain⟨u,rfl,n⟩:=Xu r;cases n;rcases h with⟨hq,q⟩|⟨hq,q⟩
 ·obtain⟨c,f,pl,j⟩:=I.list hq;have i:=f.length;refine call_tuple_list pl.isList (λd kp=>?_) (by simp only[va]<;>omega);have g:Inv X a k H { s with heap:=d }:=I.kept (t':=s.toks) kp;have m:Inv X a k (upd H d.objs.size (.tup ys)) { s with heap:=d.push { cls:=.type "tuple",data:=.seq c.toArray } }:=
   g.laid (t':=s.toks) (λb o e=>ka _ e) (ya _) (show qj X.prog X.w _ _ _ (.tup ys)from⟨j,c,f,Pv _ _⟩)
  exact⟨.ref d.objs.size,_,m,rfl,q _ (g.dc.fresh (ya _))⟩
 ·obtain⟨c,f,pl,j⟩:=I.tuple hq;exact call_tuple_same pl ⟨.ref p,H,I,rfl,q⟩
def jT(K:W.Frag)(T:String)(x:V)(H:Hp):Prop:=match x with
 | .str _=>T = "str"
 | .int _=>T = "int"
 | .ref p=>(T = "list"/\∃ xs,lf K H p xs)\/(T = "tuple"/\∃ o,K.lookup p=some o/\o.cls=.type "tuple"/\o.dict=none)\/
   (T = "dict"/\((∃ a,H p=some (.dK a))\/∃ a,H p=some (.dT a)))\/(T = "set"/\∃ S n,H p=some (.set S n))
 |_=>False
theorem n4{d:List (Addr × Bc)}{σ:St}{H:Hp}{s:aa}{T:String}{x:V}{v:Value}(I:Inv X d σ H s)(r:Ed x v)(ty:jT X.K T x H) :
  s.TypeIs v T/\∀ a,v=.ref a->∃ ob,s.heap.get? a=some ob/\ob.dict=none:=by
 cases x with
 |str z=>
  obtain⟨t,rfl⟩:=r;cases (show T = "str" from ty);exact⟨typeIs_str s z t,λ_ e=>nomatch e⟩
 |int i=>
  obtain⟨t,rfl⟩:=r;cases (show T = "int" from ty);exact⟨typeIs_int s i t,λ_ e=>nomatch e⟩
 |ref p=>
  cases r;rcases ty with⟨rfl,xs,hq⟩|⟨rfl,o,b,hc,hd⟩|⟨rfl,b⟩|⟨rfl,S,n,b⟩
  ·obtain⟨h,_,pl,_⟩:=I.list hq;refine⟨pl.isList.typeIs,λa e=>?_⟩;cases e;obtain⟨o,n,e,c,hd,_⟩:=pl;exact⟨o,e,hd⟩
  ·refine⟨⟨o,I.mj p o b,hc⟩,λa e=>?_⟩;cases e;exact⟨o,I.mj _ o b,hd⟩
  ·have z:∃ o,s.heap.get? p=some o/\o.ExactDict:=by
    rcases b with⟨g,b⟩|⟨g,b⟩
    ·obtain⟨_,_,_,_,o,_,_,e,ex,_⟩:=I.dc p _ b;exact⟨o,e,ex⟩
    ·obtain⟨_,_,_,_,o,_,_,e,ex,_⟩:=I.dc p _ b;exact⟨o,e,ex⟩
   obtain⟨o,e,ex⟩:=z;refine⟨⟨o,e,ex.1⟩,λa f=>?_⟩;cases f;exact⟨o,e,ex.2.1⟩
  ·obtain⟨o,_,_,_,e,ex,_⟩:=I.dc p _ b;refine⟨⟨o,e,ex.1⟩,λa f=>?_⟩;cases f;exact⟨o,e,ex.2.1⟩
 |_=>exact False.elim ty
def tBM(K:W.Frag)(T:String)(r:V->List V->Hp->VK->Prop)(to:TE)(t:TA):TE:=λb H Q=>to b H λx a=>jT K T x a/\t b a λxs c=>r x xs c Q
variable{o e:Ca}{es:List Ca}{to:TE}{t:TA}{name:Str}{apos cpos:re}{T id:String}{r:V->List V->Hp->VK->Prop}
theorem QW(y:xo T)(slot:Slot T name id)(g:Js (.builtin id)=pure (.type "method_descriptor"))(hm:Gv X id r)(u:PE X o to)(q:PA X (e::es) t)
  (c:Ud o name X.env (Ib o X.env)=Ib o X.env:=by rfl)
  (f:((nc cpos (pa (e::es) X.env)).all (λx=>!x.1) && (Wg cpos (Re [] X.env)).all (λx=>x.1.isSome)
   && decide ((e::es).length+([]:List gk).length+(if ([]:List gk).isEmpty then 0 else 1)<30))=true:=by rfl)
  (d:(apos.endLine == cpos.line)=true:=by rfl) (w:pa (e::es) X.env=(false,Ib e X.env)::pa es X.env:=by rfl) (b:(nc cpos (pa es X.env)).any (·.1)=false:=by rfl) :
  PE X (.Call (.Attribute o name apos) (e::es) [] cpos) (tBM X.K T r to t):=by
 intro a s i H Q I h;refine Tv c f d rfl (be (u a s i H _ I h) λv s1 ⟨x,H1,j,l,ty,z⟩=>?_);obtain⟨h1,p⟩:=n4 j l ty;refine⟨T,id,y,slot,g,h1,p,?_⟩;have k:=q cpos a s1 i H1 _ j z;rw[w]at k ⊢;refine Xi (by show (false || (nc cpos (pa es X.env)).any (·.1))=false;rw[b]<;>rfl) (As ?_);exact be k λus s2 ⟨C,m,n,B,A⟩=>hm a s2 i m x C v us Q n l B A
end
def MM(X:Cx)(b:String)(r:V->List V->Hp->VK->Prop):Prop:=
 ∀ (a:List (Addr × Bc)) (s:aa) (σ:St) (H:Hp) (x:V) (xs:List V) (v:Value) (us:List Value) (Q:VK),Inv X a σ H s->Ed x v->ue xs us->r x xs H Q->
  wpAny (model X.prog X.w) X.A (call (.builtin b) (v::us)) (EP X a σ Q) X.xe s
theorem ue.one:∀ {x:V} {us:List Value},ue [x] us->∃ u,us=[u]/\Ed x u
 |_,_,.cons r .nil=>⟨_,rfl,r⟩
theorem ue.two:∀ {x y:V} {us:List Value},ue [x,y] us->∃ u v,us=[u,v]/\Ed x u/\Ed y v
 |_,_,_,.cons r (.cons q .nil)=>⟨_,_,rfl,r,q⟩
theorem ue.zero:∀ {us:List Value},ue [] us->us=[]
 |_,.nil=>rfl
section
variable{X:Cx}{pins:List (Addr × Bc)}{σ:St}{H:Hp}{s:aa}{l b:Addr}{xs ys zs:List V}
theorem Inv.HC{its its':List Value}{n:Nat}{f:Array Value->Array Value}{t':Nat}(I:Inv X pins σ H s)(a:H l=some (.lst xs))
  (e:s.heap.get? l=some { cls:=.type "list",data:=.seq its.toArray n }) (b:f its.toArray=its'.toArray) (d:ue ys its') (g:ys.length<=sizeLine) :
  Inv X pins σ (upd H l (.lst ys)) { s with heap:=s.heap.update l (Nf f),toks:=t' }:=by
 have q:=zaA e f;rw[b]at q;refine I.write (x:=l) (e:=l) (by rw[a];exact trivial) (.inl rfl) (λh u hb c=>(aj s.heap (Nf f) (Ye hb)).trans c) ⟨_,q⟩ ?_;exact⟨g,its',_,d,q⟩
theorem Inv.yz{its:List Value}{t':Nat}(I:Inv X pins σ H s)(a:ue ys its)(b:ys.length<=sizeLine) :
  Inv X pins σ (upd H s.heap.objs.size (.lst ys)) { s with heap:=s.heap.push { cls:=.type "list",data:=.seq its.toArray },toks:=t' }:=
 I.laid (λ_ _ q=>ka _ q) (ya _) ⟨b,its,0,a,gb _ rfl⟩
theorem Inv.fresh(I:Inv X pins σ H s):H s.heap.objs.size=none:=I.dc.fresh (ya _)
theorem Inv.Vu(I:Inv X pins σ H s)(a:H l=some (.lst xs)):xs.length<=sizeLine/\∃ (its:List Value) (n:Nat),ue xs its/\xs.length=its.length/\s.heap.get? l=some { cls:=.type "list",data:=.seq its.toArray n }:=by
 obtain⟨z,its,n,r,e⟩:=I.dc l _ a;exact⟨z,its,n,r,r.length,e⟩
theorem Y9{n:Nat}(h:n<=sizeLine):oh n=false:=by
 unfold oh;exact pe (by omega)
end
section
variable{X:Cx}
def WI:V->List V->Hp->VK->Prop:=λx a H Q=>∃ l xs y,x=.ref l/\a=[y]/\H l=some (.lst xs)/\xs.length<sizeLine/\Q .Vb (upd H l (.lst (xs++[y])))
theorem VB:MM X "list.append" WI:=by
 intro c s o H x m v k Q I g f h;obtain⟨l,xs,y,rfl,rfl,b,j,q⟩:=h;cases g;obtain⟨u,rfl,d⟩:=f.one;obtain⟨z,a,n,r,i,e⟩:=I.Vu b;refine call_meets F.slot_list_append ⟨_,e,rfl⟩ F.entry_list_append (F.args_list_append_2 _ _) (PySem.list_append l a.toArray n u (by rw[va];omega)) ⟨e,?_⟩;refine⟨.Vb,_,I.HC (its':=a++[u]) b e (by simp) (r.append (.cons d .nil)) ?_,rfl,q⟩;rw[qe,List.length_singleton];omega
def rS:V->List V->Hp->VK->Prop:=λx c H Q=>∃ l b xs a,x=.ref l/\c=[.ref b]/\H l=some (.lst xs)/\H b=some (.lst a)/\xs.length+a.length<=sizeLine/\Q .Vb (upd H l (.lst (xs++a)))
theorem QT:MM X "list.extend" rS:=by
 intro i s J H x D v C Q I y w h;obtain⟨l,b,xs,G,rfl,rfl,g,k,B,q⟩:=h;cases y;obtain⟨u,rfl,t⟩:=w.one;cases t;obtain⟨z,c,n,r,A,e⟩:=I.Vu g;obtain⟨E,a,o,p,m,j⟩:=I.Vu k;have f:c.toArray.size+a.toArray.size<=sizeLine:=by rw[va,va];omega
 have d:¬ (!c.toArray.isEmpty && oh (c.toArray.size+a.toArray.size))=true:=by
  rw[Y9 f,bz];exact Xa
 refine call_meets F.slot_list_extend ⟨_,e,rfl⟩ F.entry_list_extend (F.args_list_extend_2 _ _)
  (AutoSeq1.list_extend_list_list_0 l c.toArray n b a.toArray o d (by rw[va];omega) (by omega)) ⟨e,j,?_⟩
 refine⟨.Vb,_,I.HC (its':=c++a) g e (by simp) (r.append p) ?_,rfl,q⟩;rw[qe];omega
def m3:R2:=λx y H Q=>∃ l b xs a,x=.ref l/\y=.ref b/\H l=some (.lst xs)/\H b=some (.lst a)/\xs.length+a.length<=sizeLine/\∀ p,H p=none->Q (.ref p) (upd H p (.lst (xs++a)))
theorem Z9:Bi X (Gf .Add) m3:=by
 intro d s D H x y v u Q I o p h;obtain⟨l,b,xs,C,rfl,rfl,j,i,w,q⟩:=h;cases o;cases p;obtain⟨z,c,n,r,t,e⟩:=I.Vu j;obtain⟨B,a,A,m,k,f⟩:=I.Vu i;refine PySem.P.add_list e f ?_ (by rw[va,va];omega);have g:c.toArray++a.toArray=(c++a).toArray:=by simp
 rw[g];exact⟨.ref _,_,I.yz (t':=s.toks) (r.append m) (by rw[qe];omega),rfl,q _ I.fresh⟩
end
section
variable{prog:Aa}{w:Ia}{A:Fa}{E:Value->aa->Prop}{s:aa}
set_option maxRecDepth 100000 in
end
section
variable{X:Cx}
end
end L2
namespace Att
open PySem PySem.W PySem.Calls PyProof.Rows
theorem YX{P:PL}{h:Heap}:∀ (ns:List Int) (vs:List Value),WellAll P h vs (ns.map mH)->fm vs ns:=by
 intro ns;induction ns with
 |nil=>
  intro vs w;rw[wg]at w;cases w;exact .nil
 |cons n ns c=>
  intro vs w;rw[Sa]at w;cases w with
  |cons a b=>
   cases a;exact .cons _ _ (c _ b)
theorem O7{l:OpenLaw}{n:Nat}(hn:l.most=some n){P:PL}{h:Heap}{args:List WData}{c:List Value}
  (b:l.row.toRowW.claim.pre args=true) (j:WellAll P h c args) :
  ∃ a vs ns,c=[jb a]/\args=[WData.list (ns.map mH)]/\h.get? a=some { cls:=.type "list",data:=.seq vs.toArray }/\fm vs ns/\ns.length<=n:=by
 have i:WShape.hasAll [] args [.list .int]=true:=(pre_splitW b).1;have hc:l.pre.holds [] { args:=args }=true:=(pre_splitW b).2;obtain⟨d,r,rfl,h1,k⟩:=hasAllW_cons i;obtain rfl:=hasAllW_nil k;obtain⟨xs,rfl,h3⟩:=hasW_list h1;obtain⟨ns,rfl⟩:=items_int h3;have f:ns.length<=n:=by
  unfold OpenLaw.pre at hc;have h4:(WTm.not (.lt (.lit (.int (n:Int))) (.len (.arg 0)))).holds [] { args:=[.list (ns.map .int)] }=true:=by
   have h4:=(holds_andW hc).1;rw[hn]at h4;exact h4
  have g:=condW_of h4 (w_not (w_lt w_lit (w_len_list (w_arg rfl))));rw[rc]at g;refine Nat.le_of_not_lt λq=>?_;have o:(n:Int)<((ns.length:Nat):Int):=by omega
  first
   |(rw[bj o]at g;exact absurd g (by decide))
   |(simp at g;omega)
 cases j with
 |cons p s=>
  cases s;cases p with
  |list m e=>exact⟨_,_,ns,rfl,rfl,m,YX ns _ e,f⟩
theorem XZ(l:OpenLaw)(args:List WData):l.row.toRowW.claim.post args (.bool true) args=true:=
 postW_of (r:=l.row.toRowW) (X:=(true == true))
  (show MB [] (.bool true) .bool=true by first|rfl|decide|simp[MB,WShape.arms,WShape.armsAll])
  (show (WTm.eq .res (.lit (.bool true))).value [] { args:=args,res:=some (.bool true),after:=args }=some (.bool (true == true))from w_eq_bool (w_res rfl) w_lit) rfl
theorem cm{l:OpenLaw}{n:Nat}{q:Aa}{c:List Str}{x:(Str->Option Value)->Heap->Prop}{y:Ia->Heap->Prop}{d:DefRec}
  (hn:l.most=some n) (s:d.params.defaults=[])
  (call:∀ (w:Ia) (s₀ b:aa) (mg mb:Str->Option Value) (h:Addr) (o:Bc) (v cd e:Value) (a:Addr) (vs:List Value) (ns:List Int),
   Ground q c [] x w s₀ mg mb b.heap->y w b.heap->
   b.heap.get? h=some o->o.data=.func (docDef d.name d.params d.body d.scope v cd e)->b.heap.CodeRec cd d.name->mg d.name=some (.ref h)->
   b.heap.get? a=some { cls:=.type "list",data:=.seq vs.toArray }->fm vs ns->ns.length<=n->b.gens=#[]->
   codeAny (model l.prog w) Xg (.call (.ref h) ⟨[.ref a],[]⟩) (λr m=>r=.ok (.ret (.bool true))/\OldK b.heap m.heap/\m.os=b.os/\Tg m.gens) b) :
  WalkO q c x y l.row.toRowW d [] (λf vs=>PySem.call f vs):=by
 intro w s₀ b mg mb G Y h o v cd e D kV H hd p A t hg z C J k B I u F;obtain rfl:D=.none:=Dflts.none A s;obtain rfl:kV=.none:=Dflts.noKw A;obtain⟨a,vs,ns,rfl,rfl,j,g,i⟩:=O7 hn k u;refine enter_call (ni (call w s₀ b mg mb h o v cd e a vs ns G Y H (fd_plain hd) p t j g i hg) λr m hq=>?_);obtain⟨rfl,E,h3,h4⟩:=hq;exact⟨.inl ⟨.bool true,.bool true,[],rfl,λ_=>rfl,.bool true,XZ l _,λ_=>⟨List.Pairwise.nil,λ_ hm=>(nomatch hm)⟩⟩,E,h3,h4⟩
section
variable{prog:Aa}{w:Ia}{A:Fa}{E:Value->aa->Prop}{s:aa}{K:Frag}
noncomputable def yjs(h:Heap)(L d:Addr):List (Addr × Bc):=(List.range h.objs.size).filterMap λa=>if a=L\/a=d then none else (h.get? a).map λo=>(a,o)
end
end Att
namespace L2
open PySem PySem.Spec PyProof.Rows
theorem bD:∀ {vs:List Value} {ns:List Int},fm vs ns->ue (ns.map V.int) vs
 |_,_,.nil=>.nil
 |_,_,.cons n t h=>.cons ⟨t,rfl⟩ (bD h)
def WK(H:Hp):Prop:=∀ b,H b=none\/∃ o xs,H b=some (.Hb o (.lst xs))
theorem X6{P:Aa}{w:Ia}{K:W.Frag}{mg mb:Str->Option Value}{N:Xt}{k:Nat}{E a:Addr}{R:me}{x:Str}{sp:Sp}{s₁:aa}{vs:List Value}{ns:List Int}
  (O:K.In s₁.heap) (t:s₁.heap.Ns mainGlobals mg) (hb:s₁.heap.Ns builtinsNs mb) (I:∀ x:Str,x ≠ "__name__"->mb x=bootBuiltins x) (p:s₁.heap.NoLimit) (hg:s₁.gens=#[])
  (C:s₁.heap.get? a=some { cls:=.type "list",data:=.seq vs.toArray }) (U:fm vs ns) (X:ns.length<=sizeLine) (hr:jd k Xg)
  (F:∀ base:Heap,K.In base->base.Ns mainGlobals mg->ph P w K mg base N k E R [x] sp) (i:∀ (s:aa) (u:Value),xf s R ⟨[u],[]⟩ [(x,u)])
  (L:∀ H:Hp,WK H->lf K H a (ns.map V.int)->sp [.ref a] H (λv _=>v=.bl true) λ_ _ _=>False)
  (G:∀ H e s',N [] H s₁ (λ_ _ _=>False) e s'->False) :
  codeAny (model P w) Xg (.call (.ref E) ⟨[.ref a],[]⟩) (λr s'=>r=.ok (.ret (.bool true))/\OldK s₁.heap s'.heap/\s'.os=s₁.os/\Tg s'.gens) s₁:=by
 have Y:=bD U;have A:=U.length;have g:∀ H:Hp,WK H->lf K H a (ns.map V.int)->Ni P w H s₁.heap->(∀ b,H b≠none->b=a)->(H a≠none->K.lookup a=none)->
   codeAny (model P w) Xg (.call (.ref E) ⟨[.ref a],[]⟩) (λr s'=>r=.ok (.ret (.bool true))/\OldK s₁.heap s'.heap/\s'.os=s₁.os/\Tg s'.gens) s₁:=by
  intro H T hS dc S hK;have c:∀ {b:Addr} {o:Bc},s₁.heap.get? b=some o->H b=none->(vt s₁.heap H).get? b=some o:=λe n=>UP e n;have M:∀ {b:Addr} {o:Bc} {j:Array Ku} {ep:Nat},s₁.heap.get? b=some o->o.data=.dict j ep->H b=none:=fun {b o j ep} e d=>by
   cases q:H b with
   |none=>rfl
   |some u=>
    have D:b=a:=S b (by rw[q];simp);subst D;rw[C]at e;cases e;have Z:Data.seq vs.toArray _=Data.dict j ep:=d;cases Z
  have f:∀ {b:Addr} {m:Str->Option Value},s₁.heap.Ns b m->(vt s₁.heap H).Ns b m:=fun {b m} ⟨o,j,ep,e,d,r⟩=>⟨o,j,ep,c e (M e d),d,r⟩
  have l:K.In (vt s₁.heap H):=λb o e=>c (O b o e) (by
   cases q:H b with
   |none=>rfl
   |some u=>
    have D:b=a:=S b (by rw[q];simp);subst D;rw[hK (by rw[q];simp)]at e;cases e)
  have hM:Mod K mg (vt s₁.heap H):=⟨l,f t,⟨mb,f hb,I⟩,let ⟨mc,h1,h2⟩:=p;⟨mc,f h1,h2⟩⟩
  have e0:Sm P w K mg (vt s₁.heap H) Xg [] s₁ H:=⟨rfl,hM,λb o e=>UL e,rs (sT _ _),trivial,λb hb=>absurd (show b∈([]:List Addr)from hb) (by simp),dc,.of_eq hg⟩
  refine ni ((F _ l (f t)).run Xg [] s₁ H ⟨[.ref a],[]⟩ [.ref a] [.ref a] _ _ hr e0 (i s₁ (.ref a)) (.cons rfl .nil) (L H T hS)) λr s' h=>?_;cases r with
  |error e=>exact(G H e s' h).elim
  |ok fl=>
   cases fl with
   |next=>exact False.elim h
   |brk=>exact False.elim h
   |cont=>exact False.elim h
   |ret u=>
    obtain⟨v,H',os,bare,un,y,r',q⟩:=h;have q':v=.bl true:=q;subst q';obtain rfl:u=Ff true:=r';refine⟨rfl,OldK.of_keep λb o e=>?_,os,bare⟩;cases q:H b with
    |none=>exact un.keep b o e q (by intro z;exact absurd (show b∈([]:List Addr)from z) (by simp)) (by simp)
    |some u=>
     rcases T b with z|⟨ob,xs,z⟩
     ·rw[q]at z;cases z
     ·have z2:=un.vh b ob _ z;obtain⟨Q,_⟩:=dc b _ z;obtain⟨e2,_⟩:=y b _ z2;rw[e]at Q;cases Q;exact e2
 cases J:K.lookup a with
 |some o=>
  have e:=O a o J;rw[C]at e;cases e;refine g (λ_=>none) (λ_=>.inl rfl) (.inr ⟨_,vs.toArray,_,J,rfl,rfl,rfl,by rw[va,A];exact X,by simpa using Y⟩) (λb u z=>by have B:(none:Option HO)=some u:=z;cases B) (λb z=>absurd rfl z) λz=>absurd rfl z
 |none=>
  refine g (λb=>if b=a then some (.Hb { cls:=.type "list",data:=.seq vs.toArray } (.lst (ns.map V.int)))else none) (λb=>?_) (.inl (.inr ⟨{ cls:=.type "list",data:=.seq vs.toArray },ia rfl⟩)) (λb u z=>?_) (λb z=>?_) λ_=>J
  ·by_cases hb:b=a
   ·exact .inr ⟨_,_,ia hb⟩
   ·exact .inl (qa hb)
  ·by_cases hb:b=a
   ·have B:=(ia hb).symm.trans z;cases B;subst hb;exact⟨C,by rw[rc];exact X,vs,_,Y,C⟩
   ·have B:=(qa hb).symm.trans z;cases B
  ·by_cases hb:b=a
   ·exact hb
   ·exact absurd (qa hb) z
noncomputable abbrev Lf{K:W.Frag}{h:Heap}(_:K.In h):W.Frag:=K
theorem yfs{l:W.OpenLaw}{n k:Nat}{q:Aa}{j:List Str}{L:(Str->Option Value)->Heap->Prop}{I:Ia->Heap->Prop}{d:DefRec}{K:PL->W.Frag}{D:Ia->Xt}{sp:Ia->Sp}{x:Str}
  (hn:l.most=some n) (B:n<=sizeLine) (z:d.params.defaults=[]) (S:jd k Xg)
  (Q:∀ (w:Ia) (h:Heap),I w h->(K w.params).In h)
  (F:∀ (w:Ia) (mg:Str->Option Value) (r:Addr) (h:Heap),(K w.params).In h->h.Ns mainGlobals mg->mg d.name=some (.ref r)->
   ∃ t:me,(∀ (s:aa) (u:Value),xf s t ⟨[u],[]⟩ [(x,u)])/\
    ∀ base:Heap,(K w.params).In base->base.Ns mainGlobals mg->ph l.prog w (K w.params) mg base (D w) k r t [x] (sp w))
  (C:∀ (w:Ia) (H:Hp) (a:Addr) (ns:List Int),ns.length<=n->WK H->lf (K w.params) H a (ns.map V.int)->sp w [.ref a] H (λv _=>v=.bl true) λ_ _ _=>False)
  (y:∀ (w:Ia) (H:Hp) (s:aa) (e:Value) (s':aa),D w [] H s (λ_ _ _=>False) e s'->False) :
  W.WalkO q j L I l.row.toRowW d [] (λf J=>PySem.call f J):=by
 refine Att.cm hn z λw s₀ p mg mb r o Z U M a J ns G Y X hd R A m i c hg=>?_;have E:=Q w _ Y;obtain⟨t,hb,N⟩:=F w mg r _ E G.T.g A;exact X6 E G.T.g G.T.b G.T.builtins G.T.nolimit hg m i (cc c B) S N hb (λH O P=>C w H a ns c O P) λH e s'=>y w H p e s'
noncomputable def Yn(s:Stmt):Arguments:=match s with
 | .FunctionDef _ a _ _ _ _ _ _ _ _=>a
 |_=>{ posonlyargs:=[],args:=[],vararg:=none,kwonlyargs:=[],kw_defaults:=[],kwarg:=none,defaults:=[] }
noncomputable def Yi(s:Stmt):List Stmt:=match s with
 | .FunctionDef _ _ b _ _ _ _ _ _ _=>b
 |_=>[]
noncomputable def kc(s:Stmt):Scope:=match s with
 | .FunctionDef _ _ _ _ _ _ sc _ _ _=>sc
 |_=>{ kind:=.function,names:=[],isGenerator:=false,isCoroutine:=false }
noncomputable abbrev XS:Xt:=λ_ _ _ _ _ _=>False
noncomputable abbrev E0:XK:=λ_ _ _=>False
structure Jy(K:W.Frag)(x qual:Str)(st:Stmt)(f:Addr)(fd:me):Prop where
 ex:∃ (oc:Value) (od:Option Addr) (kV doc pm:Value) (an:Option Addr) (cdv ct:Value) (osl:Array (Option Value)),
  fd=W.fnOf x qual (Yn st) (Yi st) (kc st) .none kV doc pm an cdv ct/\K.lookup f=some ⟨oc,od,.func fd,osl⟩/\W.codeIn K cdv qual=true
 kp:W.keepIn K (.ref f)=true
section
variable{P:Aa}{w:Ia}{K:W.Frag}{mg:Str->Option Value}{base:Heap}
theorem Jy.ok{x qual:Str}{c:Stmt}{f:Addr}{g:me}{N ps:List Str}{k:Nat}{sp:Sp}(F:Jy K x qual c f g)(S:ua N ps (kc c))(len:∀ vs H Q E,sp vs H Q E->vs.length=ps.length)
  (b:∀ (a:Value) (A:Fa) (outer:List Hg) (s:aa) (H:Hp) (vs:List V) (Q:VK) (E:XK),jd k (A.deeper (ag qual (kc c) s.heap.objs.size f a))->sp vs H Q E->
   ∃ t,Ms (zp XS P w K mg base N qual (kc c) f a A outer s H E).So (Yi c) t/\t { nx:=λ_ i=>Q .Vb i,rt:=Q } (qv N vs) H):ph P w K mg base XS (k+1) f g ps sp:=by
 obtain⟨p,r,kV,j,u,o,a,ct,n,rfl,m,d⟩:=F.ex;refine jQ m d S len λA outer s H vs Q E l e=>?_;obtain⟨t,h,q⟩:=b a A outer s H vs Q E l e;exact⟨t,h.So,q⟩
theorem Jy.binds{x qual:Str}{c:Stmt}{f:Addr}{g:me}{ps:List Str}(F:Jy K x qual c f g)
  (h:∀ (kV b e:Value) (d:Option Addr) (a ct:Value) (us:List Value),us.length=ps.length->bindArgs (W.fnOf x qual (Yn c) (Yi c) (kc c) .none kV b e d a ct) ⟨us,[]⟩=pure (ps.zip us)):Rr K g ps []:=by
 obtain⟨l,m,kV,b,e,d,a,ct,j,rfl,k,i⟩:=F.ex;exact .all (h kV b e d a ct)
theorem iS{x qual:Str}{d:Stmt}{f:Addr}{i:Value}{od g:Option Addr}{e:Array (Option Value)}{kV b h a ct:Value}(l:K.lookup f=some ⟨i,od,.func (W.fnOf x qual (Yn d) (Yi d) (kc d) .none kV b h g a ct),e⟩)
  (c:W.codeIn K a qual=true) (k:W.keepIn K (.ref f)=true):Jy K x qual d f (W.fnOf x qual (Yn d) (Yi d) (kc d) .none kV b h g a ct):=⟨⟨i,od,kV,b,h,g,a,ct,e,rfl,l,c⟩,k⟩
end
theorem vS{n:Nat}(h:n<=1000):n<sizeLine:=Uv h (by decide)
section
variable{X:Cx}
end
def Dw(H a:Hp):Prop:=∀ b o,H b=some o->a b=some o
theorem Dw.refl(H:Hp):Dw H H:=λ_ _ h=>h
theorem Dw.trans{H d H2:Hp}(a:Dw H d)(b:Dw d H2):Dw H H2:=λc o h=>b c o (a c o h)
theorem Dw.free{H a:Hp}(e:Dw H a){l:Addr}(h:a l=Option.none):H l=Option.none:=by
 cases q:H l with
 |none=>rfl
 |some o=>
  rw[e l o q]at h;cases h
theorem Dw.seq{K:W.Frag}{H b:Hp}{a:Addr}{xs:List V}(e:Dw H b)(h:lf K H a xs):lf K b a xs:=by
 rcases h with(h|⟨o,h⟩)|h
 ·exact .inl (.inl (e _ _ h))
 ·exact .inl (.inr ⟨o,e _ _ h⟩)
 ·exact .inr h
end L2
namespace L4
open PySem PySem.Spec PyProof.Rows L2
theorem XP{c:Type}(a:c):∃ b,b=a:=⟨a,rfl⟩
def hide{b:Type}(a:b):b:=Classical.choose (XP a)
@[simp] theorem yr{b:Type}(a:b):hide a=a:=zaB (XP a)
inductive D where
 |Vb|bl (b:Bool)|int (i:Int)|str (x:Str)|tup (xs:List D)|Qg (ns:List Int)|ref (n:Nat)
 |lst (xs:List D)|Ma (ks:List Key) (xs:List D)|obj (c:Nat) (ns:List Str) (xs:List D)|Jt (c:Nat)|gt (ss:List Str)
inductive Ob where
 |lst (xs:List D)
 |Ma (kvs:List (Key × D))
 |ins (c:Nat) (fs:List (Str × D))
 |ub (kvs:List (Key × D))
 |rl (ks:List (List Key))
abbrev qb:=List Ob
abbrev St:=L2.St
abbrev Ev:=List (Option D)
structure Xn where
 cls:Nat
inductive Out(α:Type) where
 |ok (a:α) (σ:qb)
 |ex (x:Xn) (σ:qb)
 |bad
abbrev M(a:Type):=qb->Out a
def ret{α:Type}(a:α):M α:=λb=>.ok a b
def bad{α:Type}:M α:=λ_=>.bad
def Out.bind{c β:Type}(o:Out c)(k:c->M β):Out β:=match o with
 | .ok a b=>k a b
 | .ex x b=>.ex x b
 | .bad=>.bad
def Wc{a β:Type}(m:M a)(k:a->M β):M β:=λb=>(m b).bind k
inductive Fl where
 |nx (ρ:Ev)|rt (d:D)|bk (ρ:Ev)|ct (ρ:Ev)|xc (ρ:Ev) (x:Xn)
structure Tab where
 P:Addr
 line:Int
 col:Int
 qual:Str
structure Tx where
 Zn:List Tab
 bm:Addr
structure Tb where
 K:W.Frag
 ca:Nat->Addr
 tx:Tx
def uu(q:Str)(c:Addr):Heap->Prop:=λh=>∃ o a t,h.get? c=some o/\o.data=.fields a/\a[1]?=some (.str q t)
def zE(bm:Addr):Heap->Prop:=λh=>∃ o,h.get? bm=some o/\o.cls=.type "module"/\o.dict=some builtinsNs/\o.data=.plain
def Ws(T:Tb)(μ:List Addr)(H:Hp):Prop:=∀ t∈T.tx.Zn,(T.tx.bm ∉ μ/\∃ b,H T.tx.bm=some (.Hb b (.ext (zE T.tx.bm))))/\t.P ∉ μ/\∃ a,H t.P=some (.Im a)/\(a=#[]\/∃ c,a=#[Ee t.line,Ee t.col,.ref c]/\c ∉ μ/\H c=some (.ext (uu t.qual c)))
theorem Ws.grow{T:Tb}{μ:List Addr}{H H':Hp}(h:Ws T μ H)(k:∀ b u,H b=some u->H' b=some u):Ws T μ H':=λt ht=>by
 obtain⟨⟨a,j,d⟩,f,l,g,i⟩:=h t ht;exact⟨⟨a,j,k _ _ d⟩,f,l,k _ _ g,i.imp id λ⟨c,e,n,z⟩=>⟨c,e,n,k _ _ z⟩⟩
theorem Ws.sub{T:Tb}{μ μ':List Addr}{H:Hp}(h:Ws T μ' H)(k:∀ b∈μ,b∈μ'):Ws T μ H:=λt ht=>by
 obtain⟨⟨a,d⟩,f,j,g,i⟩:=h t ht;exact⟨⟨λz=>a (k _ z),d⟩,λz=>f (k _ z),j,g,i.imp id λ⟨c,e,n,z⟩=>⟨c,e,λy=>n (k _ y),z⟩⟩
theorem Ws.more{T:Tb}{μ:List Addr}{H:Hp}{p:Addr}(h:Ws T μ H)(j:H p=none):Ws T (μ++[p]) H:=λt ht=>by
 obtain⟨⟨f,k,a⟩,g,l,d,i⟩:=h t ht;have ne:∀ {b:Addr} {u:HO},H b=some u->b ∉ μ->b ∉ μ++[p]:=fun {b u} e n z=>(uj.mp z).elim n λy=>by
  have m:b=p:=by simpa using y
  subst m;rw[j]at e;cases e
 exact⟨⟨ne a f,k,a⟩,ne d g,l,d,i.imp id λ⟨c,e,n,z⟩=>⟨c,e,ne z n,z⟩⟩
theorem Ws.out{T:Tb}{μ:List Addr}{H H':Hp}{a:Addr}(h:Ws T μ H)(m:∀ b,b≠a->H' b=H b)(l:a∈μ\/∃ kvs,H a=some (.dK kvs)):Ws T μ H':=λt ht=>by
 obtain⟨⟨f,o,i⟩,g,p,j,k⟩:=h t ht;have ne:∀ {b:Addr} {u:HO},H b=some u->b ∉ μ->(∀ kvs,u≠.dK kvs)->H' b=some u:=fun {b u} e n d=>by
  rw[m b (λz=>by
   subst z;rcases l with y|⟨kvs,y⟩
   ·exact n y
   ·rw[e]at y;cases y;exact d kvs rfl)]
  exact e
 exact⟨⟨f,o,ne i f (λ_ z=>by cases z)⟩,g,p,ne j g (λ_ z=>by cases z),k.imp id λ⟨c,e,n,z⟩=>⟨c,e,n,ne z n (λ_ y=>by cases y)⟩⟩
noncomputable def Tb.cv(T:Tb)(x:Xn):Value:=.ref (T.ca x.cls)
noncomputable def gC(c:Nat):Option Nat:=if c<100 then none else some (c / 100 - 1)
def l9(C a:Addr):Heap->Prop:=λh=>∃ o,h.get? a=some o/\o.cls=.ref C
def Hy(C:Addr)(c:Option Addr)(a:Addr):Heap->Prop:=λh=>∃ o,h.get? a=some o/\o.cls=.ref C/\∀ b,c=some b->o.dict=some b/\∃ d,o.data=.fields d
def GC(b:Addr)(n:Nat):Heap->Prop:=λh=>∃ o,h.get? b=some o/\∃ a c t,o.data=.dict a c/\StrKeys a/\nsFind a "pot" = some (.int n t)
def DE(K:W.Frag)(H:Hp)(a:Addr)(ns:List Int):Prop:=
 (∃ o,H a=some (.Hb o (.lst (ns.map V.int))))\/
  ∃ (o:Bc) (b:Array Value) (n:Nat),K.lookup a=some o/\o.cls=.type "list"/\o.dict=none/\o.data=.seq b n/\b.size<=sizeLine/\ue (ns.map V.int) b.toList
theorem DE.seq{K:W.Frag}{H:Hp}{a:Addr}{ns:List Int}(h:DE K H a ns):lf K H a (ns.map V.int):=by
 rcases h with⟨o,h⟩|h
 ·exact .inl (.inr ⟨o,h⟩)
 ·exact .inr h
def xC(K:W.Frag)(a:Addr)(ss:List Str):Prop:=∃ (o:Bc) (b:Array Value) (n:Nat),K.lookup a=some o/\o.cls=.type "tuple"/\o.data=.seq b n/\b.size<=sizeLine/\ue (ss.map V.str) b.toList
mutual
def Rep(T:Tb)(μ:List Addr)(H:Hp):D->V->Prop
 | .Vb,v=>v=.Vb
 | .bl b,v=>v=.bl b
 | .int i,v=>v=.int i
 | .str x,v=>v=.str x
 | .tup ds,v=>∃ p e,v=.ref p/\H p=some (.tup e)/\Ta T μ H ds e
 | .Qg ns,v=>∃ a,v=.ref a/\DE T.K H a ns
 | .ref n,v=>∃ a,v=.ref a/\μ[n]?=some a
 | .lst ds,v=>∃ a e,v=.ref a/\a ∉ μ/\H a=some (.lst e)/\Ta T μ H ds e
 | .Ma j ds,v=>∃ a d,v=.ref a/\a ∉ μ/\Rd H a (.dK d)/\d.map (·.1)=j/\Ta T μ H ds (d.map (·.2))
 | .obj c ns ds,v=>∃ a h fs,v=.ref a/\a ∉ μ/\H a=some (.ins (T.ca c) h fs)/\fs.map (·.1)=ns/\Ta T μ H ds (fs.map (·.2))
 | .Jt c,v=>∃ a g,v=.ref a/\a ∉ μ/\H a=some (.ext (Hy (T.ca c) g a))/\∀ n,gC c=some n->∃ f,g=some f/\f ∉ μ/\H f=some (.ext (GC f n))
 | .gt ss,v=>∃ a,v=.ref a/\xC T.K a ss
def Ta(T:Tb)(μ:List Addr)(H:Hp):List D->List V->Prop
 |[],a=>a=[]
 |d::ds,a=>∃ v r,a=v::r/\Rep T μ H d v/\Ta T μ H ds r
end
def Kp(o b:HO):Prop:=b=o\/(∃ d a,o=.dK a/\b=.Hb d (.dK a))\/∃ e c,o=.Im e/\b=.Im c
theorem Kp.trans{a b c:HO}(x:Kp a b)(y:Kp b c):Kp a c:=by
 rcases x with rfl|⟨h,d,rfl,rfl⟩|⟨g,e,rfl,rfl⟩
 ·exact y
 ·rcases y with rfl|⟨_,_,z,_⟩|⟨_,_,z,_⟩
  ·exact .inr (.inl ⟨h,d,rfl,rfl⟩)
  ·cases z
  ·cases z
 ·rcases y with rfl|⟨_,_,z,_⟩|⟨_,f,_,rfl⟩
  ·exact .inr (.inr ⟨g,e,rfl,rfl⟩)
  ·cases z
  ·exact .inr (.inr ⟨g,f,rfl,rfl⟩)
structure Ext(μ:List Addr)(H:Hp)(μ':List Addr)(H':Hp):Prop where
 pre:∃ r,μ'=μ++r
 tup:∀ p xs,H p=some (.tup xs)->H' p=some (.tup xs)
 Hb:∀ p o u,H p=some (.Hb o u)->H' p=some (.Hb o u)
 keep:∀ p o,H p=some o->p ∉ μ->(∃ o',H' p=some o'/\Kp o o')/\p ∉ μ'
theorem Ext.refl(μ:List Addr)(H:Hp):Ext μ H μ H:=⟨⟨[],by simp⟩,λ_ _ h=>h,λ_ _ _ h=>h,λ_ _ h n=>⟨⟨_,h,.inl rfl⟩,n⟩⟩
theorem Ext.trans{μ c d:List Addr}{H e H2:Hp}(a:Ext μ H c e)(b:Ext c e d H2):Ext μ H d H2:=by
 obtain⟨⟨r,rfl⟩,w,g,k⟩:=a;obtain⟨⟨v,rfl⟩,x,i,l⟩:=b;exact⟨⟨r++v,by simp⟩,λp xs h=>x p xs (w p xs h),λp o u h=>i p o u (g p o u h),λp o h n=>let ⟨⟨s,h1,f⟩,m⟩:=k p o h n;let ⟨⟨t,j,c2⟩,q⟩:=l p s h1 m;⟨⟨t,j,f.trans c2⟩,q⟩⟩
theorem Ext.Qi{μ μ':List Addr}{H a:Hp}(e:Ext μ H μ' a)(p:Addr)(o:HO)(h:H p=some o)(n:p ∉ μ)(hd:(∀ kvs,o≠.dK kvs)/\∀ ps,o≠.Im ps:=by exact⟨(λ_ z=>by cases z),(λ_ z=>by cases z)⟩):a p=some o/\p ∉ μ':=by
 obtain⟨⟨d,h1,c⟩,b⟩:=e.keep p o h n;rcases c with rfl|⟨_,kvs,z,_⟩|⟨ps,_,z,_⟩
 ·exact⟨h1,b⟩
 ·exact absurd z (hd.1 kvs)
 ·exact absurd z (hd.2 ps)
theorem Ext.rd{μ μ':List Addr}{H b:Hp}(e:Ext μ H μ' b)(p:Addr)(kvs:List (Key × V))(h:Rd H p (.dK kvs))(n:p ∉ μ):Rd b p (.dK kvs)/\p ∉ μ':=by
 rcases h with h|⟨a,h⟩
 ·obtain⟨⟨g,h1,c⟩,f⟩:=e.keep p _ h n;rcases c with rfl|⟨a,d,z,rfl⟩|⟨_,_,z,_⟩
  ·exact⟨.inl h1,f⟩
  ·cases z;exact⟨.inr ⟨a,h1⟩,f⟩
  ·cases z
 ·exact⟨.inr ⟨a,e.Hb _ _ _ h⟩,(e.keep p _ h n).2⟩
theorem Ext.get{μ μ':List Addr}{H b:Hp}(e:Ext μ H μ' b){n:Nat}{a:Addr}(h:μ[n]?=some a):μ'[n]?=some a:=by
 obtain⟨⟨r,rfl⟩,_,_⟩:=e;rw[xb (ra.mp h).1];exact h
mutual
theorem Rep.mono{T:Tb}{μ μ':List Addr}{H k:Hp}(e:Ext μ H μ' k):∀ (d:D) (v:V),Rep T μ H d v->Rep T μ' k d v
 | .Vb,v,h=>by simpa [Rep]using h
 | .bl b,v,h=>by simpa [Rep]using h
 | .int i,v,h=>by simpa [Rep]using h
 | .str x,v,h=>by simpa [Rep]using h
 | .tup ds,v,h=>by
  rw[Rep]at h ⊢;obtain⟨p,g,h1,f,h3⟩:=h;exact⟨p,g,h1,e.tup _ _ f,Ta.mono e ds g h3⟩
 | .Qg ns,v,h=>by
  rw[Rep]at h ⊢;obtain⟨a,h1,f⟩:=h;refine⟨a,h1,?_⟩;rcases f with⟨o,f⟩|f
  ·exact .inl ⟨o,e.Hb _ _ _ f⟩
  ·exact .inr f
 | .ref n,v,h=>by
  rw[Rep]at h ⊢;obtain⟨a,h1,f⟩:=h;exact⟨a,h1,e.get f⟩
 | .lst ds,v,h=>by
  rw[Rep]at h ⊢;obtain⟨a,g,h1,f,h3,h4⟩:=h;exact⟨a,g,h1,(e.Qi _ _ h3 f).2,(e.Qi _ _ h3 f).1,Ta.mono e ds g h4⟩
 | .Ma w ds,v,h=>by
  rw[Rep]at h ⊢;obtain⟨a,g,h1,f,h3,j,h4⟩:=h;exact⟨a,g,h1,(e.rd _ _ h3 f).2,(e.rd _ _ h3 f).1,j,Ta.mono e ds _ h4⟩
 | .obj c ns ds,v,h=>by
  rw[Rep]at h ⊢;obtain⟨a,t,g,h1,f,h3,j,h4⟩:=h;exact⟨a,t,g,h1,(e.Qi _ _ h3 f).2,(e.Qi _ _ h3 f).1,j,Ta.mono e ds _ h4⟩
 | .Jt c,v,h=>by
  rw[Rep]at h ⊢;obtain⟨a,s,h1,f,h3,h4⟩:=h;exact⟨a,s,h1,(e.Qi _ _ h3 f).2,(e.Qi _ _ h3 f).1,λn q=>let ⟨r,u,l,m⟩:=h4 n q;⟨r,u,(e.Qi _ _ m l).2,(e.Qi _ _ m l).1⟩⟩
 | .gt ss,v,h=>by rw[Rep]at h ⊢;exact h
theorem Ta.mono{T:Tb}{μ μ':List Addr}{H a:Hp}(e:Ext μ H μ' a):∀ (ds:List D) (vs:List V),Ta T μ H ds vs->Ta T μ' a ds vs
 |[],vs,h=>by simpa [Ta]using h
 |d::ds,vs,h=>by
  rw[Ta]at h ⊢;obtain⟨v,r,h1,b,h3⟩:=h;exact⟨v,r,h1,Rep.mono e d v b,Ta.mono e ds r h3⟩
end
theorem Ta.nil{T:Tb}{μ:List Addr}{H:Hp}:Ta T μ H [] []:=by rw[Ta]
theorem Ta.cons{T:Tb}{μ:List Addr}{H:Hp}{d:D}{v:V}{ds:List D}{vs:List V}(h1:Rep T μ H d v)(a:Ta T μ H ds vs):Ta T μ H (d::ds) (v::vs):=by
 rw[Ta];exact⟨v,vs,rfl,h1,a⟩
theorem Ta.length{T:Tb}{μ:List Addr}{H:Hp}:∀ {ds:List D} {vs:List V},Ta T μ H ds vs->ds.length=vs.length
 |[],vs,h=>by rw[Ta]at h;subst h;rfl
 |d::ds,vs,h=>by
  rw[Ta]at h;obtain⟨v,r,rfl,_,h3⟩:=h;simp[Ta.length h3]
theorem Ta.get{T:Tb}{μ:List Addr}{H:Hp}:∀ {ds:List D} {vs:List V} {i:Nat} {d:D},Ta T μ H ds vs->ds[i]?=some d->∃ v,vs[i]?=some v/\Rep T μ H d v
 |[],vs,i,d,h,e=>by simp at e
 |d::ds,vs,0,x,h,e=>by
  rw[Ta]at h;obtain⟨v,r,rfl,a,h3⟩:=h;simp at e;subst e;exact⟨v,rfl,a⟩
 |d::ds,vs,i+1,x,h,e=>by
  rw[Ta]at h;obtain⟨v,r,rfl,a,h3⟩:=h;simpa using Ta.get (i:=i) h3 (by simpa using e)
theorem Ta.append{T:Tb}{μ:List Addr}{H:Hp}:∀ {ds a:List D} {vs us:List V},Ta T μ H ds vs->Ta T μ H a us->Ta T μ H (ds++a) (vs++us)
 |[],a,vs,us,h,b=>by rw[Ta]at h;subst h;simpa using b
 |d::ds,a,vs,us,h,b=>by
  rw[Ta]at h;obtain⟨v,r,rfl,c,h3⟩:=h;exact Ta.cons c (Ta.append h3 b)
theorem Ta.set{T:Tb}{μ:List Addr}{H:Hp}{d:D}{v:V}(hd:Rep T μ H d v):∀ {ds:List D} {vs:List V} (i:Nat),Ta T μ H ds vs->Ta T μ H (ds.set i d) (vs.set i v)
 |[],vs,i,h=>by rw[Ta]at h;subst h;simpa using Ta.nil
 |x::ds,vs,0,h=>by
  rw[Ta]at h;obtain⟨w,r,rfl,a,h3⟩:=h;exact Ta.cons hd h3
 |x::ds,vs,i+1,h=>by
  rw[Ta]at h;obtain⟨w,r,rfl,a,h3⟩:=h;exact Ta.cons a (Ta.set hd i h3)
theorem Ta.drop{T:Tb}{μ:List Addr}{H:Hp}:∀ {ds:List D} {vs:List V} (n:Nat),Ta T μ H ds vs->Ta T μ H (ds.drop n) (vs.drop n)
 |ds,vs,0,h=>by simpa using h
 |[],vs,n+1,h=>by rw[Ta]at h;subst h;simpa using Ta.nil
 |x::ds,vs,n+1,h=>by
  rw[Ta]at h;obtain⟨w,r,rfl,a,h3⟩:=h;simpa using Ta.drop n h3
theorem Ta.take{T:Tb}{μ:List Addr}{H:Hp}:∀ {ds:List D} {vs:List V} (n:Nat),Ta T μ H ds vs->Ta T μ H (ds.take n) (vs.take n)
 |ds,vs,0,h=>by simpa using Ta.nil
 |[],vs,n+1,h=>by rw[Ta]at h;subst h;simpa using Ta.nil
 |x::ds,vs,n+1,h=>by
  rw[Ta]at h;obtain⟨w,r,rfl,a,h3⟩:=h;exact Ta.cons a (Ta.take n h3)
def vu(T:Tb)(μ:List Addr)(H:Hp):List (Str × D)->List (Str × V)->Prop:=Paired λp q=>p.1=q.1/\Rep T μ H p.2 q.2
def bh(T:Tb)(μ:List Addr)(H:Hp):List (Key × D)->List (Key × V)->Prop:=Paired λp q=>p.1=q.1/\Rep T μ H p.2 q.2
def Xp(T:Tb)(μ:List Addr)(H:Hp)(a:Addr):Ob->Prop
 | .lst ds=>∃ b,H a=some (.lst b)/\Ta T μ H ds b
 | .Ma d=>∃ b,H a=some (.dK b)/\bh T μ H d b
 | .ins c fs=>∃ e b,H a=some (.ins (T.ca c) e b)/\vu T μ H fs b
 | .ub d=>∃ g b,H a=some (.Hb g (.dK b))/\bh T μ H d b
 | .rl f=>∃ b,H a=some (.dT b)/\b.map (·.1)=f
structure Rel(T:Tb)(μ:List Addr)(H:Hp)(σ:qb):Prop where
 len:μ.length=σ.length
 nd:μ.Nodup
 obs:∀ (n:Nat) (o:Ob),σ[n]?=some o->∃ a,μ[n]?=some a/\Xp T μ H a o
 tb:Ws T μ H
def wh(T:Tb)(μ:List Addr)(H:Hp)(ρ:Ev)(a:St):Prop:=ρ.length=a.length/\∀ (i:Nat) (d:D),ρ[i]?=some (some d)->∃ v,a[i]?=some (some v)/\Rep T μ H d v
theorem wh.mono{T:Tb}{μ μ':List Addr}{H a:Hp}{ρ:Ev}{st:St}(e:Ext μ H μ' a)(h:wh T μ H ρ st):wh T μ' a ρ st:=
 ⟨h.1,λi d q=>let ⟨v,h1,b⟩:=h.2 i d q;⟨v,h1,Rep.mono e d v b⟩⟩
theorem wh.set{T:Tb}{μ:List Addr}{H:Hp}{ρ:Ev}{a:St}{d:D}{v:V}(h:wh T μ H ρ a)(i:Nat)(r:Rep T μ H d v):wh T μ H (ρ.set i (some d)) (a.set i (some v)):=by
 refine⟨by simpa using h.1,λj x q=>?_⟩;rw[Dc]at q;by_cases hj:i=j
 ·subst hj;rw[ia rfl]at q;split at q
  ·rename_i c
   cases q;exact⟨v,by rw[Dc,ia rfl,ia (by rw[<-h.1];exact c)],r⟩
  ·cases q
 ·rw[qa hj]at q;obtain⟨w,h1,b⟩:=h.2 j x q;exact⟨w,by rw[Dc,qa hj];exact h1,b⟩
def IX(e:Addr)(cls a0:Value)(h:Heap):Prop:=∃ b a,h.get? e=some b/\b.cls=cls/\b.data=.fields a/\1<a.size/\a[0]?=some a0/\a[1]?=some .none
def Tq(B:Heap)(l:List Hg)(e:Addr)(cls a0:Value)(h:Heap):Prop:=B.StaysIn h/\B.get? e=none/\h.FunFrames B l/\((∃ a,h.TracedAtW B e cls a0 a)\/IX e cls a0 h)
def B4(o:Bc)(n:Nat):Prop:=∃ a b t,o.data=.dict a b/\StrKeys a/\nsFind a "pot" = some (.int n t)
def WB(f:Option Nat)(e:Addr)(B h h0:Heap)(d:Hp):Prop:=∀ n,f=some n->∃ a b c,h.get? e=some c/\c.dict=some a/\B.get? a=some b/\B4 b n/\d a=none/\h0.get? a=none
structure vz(P:Aa)(w:Ia)(outer:List Hg)(H:Hp)(s:aa)(cls:Value)(fd:Option Nat)(H':Hp)(e:Value)(s':aa):Prop where
 ex:∃ (ea:Addr) (a0:Value) (B:Heap),e=.ref ea/\Tq B outer ea cls a0 s'.heap/\H' ea=none/\s.heap.get? ea=none/\
  (∀ b o,H' b=some o->∃ ob,B.get? b=some ob)/\(∀ b o,s.heap.get? b=some o->H b=none->b ∉ Nj outer->B.get? b=some o)/\(∀ b o,s.heap.get? b=some o->b ∉ Nj outer->∃ o',B.get? b=some o')/\WB fd ea B s'.heap s.heap H'
 os:s'.os=s.os
 bare:Tg s'.gens
 un:Un (Nj outer) [] H H' s.heap s'.heap
 dc:Ni P w H' s'.heap
noncomputable def Xk(P:Aa)(w:Ia):Xt:=λouter H s E e c=>∃ cls b a,vz P w outer H s cls b a e c/\E cls b a
structure AD(X:Cx)(st:St)(cls:Value)(fd:Option Nat)(H':Hp):Prop where
 RE:∀ (pins:List (Addr × Bc)) (H:Hp) (s:aa) (e:Value) (s':aa),Inv X pins st H s->vz X.prog X.w X.stack H s cls fd H' e s'->X.xe e s'
noncomputable abbrev XE(X:Cx)(c:St):XK:=λcls b a=>AD X c cls b a
def Mb{d e:Type}(T:Tb)(E:XK)(R:List Addr->Hp->d->e->Prop)(μ:List Addr)(H:Hp)(o:Out d)(Q:e->Hp->Prop):Prop:=match o with
 | .ok a σ=>∀ b g c,Ext μ H b c->Rel T b c σ->R b c a g->Q g c
 | .ex x σ=>∀ b c,Ext μ H b c->Rel T b c σ->E (T.cv x) (gC x.cls) c
 | .bad=>False
theorem Mb.mono{j k:Type}{T:Tb}{E:XK}{R:List Addr->Hp->j->k->Prop}{μ c:List Addr}{H i:Hp}{o:Out j}{Q:k->Hp->Prop}(e:Ext μ H c i)(h:Mb T E R μ H o Q):Mb T E R c i o Q:=by
 cases o with
 |ok a σ=>exact λb g d f r q=>h b g d (e.trans f) r q
 |ex x σ=>exact λb d f r=>h b d (e.trans f) r
 |bad=>exact h
theorem Mb.imp{d e:Type}{T:Tb}{E:XK}{R:List Addr->Hp->d->e->Prop}{μ:List Addr}{H:Hp}{o:Out d}{Q Q':e->Hp->Prop}(h:Mb T E R μ H o Q)(k:∀ g b,Q g b->Q' g b):Mb T E R μ H o Q':=by
 cases o with
 |ok a σ=>exact λc g b f r q=>k _ _ (h c g b f r q)
 |ex x σ=>exact h
 |bad=>exact h
theorem Mb.bind{i o p s:Type}{T:Tb}{E:XK}{R:List Addr->Hp->i->p->Prop}{l:List Addr->Hp->o->s->Prop}{μ:List Addr}{H:Hp}{m:M i}{k:i->M o}{σ:qb}{Q:s->Hp->Prop}{Q1:p->Hp->Prop}
  (h:Mb T E l μ H (Wc m k σ) Q) (f:∀ a b c g d,m σ=.ok a b->Ext μ H c d->Rel T c d b->R c d a g->Mb T E l c d (k a b) Q->Q1 g d):Mb T E R μ H (m σ) Q1:=by
 unfold Wc at h;cases e:m σ with
 |ok a b=>
  rw[e]at h;exact λj g t n r q=>f a b j g t e n r q (h.mono n)
 |ex x b=>rw[e]at h;exact h
 |bad=>rw[e]at h;exact h
theorem Mb.here{T:Tb}{E:XK}{b a:Type}{R:List Addr->Hp->b->a->Prop}{μ:List Addr}{H:Hp}{d:b}{σ:qb}{g:a}{Q:a->Hp->Prop}(h:Mb T E R μ H (.ok d σ) Q)(r:Rel T μ H σ)(p:R μ H d g):Q g H:=h μ g H (Ext.refl _ _) r p
section
variable(T:Tb)(X:Cx)
def tF(f:Ev->M D):TE:=λb H Q=>∃ a c d,wh T a H c b/\Rel T a H d/\Mb T (XE X b) (Rep T) a H (f c d) Q
def zL:List Addr->Hp->Bool->Bool->Prop:=λ_ _ a b=>b=a
def tT(f:Ev->M Bool):TT:=λb H Q=>∃ a c d,wh T a H c b/\Rel T a H d/\Mb T (XE X b) zL a H (f c d) Q
def tL(f:Ev->M (List D)):TA:=λb H Q=>∃ a c d,wh T a H c b/\Rel T a H d/\Mb T (XE X b) (Ta T) a H (f c d) Q
inductive Ao where
 |nx (st:St)|rt (v:V)|bk (st:St)|ct (st:St)|xc (st:St) (cls:Value) (fd:Option Nat)
def Xl(T:Tb)(μ:List Addr)(H:Hp):Fl->Ao->Prop
 | .nx a,.nx st=>wh T μ H a st
 | .rt d,.rt v=>Rep T μ H d v
 | .bk a,.bk st=>wh T μ H a st
 | .ct a,.ct st=>wh T μ H a st
 | .xc a x,.xc st cls fd=>wh T μ H a st/\cls=T.cv x/\fd=gC x.cls
 |_,_=>False
def Rk(X:Cx)(D:Ends):Ao->Hp->Prop
 | .nx st,H=>D.nx st H
 | .rt v,H=>D.rt v H
 | .bk st,H=>D.bk st H
 | .ct st,H=>D.ct st H
 | .xc st cls fd,H=>AD X st cls fd H
noncomputable abbrev EN:XK:=λ_ _ _=>False
def tS(g:Ev->M Fl):TS:=λD d H=>∃ a b c,wh T a H b d/\Rel T a H c/\Mb T EN (Xl T) a H (g b c) (Rk X D)
end
def xs{c:Type}(ρ:Ev)(m:M c)(k:c->M Fl):M Fl:=λd=>match m d with
 | .ok a b=>k a b
 | .ex x b=>.ok (.xc ρ x) b
 | .bad=>.bad
theorem Mb.xs{o p:Type}{T:Tb}{X:Cx}{D:Ends}{R:List Addr->Hp->o->p->Prop}{μ:List Addr}{H:Hp}{ρ:Ev}{n:St}{m:M o}{k:o->M Fl}{σ:qb}{Q1:p->Hp->Prop}(s:wh T μ H ρ n)
  (h:Mb T EN (Xl T) μ H (L4.xs ρ m k σ) (Rk X D)) (f:∀ a b c g i,m σ=.ok a b->Ext μ H c i->Rel T c i b->R c i a g->Mb T EN (Xl T) c i (k a b) (Rk X D)->Q1 g i):Mb T (XE X n) R μ H (m σ) Q1:=by
 unfold L4.xs at h;cases e:m σ with
 |ok a b=>
  rw[e]at h;exact λd g l j r q=>f a b d g l e j r q (h.mono j)
 |ex x b=>
  rw[e]at h;intro d l j r;exact h d (.xc n (T.cv x) (gC x.cls)) l j r ⟨s.mono j,rfl,rfl⟩
 |bad=>rw[e]at h;exact h
abbrev FE(T:Tb)(X:Cx)(e:Ca)(f:Ev->M D):Prop:=PE X e (tF T X f)
abbrev FT(T:Tb)(X:Cx)(e:Ca)(f:Ev->M Bool):Prop:=PT X e (tT T X f)
abbrev FW(T:Tb)(X:Cx)(e:Ca)(f:Ev->M Bool):Prop:=PW X e (tT T X f)
abbrev FA(T:Tb)(X:Cx)(a:List Ca)(f:Ev->M (List D)):Prop:=PA X a (tL T X f)
abbrev FS(T:Tb)(X:Cx)(a:Stmt)(g:Ev->M Fl):Prop:=PS X a (tS T X g)
abbrev Hn(T:Tb)(X:Cx)(a:List Stmt)(g:Ev->M Fl):Prop:=Ms X a (tS T X g)
end L4
namespace L4
open PySem PySem.Spec PyProof.Rows L2
noncomputable def Wi:Nat:=1000
theorem bB{n:Nat}(h:n<=Wi):n<=sizeLine:=Pf (vS h)
theorem MV{n:Nat}(h:n<Wi):n<sizeLine:=vS (Pf h)
theorem HF{g:Type}{l:List g}(h:l.Nodup){i j:Nat}{a:g}(k:l[i]?=some a)(hj:l[j]?=some a):i=j:=by
 obtain⟨c,d⟩:=ra.mp k;obtain⟨e,f⟩:=ra.mp hj;have b:=List.pairwise_iff_getElem.mp h;rcases Nat.lt_trichotomy i j with z|z|z
 ·exact absurd (d.trans f.symm) (b i j c e z)
 ·exact z
 ·exact absurd (f.trans d.symm) (b j i e c z)
section
variable{T:Tb}{μ μ':List Addr}{H H':Hp}{σ:qb}
theorem HJ{a:Type}(e:Ext μ H μ' H'){xs:List (a × D)}{ys:List (a × V)}(h:Paired (λ(p:a × D) (q:a × V)=>p.1=q.1/\Rep T μ H p.2 q.2) xs ys) :
  Paired (λ(p:a × D) (q:a × V)=>p.1=q.1/\Rep T μ' H' p.2 q.2) xs ys:=L2.Paired.Rq h λp q z=>⟨z.1,Rep.mono e _ _ z.2⟩
theorem Xp.mono(e:Ext μ H μ' H'){a:Addr}(d:H' a=H a):∀ {o:Ob},Xp T μ H a o->Xp T μ' H' a o
 | .lst ds,⟨b,h,r⟩=>⟨b,d.trans h,Ta.mono e _ _ r⟩
 | .Ma f,⟨b,h,r⟩=>⟨b,d.trans h,HJ e r⟩
 | .ins c fs,⟨g,b,h,r⟩=>⟨g,b,d.trans h,HJ e r⟩
 | .ub f,⟨i,b,h,r⟩=>⟨i,b,d.trans h,HJ e r⟩
 | .rl j,⟨b,h,r⟩=>⟨b,d.trans h,r⟩
theorem Xp.some{a:Addr}:∀ {o:Ob},Xp T μ H a o->∃ u,H a=Option.some u/\(∀ xs,u≠.tup xs)
 | .lst ds,⟨b,h,r⟩=>⟨_,h,(λ_ z=>by cases z)⟩
 | .Ma d,⟨b,h,r⟩=>⟨_,h,(λ_ z=>by cases z)⟩
 | .ins c fs,⟨e,b,h,r⟩=>⟨_,h,(λ_ z=>by cases z)⟩
 | .ub d,⟨g,b,h,r⟩=>⟨_,h,(λ_ z=>by cases z)⟩
 | .rl f,⟨b,h,r⟩=>⟨_,h,(λ_ z=>by cases z)⟩
theorem Xp.OB{a:Addr}:∀ {o:Ob},(∀ kvs,o≠.ub kvs)->Xp T μ H a o->∃ u,H a=Option.some u/\(∀ xs,u≠.tup xs)/\(∀ ob w,u≠.Hb ob w)
 | .lst ds,_,⟨b,h,r⟩=>⟨_,h,(λ_ z=>by cases z),(λ_ _ z=>by cases z)⟩
 | .Ma kvs,_,⟨b,h,r⟩=>⟨_,h,(λ_ z=>by cases z),(λ_ _ z=>by cases z)⟩
 | .ins c fs,_,⟨d,b,h,r⟩=>⟨_,h,(λ_ z=>by cases z),(λ_ _ z=>by cases z)⟩
 | .ub kvs,n,_=>absurd rfl (n kvs)
 | .rl e,_,⟨b,h,r⟩=>⟨_,h,(λ_ z=>by cases z),(λ_ _ z=>by cases z)⟩
theorem Rel.keep(r:Rel T μ H σ)(e:Ext μ H μ H')(k:∀ a∈μ,H' a=H a)(t:Ws T μ H'):Rel T μ H' σ:=
 ⟨r.len,r.nd,λn o h=>let ⟨a,h1,b⟩:=r.obs n o h;⟨a,h1,b.mono e (k a (Ha h1))⟩,t⟩
theorem Rel.mem(r:Rel T μ H σ){a:Addr}(h:a∈μ):∃ u,H a=some u/\(∀ xs,u≠.tup xs):=by
 obtain⟨n,hn⟩:=xt h;have c:n<σ.length:=by rw[<-r.len];exact(ra.mp hn).1
 obtain⟨d,h1,b⟩:=r.obs n σ[n] (by simp[c]);rw[hn]at h1;cases h1;exact b.some
theorem Yl{p:Addr}{o:HO}(a:H p=none):Ext μ H μ (upd H p o):=
 ⟨⟨[],by simp⟩,λq xs h=>by rw[Qd (gq h a)];exact h,λq b u h=>by rw[Qd (gq h a)];exact h,λq b h n=>⟨⟨b,by rw[Qd (gq h a)];exact h,.inl rfl⟩,n⟩⟩
theorem Rel.fresh(r:Rel T μ H σ){p:Addr}{o:HO}(c:H p=none):Rel T μ (upd H p o) σ:=
 r.keep (Yl c) (λa d=>by obtain⟨u,h,_⟩:=r.mem d;rw[Qd (gq h c)]) (r.tb.grow λb u h=>by rw[Qd (gq h c)];exact h)
theorem Lw{p:Addr}{o:HO}(a:H p=none):Ext μ H (μ++[p]) (upd H p o):=
 ⟨⟨[p],rfl⟩,(Yl (μ:=μ) a).tup,(Yl (μ:=μ) a).Hb,λq b h n=>⟨((Yl (μ:=μ) a).keep q b h n).1,λz=>(uj.mp z).elim n λz=>gq h a (by simpa using z)⟩⟩
theorem Rel.push(r:Rel T μ H σ){p:Addr}{o:HO}{ob:Ob}(c:H p=none)(j:Xp T (μ++[p]) (upd H p o) p ob):Rel T (μ++[p]) (upd H p o) (σ++[ob]):=by
 refine⟨by simp[r.len],?_,λn x h=>?_,(r.tb.more c).grow λb u h=>by rw[Qd (gq h c)];exact h⟩
 ·rw[List.nodup_append];refine⟨r.nd,by simp,λa i b hb e=>?_⟩;have g:b=p:=by simpa using hb
  subst g;subst e;obtain⟨u,h,_⟩:=r.mem i;rw[c]at h;cases h
 ·by_cases hn:n<σ.length
  ·rw[xb hn]at h;obtain⟨a,h1,d⟩:=r.obs n x h;obtain⟨u,k,_⟩:=d.some;exact⟨a,by rw[xb (by rw[r.len];exact hn)];exact h1,d.mono (Lw c) (Qd (gq k c))⟩
  ·rw[gd (by omega)]at h;have f:n - σ.length=0:=by
    have:=(ra.mp h).1;simp at this;omega
   rw[f]at h;simp at h;subst h;have en:n=μ.length:=by rw[r.len];omega
   subst en;exact⟨p,by simp,j⟩
theorem XC{p:Addr}{o:HO}(r:Rel T μ H σ):Rep T (μ++[p]) (upd H p o) (.ref σ.length) (.ref p):=by
 rw[Rep];exact⟨p,rfl,by rw[<-r.len];simp⟩
theorem Ww{a:Addr}{u o:HO}(hm:a∈μ)(b:H a=some u)(h1:∀ xs,u≠.tup xs)(c:∀ ob w,u≠.Hb ob w):Ext μ H μ (upd H a o):=
 ⟨⟨[],by simp⟩,λq xs h=>by rw[Qd (CK h b (λz=>h1 xs z.symm))];exact h,λq ob w h=>by rw[Qd (CK h b (λz=>c ob w z.symm))];exact h,λq ob h n=>⟨⟨ob,by rw[Qd (λz=>n (by rw[z];exact hm))];exact h,.inl rfl⟩,n⟩⟩
theorem Rel.write(r:Rel T μ H σ){n:Nat}{a:Addr}{o:HO}{ob:Ob}(hn:μ[n]?=some a)(f:Xp T μ (upd H a o) a ob)(i:∀ kvs,σ[n]?≠some (.ub kvs):=by intro kvs z;simp_all [Ih]):Ext μ H μ (upd H a o)/\Rel T μ (upd H a o) (σ.set n ob):=by
 obtain⟨u,g,h1,c⟩:∃ u,H a=some u/\(∀ xs,u≠.tup xs)/\(∀ ob w,u≠.Hb ob w):=by
  have d:n<σ.length:=by rw[<-r.len];exact(ra.mp hn).1
  obtain⟨j,h1,c⟩:=r.obs n σ[n] (by simp[d]);rw[hn]at h1;cases h1;exact c.OB λkvs z=>i kvs (by rw[vc d,z])
 have e:Ext μ H μ (upd H a o):=Ww (Ha hn) g h1 c;refine⟨e,by simp[r.len],r.nd,λm x h=>?_,r.tb.out (λb hb=>Qd hb) (.inl (Ha hn))⟩;rw[Dc]at h;by_cases hm:n=m
 ·subst hm;rw[ia rfl]at h;split at h
  ·cases h;exact⟨a,hn,f⟩
  ·cases h
 ·rw[qa hm]at h;obtain⟨b,h3,h4⟩:=r.obs m x h;refine⟨b,h3,h4.mono e (Qd λz=>hm ?_)⟩;subst z;exact HF r.nd hn h3
theorem Rel.at(r:Rel T μ H σ){n:Nat}{v:V}{o:Ob}(h:Rep T μ H (.ref n) v)(e:σ[n]?=some o):∃ a,v=.ref a/\μ[n]?=some a/\Xp T μ H a o:=by
 rw[Rep]at h;obtain⟨a,rfl,b⟩:=h;obtain⟨d,h1,c⟩:=r.obs n o e;rw[b]at h1;cases h1;exact⟨a,rfl,b,c⟩
end
noncomputable def da(i:Nat):Ev->M D:=λa b=>match a[i]? with
 |some (some d)=>.ok d b
 |_=>.bad
noncomputable def eC(d:D):Ev->M D:=λ_=>ret d
noncomputable def HI(o:D->D->M D)(m:M D)(x:D):M D:=Wc m (o x)
def Ga(o:D->D->M D)(a b:Ev->M D):Ev->M D:=λc=>Wc (a c) (HI o (b c))
noncomputable def Yb(o:D->M D)(a:Ev->M D):Ev->M D:=λb=>Wc (a b) o
noncomputable def wA(d:D):M Bool:=match d with
 | .bl b=>ret b
 |_=>bad
def pk{α:Type}(p q:M α)(c:Bool):M α:=if c=true then p else q
noncomputable def NJ(c:Bool):M Bool:=ret (!c)
def qy{α:Type}(k:Bool->M α)(d:D):M α:=Wc (wA d) k
def eT(f:Ev->M D):Ev->M Bool:=λa=>Wc (f a) wA
noncomputable def lB(a b:Ev->M Bool):Ev->M Bool:=λc=>Wc (a c) (pk (b c) (ret false))
noncomputable def ap(a b:Ev->M Bool):Ev->M Bool:=λc=>Wc (a c) (pk (ret true) (b c))
def ik(a:Ev->M Bool):Ev->M Bool:=λb=>Wc (a b) NJ
noncomputable def ki(a b:Ev->M D):Ev->M D:=λc=>Wc (a c) (qy (pk (b c) (ret (.bl false))))
noncomputable def BK(a b:Ev->M D):Ev->M D:=λc=>Wc (a c) (qy (pk (ret (.bl true)) (b c)))
noncomputable def UK(c:Bool):M D:=ret (.bl (!c))
def NK(a:Ev->M D):Ev->M D:=λb=>Wc (a b) (qy UK)
noncomputable def Nz(t:Ev->M Bool)(a b:Ev->M D):Ev->M D:=λc=>Wc (t c) (pk (a c) (b c))
noncomputable def Ba:Ev->M (List D):=λ_=>ret []
noncomputable def zK(x:D)(xs:List D):M (List D):=ret (x::xs)
def CJ(m:M (List D))(x:D):M (List D):=Wc m (zK x)
def ja(e:Ev->M D)(r:Ev->M (List D)):Ev->M (List D):=λa=>Wc (e a) (CJ (r a))
def vw(ds:List D):M D:=if ds.length<=Wi then ret (.tup ds)else bad
def Ie(a:Ev->M (List D)):Ev->M D:=λb=>Wc (a b) vw
noncomputable def JC(ds:List D):M D:=λa=>.ok (.ref a.length) (a++[.lst ds])
def mC(ds:List D):M D:=if ds.length<=Wi then JC ds else bad
def Au(a:Ev->M (List D)):Ev->M D:=λb=>Wc (a b) mC
def eA(ds:List D):M D:=if ds.length<=Wi then ret (.lst ds)else bad
def Gh(a:Ev->M (List D)):Ev->M D:=λb=>Wc (a b) eA
def gm(T:Tb)(r:R2)(o:D->D->M D):Prop:=∀ (E:XK) a H b x y v u Q,Rel T a H b->Rep T a H x v->Rep T a H y u->Mb T E (Rep T) a H (o x y b) Q->r v u H Q
def IR(T:Tb)(r:V->Hp->VK->Prop)(o:D->M D):Prop:=∀ (E:XK) a H b x v Q,Rel T a H b->Rep T a H x v->Mb T E (Rep T) a H (o x b) Q->r v H Q
def Lr(T:Tb)(r:List V->Hp->VK->Prop)(o:List D->M D):Prop:=∀ (E:XK) a H c xs b Q,Rel T a H c->Ta T a H xs b->Mb T E (Rep T) a H (o xs c) Q->r b H Q
section
variable{T:Tb}{X:Cx}{a b c:Ca}{fa fb:Ev->M D}{ta tb:Ev->M Bool}{pos:re}
theorem ga(i:Nat){x:Str}(hN:X.N[i]?=some x:=by rfl)(k:yJ X.env.scope x:=by first|exact Or.inl rfl|exact Or.inr (Or.inl rfl)|exact Or.inr (Or.inr rfl))(hd:(x == ("__debug__" : Str))=false:=by decide)
  (c:(x == ("__classdict__" : Str))=false:=by decide):FE T X (.Name x pos) (da i):=by
 intro b s l H Q I h;obtain⟨n,m,p,g,j,a⟩:=h;refine ZV hN k hd c b s l H Q I ?_;unfold da at a;cases e:m[i]? with
 |none=>rw[e]at a;exact a.elim
 |some o=>
  cases o with
  |none=>rw[e]at a;exact a.elim
  |some d=>
   rw[e]at a;obtain⟨v,h1,f⟩:=g.2 i d e;exact⟨v,h1,a.here j f⟩
theorem xA{e:Ca}{v:V}{d:D}(h:PE X e (tC v))(r:∀ μ H,Rep T μ H d v):FE T X e (eC d):=by
 intro a s f H Q I hq;obtain⟨μ,i,j,g,c,b⟩:=hq;exact h a s f H Q I (Mb.here b c (r _ _))
theorem Ra{i:Int}{j}:FE T X (.Constant (.int i) j pos) (eC (.int i)):=xA J8 λ_ _=>by rw[Rep]
theorem Zs{i:Bool}{j}:FE T X (.Constant (.bool i) j pos) (eC (.bl i)):=xA D2 λ_ _=>by rw[Rep]
theorem rC{j}:FE T X (.Constant .none j pos) (eC .Vb):=xA WU λ_ _=>by rw[Rep]
theorem jf{i:Str}{j}:FE T X (.Constant (.str i) j pos) (eC (.str i)):=xA MZ λ_ _=>by rw[Rep]
theorem su{x:Str}{u:Value}{i:Int}(hg:Gl X x)(hm:X.mg x=some u)(r:Ed (.int i) u)(hd:(x == ("__debug__" : Str))=false:=by decide):FE T X (.Name x pos) (eC (.int i)):=xA (UH hg hm r hd) λ_ _=>by rw[Rep]
theorem two{r:R2}{o:D->D->M D}(n:gm T r o){f:St}{H:Hp}{Q:VK}(h:tF T X (Ga o fa fb) f H Q):DC r (tF T X fa) (tF T X fb) f H Q:=by
 obtain⟨A,g,B,e,m,l⟩:=h;exact⟨A,g,B,e,m,l.bind λx c a v C _ j w p s=>⟨a,g,c,e.mono j,w,s.bind λy d b u i _ k z q t=>n _ b i d x y v u Q z (Rep.mono k _ _ p) q t⟩⟩
theorem rk{d:Operator}{r:R2}{o:D->D->M D}(f:Bi X (Gf d) r)(g:gm T r o)(e:FE T X a fa)(hb:FE T X b fb):FE T X (.BinOp a d b pos) (Ga o fa fb):=
 λc s i H Q I h=>Q4 f e hb c s i H Q I (two g h)
theorem vx{d:Hq}{r:R2}{o:D->D->M D}(f:Bi X (Wb d) r)(g:gm T r o)(e:FE T X a fa)(hb:FE T X b fb)(hm:af d b=false):FE T X (.Compare a [d] [b] pos) (Ga o fa fb):=
 λc s i H Q I h=>K4 f e hb hm c s i H Q I (two g h)
theorem CW{r:R2}{o:D->D->M D}(e:Ex X r)(g:gm T r o)(d:FE T X a fa)(hb:FE T X b fb)(f:IJ b):FE T X (.Subscript a b pos) (Ga o fa fb):=
 λc s i H Q I h=>JZ e d hb f c s i H Q I (two g h)
theorem GU{e:UnaryOp}{r:V->Hp->VK->Prop}{o:D->M D}(j:bF X (unaryOp e) r)(m:IR T r o)(g:FE T X a fa):FE T X (.UnaryOp e a pos) (Yb o fa):=by
 intro b s t H Q I h;refine B6 j g b s t H Q I ?_;obtain⟨u,w,y,i,l,k⟩:=h;exact⟨u,w,y,i,l,k.bind λx d c v f _ z q n p=>m _ c f d x v Q q n p⟩
theorem CG{E:XK}{d:D}{σ:qb}{μ:List Addr}{H:Hp}{v:V}{b e:Type}{a:List Addr->Hp->b->e->Prop}{k:Bool->M b}{Q:e->Hp->Prop}(r:Rep T μ H d v)(h:Mb T E a μ H (Wc (wA d) k σ) Q):∃ c,d=.bl c/\v=.bl c/\Mb T E a μ H (k c σ) Q:=by
 cases d with
 |bl c=>rw[Rep]at r;exact⟨c,rfl,r,h⟩
 |_=>exact h.elim
theorem yP{E:XK}{d:D}{σ:qb}{μ:List Addr}{H:Hp}{v:V}{Q:Bool->Hp->Prop}(r:Rep T μ H d v)(h:Mb T E zL μ H (wA d σ) Q):∃ c,v=.bl c/\Mb T E zL μ H (.ok c σ) Q:=by
 cases d with
 |bl c=>rw[Rep]at r;exact⟨c,r,h⟩
 |_=>exact h.elim
theorem og{e:Hq}{r:R2}{o:D->D->M D}(j:Bi X (Wb e) r)(n:gm T r o)(g:FE T X a fa)(hb:FE T X b fb)(hm:af e b=false):FT T X (.Compare a [e] [b] pos) (eT (Ga o fa fb)):=by
 intro c s w H Q I h;refine eZ j g hb hm c s w H Q I ?_;refine two (o:=o) n ?_;obtain⟨x,z,A,i,m,l⟩:=h;refine⟨x,z,A,i,m,l.bind λd B y v C _ E u p t=>?_⟩;obtain⟨k,f,q⟩:=yP p t;exact⟨k,f,q.here u rfl⟩
theorem Rj{e:Ca}{f:Ev->M D}(h:FE T X e f)(i:∀ a,uA e X.env a=(do let v <-a;Dh e.pos;ve [v] (truthy v)):=by intro _;rfl):FT T X e (eT f):=by
 intro b s r H Q I m;refine gY h i b s r H Q I ?_;obtain⟨t,w,x,g,l,j⟩:=m;refine⟨t,w,x,g,l,j.bind λd y u v z _ A p n o=>?_⟩;obtain⟨k,c,q⟩:=yP n o;exact⟨k,c,q.here p rfl⟩
theorem il(h:FT T X a ta):FT T X (.UnaryOp .Not a pos) (ik ta):=by
 intro b s l H Q I g;refine uX h b s l H Q I ?_;obtain⟨m,o,p,d,f,e⟩:=g;exact⟨m,o,p,d,f,e.bind λc q n v r _ t k i j=>by cases i;exact j.here k rfl⟩
variable{ug:List Ca}
theorem qG(h:FT T X a ta):FW T X (.BoolOp .And [a] pos) ta:=F0 h
theorem Er(h:FT T X a ta):FW T X (.BoolOp .Or [a] pos) ta:=TV h
theorem jF(h:FT T X a ta)(hb:FW T X (.BoolOp .And (b::ug) pos) tb):FW T X (.BoolOp .And (a::b::ug) pos) (lB ta tb):=by
 intro r e s q H Q I o;refine eX h hb r e s q H Q I ?_;obtain⟨t,k,u,i,n,m⟩:=o;refine⟨t,k,u,i,n,m.bind λc g f v w _ l j p d=>?_⟩;cases p;cases c with
 |true=>unfold pk at d;rw[ia rfl]at d ⊢;exact⟨f,k,g,i.mono l,j,d⟩
 |false=>unfold pk at d;rw[qa Xa]at d ⊢;exact d.here j rfl
theorem rq(h:FT T X a ta)(hb:FW T X (.BoolOp .Or (b::ug) pos) tb):FW T X (.BoolOp .Or (a::b::ug) pos) (ap ta tb):=by
 intro r e s q H Q I o;refine O2 h hb r e s q H Q I ?_;obtain⟨t,k,u,i,n,m⟩:=o;refine⟨t,k,u,i,n,m.bind λc g f v w _ l j p d=>?_⟩;cases p;cases c with
 |true=>unfold pk at d;rw[ia rfl]at d ⊢;exact d.here j rfl
 |false=>unfold pk at d;rw[qa Xa]at d ⊢;exact⟨f,k,g,i.mono l,j,d⟩
theorem am{op}(h:FE T X a fa):FE T X (.BoolOp op [a] pos) fa:=r6 h
theorem Ei(h:FE T X a fa)(hb:FE T X (.BoolOp .And (b::ug) pos) fb):FE T X (.BoolOp .And (a::b::ug) pos) (ki fa fb):=by
 intro e s u H Q I p;refine Z0 h hb e s u H Q I ?_;obtain⟨w,k,x,i,o,n⟩:=p;refine⟨w,k,x,i,o,n.bind λd g f v y _ l j r t=>?_⟩;obtain⟨c,rfl,m,q⟩:=CG r t;refine⟨c,m,?_⟩;cases c with
 |true=>unfold pk at q;rw[ia rfl]at q ⊢;exact⟨f,k,g,i.mono l,j,q⟩
 |false=>unfold pk at q;rw[qa Xa]at q ⊢;exact Mb.here q j (by rw[Rep])
theorem M4(h:FE T X a fa)(hb:FE T X (.BoolOp .Or (b::ug) pos) fb):FE T X (.BoolOp .Or (a::b::ug) pos) (BK fa fb):=by
 intro e s u H Q I p;refine yrb h hb e s u H Q I ?_;obtain⟨w,k,x,i,o,n⟩:=p;refine⟨w,k,x,i,o,n.bind λd g f v y _ l j r t=>?_⟩;obtain⟨c,rfl,m,q⟩:=CG r t;refine⟨c,m,?_⟩;cases c with
 |true=>unfold pk at q;rw[ia rfl]at q ⊢;exact Mb.here q j (by rw[Rep])
 |false=>unfold pk at q;rw[qa Xa]at q ⊢;exact⟨f,k,g,i.mono l,j,q⟩
theorem UW(h:FE T X a fa):FE T X (.UnaryOp .Not a pos) (NK fa):=by
 intro b s n H Q I j;refine yk7 h b s n H Q I ?_;obtain⟨o,r,t,f,i,g⟩:=j;refine⟨o,r,t,f,i,g.bind λd u p v w _ x m k l=>?_⟩;obtain⟨c,rfl,e,q⟩:=CG k l;exact⟨c,e,Mb.here q m (by rw[Rep])⟩
theorem ZG(hc:FT T X c ta)(m:FE T X a fa)(hb:FE T X b fb):FE T X (.IfExp c a b pos) (Nz ta fa fb):=by
 intro f s r H Q I p;refine Q7 hc m hb f s r H Q I ?_;obtain⟨t,j,u,i,o,n⟩:=p;refine⟨t,j,u,i,o,n.bind λd h g v w _ k l q e=>?_⟩;cases q;cases d with
 |true=>unfold pk at e;rw[ia rfl]at e ⊢;exact⟨g,j,h,i.mono k,l,e⟩
 |false=>unfold pk at e;rw[qa Xa]at e ⊢;exact⟨g,j,h,i.mono k,l,e⟩
variable{e:Ca}{es:List Ca}{fe:Ev->M D}{fs:Ev->M (List D)}
theorem Vl:FA T X [] Ba:=by
 intro pos a s e H Q I d;refine zy pos a s e H Q I ?_;obtain⟨g,h,i,f,c,b⟩:=d;exact Mb.here b c Ta.nil
theorem Pa(k:FE T X e fe)(b:FA T X es fs)(m:pa (e::es) X.env=(false,Ib e X.env)::pa es X.env:=by rfl):FA T X (e::es) (ja fe fs):=by
 intro pos a s w H Q I n;refine Lv k b m pos a s w H Q I ?_;obtain⟨x,h,z,g,b,l⟩:=n;exact⟨x,h,z,g,b,l.bind λd f c v B _ i t o q=>⟨c,h,f,g.mono i,t,q.bind λD A y E C _ j u p r=>Mb.here r u (Ta.cons (Rep.mono j _ _ o) p)⟩⟩
theorem NA{E:XK}{μ:List Addr}{H:Hp}{σ:qb}{ds:List D}{vs:List V}{Q:VK}{p:Addr}(h:Mb T E (Rep T) μ H (.ok (.tup ds) σ) Q)(r:Rel T μ H σ)(q:Ta T μ H ds vs)(a:H p=none):Q (.ref p) (upd H p (.tup vs)):=
 h μ (.ref p) _ (Yl a) (r.fresh a) (by rw[Rep];exact⟨p,vs,rfl,Og,Ta.mono (Yl a) _ _ q⟩)
theorem JF{E:XK}{μ:List Addr}{H:Hp}{σ:qb}{ds:List D}{vs:List V}{Q:VK}{p:Addr}(h:Mb T E (Rep T) μ H (JC ds σ) Q)(r:Rel T μ H σ)(q:Ta T μ H ds vs)(a:H p=none):Q (.ref p) (upd H p (.lst vs)):=
 h (μ++[p]) (.ref p) _ (Lw a) (r.push a ⟨vs,Og,Ta.mono (Lw a) _ _ q⟩) (XC r)
theorem cf{x1}(h:FA T X es fs):FE T X (.Tuple es x1 pos) (Ie fs):=by
 intro a s l H Q I j;refine yla h a s l H Q I ?_;obtain⟨m,o,q,g,i,d⟩:=j;refine⟨m,o,q,g,i,d.bind λf r n v t _ u k e b=>?_⟩;unfold vw at b;by_cases c:f.length<=Wi
 ·rw[ia c]at b;exact⟨by rw[<-e.length];exact bB c,λp d=>NA b k e d⟩
 ·rw[qa c]at b;exact b.elim
theorem ky(h:FA T X es fs):FE T X (.List es pos) (Au fs):=by
 intro a s l H Q I j;refine jR h a s l H Q I ?_;obtain⟨m,o,q,g,i,d⟩:=j;refine⟨m,o,q,g,i,d.bind λf r n v t _ u k e b=>?_⟩;unfold mC at b;by_cases c:f.length<=Wi
 ·rw[ia c]at b;exact⟨by rw[<-e.length];exact bB c,λp d=>JF b k e d⟩
 ·rw[qa c]at b;exact b.elim
theorem cF{E:XK}{μ:List Addr}{H:Hp}{σ:qb}{ds:List D}{vs:List V}{Q:VK}{p:Addr}(h:Mb T E (Rep T) μ H (.ok (.lst ds) σ) Q)(r:Rel T μ H σ)(q:Ta T μ H ds vs)(a:H p=none):Q (.ref p) (upd H p (.lst vs)):=
 h μ (.ref p) _ (Yl a) (r.fresh a) (by rw[Rep];exact⟨p,vs,rfl,λhm=>(by obtain⟨u,b,_⟩:=r.mem hm;rw[a]at b;cases b),Og,Ta.mono (Yl a) _ _ q⟩)
theorem Oi(h:FA T X es fs):FE T X (.List es pos) (Gh fs):=by
 intro a s l H Q I j;refine jR h a s l H Q I ?_;obtain⟨m,o,q,g,i,d⟩:=j;refine⟨m,o,q,g,i,d.bind λf r n v t _ u k e b=>?_⟩;unfold eA at b;by_cases c:f.length<=Wi
 ·rw[ia c]at b;exact⟨by rw[<-e.length];exact bB c,λp d=>cF b k e d⟩
 ·rw[qa c]at b;exact b.elim
end
noncomputable def oI(g:Int->Int->Int):D->D->M D
 | .int i,.int j=>ret (.int (g i j))
 |_,_=>bad
noncomputable def oB(g:Int->Int->Bool):D->D->M D
 | .int i,.int j=>ret (.bl (g i j))
 |_,_=>bad
noncomputable def Pz(C:Int->Int->Bool)(g:Int->Int->Int):D->D->M D
 | .int i,.int j=>if C i j=true then ret (.int (g i j))else bad
 |_,_=>bad
def UJ(_ j:Int):Bool:=hide (decide (0<j) && decide (j<1073741824))
def QI(_ j:Int):Bool:=hide (decide (0<j))
def Ez(i j:Int):Bool:=hide (decide (0<=j) && decide (j<=1000000) && decide (i.natAbs<2 ^ 64))
abbrev Mu:=oI (λi j=>i - j)
abbrev Fw:=Pz UJ (λi j=>i / j)
abbrev lr:=Pz QI (λi j=>i % j)
abbrev qw:=Pz Ez (λi j=>i ^ j.toNat)
abbrev oLt:=oB (λi j=>decide (i<j))
abbrev oLe:=oB (λi j=>decide (i<=j))
abbrev BF:=oB (λi j=>decide (j<i))
abbrev hO:=oB (λi j=>decide (j<=i))
noncomputable def TH:D->M D
 | .int i=>ret (.int (-i))
 |_=>bad
noncomputable def rD(T:Tb)(o:D->D->M D):R2:=λv u H Q=>∃ (E:XK) (a:List Addr) (σ:qb) (x y:D),Rel T a H σ/\Rep T a H x v/\Rep T a H y u/\Mb T E (Rep T) a H (o x y σ) Q
theorem uh{T:Tb}{o:D->D->M D}:gm T (rD T o) o:=λE a H b x y v u Q r p q h=>⟨E,a,b,x,y,r,p,q,h⟩
section
variable{T:Tb}{X:Cx}
theorem Qq{μ:List Addr}{H:Hp}{i:Int}{v:V}(h:Rep T μ H (.int i) v):v=.int i:=by simpa [Rep]using h
theorem J5{g:Int->Int->Int}:gm T (Mr λi j=>.int (g i j)) (oI g):=by
 intro E a H b x y v u Q r p q h;cases x with
 |int i=>
  cases y with
  |int j=>exact⟨i,j,Qq p,Qq q,Mb.here h r (by rw[Rep])⟩
  |_=>exact h.elim
 |_=>exact h.elim
theorem kF{g:Int->Int->Bool}:gm T (Mr λi j=>.bl (g i j)) (oB g):=by
 intro E a H b x y v u Q r p q h;cases x with
 |int i=>
  cases y with
  |int j=>exact⟨i,j,Qq p,Qq q,Mb.here h r (by rw[Rep])⟩
  |_=>exact h.elim
 |_=>exact h.elim
theorem fJ{C:Int->Int->Bool}{a:Int->Int->Prop}{g:Int->Int->Int}(c:∀ i j,C i j=true->a i j):gm T (rI a λi j=>.int (g i j)) (Pz C g):=by
 intro E d H f x y v u Q r p q h;cases x with
 |int i=>
  cases y with
  |int j=>
   by_cases hc:C i j=true
   ·have b:Mb T E (Rep T) d H (ret (.int (g i j)) f) Q:=by
     have e:Pz C g (.int i) (.int j)=ret (.int (g i j)):=by show (if C i j=true then _ else _)=_;rw[ia hc]
     rw[e]at h;exact h
    exact⟨i,j,Qq p,Qq q,c i j hc,Mb.here b r (by rw[Rep])⟩
   ·have e:Pz C g (.int i) (.int j)=bad:=by show (if C i j=true then _ else _)=_;rw[qa hc]
    rw[e]at h;exact h.elim
  |_=>exact h.elim
 |_=>exact h.elim
theorem Qw:gm T (Mr λi j=>.int (i - j)) Mu:=J5
theorem pC:gm T (rI kO λi j=>.int (i / j)) Fw:=fJ λi j h=>by
 simp only[UJ,yr,Da,ke]at h;exact h
theorem Ow:gm T (rI (λ_ j=>0<j) λi j=>.int (i % j)) lr:=fJ λi j h=>by
 simp only[QI,yr,ke]at h;exact h
theorem mF:gm T (rI lS λi j=>.int (i ^ j.toNat)) qw:=fJ λi j h=>by
 simp only[Ez,yr,Da,ke]at h;exact⟨h.1.1,h.1.2,h.2⟩
theorem UA:gm T (Mr λi j=>.bl (decide (i<j))) oLt:=kF
theorem ZL:gm T (Mr λi j=>.bl (decide (i<=j))) oLe:=kF
theorem IH:gm T (Mr λi j=>.bl (decide (j<i))) BF:=kF
theorem L1:gm T (Mr λi j=>.bl (decide (j<=i))) hO:=kF
theorem HV:IR T (rU λi=>.int (-i)) TH:=by
 intro E a H b x v Q r p h;cases x with
 |int i=>exact⟨i,Qq p,Mb.here h r (by rw[Rep])⟩
 |_=>exact h.elim
end
noncomputable def sc:D->Option V
 | .Vb=>some .Vb
 | .bl b=>some (.bl b)
 | .int i=>some (.int i)
 | .str x=>some (.str x)
 |_=>none
noncomputable def Ih(σ:qb)(n:Nat):Option (List D):=match σ[n]? with
 |some (.lst xs)=>some xs
 |_=>none
theorem OS{σ:qb}{n:Nat}{xs:List D}(h:Ih σ n=some xs):σ[n]?=some (.lst xs):=by
 unfold Ih at h;cases e:σ[n]? with
 |none=>rw[e]at h;cases h
 |some o=>rw[e]at h;cases o<;>simp at h;subst h;rfl
inductive Kd where
 |s (v:V)|t (xs:List D)|l (xs:List D)|o
def kd(σ:qb):D->Kd
 | .Vb=>.s .Vb
 | .bl b=>.s (.bl b)
 | .int i=>.s (.int i)
 | .str x=>.s (.str x)
 | .tup xs=>.t xs
 | .lst xs=>.l xs
 | .ref n=>match Ih σ n with
  |some xs=>.l xs
  |none=>.o
 |_=>.o
noncomputable def Zo(f:D->D->Option Bool):List D->List D->Option Bool
 |[],[]=>some true
 |[],_::_=>some false
 |_::_,[]=>some false
 |x::xs,y::a=>match f x y,Zo f xs a with
  |some b,some c=>some (b && c)
  |_,_=>none
def qo(f:D->D->Option Bool):Kd->Kd->Option Bool
 | .s a,.s b=>some (Sj a b)
 | .t xs,.t c=>Zo f xs c
 | .l xs,.l c=>Zo f xs c
 | .s _,.t _=>some false
 | .t _,.s _=>some false
 | .s _,.l _=>some false
 | .l _,.s _=>some false
 | .t _,.l _=>some false
 | .l _,.t _=>some false
 |_,_=>none
def ij(σ:qb):Nat->D->D->Option Bool
 |0,x,y=>qo (λ_ _=>none) (kd σ x) (kd σ y)
 |n+1,x,y=>qo (ij σ n) (kd σ x) (kd σ y)
noncomputable def Et(f:D->D->Option Bool)(xs ys:List D)(j:Nat):Bool:=match xs[j]?,ys[j]? with
 |some a,some b=>(f a b).getD false
 |_,_=>false
theorem MO(f:D->D->Option Bool):∀ (xs ys:List D) (b:Bool),Zo f xs ys=some b->
  (∀ (j:Nat) (a c:D),xs[j]?=some a->ys[j]?=some c->∃ k,f a c=some k)/\b=((List.range (min xs.length ys.length)).all (Et f xs ys) && xs.length == ys.length)
 |[],[],b,h=>by simp[Zo]at h;subst h;simp
 |[],y::ys,b,h=>by simp[Zo]at h;subst h;simp
 |x::xs,[],b,h=>by simp[Zo]at h;subst h;simp
 |x::xs,y::ys,b,h=>by
  unfold Zo at h;cases d:f x y with
  |none=>rw[d]at h;cases h
  |some b1=>
   cases e:Zo f xs ys with
   |none=>rw[d,e]at h;cases h
   |some i=>
    rw[d,e]at h;cases h;obtain⟨h1,q⟩:=MO f xs ys i e;refine⟨λj a c g hc=>?_,?_⟩
    ·cases j with
     |zero=>simp at g hc;subst g;subst hc;exact⟨b1,d⟩
     |succ j=>exact h1 j a c (by simpa using g) (by simpa using hc)
    ·have l:min (x::xs).length (y::ys).length=min xs.length ys.length+1:=by simp[Nat.succ_min_succ]
     have m:∀ j,Et f (x::xs) (y::ys) (j+1)=Et f xs ys j:=λj=>by simp[Et]
     have n:Et f (x::xs) (y::ys) 0=b1:=by simp[Et,d]
     rw[l,cj,qf,dm,n,q];have o:(Et f (x::xs) (y::ys) ∘ Nat.succ)=Et f xs ys:=funext λj=>m j;have p:((x::xs).length == (y::ys).length)=(xs.length == ys.length):=by simp
     rw[o,p,cz]
section
variable{T:Tb}{μ:List Addr}{H:Hp}{σ:qb}
theorem Rel.lst(r:Rel T μ H σ){n:Nat}{v:V}{xs:List D}(h:Rep T μ H (.ref n) v)(e:Ih σ n=some xs):∃ a vs,v=.ref a/\μ[n]?=some a/\H a=some (.lst vs)/\Ta T μ H xs vs:=by
 obtain⟨a,rfl,h1,vs,b,h3⟩:=r.at h (OS e);exact⟨a,vs,rfl,h1,b,h3⟩
theorem lF{d:D}{v a:V}(h:Rep T μ H d v)(e:sc d=some a):v=a:=by
 cases d<;>simp[sc]at e<;>subst e<;>simpa [Rep]using h
theorem pN{d:D}{a:V}(e:sc d=some a):Bj a=true:=by
 cases d<;>simp[sc]at e<;>subst e<;>rfl
theorem wW{a:V}(h:Bj a=true):Sj a a=true:=by cases a<;>simp[Bj,Sj]at h ⊢
theorem Qy(r:Rel T μ H σ){d:D}{v:V}(h:Rep T μ H d v):match kd σ d with
  | .s a=>v=a/\Bj a=true
  | .t xs=>∃ p c,v=.ref p/\H p=some (.tup c)/\Ta T μ H xs c
  | .l xs=>∃ p c,v=.ref p/\H p=some (.lst c)/\Ta T μ H xs c
  | .o=>True:=by
 cases d with
 |Vb=>exact⟨by simpa [Rep]using h,rfl⟩
 |bl b=>exact⟨by simpa [Rep]using h,rfl⟩
 |int b=>exact⟨by simpa [Rep]using h,rfl⟩
 |str b=>exact⟨by simpa [Rep]using h,rfl⟩
 |tup xs=>rw[Rep]at h;exact h
 |lst xs=>rw[Rep]at h;obtain⟨a,c,h1,_,f,h3⟩:=h;exact⟨a,c,h1,f,h3⟩
 |ref n=>
  unfold kd;dsimp only;cases e:Ih σ n with
  |none=>trivial
  |some xs=>obtain⟨a,c,h1,_,f,h3⟩:=r.lst h e;exact⟨a,c,h1,f,h3⟩
 |_=>trivial
theorem xH{f:D->D->Option Bool}(g:∀ (x y:D) (v:V) (b:Bool),Rep T μ H x v->Rep T μ H y v->f x y=some b->b=true):∀ (xs ys:List D) (vs:List V) (b:Bool),Ta T μ H xs vs->Ta T μ H ys vs->Zo f xs ys=some b->b=true
 |[],ys,vs,b,c,a,h=>by
  rw[Ta]at c;subst c;cases ys with
  |nil=>simp[Zo]at h;exact h
  |cons y ys=>rw[Ta]at a;obtain⟨_,_,z,_⟩:=a;cases z
 |x::xs,ys,vs,b,c,a,h=>by
  rw[Ta]at c;obtain⟨v,r,rfl,k,m⟩:=c;cases ys with
  |nil=>rw[Ta]at a;cases a
  |cons y ys=>
   rw[Ta]at a;obtain⟨p,o,z,l,n⟩:=a;cases z;unfold Zo at h;cases d:f x y with
   |none=>rw[d]at h;cases h
   |some i=>
    cases e:Zo f xs ys with
    |none=>rw[d,e]at h;cases h
    |some j=>
     rw[d,e]at h;cases h;rw[g x y v i k l d,xH g xs ys r j m n e];rfl
theorem EI(r:Rel T μ H σ){f:D->D->Option Bool}(A:∀ (x y:D) (v:V) (b:Bool),Rep T μ H x v->Rep T μ H y v->f x y=some b->b=true){x y:D}{v:V}{b:Bool}(B:Rep T μ H x v)(hy:Rep T μ H y v)(h:qo f (kd σ x) (kd σ y)=some b):b=true:=by
 have n:=Qy r B;have g:=Qy r hy;generalize kd σ x=C at h n;generalize kd σ y=u at h g;cases C with
 |s a=>
  obtain⟨rfl,i⟩:=n;cases u with
  |s c=>obtain⟨rfl,_⟩:=g;cases h;exact wW i
  |t xs=>obtain⟨p,k,rfl,_⟩:=g;simp[Bj]at i
  |l xs=>obtain⟨p,k,rfl,_⟩:=g;simp[Bj]at i
  |o=>cases h
 |t xs=>
  obtain⟨p,k,rfl,h1,w⟩:=n;cases u with
  |s c=>obtain⟨e,i⟩:=g;rw[<-e]at i;simp[Bj]at i
  |t m=>
   obtain⟨q,z,e,d,j⟩:=g;cases e;rw[h1]at d;cases d;exact xH A xs m k b w j h
  |l m=>obtain⟨q,z,e,d,j⟩:=g;cases e;rw[h1]at d;cases d
  |o=>cases h
 |l xs=>
  obtain⟨p,k,rfl,h1,w⟩:=n;cases u with
  |s c=>obtain⟨e,i⟩:=g;rw[<-e]at i;simp[Bj]at i
  |t m=>obtain⟨q,z,e,d,j⟩:=g;cases e;rw[h1]at d;cases d
  |l m=>
   obtain⟨q,z,e,d,j⟩:=g;cases e;rw[h1]at d;cases d;exact xH A xs m k b w j h
  |o=>cases h
 |o=>cases h
theorem OR(r:Rel T μ H σ):∀ (n:Nat) (x y:D) (v:V) (b:Bool),Rep T μ H x v->Rep T μ H y v->ij σ n x y=some b->b=true
 |0,x,y,v,b,a,hy,h=>EI r (λ_ _ _ _ _ _ z=>by cases z) a hy h
 |n+1,x,y,v,b,a,hy,h=>EI r (λx y v b c d e=>OR r n x y v b c d e) a hy h
end
section
variable{T:Tb}{X:Cx}{pins:List (Addr × Bc)}{st:St}{μ:List Addr}{H:Hp}{s:aa}{σ:qb}
theorem SE{A:Fa}{a:V}{u:Value}{p:Addr}{its:Array Value}(e:Bj a=true)(r:Ed a u)(c:s.heap.IsTuple p its)(d:A.units<cLine):zd A s u (.ref p) false/\zd A s (.ref p) u false/\Lh A s u (.ref p) false/\Lh A s (.ref p) u false/\zh A s u (.ref p) true/\zh A s (.ref p) u true:=by
 cases a with
 |Vb=>cases r;exact⟨.none_tuple c d,.tuple_none c d,.none_tuple c d,.tuple_none c d,.none_tuple c d,.tuple_none c d⟩
 |bl b=>cases r;exact⟨.bool_tuple b c d,.tuple_bool b c d,.bool_tuple b c d,.tuple_bool b c d,.bool_tuple b c d,.tuple_bool b c d⟩
 |int b=>obtain⟨t,rfl⟩:=r;exact⟨.int_tuple b t c d,.tuple_int b t c d,.int_tuple b t c d,.tuple_int b t c d,.int_tuple b t c d,.tuple_int b t c d⟩
 |str b=>obtain⟨t,rfl⟩:=r;exact⟨.str_tuple b t c d,.tuple_str b t c d,.str_tuple b t c d,.tuple_str b t c d,.str_tuple b t c d,.tuple_str b t c d⟩
 |_=>simp[Bj]at e
theorem sM{A:Fa}{a:V}{u:Value}{p:Addr}{its:Array Value}(e:Bj a=true)(r:Ed a u)(c:s.heap.IsList p its)(d:A.units<cLine):Lh A s u (.ref p) false/\Lh A s (.ref p) u false/\zh A s u (.ref p) true/\zh A s (.ref p) u true:=by
 cases a with
 |Vb=>cases r;exact⟨.none_list c d,.list_none c d,.none_list c d,.list_none c d⟩
 |bl b=>cases r;exact⟨.bool_list b c d,.list_bool b c d,.bool_list b c d,.list_bool b c d⟩
 |int b=>obtain⟨t,rfl⟩:=r;exact⟨.int_list b t c d,.list_int b t c d,.int_list b t c d,.list_int b t c d⟩
 |str b=>obtain⟨t,rfl⟩:=r;exact⟨.str_list b t c d,.list_str b t c d,.str_list b t c d,.list_str b t c d⟩
 |_=>simp[Bj]at e
theorem R8{A:Fa}{a:V}{u:Value}{p:Addr}{its:Array Value}(e:Bj a=true)(r:Ed a u)(c:s.heap.IsList p its)(d:A.units<cLine):zd A s u (.ref p) false:=by
 cases a with
 |Vb=>cases r;exact .none_list c d
 |bl b=>cases r;exact .bool_list b c d
 |int b=>obtain⟨t,rfl⟩:=r;exact .int_list b t c d
 |str b=>obtain⟨t,rfl⟩:=r;exact .str_list b t c d
 |_=>simp[Bj]at e
theorem y2{A:Fa}{a:V}{u:Value}{p:Addr}{its:Array Value}(e:Bj a=true)(r:Ed a u)(c:s.heap.IsList p its)(d:A.units<cLine):zd A s (.ref p) u false:=by
 cases a with
 |Vb=>cases r;exact .list_none c d
 |bl b=>cases r;exact .list_bool b c d
 |int b=>obtain⟨t,rfl⟩:=r;exact .list_int b t c d
 |str b=>obtain⟨t,rfl⟩:=r;exact .list_str b t c d
 |_=>simp[Bj]at e
theorem AZ{A:Fa}{a b:V}{u w:Value}(e:Ed a u)(rb:Ed b w)(f:Bj a=true)(d:Bj b=true):Lh A s u w (Sj a b)/\zh A s u w (!Sj a b):=by
 cases a with
 |Vb=>
  cases e;cases b with
  |Vb=>cases rb;exact⟨.none_none,.none_none⟩
  |bl y=>cases rb;exact⟨.none_bool y,.none_bool y⟩
  |int y=>obtain⟨t,rfl⟩:=rb;exact⟨.none_int y t,.none_int y t⟩
  |str y=>obtain⟨t,rfl⟩:=rb;exact⟨.none_str y t,.none_str y t⟩
  |_=>simp[Bj]at d
 |bl x=>
  cases e;cases b with
  |Vb=>cases rb;exact⟨.bool_none x,.bool_none x⟩
  |bl y=>cases rb;exact⟨.bool_bool x y,.bool_bool x y⟩
  |int y=>obtain⟨t,rfl⟩:=rb;exact⟨.bool_int x y t,.bool_int x y t⟩
  |str y=>obtain⟨t,rfl⟩:=rb;exact⟨.bool_str x y t,.bool_str x y t⟩
  |_=>simp[Bj]at d
 |int x=>
  obtain⟨c,rfl⟩:=e;cases b with
  |Vb=>cases rb;exact⟨.int_none x c,.int_none x c⟩
  |bl y=>cases rb;exact⟨.int_bool x c y,.int_bool x c y⟩
  |int y=>obtain⟨t,rfl⟩:=rb;exact⟨.int_int x c y t,.int_int x c y t⟩
  |str y=>obtain⟨t,rfl⟩:=rb;exact⟨.int_str x c y t,.int_str x c y t⟩
  |_=>simp[Bj]at d
 |str x=>
  obtain⟨c,rfl⟩:=e;cases b with
  |Vb=>cases rb;exact⟨.str_none x c,.str_none x c⟩
  |bl y=>cases rb;exact⟨.str_bool x c y,.str_bool x c y⟩
  |int y=>obtain⟨t,rfl⟩:=rb;exact⟨.str_int x c y t,.str_int x c y t⟩
  |str y=>obtain⟨t,rfl⟩:=rb;exact⟨.str_str x c y t,.str_str x c y t⟩
  |_=>simp[Bj]at d
 |_=>simp[Bj]at f
theorem ZE{xs:List V}{us:List Value}{i:Nat}{u:Value}(r:ue xs us)(h:us[i]?=some u):∃ x,xs[i]?=some x/\Ed x u:=by
 have c:=r.length;have b:=(ra.mp h).1;obtain⟨d,h1,a⟩:=r.get (i:=i) (x:=xs[i]'(by omega)) (by simp);rw[h]at h1;cases h1;exact⟨_,by simp,a⟩
theorem KJ{ds:List D}{vs:List V}{i:Nat}{v:V}(r:Ta T μ H ds vs)(h:vs[i]?=some v):∃ d,ds[i]?=some d/\Rep T μ H d v:=by
 have c:=r.length;have b:=(ra.mp h).1;obtain⟨e,h1,a⟩:=r.get (i:=i) (d:=ds[i]'(by omega)) (by simp);rw[h]at h1;cases h1;exact⟨_,by simp,a⟩
theorem qL{A:Fa}{f:D->D->Option Bool}(B:∀ (x y:D) (v w:V) (o p:Value) (b:Bool),Rep T μ H x v->Rep T μ H y w->Ed v o->Ed w p->f x y=some b->zd A s o p b)
  {xs ys:List D} {vs q:List V} {us zs:List Value} {b:Bool} (r1:Ta T μ H xs vs) (n:Ta T μ H ys q) (l:ue vs us) (m:ue q zs) (h:Zo f xs ys=some b) :
  (∀ j (h1:j<us.toArray.size) (g:j<zs.toArray.size),zd A s us.toArray[j] zs.toArray[j] (Et f xs ys j))/\b=((List.range (min us.toArray.size zs.toArray.size)).all (Et f xs ys) && us.toArray.size == zs.toArray.size):=by
 obtain⟨h1,g⟩:=MO f xs ys b h;have C:=r1.length;have E:=n.length;have F:=l.length;have G:=m.length;refine⟨λj K g2=>?_,?_⟩
 ·obtain⟨v,r,J⟩:=ZE (i:=j) (u:=us.toArray[j]) l (by simp);obtain⟨w,t,a⟩:=ZE (i:=j) (u:=zs.toArray[j]) m (by simp);obtain⟨x,c,I⟩:=KJ r1 r;obtain⟨y,d,p4⟩:=KJ n t;obtain⟨k,e⟩:=h1 j x y c d;have z:Et f xs ys j=k:=by simp[Et,c,d,e]
  rw[z];exact B x y v w _ _ k I p4 J a e
 ·simp only[va];rw[g,C,E,F,G]
abbrev wN(A:Fa)(s:aa)(v w:Value)(b:Bool):Prop:=Lh A s v w b/\zh A s v w (!b)
theorem DJ{A:Fa}(I:Inv X pins st H s)(r:Rel T μ H σ)(hu:A.units+1<cLine){f:D->D->Option Bool}
  (hf:∀ (x y:D) (v w:V) (O P:Value) (b:Bool),Rep T μ H x v->Rep T μ H y w->Ed v O->Ed w P->f x y=some b->zd A.in1 s O P b)
  {x y:D} {v w:V} {O P:Value} {b:Bool} (hx:Rep T μ H x v) (hy:Rep T μ H y w) (N:Ed v O) (d:Ed w P) (h:qo f (kd σ x) (kd σ y)=some b):wN A s O P b:=by
 have g:A.units<cLine:=by omega
 have R:=Qy r hx;have m:=Qy r hy;generalize kd σ x=k1 at h R;generalize kd σ y=U at h m;cases k1 with
 |o=>cases h
 |s a=>
  obtain⟨rfl,S⟩:=R;cases U with
  |o=>cases h
  |s c=>obtain⟨rfl,J⟩:=m;cases h;exact AZ N d S J
  |t B=>
   obtain⟨q,Q,rfl,j,u⟩:=m;cases h;cases d;obtain⟨k,_,hq,_⟩:=L2.Inv.tuple I (Ah.of (K:=X.K) j);obtain⟨_,_,C,E,F,G⟩:=SE S N hq g;exact⟨C,F⟩
  |l B=>
   obtain⟨q,Q,rfl,j,u⟩:=m;cases h;cases d;obtain⟨k,_,pl,_⟩:=L2.Inv.list I (lf.of (K:=X.K) j);obtain⟨C,E,F,G⟩:=sM S N pl.isList g;exact⟨C,F⟩
 |t xs=>
  obtain⟨p,vs,rfl,h1,Z⟩:=R;cases N;obtain⟨k,W,M,_⟩:=L2.Inv.tuple I (Ah.of (K:=X.K) h1);cases U with
  |o=>cases h
  |s c=>
   obtain⟨rfl,J⟩:=m;cases h;obtain⟨_,_,C,E,F,G⟩:=SE J d M g;exact⟨E,G⟩
  |t B=>
   obtain⟨q,Q,rfl,j,u⟩:=m;cases d;obtain⟨i,Y,hq,_⟩:=L2.Inv.tuple I (Ah.of (K:=X.K) j);obtain⟨L,g2⟩:=qL (A:=A.in1) hf Z u W Y h;rw[g2];exact⟨.tuples M hq (by omega) L,.tuples M hq (by omega) L⟩
  |l B=>
   obtain⟨q,Q,rfl,j,u⟩:=m;cases h;cases d;obtain⟨i,_,pl,_⟩:=L2.Inv.list I (lf.of (K:=X.K) j);exact⟨.tuple_list M pl.isList g,.tuple_list M pl.isList g⟩
 |l xs=>
  obtain⟨p,vs,rfl,h1,Z⟩:=R;cases N;obtain⟨k,W,pl,_⟩:=L2.Inv.list I (lf.of (K:=X.K) h1);cases U with
  |o=>cases h
  |s c=>
   obtain⟨rfl,J⟩:=m;cases h;obtain⟨C,E,F,G⟩:=sM J d pl.isList g;exact⟨E,G⟩
  |t B=>
   obtain⟨q,Q,rfl,j,u⟩:=m;cases h;cases d;obtain⟨i,_,hq,_⟩:=L2.Inv.tuple I (Ah.of (K:=X.K) j);exact⟨.list_tuple pl.isList hq g,.list_tuple pl.isList hq g⟩
  |l B=>
   obtain⟨q,Q,rfl,j,u⟩:=m;cases d;obtain⟨i,Y,n,_⟩:=L2.Inv.list I (lf.of (K:=X.K) j);obtain⟨L,g2⟩:=qL (A:=A.in1) hf Z u W Y h;by_cases z:k.toArray.size=i.toArray.size
   ·have e:b=(List.range k.toArray.size).all (Et f xs B):=by rw[g2,<-z];simp
    rw[e];exact⟨.lists pl.isList n.isList z (by omega) L,.lists pl.isList n.isList z (by omega) L⟩
   ·have e:b=false:=by rw[g2,ye.mpr z,bz]
    rw[e];exact⟨.lists_lengths pl.isList n.isList (by simpa using z) (by omega),.lists_lengths pl.isList n.isList (by simpa using z) (by omega)⟩
theorem gO{A:Fa}(I:Inv X pins st H s)(r:Rel T μ H σ)(S:A.units+1<cLine){f:D->D->Option Bool}
  (P:∀ (x y:D) (v w:V) (F G:Value) (b:Bool),Rep T μ H x v->Rep T μ H y w->Ed v F->Ed w G->f x y=some b->zd A.in1 s F G b)
  (R:∀ (x y:D) (v:V) (b:Bool),Rep T μ H x v->Rep T μ H y v->f x y=some b->b=true)
  {x y:D} {v w:V} {F G:Value} {b:Bool} (J:Rep T μ H x v) (hy:Rep T μ H y w) (n:Ed v F) (d:Ed w G) (h:qo f (kd σ x) (kd σ y)=some b):zd A s F G b:=by
 have k:A.units<cLine:=by omega
 have L:=(DJ I r S P J hy n d h).1;by_cases i:v=w
 ·subst i;have hb:=EI r R J hy h;have m:=Qy r J;have g:=Qy r hy;generalize kd σ x=N at h m;generalize kd σ y=E at h g;cases N with
  |o=>cases h
  |s a=>
   obtain⟨rfl,j⟩:=m;cases E with
   |o=>cases h
   |s c=>obtain⟨rfl,u⟩:=g;cases h;exact MJ n d j u
   |t C=>obtain⟨q,B,e,_⟩:=g;rw[e]at j;simp[Bj]at j
   |l C=>obtain⟨q,B,e,_⟩:=g;rw[e]at j;simp[Bj]at j
  |t xs=>
   obtain⟨p,O,rfl,_⟩:=m;cases n;cases d;rw[hb];exact kl _
  |l xs=>
   obtain⟨p,O,rfl,_⟩:=m;cases n;cases d;rw[hb];exact kl _
 ·have m:=Qy r J;have g:=Qy r hy;generalize kd σ x=N at h m;generalize kd σ y=E at h g;cases N with
  |o=>cases h
  |s a=>
   obtain⟨rfl,j⟩:=m;cases E with
   |o=>cases h
   |s c=>obtain⟨rfl,u⟩:=g;cases h;exact MJ n d j u
   |t C=>
    obtain⟨q,B,rfl,M,W⟩:=g;cases h;cases d;obtain⟨z,_,hq,_⟩:=L2.Inv.tuple I (Ah.of (K:=X.K) M);exact(SE j n hq k).1
   |l C=>
    obtain⟨q,B,rfl,M,W⟩:=g;cases h;cases d;obtain⟨z,_,pl,_⟩:=L2.Inv.list I (lf.of (K:=X.K) M);exact R8 j n pl.isList k
  |t xs=>
   obtain⟨p,O,rfl,h1,U⟩:=m;cases n;cases E with
   |o=>cases h
   |s c=>
    obtain⟨rfl,u⟩:=g;cases h;obtain⟨z,_,Q,_⟩:=L2.Inv.tuple I (Ah.of (K:=X.K) h1);exact(SE u d Q k).2.1
   |t C=>obtain⟨q,B,rfl,_⟩:=g;cases d;exact .of_refs (λe=>i (by rw[e])) L
   |l C=>obtain⟨q,B,rfl,_⟩:=g;cases d;exact .of_refs (λe=>i (by rw[e])) L
  |l xs=>
   obtain⟨p,O,rfl,h1,U⟩:=m;cases n;cases E with
   |o=>cases h
   |s c=>
    obtain⟨rfl,u⟩:=g;cases h;obtain⟨z,_,pl,_⟩:=L2.Inv.list I (lf.of (K:=X.K) h1);exact y2 u d pl.isList k
   |t C=>obtain⟨q,B,rfl,_⟩:=g;cases d;exact .of_refs (λe=>i (by rw[e])) L
   |l C=>obtain⟨q,B,rfl,_⟩:=g;cases d;exact .of_refs (λe=>i (by rw[e])) L
theorem VE(I:Inv X pins st H s)(r:Rel T μ H σ):∀ (n:Nat) (A:Fa) (x y:D) (v w:V) (c d:Value) (b:Bool),A.units+n+1<cLine->Rep T μ H x v->Rep T μ H y w->Ed v c->Ed w d->ij σ n x y=some b->zd A s c d b
 |0,A,x,y,v,w,c,d,b,m,i,hy,j,a,h=>gO I r (by omega) (λ_ _ _ _ _ _ _ _ _ _ _ z=>by cases z) (λ_ _ _ _ _ _ z=>by cases z) i hy j a h
 |n+1,A,x,y,v,w,c,d,b,m,i,hy,j,a,h=>gO I r (by omega) (λx y v w c d b e f g k l=>VE I r n A.in1 x y v w c d b (by show A.units+1+n+1<cLine;omega) e f g k l) (λx y v b e f g=>OR r n x y v b e f g) i hy j a h
theorem jS{A:Fa}(I:Inv X pins st H s)(r:Rel T μ H σ)(n:Nat)(m:A.units+n+1<cLine){x y:D}{v w:V}{c d:Value}{b:Bool}(e:Rep T μ H x v)(hy:Rep T μ H y w)(f:Ed v c)(a:Ed w d)(h:ij σ n x y=some b):wN A s c d b:=by
 cases n with
 |zero=>exact DJ I r (by omega) (λ_ _ _ _ _ _ _ _ _ _ _ z=>by cases z) e hy f a h
 |succ n=>exact DJ I r (by omega) (λx y v w c d b g i j k l=>VE I r n A.in1 x y v w c d b (by show A.units+1+n+1<cLine;omega) g i j k l) e hy f a h
end
section
variable{T:Tb}{X:Cx}{pins:List (Addr × Bc)}{st:St}{μ:List Addr}{H:Hp}{s:aa}{σ:qb}
def oEq(x y:D):M D:=λσ=>match ij σ 8 x y with
 |some b=>.ok (.bl b) σ
 |none=>.bad
def Jh(x y:D):M D:=λσ=>match ij σ 8 x y with
 |some b=>.ok (.bl (!b)) σ
 |none=>.bad
theorem wm(g:X.A.units+9<cLine):Bi X (Wb .Eq) (rD T oEq):=by
 intro pins s st H v u j i Q I f d h;obtain⟨E,μ,σ,x,y,r,c,hy,a⟩:=h;unfold oEq at a;cases e:ij σ 8 x y with
 |none=>rw[e]at a;exact a.elim
 |some b=>
  rw[e]at a;have:=(jS I r 8 (by omega) c hy f d e).1 X.prog X.w X.xe (EP X pins st Q) ⟨.bl b,H,I,rfl,Mb.here a r (by rw[Rep])⟩;exact this
theorem qq(g:X.A.units+9<cLine):Bi X (Wb .NotEq) (rD T Jh):=by
 intro pins s st H v u j i Q I f d h;obtain⟨E,μ,σ,x,y,r,c,hy,a⟩:=h;unfold Jh at a;cases e:ij σ 8 x y with
 |none=>rw[e]at a;exact a.elim
 |some b=>
  rw[e]at a;have:=(jS I r 8 (by omega) c hy f d e).2 X.prog X.w X.xe (EP X pins st Q) ⟨.bl (!b),H,I,rfl,Mb.here a r (by rw[Rep])⟩;exact this
noncomputable def Dz(x y:D):M D:=λσ=>match y with
 | .Vb=>(match x with
  | .Vb=>.ok (.bl true) σ
  |_=>.ok (.bl false) σ)
 |_=>.bad
theorem yb2{x:D}{v:V}(h:Rep T μ H x v):decide (v=.Vb)=(match x with | .Vb=>true|_=>false):=by
 cases x with
 |Vb=>rw[Rep]at h;subst h;rfl
 |tup ds=>rw[Rep]at h;obtain⟨p,_,rfl,_⟩:=h;simp
 |Qg ds=>rw[Rep]at h;obtain⟨p,rfl,_⟩:=h;simp
 |ref ds=>rw[Rep]at h;obtain⟨p,rfl,_⟩:=h;simp
 |lst ds=>rw[Rep]at h;obtain⟨p,_,rfl,_⟩:=h;simp
 |Ma a ds=>rw[Rep]at h;obtain⟨p,_,rfl,_⟩:=h;simp
 |obj c a ds=>rw[Rep]at h;obtain⟨p,_,_,rfl,_⟩:=h;simp
 |Jt c=>rw[Rep]at h;obtain⟨p,_,rfl,_⟩:=h;simp
 |gt ds=>rw[Rep]at h;obtain⟨p,rfl,_⟩:=h;simp
 |_=>rw[Rep]at h;subst h;simp
theorem nK:gm T (λx y H Q=>y=.Vb/\Q (.bl (decide (x=.Vb))) H) Dz:=by
 intro E μ H σ x y v u Q r p q h;cases y with
 |Vb=>
  refine⟨by rw[Rep]at q;exact q,?_⟩;rw[yb2 p];cases x<;>exact Mb.here h r (by rw[Rep])
 |_=>exact h.elim
theorem V4{ds:List D}{vs:List V}{k:Int}{d:D}(r:Ta T μ H ds vs)(h:yl ds k=some d):∃ v,yl vs k=some v/\Rep T μ H d v:=by
 unfold yl at h ⊢;rw[<-r.length];cases e:dt ds.length k with
 |none=>rw[e]at h;cases h
 |some j=>rw[e]at h;exact r.get h
theorem UB:∀ (ns:List Int),Ta T μ H (ns.map D.int) (ns.map V.int)
 |[]=>Ta.nil
 |n::ns=>Ta.cons (by rw[Rep]) (UB ns)
def Yj(σ:qb):D->Option (List D)
 | .tup xs=>some xs
 | .Qg ns=>some (ns.map D.int)
 | .ref n=>Ih σ n
 | .lst xs=>some xs
 | .gt ss=>some (ss.map D.str)
 |_=>none
def Va(x i:D):M D:=λσ=>match i with
 | .int k=>(match Yj σ x with
  |some xs=>(match yl xs k with
   |some d=>.ok d σ
   |none=>.bad)
  |none=>.bad)
 |_=>.bad
theorem mI:∀ (ss:List Str),Ta T μ H (ss.map D.str) (ss.map V.str)
 |[]=>Ta.nil
 |n::ns=>Ta.cons (by rw[Rep]) (mI ns)
theorem iz(r:Rel T μ H σ){x:D}{v:V}{xs:List D}(h:Rep T μ H x v)(e:Yj σ x=some xs):∃ p vs,v=.ref p/\Ta T μ H xs vs/\(lf T.K H p vs\/Ah T.K H p vs):=by
 cases x with
 |tup ds=>cases e;rw[Rep]at h;obtain⟨p,vs,rfl,h1,b⟩:=h;exact⟨p,vs,rfl,b,.inr (Ah.of h1)⟩
 |Qg ns=>cases e;rw[Rep]at h;obtain⟨p,rfl,h1⟩:=h;exact⟨p,_,rfl,UB ns,.inl h1.seq⟩
 |ref n=>obtain⟨a,vs,rfl,_,h1,b⟩:=r.lst h e;exact⟨a,vs,rfl,b,.inl (lf.of h1)⟩
 |lst ds=>cases e;rw[Rep]at h;obtain⟨p,vs,rfl,_,h1,b⟩:=h;exact⟨p,vs,rfl,b,.inl (lf.of h1)⟩
 |gt ss=>cases e;rw[Rep]at h;obtain⟨p,rfl,h1⟩:=h;exact⟨p,_,rfl,mI ss,.inr (.inr h1)⟩
 |_=>cases e
theorem w1(g:T.K=X.K):gm T (λx y H Q=>qJ X.K x y H Q\/AI X.K x y H Q) Va:=by
 intro E μ H σ x y v u Q r p q h;cases y with
 |int k=>
  unfold Va at h;cases e:Yj σ x with
  |none=>simp only[e]at h;exact h.elim
  |some xs=>
   simp only[e]at h;cases c:yl xs k with
   |none=>rw[c]at h;exact h.elim
   |some d=>
    rw[c]at h;obtain⟨a,f,rfl,h1,b⟩:=iz r p e;obtain⟨w,h3,h4⟩:=V4 h1 c;rw[g]at b;rcases b with b|b
    ·exact .inl ⟨a,f,k,w,rfl,Qq q,b,h3,Mb.here h r h4⟩
    ·exact .inr ⟨a,f,k,w,rfl,Qq q,b,h3,Mb.here h r h4⟩
 |_=>exact h.elim
theorem v9:Ex X (λx y H Q=>qJ X.K x y H Q\/AI X.K x y H Q):=yaq.or yi7
def xz(d:D):Bool:=(sc d).isSome
def hA(x y:D):Bool:=match sc x,sc y with
 |some a,some b=>Sj a b
 |_,_=>false
def Cz(a:Bool)(x y:D):M D:=λσ=>match Yj σ y with
 |some xs=>if (xz x && xs.all xz)=true then .ok (.bl (if a then !(xs.any λz=>hA z x)else xs.any λz=>hA z x)) σ else .bad
 |none=>.bad
theorem UO:∀ {ds:List D} {vs:List V},Ta T μ H ds vs->ds.all xz=true->vs.all Bj=true
 |[],vs,h,_=>by rw[Ta]at h;subst h;rfl
 |d::ds,vs,h,e=>by
  rw[Ta]at h;obtain⟨v,r,rfl,h1,c⟩:=h;rw[qf,Da]at e ⊢;obtain⟨a,b⟩:=Fe.mp e.1;exact⟨by rw[lF h1 b];exact pN b,UO c e.2⟩
theorem RN{x:D}{a:V}(ex:sc x=some a):∀ {ds:List D} {vs:List V},Ta T μ H ds vs->ds.all xz=true->(ds.any λz=>hA z x)=vs.any λy=>Sj y a
 |[],vs,h,_=>by rw[Ta]at h;subst h;rfl
 |d::ds,vs,h,e=>by
  rw[Ta]at h;obtain⟨v,r,rfl,h1,f⟩:=h;rw[qf,Da]at e;obtain⟨c,b⟩:=Fe.mp e.1;rw[Je,Je,RN ex f e.2];have:hA d x=Sj v a:=by unfold hA;rw[b,ex,lF h1 b]
  rw[this]
theorem rN(j:T.K=X.K)(c:Bool):gm T (IS X.K c) (Cz c):=by
 intro E μ H σ x y v u Q r p q h;unfold Cz at h;cases e:Yj σ y with
 |none=>rw[e]at h;exact h.elim
 |some xs=>
  rw[e]at h;by_cases hc:(xz x && xs.all xz)=true
  ·simp only[hc,Ng]at h;rw[Da]at hc;obtain⟨a,d⟩:=Fe.mp hc.1;obtain⟨b,g,rfl,h1,f⟩:=iz r q e;rw[j]at f;refine⟨b,g,rfl,f,by rw[lF p d];exact pN d,UO h1 hc.2,?_⟩;have i:rG v g=xs.any λz=>hA z x:=by unfold rG;rw[RN d h1 hc.2,lF p d]
   rw[i];exact Mb.here h r (by rw[Rep])
  ·simp only[hc]at h;exact h.elim
def Zk(xs:List D):M D:=λσ=>match xs with
 |[x]=>(match Yj σ x with
  |some a=>.ok (.int a.length) σ
  |none=>.bad)
 |_=>.bad
theorem mr(f:T.K=X.K):Lr T (λxs H Q=>∃ p ys,xs=[.ref p]/\(lf X.K H p ys\/Ah X.K H p ys)/\Q (.int ys.length) H) Zk:=by
 intro E μ H σ xs d Q r p h
 match xs with
 |[]=>exact h.elim
 |[x]=>
  rw[Ta]at p;obtain⟨v,w,rfl,g,c⟩:=p;rw[Ta]at c;subst c;unfold Zk at h;cases e:Yj σ x with
  |none=>simp only[e]at h;exact h.elim
  |some ys=>
   simp only[e]at h;obtain⟨b,d,rfl,h1,a⟩:=iz r g e;rw[f]at a;exact⟨b,d,rfl,a,by rw[<-h1.length];exact Mb.here h r (by rw[Rep])⟩
 |_::_::_=>exact h.elim
def jq(xs:List D):M D:=λσ=>match xs with
 |[x]=>(match Yj σ x with
  |some a=>JC a σ
  |none=>.bad)
 |_=>.bad
theorem Oy(f:T.K=X.K):Lr T (λxs H Q=>∃ p ys,xs=[.ref p]/\(lf X.K H p ys\/Ah X.K H p ys)/\∀ l,H l=none->Q (.ref l) (upd H l (.lst ys))) jq:=by
 intro E μ H σ xs d Q r p h
 match xs with
 |[]=>exact h.elim
 |[x]=>
  rw[Ta]at p;obtain⟨v,w,rfl,i,c⟩:=p;rw[Ta]at c;subst c;unfold jq at h;cases e:Yj σ x with
  |none=>simp only[e]at h;exact h.elim
  |some ys=>
   simp only[e]at h;obtain⟨b,d,rfl,h1,a⟩:=iz r i e;rw[f]at a;exact⟨b,d,rfl,a,λl g=>JF h r h1 g⟩
 |_::_::_=>exact h.elim
noncomputable def IK:D->Bool
 | .gt _=>true
 |_=>false
def IF(xs:List D):M D:=λσ=>match xs with
 |[x]=>(match Yj σ x with
  |some a=>if IK x=true then .bad else .ok (.tup a) σ
  |none=>.bad)
 |_=>.bad
theorem n9(j:T.K=X.K):Lr T (λxs H Q=>∃ p ys,xs=[.ref p]/\((lf X.K H p ys/\∀ l,H l=none->Q (.ref l) (upd H l (.tup ys)))\/(Ah X.K H p ys/\Q (.ref p) H))) IF:=by
 intro E μ H σ xs d Q r p h
 match xs with
 |[]=>exact h.elim
 |[x]=>
  rw[Ta]at p;obtain⟨v,w,rfl,c,i⟩:=p;rw[Ta]at i;subst i;have h:Mb T E (Rep T) μ H (match Yj σ x with|some ys=>if IK x=true then .bad else .ok (.tup ys) σ|none=>.bad) Q:=h;cases e:Yj σ x with
  |none=>simp only[e]at h;exact h.elim
  |some ys=>
   simp only[e]at h;cases x with
   |gt ss=>exact h.elim
   |tup ds=>
    cases e;have k:=c;rw[Rep]at c;obtain⟨b,d,rfl,h1,g⟩:=c;exact⟨b,d,rfl,.inr ⟨Ah.of h1,Mb.here h r k⟩⟩
   |Qg ns=>
    cases e;rw[Rep]at c;obtain⟨b,rfl,h1⟩:=c;exact⟨b,_,rfl,.inl ⟨by rw[<-j];exact h1.seq,λl f=>NA h r (UB ns) f⟩⟩
   |ref n=>
    obtain⟨a,d,rfl,_,h1,g⟩:=r.lst c e;exact⟨a,d,rfl,.inl ⟨lf.of h1,λl f=>NA h r g f⟩⟩
   |lst ds=>
    cases e;rw[Rep]at c;obtain⟨b,d,rfl,_,h1,g⟩:=c;exact⟨b,d,rfl,.inl ⟨lf.of h1,λl f=>NA h r g f⟩⟩
   |_=>cases e
 |_::_::_=>exact h.elim
end
def jh(o:List D->M D)(fs:Ev->M (List D)):Ev->M D:=λa=>Wc (fs a) o
section
variable{T:Tb}{X:Cx}{x:Str}{p pos:re}{e:Ca}{es:List Ca}{fs:Ev->M (List D)}{id ty:String}{r:List V->Hp->VK->Prop}{o:List D->M D}
theorem gP(j:Lr T r o){c:St}{H:Hp}{Q:VK}(h:tF T X (jh o fs) c H Q):QK r (tL T X fs) c H Q:=by
 obtain⟨p,q,s,f,i,g⟩:=h;exact⟨p,q,s,f,i,g.bind λe b a n d _ t m k l=>j _ a d b e n Q m k l⟩
theorem gn(hc:Fo X (.builtin id) r)(g:Lr T r o)(hg:Gl X x)(hm:X.mg x=none)(i:bootBuiltins x=some (.builtin id))(d:FA T X (e::es) fs)(hn:x ≠ "__name__":=by decide)(b:(x == ("__debug__" : Str))=false:=by decide)
  (f:pa (e::es) X.env=(false,Ib e X.env)::pa es X.env:=by rfl) (c:(nc pos (pa es X.env)).any (·.1)=false:=by rfl):FE T X (.Call (.Name x p) (e::es) [] pos) (jh o fs):=
 λa s j H Q I h=>aF hc hg hm i d hn b f c a s j H Q I (gP g h)
theorem Du(hc:Fo X (.type ty) r)(g:Lr T r o)(hg:Gl X x)(hm:X.mg x=none)(i:bootBuiltins x=some (.type ty))(d:FA T X (e::es) fs)(hn:x ≠ "__name__":=by decide)(b:(x == ("__debug__" : Str))=false:=by decide)
  (f:pa (e::es) X.env=(false,Ib e X.env)::pa es X.env:=by rfl) (c:(nc pos (pa es X.env)).any (·.1)=false:=by rfl):FE T X (.Call (.Name x p) (e::es) [] pos) (jh o fs):=
 λa s j H Q I h=>BP hc hg hm i d hn b f c a s j H Q I (gP g h)
end
def Fg(σ:qb):D->Option (List D)
 | .ref n=>Ih σ n
 | .lst xs=>some xs
 |_=>none
theorem Rel.ls{T:Tb}{μ:List Addr}{H:Hp}{σ:qb}(r:Rel T μ H σ){x:D}{v:V}{xs:List D}(h:Rep T μ H x v)(e:Fg σ x=some xs):∃ a vs,v=.ref a/\H a=some (.lst vs)/\Ta T μ H xs vs:=by
 cases x with
 |ref n=>obtain⟨a,vs,h1,_,b,h3⟩:=r.lst h e;exact⟨a,vs,h1,b,h3⟩
 |lst c=>cases e;rw[Rep]at h;obtain⟨a,vs,h1,_,b,h3⟩:=h;exact⟨a,vs,h1,b,h3⟩
 |_=>cases e
def Jw(o:D->List D->M D)(m:M (List D))(x:D):M D:=λa=>match Fg a x with
 |some _=>Wc m (o x) a
 |none=>.bad
def Fy(o:D->List D->M D)(f:Ev->M D)(fs:Ev->M (List D)):Ev->M D:=λa=>Wc (f a) (Jw o (fs a))
def wD(T:Tb)(r:V->List V->Hp->VK->Prop)(o:D->List D->M D):Prop:=∀ (E:XK) a H c x xs v b Q,Rel T a H c->Rep T a H x v->Ta T a H xs b->Mb T E (Rep T) a H (o x xs c) Q->r v b H Q
def Jn(x:D)(xs:List D):M D:=λb=>match x,xs with
 | .ref n,[y]=>(match Ih b n with
  |some a=>if a.length<Wi then .ok .Vb (b.set n (.lst (a++[y])))else .bad
  |none=>.bad)
 |_,_=>.bad
section
variable{T:Tb}{X:Cx}{o e:Ca}{es:List Ca}{f:Ev->M D}{fs:Ev->M (List D)}{name:Str}{apos cpos:re}{id:String}{r:V->List V->Hp->VK->Prop}{g:D->List D->M D}
theorem CA(N:xo "list")(slot:Slot "list" name id)(p:Js (.builtin id)=pure (.type "method_descriptor"))(hm:Gv X id r)(L:wD T r g)(G:FE T X o f)(F:FA T X (e::es) fs)
  (c:Ud o name X.env (Ib o X.env)=Ib o X.env:=by rfl)
  (i:((nc cpos (pa (e::es) X.env)).all (λx=>!x.1) && (Wg cpos (Re [] X.env)).all (λx=>x.1.isSome)
   && decide ((e::es).length+([]:List gk).length+(if ([]:List gk).isEmpty then 0 else 1)<30))=true:=by rfl)
  (d:(apos.endLine == cpos.line)=true:=by rfl) (n:pa (e::es) X.env=(false,Ib e X.env)::pa es X.env:=by rfl) (b:(nc cpos (pa es X.env)).any (·.1)=false:=by rfl) :
  FE T X (.Call (.Attribute o name apos) (e::es) [] cpos) (Fy g f fs):=by
 intro j s R H Q I h;refine QW N slot p hm G F c i d n b j s R H Q I ?_;obtain⟨V,A,W,w,K,J⟩:=h;refine⟨V,A,W,w,K,J.bind λx l q v Y _ D z y k=>?_⟩;unfold Jw at k;cases m:Fg l x with
 |none=>rw[m]at k;exact k.elim
 |some xs=>
  rw[m]at k;obtain⟨a,S,rfl,h1,Z⟩:=z.ls y m;refine⟨.inl ⟨rfl,S,lf.of h1⟩,q,A,l,w.mono D,z,k.bind λC u t U B _ E P M O=>?_⟩;exact L _ t B u x C (.ref a) U Q P (Rep.mono E _ _ y) M O
theorem hD:wD T WI Jn:=by
 intro E i H k x xs v b Q r p q h;cases x with
 |ref n=>
  match xs with
  |[]=>exact h.elim
  |[y]=>
   rw[Ta]at q;obtain⟨w,z,rfl,j,e⟩:=q;rw[Ta]at e;subst e;unfold Jn at h;cases c:Ih k n with
   |none=>simp only[c]at h;exact h.elim
   |some g=>
    simp only[c]at h;by_cases hc:g.length<Wi
    ·rw[ia hc]at h;obtain⟨a,b,rfl,hn,h1,d⟩:=r.lst p c;have f:=r.write (o:=.lst (b++[w])) (ob:=.lst (g++[y])) hn ⟨_,Og,by
      have ex:Ext i H i (upd H a (.lst (b++[w]))):=Ww (Ha hn) h1 (λ_ z=>by cases z) (λ_ _ z=>by cases z);exact Ta.append (Ta.mono ex _ _ d) (Ta.cons (Rep.mono ex _ _ j) Ta.nil)⟩
     exact⟨a,b,w,rfl,rfl,h1,by rw[<-d.length];exact MV hc,h _ _ _ f.1 f.2 (by rw[Rep])⟩
    ·rw[qa hc]at h;exact h.elim
  |_::_::_=>exact h.elim
 |_=>exact h.elim
end
inductive BT where
 |int|bool|str|tuple|list|dict
noncomputable def BT.nm:BT->String
 | .int=>"int" | .bool=>"bool" | .str=>"str" | .tuple=>"tuple" | .list=>"list" | .dict=>"dict"
noncomputable def MF(σ:qb)(c:BT):D->Option Bool
 | .Vb=>some false
 | .bl _=>some (match c with | .int=>true | .bool=>true|_=>false)
 | .int _=>some (match c with | .int=>true|_=>false)
 | .str _=>some (match c with | .str=>true|_=>false)
 | .tup _=>some (match c with | .tuple=>true|_=>false)
 | .Qg _=>none
 | .lst _=>some (match c with | .list=>true|_=>false)
 | .Ma _ _=>some (match c with | .dict=>true|_=>false)
 | .obj _ _ _=>none
 | .Jt _=>none
 | .gt _=>none
 | .ref n=>match σ[n]? with
  |some (.lst _)=>some (match c with | .list=>true|_=>false)
  |some (.Ma _)=>some (match c with | .dict=>true|_=>false)
  |_=>none
def Wp(c:BT)(x:D):M D:=λa=>match MF a c x with
 |some b=>.ok (.bl b) a
 |none=>.bad
section
variable{T:Tb}{X:Cx}
def yO(K:W.Frag)(H:Hp)(x:V)(t:Value):Prop:=vl K H x t\/∃ a b,x=.ref a/\Rd H a (.dK b)/\t=.type "dict"
def A9(K:W.Frag)(c:String):List V->Hp->VK->Prop:=λxs H Q=>∃ x t b,xs=[x,.ty c]/\yO K H x t/\W.kitOne K t (.type c)=some b/\Q (.bl b) H
theorem T2(c:String):Fo X (.builtin "isinstance") (A9 X.K c):=by
 intro g s n H xs v Q I r h;obtain⟨x,t,b,rfl,ty,e,q⟩:=h;obtain⟨u,u2,rfl,i,f⟩:=xI r;cases f;rcases ty with ty|⟨a,d,rfl,rd,rfl⟩
 ·exact bS I i ty e λk=>⟨.bl b,H,I.tok _,rfl,q⟩
 ·cases (show u=jb a from i);obtain⟨_,_,y,_,p⟩:=(show qj X.prog X.w H s.heap a (.dK d)from rd.ok I.dc)
  obtain⟨o,m,l,h1,j,_⟩:=p;exact W.kia_one W.kitx_dict I.mj ⟨o,h1,j.1⟩ e (λz=>nomatch z) λk=>⟨.bl b,H,I.tok _,rfl,q⟩
theorem XX{μ:List Addr}{H:Hp}{σ:qb}{x:D}{v:V}{c:BT}{b:Bool}(r:Rel T μ H σ)(p:Rep T μ H x v)(h:MF σ c x=some b):∃ t,yO X.K H v t/\W.kitOne X.K t (.type c.nm)=some b:=by
 cases x with
 |Vb=>rw[Rep]at p;subst p;refine⟨_,.inl (.Vb),?_⟩;cases c<;>cases h<;>rfl
 |bl i=>rw[Rep]at p;subst p;refine⟨_,.inl (.bl i),?_⟩;cases c<;>cases h<;>rfl
 |int i=>rw[Rep]at p;subst p;refine⟨_,.inl (.int i),?_⟩;cases c<;>cases h<;>rfl
 |str i=>rw[Rep]at p;subst p;refine⟨_,.inl (.str i),?_⟩;cases c<;>cases h<;>rfl
 |tup ds=>rw[Rep]at p;obtain⟨q,d,rfl,h1,_⟩:=p;refine⟨_,.inl (.tup h1),?_⟩;cases c<;>cases h<;>rfl
 |Qg ns=>cases h
 |lst ds=>rw[Rep]at p;obtain⟨q,d,rfl,_,h1,_⟩:=p;refine⟨_,.inl (.lst h1),?_⟩;cases c<;>cases h<;>rfl
 |Ma j ds=>rw[Rep]at p;obtain⟨q,d,rfl,_,h1,_⟩:=p;refine⟨_,.inr ⟨q,_,rfl,h1,rfl⟩,?_⟩;cases c<;>cases h<;>rfl
 |obj f j ds=>cases h
 |Jt f=>cases h
 |gt ss=>cases h
 |ref n=>
  unfold MF at h;dsimp only at h;cases e:σ[n]? with
  |none=>rw[e]at h;cases h
  |some o=>
   rw[e]at h;obtain⟨a,rfl,_,g⟩:=r.at p e;cases o with
   |lst xs=>obtain⟨d,h3,_⟩:=g;refine⟨_,.inl (.lst h3),?_⟩;cases c<;>cases h<;>rfl
   |Ma xs=>obtain⟨d,h3,_⟩:=g;refine⟨_,.inl (.dK h3),?_⟩;cases c<;>cases h<;>rfl
   |ins f fs=>cases h
   |ub xs=>cases h
   |rl _=>cases h
theorem Gw(c:BT){a:Str}{e:Ca}{f:Ev->M D}{p i pos:re}(A:FE T X e f)(hg:Gl X "isinstance")(hm:X.mg "isinstance" = none)(l:Gl X a)(m:X.mg a=none)(q:bootBuiltins a=some (.type c.nm))(n:a ≠ "__name__":=by decide)(k:(a == ("__debug__" : Str))=false:=by decide)
  (u:pa [e,.Name a i] X.env=(false,Ib e X.env)::pa [.Name a i] X.env:=by rfl) (o:(nc pos (pa [.Name a i] X.env)).any (·.1)=false:=by rfl) :
  FE T X (.Call (.Name "isinstance" p) [e,.Name a i] [] pos) (Yb (Wp c) f):=by
 intro d s F H Q I h;refine aF (T2 c.nm) hg hm iH (Lv A (Lv (ycv l m q (v:=.ty c.nm) rfl n k) zy) u) (by decide) (by decide) u o d s F H Q I ?_;obtain⟨G,K,L,z,C,B⟩:=h;refine⟨G,K,L,z,C,B.bind λx r J v N _ O w E g=>?_⟩;unfold Wp at g;cases j:MF r c x with
 |none=>rw[j]at g;exact g.elim
 |some b=>
  rw[j]at g;obtain⟨t,h1,y⟩:=XX (X:=X) w E j;exact⟨v,t,b,rfl,h1,y,Mb.here g w (by rw[Rep])⟩
end
noncomputable def Uf:Ev->M Fl:=λa=>ret (.nx a)
noncomputable def pE(h:Ev->M Fl):Fl->M Fl
 | .nx a=>h a
 | .rt d=>ret (.rt d)
 | .bk a=>ret (.bk a)
 | .ct a=>ret (.ct a)
 | .xc a x=>ret (.xc a x)
def zb(g h:Ev->M Fl):Ev->M Fl:=λa=>Wc (g a) (pE h)
noncomputable def jK:D->M Fl:=λd=>ret (.rt d)
def pd(f:Ev->M D):Ev->M Fl:=λa=>xs a (f a) jK
noncomputable def wL(ρ:Ev):D->M Fl:=λ_=>ret (.nx ρ)
def qk(f:Ev->M D):Ev->M Fl:=λa=>xs a (f a) (wL a)
noncomputable def mD(i:Nat)(ρ:Ev):D->M Fl:=λd=>ret (.nx (ρ.set i (some d)))
def Af(i:Nat)(f:Ev->M D):Ev->M Fl:=λa=>xs a (f a) (mD i a)
noncomputable def Yf(t:Ev->M Bool)(a b:Ev->M Fl):Ev->M Fl:=λc=>xs c (t c) (pk (a c) (b c))
section
variable{T:Tb}{X:Cx}{st':Stmt}{ug:List Stmt}{g h:Ev->M Fl}{e:Ca}{f:Ev->M D}{pos:re}
theorem fg:Hn T X [] Uf:=by
 intro a s b H D I f;obtain⟨h,i,j,c,e,d⟩:=f;exact w6 a s b H D I (Mb.here (g:=Ao.nx b) d e c)
theorem YV{μ:List Addr}{H:Hp}{σ:qb}{a:Fl}{gl:Ao}{D:Ends}{N:St->Hp->Prop}(r:Rel T μ H σ)(q:Xl T μ H a gl)(k:Fl->M Fl)
  (hn:∀ ρ,a=.nx ρ->∀ b,gl=.nx b->wh T μ H ρ b->N b H) (e:(∀ ρ,a≠.nx ρ)->Mb T EN (Xl T) μ H (.ok a σ) (Rk X D)):Rk X { D with nx:=N } gl H:=by
 cases a with
 |nx ρ=>cases gl with
  |nx b=>exact hn ρ rfl b rfl q
  |_=>exact q.elim
 |rt d=>cases gl with
  |rt v=>have z:=Mb.here (g:=Ao.rt v) (e λ_ z=>by cases z) r q;exact z
  |_=>exact q.elim
 |bk ρ=>cases gl with
  |bk v=>have z:=Mb.here (g:=Ao.bk v) (e λ_ z=>by cases z) r q;exact z
  |_=>exact q.elim
 |ct ρ=>cases gl with
  |ct v=>have z:=Mb.here (g:=Ao.ct v) (e λ_ z=>by cases z) r q;exact z
  |_=>exact q.elim
 |xc ρ x=>cases gl with
  |xc v c fd=>have z:=Mb.here (g:=Ao.xc v c fd) (e λ_ z=>by cases z) r q;exact z
  |_=>exact q.elim
theorem Lb(h1:FS T X st' g)(k:Hn T X ug h):Hn T X (st'::ug) (zb g h):=by
 intro b s r H D I p;refine zvi h1 k b s r H D I ?_;obtain⟨u,v,w,l,o,n⟩:=p;refine⟨u,v,w,l,o,n.bind λj d c gl x _ y f q e=>?_⟩;refine YV (X:=X) f q (λ_=>bad) (λa i t z m=>?_) (λhn=>?_)
 ·subst i;exact⟨c,a,d,m,f,e⟩
 ·cases j with
  |nx a=>exact(hn a rfl).elim
  |_=>exact e
theorem qi(h1:FS T X st' g):Hn T X [st'] g:=AX h1
theorem VX(c:FE T X e f):FS T X (.Return (some e) pos) (pd f):=by
 intro a s n H D I j;refine kX c a s n H D I ?_;obtain⟨o,q,r,b,i,h⟩:=j;exact⟨o,q,r,b,i,h.xs b λd t p v u _ w m l k=>Mb.here (g:=Ao.rt v) k m l⟩
theorem Wk(i:FE T X e f)(l:yi e none pos.line X.env=pure false:=by rfl):FS T X (.Expr e pos) (qk f):=by
 intro a s c H D I m;refine V2 i l a s c H D I ?_;obtain⟨p,r,t,b,k,j⟩:=m;exact⟨p,r,t,b,k,j.xs b λd u q v w _ h o x n=>Mb.here (g:=Ao.nx c) n o (b.mono h)⟩
theorem RP{i:Nat}{x:Str}{a:re}(hN:X.N.Nodup)(m:X.N[i]?=some x)(r:Loc X.env.scope x)(k:FE T X e f)(p:yi e (some (.Name x a)) pos.line X.env=pure false:=by rfl)(l:X.fn x=true\/X.env.scope.names.lookup x=some .local:=by first|exact .inl rfl|exact .inr rfl|assumption) :
  FS T X (.Assign [.Name x a] e pos) (Af i f):=by
 intro b s h H D I q;refine ylr hN m r k p l b s h H D I ?_;obtain⟨y,A,B,c,o,n⟩:=q;exact⟨y,A,B,c,o,n.xs c λd C z v E _ j w u t=>Mb.here (g:=Ao.nx (h.set i (some v))) t w ((c.mono j).set i u)⟩
theorem ig{c:Ca}{a b:List Stmt}{n:Ev->M Bool}{k l:Ev->M Fl}(hc:FT T X c n)(o:Hn T X a k)(hb:Hn T X b l):FS T X (.If c a b pos) (Yf n k l):=by
 intro e s u H D I r;refine lV hc o hb e s u H D I ?_;obtain⟨w,i,x,h,q,p⟩:=r;refine⟨w,i,x,h,q,p.xs h λc g f v y _ j m t d=>?_⟩;cases t;cases c with
 |true=>unfold pk at d;rw[ia rfl]at d ⊢;exact⟨f,i,g,h.mono j,m,d⟩
 |false=>unfold pk at d;rw[qa Xa]at d ⊢;exact⟨f,i,g,h.mono j,m,d⟩
noncomputable def gD(T:Tb)(tg:D->Ev->Option Ev):TG:=λv e H Q=>∃ b f c d a,wh T b H c e/\Rel T b H f/\Rep T b H d v/\tg d c=some a/\∀ st',wh T b H a st'->Q st' H
noncomputable def B9(T:Tb)(tg:List D->Ev->Option Ev):Ky:=λf e H Q=>∃ b g d c a,wh T b H d e/\Rel T b H g/\Ta T b H c f/\tg c d=some a/\∀ st',wh T b H a st'->Q st' H
abbrev FG(T:Tb)(X:Cx)(t:Ca)(tg:D->Ev->Option Ev):Prop:=PG X t (gD T tg)
abbrev GE(T:Tb)(X:Cx)(a:List Ca)(tg:List D->Ev->Option Ev):Prop:=yC X a (B9 T tg)
noncomputable def Ld(i:Nat):D->Ev->Option Ev:=λd a=>some (a.set i (some d))
noncomputable def Co:List D->Ev->Option Ev
 |[],a=>some a
 |_::_,_=>none
noncomputable def Wh(t:D->Ev->Option Ev)(u:List D->Ev->Option Ev):List D->Ev->Option Ev
 |[],_=>none
 |d::ds,b=>(t d b).bind λa=>u ds a
noncomputable def Gn(n:Nat)(t:List D->Ev->Option Ev):D->Ev->Option Ev
 | .tup ds,a=>if ds.length=n then t ds a else none
 |_,_=>none
theorem OH{i:Nat}{x:Str}(hN:X.N.Nodup)(e:X.N[i]?=some x)(f:Loc X.env.scope x)(c:X.fn x=true\/X.env.scope.names.lookup x=some .local:=by first|exact .inl rfl|exact .inr rfl|assumption):FG T X (.Name x pos) (Ld i):=by
 intro a s g H v u Q I r h;obtain⟨l,n,m,d,j,b,k,hd,ht,hq⟩:=h;cases ht;exact yc1 hN e f c a s g H v u Q I r (hq _ (b.set i hd))
theorem Aw:GE T X [] Co:=by
 intro a s e H j f Q I r h;obtain⟨k,m,l,b,g,c,i,hd,ht,hq⟩:=h;cases b with
 |nil=>cases ht;rw[Ta]at hd;subst hd;exact yc2 a s e H [] f Q I r ⟨rfl,hq _ c⟩
 |cons d b=>cases ht
theorem Ap{c:List Ca}{t:D->Ev->Option Ev}{u:List D->Ev->Option Ev}(h1:FG T X e t)(q:GE T X c u)
  (y:(bf (e::c) X.env).map (·.2)=yj e X.env::(bf c X.env).map (·.2):=by rfl):GE T X (e::c) (Wh t u):=by
 intro a s z H E B Q I r h;obtain⟨m,n,C,f,k,x,l,hd,ht,hq⟩:=h;cases f with
 |nil=>cases ht
 |cons d f=>
  rw[Ta]at hd;obtain⟨v,w,rfl,i,j⟩:=hd;obtain⟨b,o,p⟩:=ti.mp ht;refine hW h1 q y a s z H (v::w) B Q I r ⟨v,w,rfl,m,n,C,d,b,x,l,i,o,λA g=>?_⟩;exact⟨m,n,b,f,k,g,l,j,p,hq⟩
theorem sw{b:List Ca}{k:Nat}{t:List D->Ev->Option Ev}{n:Nat}(hc:X.calm=true)(h:GE T X b t)
  (hn:(bf b X.env).length=n:=by rfl) (e:(bf b X.env).findIdx? (·.1)=none:=by rfl):FG T X (.Tuple b k pos) (Gn n t):=by
 intro a s o H v u Q I r m;obtain⟨w,y,x,d,f,i,l,hd,ht,hq⟩:=m;cases d with
 |tup ds=>
  have j:=hd;rw[Rep]at hd;obtain⟨p,q,rfl,h1,g⟩:=hd;unfold Gn at ht;dsimp only at ht;by_cases c:ds.length=n
  ·rw[ia c]at ht;exact uW hc h hn e a s o H (.ref p) u Q I r ⟨p,q,rfl,Ah.of h1,by rw[<-g.length];exact c,w,y,x,ds,f,i,l,g,ht,hq⟩
  ·rw[qa c]at ht;cases ht
 |_=>cases ht
def RA(x i d:D):M Unit:=λa=>match x,i with
 | .ref n,.int k=>(match Ih a n with
  |some xs=>(match dt xs.length k with
   |some j=>.ok () (a.set n (.lst (xs.set j d)))
   |none=>.bad)
  |none=>.bad)
 |_,_=>.bad
def ly(ρ:Ev)(d x i:D):M Fl:=λb=>match RA x i d b with
 | .ok _ a=>.ok (.nx ρ) a
 |_=>.bad
def sI(ρ:Ev)(fi:Ev->M D)(d x:D):M Fl:=xs ρ (fi ρ) (ly ρ d x)
def uK(ρ:Ev)(a fi:Ev->M D)(d:D):M Fl:=xs ρ (a ρ) (sI ρ fi d)
def EA(f b fi:Ev->M D):Ev->M Fl:=λa=>xs a (f a) (uK a b fi)
theorem jG{o i:Ca}{L fi:Ev->M D}{b:re}(R:FE T X e f)(U:FE T X o L)(S:FE T X i fi)
  (Q:∀ v,yj (.Subscript o i b) X.env v=(do
   let q <-ve [v] (Ib o X.env);let w <-ve [v,q] (Ib i X.env)
   Dh b
   ve [v,q,w] (Yv q w v)
   release [v,q,w] []):=by intro _;rfl)
  (Y:iu [.Subscript o i b] e pos.line X.env=pure false:=by rfl) (Z:ju [.Subscript o i b] e X.env=pure none:=by rfl)
  (h1:(bf [.Subscript o i b] X.env).map (·.2)=[yj (.Subscript o i b) X.env]:=by rfl):FS T X (.Assign [.Subscript o i b] e pos) (EA f L fi):=by
 intro l s P H D I hq;refine QR R (WQ U S zwc Q) Y Z h1 l s P H D I ?_;obtain⟨μ,E,σ,g,W,V⟩:=hq;refine⟨μ,E,σ,g,W,V.xs g λd F B v H1 _ h r1 q1 p1=>?_⟩;refine⟨B,E,F,g.mono h,r1,p1.xs (g.mono h) λx G C vo H2 _ p r2 q2 p2=>?_⟩;refine⟨C,E,G,(g.mono h).mono p,r2,p2.xs ((g.mono h).mono p) λk J m vi K _ r O q3 c=>?_⟩;have hd:=Rep.mono r _ _ (Rep.mono p _ _ q1);have hx:=Rep.mono r _ _ q2;unfold ly RA at c;cases x with
 |ref n=>
  cases k with
  |int k=>
   dsimp only at c;cases u:Ih J n with
   |none=>rw[u]at c;exact c.elim
   |some xs=>
    rw[u]at c;dsimp only at c;cases t:dt xs.length k with
    |none=>rw[t]at c;exact c.elim
    |some j=>
     rw[t]at c;obtain⟨a,y,rfl,hn,h1,N⟩:=O.lst hx u;have A:=O.write (o:=.lst (y.set j v)) (ob:=.lst (xs.set j d)) hn ⟨_,Og,by
      have ex:Ext m K m (upd K a (.lst (y.set j v))):=Ww (Ha hn) h1 (λ_ z=>by cases z) (λ_ _ z=>by cases z);exact Ta.set (Rep.mono ex _ _ hd) j (Ta.mono ex _ _ N)⟩
     exact⟨a,y,k,j,rfl,Qq q3,h1,by rw[<-N.length];exact t,c _ (.nx P) _ A.1 A.2 (((g.mono h).mono p).mono r |>.mono A.1)⟩
  |_=>exact c.elim
 |_=>exact c.elim
end
inductive Src where
 |seq (ds:List D)
 |Sq (n:Nat)
def Src.nx:Src->Nat->qb->Option (Option D)
 | .seq ds,i,_=>some ds[i]?
 | .Sq n,i,σ=>(Ih σ n).map λxs=>xs[i]?
def Yx(T:Tb)(b:List Addr)(f:Hp)(src:Src)(J:It):Prop:=∀ a H e i,Ext b f a H->Rel T a H e->match src.nx i e with
 |none=>True
 |some none=>J.stop i H
 |some (some d)=>J.go i H/\∀ x c,J.rB i H x c->c=H/\Rep T a H d x
def tI(T:Tb)(X:Cx)(f:Ev->M Src):TI:=λb H R=>∃ a c d,wh T a H c b/\Rel T a H d/\Mb T (XE X b) (Yx T) a H (f c d) R
abbrev FI(T:Tb)(X:Cx)(tg a:Ca)(f:Ev->M Src):Prop:=PI X tg a (tI T X f)
noncomputable def zz(n:Nat):List D:=(List.range n).map λ(i:Nat)=>D.int (i:Int)
def gA(d:D):M Src:=λa=>match d with
 | .tup ds=>.ok (.seq ds) a
 | .lst ds=>.ok (.seq ds) a
 | .Qg ns=>.ok (.seq (ns.map D.int)) a
 | .ref n=>(match Ih a n with
  |some _=>.ok (.Sq n) a
  |none=>.bad)
 |_=>.bad
def ri(f:Ev->M D):Ev->M Src:=λa=>Wc (f a) gA
def zG(j:Int):Bool:=hide (decide (-(2 ^ 62)<=j) && decide (j<2 ^ 62))
def Vz(d:D):M Src:=λa=>match d with
 | .int j=>if zG j=true then .ok (.seq (zz j.toNat)) a else .bad
 |_=>.bad
def Rx(f:Ev->M D):Ev->M Src:=λa=>Wc (f a) Vz
section
variable{T:Tb}{X:Cx}{tg iter:Ca}{f:Ev->M D}
def V0(K:W.Frag)(c:TE):TI:=λd H R=>c d H λx b=>∃ a,x=.ref a/\(((∃ xs,lf K b a xs)/\R (vJ K a) b)\/((∃ xs,Ah K b a xs)/\R (YI K a) b))
theorem fW{l:Ca}{i:TE}(j:PE X l i):PI X tg l (V0 X.K i):=by
 intro f s r H R I h;refine be (j f s r H _ I h) λv s1 ⟨x,H1,c,m,g⟩=>?_;obtain⟨a,e,g⟩:=g;subst e;cases m;rcases g with⟨⟨xs,hq⟩,q⟩|⟨⟨xs,hq⟩,q⟩
 ·obtain⟨d,n,p,k⟩:=c.list hq;refine ip p.isList ?_;refine⟨s1.heap.objs.size,[s1.heap.objs.size],_,_,H1,rfl,c.kept (t':=s1.toks) λb o e=>ka _ e,B0 a _,⟨_,gb _ rfl,rfl,rfl⟩,λb hb=>?_,q⟩;have e:b=s1.heap.objs.size:=by simpa using hb
  subst e;exact c.Qp (ya _) (c.dc.fresh (ya _))
 ·obtain⟨d,n,p,k⟩:=c.tuple hq;refine qA (show s1.heap.IsTuple a d.toArray from p) ?_;refine⟨s1.heap.objs.size,[s1.heap.objs.size],_,_,H1,rfl,c.kept (t':=s1.toks) λb o e=>ka _ e,xZ a _,⟨_,gb _ rfl,rfl,rfl⟩,λb hb=>?_,q⟩;have e:b=s1.heap.objs.size:=by simpa using hb
  subst e;exact c.Qp (ya _) (c.dc.fresh (ya _))
theorem YR{g:List Addr}{k:Hp}{a:Addr}{ds:List D}{K:W.Frag}(h:∀ b c,Ext g k b c->∃ vs,lf K c a vs/\Ta T b c ds vs):Yx T g k (.seq ds) (vJ K a):=by
 intro b c l i ex n;obtain⟨vs,h3,h4⟩:=h b c ex;show match some ds[i]? with|none=>True|some none=>_|some (some d)=>_
 cases e:ds[i]? with
 |none=>exact⟨vs,h3,by rw[<-h4.length];exact jc.mp e⟩
 |some d=>
  obtain⟨v,f,j⟩:=h4.get e;refine⟨⟨vs,v,h3,f⟩,λx m y=>?_⟩;obtain⟨rfl,y⟩:=y;have:=y vs h3;rw[f]at this;cases this;exact⟨rfl,j⟩
theorem ye9{g:List Addr}{k:Hp}{a:Addr}{ds:List D}{K:W.Frag}(h:∀ b c,Ext g k b c->∃ vs,Ah K c a vs/\Ta T b c ds vs):Yx T g k (.seq ds) (YI K a):=by
 intro b c l i ex n;obtain⟨vs,h3,h4⟩:=h b c ex;show match some ds[i]? with|none=>True|some none=>_|some (some d)=>_
 cases e:ds[i]? with
 |none=>exact⟨vs,h3,by rw[<-h4.length];exact jc.mp e⟩
 |some d=>
  obtain⟨v,f,j⟩:=h4.get e;refine⟨⟨vs,v,h3,f⟩,λx m y=>?_⟩;obtain⟨rfl,y⟩:=y;have:=y vs h3;rw[f]at this;cases this;exact⟨rfl,j⟩
theorem rn(L:T.K=X.K)(h:FE T X iter f):FI T X tg iter (ri f):=by
 intro r s Q H R I O;refine fW h r s Q H R I ?_;obtain⟨S,U,W,J,N,M⟩:=O;refine⟨S,U,W,J,N,M.bind λd B A v D _ e1 t j c=>?_⟩;cases d with
 |tup ds=>
  rw[Rep]at j;obtain⟨p,m,rfl,h1,l⟩:=j;exact⟨p,rfl,.inr ⟨⟨m,Ah.of h1⟩,Mb.here (R:=Yx T) c t (ye9 λb g ex=>⟨m,Ah.of (ex.tup _ _ h1),Ta.mono ex _ _ l⟩)⟩⟩
 |lst ds=>
  rw[Rep]at j;obtain⟨p,m,rfl,hn,h1,l⟩:=j;exact⟨p,rfl,.inl ⟨⟨m,lf.of h1⟩,Mb.here (R:=Yx T) c t (YR λb g ex=>⟨m,lf.of (ex.Qi _ _ h1 hn).1,Ta.mono ex _ _ l⟩)⟩⟩
 |Qg ns=>
  rw[Rep]at j;obtain⟨p,rfl,h1⟩:=j;have o:∀ b g,Ext A D b g->lf X.K g p (ns.map V.int):=λb g ex=>by
   have l:Rep T b g (.Qg ns) (.ref p):=Rep.mono ex _ _ (by rw[Rep];exact⟨p,rfl,h1⟩);rw[Rep]at l;obtain⟨p',E,h3⟩:=l;cases E;rw[<-L];exact h3.seq
  exact⟨p,rfl,.inl ⟨⟨_,o _ _ (Ext.refl _ _)⟩,Mb.here (R:=Yx T) c t (YR λb g ex=>⟨_,o b g ex,UB ns⟩)⟩⟩
 |ref n=>
  unfold gA at c;dsimp only at c;cases k:Ih B n with
  |none=>rw[k]at c;exact c.elim
  |some xs=>
   rw[k]at c;obtain⟨a,m,rfl,_,h1,l⟩:=t.lst j k;refine⟨a,rfl,.inl ⟨⟨m,lf.of h1⟩,Mb.here (R:=Yx T) c t λb g u i ex P=>?_⟩⟩;show match (Ih u n).map (λxs=>xs[i]?)with|none=>True|some none=>_|some (some d)=>_
   cases G:Ih u n with
   |none=>trivial
   |some C=>
    obtain⟨Z,z,F,_,h3,h4⟩:=P.lst (Rep.mono ex _ _ j) G;cases F;show match some (C[i]?)with|none=>True|some none=>_|some (some d)=>_
    cases e:C[i]? with
    |none=>exact⟨z,lf.of h3,by rw[<-h4.length];exact jc.mp e⟩
    |some d=>
     obtain⟨v,q,w⟩:=h4.get e;refine⟨⟨z,v,lf.of h3,q⟩,λx Y y=>?_⟩;obtain⟨rfl,y⟩:=y;have:=y z (lf.of h3);rw[q]at this;cases this;exact⟨rfl,w⟩
 |_=>exact c.elim
theorem UY{n i:Nat}(h:i<n):(zz n)[i]?=some (.int i):=by simp[zz,h]
theorem hV(n:Nat):(zz n).length=n:=by simp[zz]
theorem NS{a:Ca}{p pos:re}(g:Gl X "range")(hm:X.mg "range" = none)(m:FE T X a f)(c:pa [a] X.env=[(false,Ib a X.env)]:=by rfl):FI T X tg (.Call (.Name "range" p) [a] [] pos) (Rx f):=by
 intro e s t H R I q;refine J9 g hm (Lv m zy c) c e s t H R I ?_;obtain⟨u,A,B,l,o,n⟩:=q;refine⟨u,A,B,l,o,n.bind λd C w v F _ J r k b=>?_⟩;cases d with
 |int j=>
  rw[Rep]at k;subst k;unfold Vz at b;dsimp only at b;by_cases hj:zG j=true
  ·rw[ia hj]at b;simp only[zG,yr,Da,ke]at hj;refine⟨j,rfl,hj.1,hj.2,Mb.here (R:=Yx T) b r λz G D i ex K=>?_⟩;show match some (zz j.toNat)[i]? with|none=>True|some none=>_|some (some d)=>_
   by_cases h:i<j.toNat
   ·rw[UY h];refine⟨h,λx E y=>?_⟩;obtain⟨rfl,rfl⟩:=y;exact⟨rfl,by rw[Rep,Int.zero_add]⟩
   ·rw[jc.mpr (by rw[hV];omega)];exact JL.mp h
  ·rw[qa hj]at b;exact b.elim
 |_=>exact b.elim
end
noncomputable def dw(k:Ev->M Fl):Fl->M Fl
 | .nx a=>k a
 | .ct a=>k a
 | .bk a=>ret (.nx a)
 | .rt d=>ret (.rt d)
 | .xc b x=>ret (.xc b x)
def Lk(tg:D->Ev->Option Ev)(a:Ev->M Fl):List D->Ev->M Fl
 |[],b=>ret (.nx b)
 |d::ds,b=>match tg d b with
  |none=>bad
  |some c=>Wc (a c) (dw (Lk tg a ds))
def Pw(tg:D->Ev->Option Ev)(a:Ev->M Fl)(n:Nat):Nat->Nat->Ev->M Fl
 |0,_,_=>bad
 |k+1,i,e=>λc=>match Ih c n with
  |none=>.bad
  |some xs=>match xs[i]? with
   |none=>.ok (.nx e) c
   |some d=>match tg d e with
    |none=>.bad
    |some b=>Wc (a b) (dw (Pw tg a n k (i+1))) c
def GG(tg:D->Ev->Option Ev)(a:Ev->M Fl)(ρ:Ev):Src->M Fl
 | .seq ds=>Lk tg a ds ρ
 | .Sq n=>Pw tg a n 1001 0 ρ
def aq(src:Ev->M Src)(tg:D->Ev->Option Ev)(a:Ev->M Fl):Ev->M Fl:=λb=>xs b (src b) (GG tg a b)
section
variable{T:Tb}{X:Cx}
theorem MK{e:List Addr}{H1:Hp}{h:qb}{l:Fl}{gl:Ao}{D:Ends}{k:Ev->M Fl}{N:St->Hp->Prop}(r1:Rel T e H1 h)(f:Xl T e H1 l gl)(j:Mb T EN (Xl T) e H1 (dw k l h) (Rk X D))
  (hN:∀ b a,wh T e H1 b a->Mb T EN (Xl T) e H1 (k b h) (Rk X D)->N a H1):Rk X { D with nx:=N,ct:=N,bk:=D.nx } gl H1:=by
 cases l with
 |nx b=>cases gl with
  |nx a=>exact hN b a f j
  |_=>exact f.elim
 |ct b=>cases gl with
  |ct a=>exact hN b a f j
  |_=>exact f.elim
 |bk b=>cases gl with
  |bk a=>have z:Rk X D (Ao.nx a) H1:=Mb.here (g:=Ao.nx a) (d:=Fl.nx b) j r1 f;exact z
  |_=>exact f.elim
 |rt m=>cases gl with
  |rt v2=>have z:Rk X D (Ao.rt v2) H1:=Mb.here (g:=Ao.rt v2) (d:=Fl.rt m) j r1 f;exact z
  |_=>exact f.elim
 |xc b x=>cases gl with
  |xc a c i=>have z:Rk X D (Ao.xc a c i) H1:=Mb.here (g:=Ao.xc a c i) (d:=Fl.xc b x) j r1 f;exact z
  |_=>exact f.elim
variable{tgt iter:Ca}{body:List Stmt}{src:Ev->M Src}{t:D->Ev->Option Ev}{g:Ev->M Fl}{pos:re}
theorem qt(V:vq (model X.prog X.w) X.A X.env X.xe)(hc:X.calm=true)(hi:FI T X tgt iter src)(hg:FG T X tgt t)(hb:Hn T X body g)
  (hs:∀ x,Ug iter X.env x=pure x:=by intro _;rfl):FS T X (.For tgt iter body [] pos) (aq src t g):=by
 intro Q s st H D I hq;refine SQ V hc hi hg hb hs Q s st H D I ?_;obtain⟨e,l,r,S,hr,V⟩:=hq;refine⟨e,l,r,S,hr,V.xs S λsrc C k J O _ e1 r1 q1 p1=>?_⟩;cases src with
 |seq ds=>
  have K:Mb T EN (Xl T) k O (Lk t g ds l C) (Rk X D):=p1;refine⟨λi m p b=>m=ds.length - i/\∃ e l r,Ext k O e b/\wh T e b l p/\Rel T e b r/\Mb T EN (Xl T) e b (Lk t g (ds.drop i) l r) (Rk X D),⟨ds.length,by simp,k,l,C,Ext.refl _ _,S.mono e1,r1,by simpa using K⟩,?_⟩;rintro i m p b ⟨rfl,f,v,j,ex,u,B,c⟩;have so:=q1 f b j i ex B;have a:match (some ds[i]?:Option (Option L4.D))with|none=>True|some none=>J.stop i b|some (some d)=>J.go i b/\∀ x P,J.rB i b x P->P=b/\Rep T f b d x:=so
  cases E:ds[i]? with
  |none=>
   rw[E]at a;rw[Hr (jc.mp E)]at c;exact .inl ⟨a,Mb.here (g:=Ao.nx p) c B u⟩
  |some d=>
   rw[E]at a;obtain⟨hl,ed⟩:=ra.mp E;have hd:ds.drop i=d::ds.drop (i+1):=by rw[<-ed];exact(ci hl)
   rw[hd]at c;unfold Lk at c;refine .inr ⟨a.1,λq o=>∃ e l r,Ext k O e o/\wh T e o l q/\Rel T e o r/\Mb T EN (Xl T) e o (Lk t g (ds.drop (i+1)) l r) (Rk X D),λq o h=>⟨ds.length - (i+1),by omega,rfl,h⟩,λx o y=>?_⟩;obtain⟨rfl,W⟩:=a.2 x o y;cases ht:t d v with
   |none=>rw[ht]at c;exact c.elim
   |some z=>
    rw[ht]at c;exact⟨f,j,v,d,z,u,B,W,ht,λq F=>⟨f,z,j,F,B,c.bind λfl N L gl H4 _ U R Z p4=>MK R Z p4 λM a0 G Y=>⟨L,M,N,ex.trans U,G,R,Y⟩⟩⟩
 |Sq n=>
  have K:Mb T EN (Xl T) k O (Pw t g n 1001 0 l C) (Rk X D):=p1;refine⟨λi m p b=>∃ e l r,Ext k O e b/\wh T e b l p/\Rel T e b r/\Mb T EN (Xl T) e b (Pw t g n m i l r) (Rk X D),⟨1001,k,l,C,Ext.refl _ _,S.mono e1,r1,K⟩,?_⟩;rintro i m p b ⟨f,v,j,ex,u,B,c⟩;cases m with
  |zero=>exact c.elim
  |succ m=>
   unfold Pw at c;have so:=q1 f b j i ex B;have a:match ((Ih j n).map λxs=>xs[i]?:Option (Option L4.D))with|none=>True|some none=>J.stop i b|some (some d)=>J.go i b/\∀ x P,J.rB i b x P->P=b/\Rep T f b d x:=so
   cases el:Ih j n with
   |none=>simp only[el]at c;exact c.elim
   |some xs=>
    simp only[el]at c a;cases E:xs[i]? with
    |none=>
     simp only[E,ah]at c a;exact .inl ⟨a,Mb.here (g:=Ao.nx p) c B u⟩
    |some d=>
     simp only[E,ah]at c a;refine .inr ⟨a.1,λq o=>∃ e l r,Ext k O e o/\wh T e o l q/\Rel T e o r/\Mb T EN (Xl T) e o (Pw t g n m (i+1) l r) (Rk X D),λq o h=>⟨m,Rc _,h⟩,λx o y=>?_⟩;obtain⟨rfl,W⟩:=a.2 x o y;cases ht:t d v with
     |none=>simp only[ht]at c;exact c.elim
     |some z=>
      simp only[ht]at c;exact⟨f,j,v,d,z,u,B,W,ht,λq F=>⟨f,z,j,F,B,c.bind λfl N L gl H4 _ U R Z p4=>MK R Z p4 λM a0 G Y=>⟨L,M,N,ex.trans U,G,R,Y⟩⟩⟩
end
mutual
def cl:D->Bool
 | .tup xs=>lg xs
 | .lst xs=>lg xs
 | .Ma _ xs=>lg xs
 | .obj _ _ xs=>lg xs
 | .ref _=>false
 | .Vb=>true
 | .bl _=>true
 | .int _=>true
 | .str _=>true
 | .Qg _=>true
 | .Jt _=>true
 | .gt _=>true
def lg:List D->Bool
 |[]=>true
 |d::ds=>cl d && lg ds
end
noncomputable def xq(f:D->Option D):List D->Option (List D)
 |[]=>some []
 |d::ds=>match f d,xq f ds with
  |some x,some xs=>some (x::xs)
  |_,_=>none
def fz(k:Nat)(σ:qb):Nat->D->Option D
 |0,d=>if cl d=true then some d else match d with
  | .ref n=>if n<k then some (.ref n)else none
  |_=>none
 |m+1,d=>if cl d=true then some d else match d with
  | .ref n=>if n<k then some (.ref n)else match σ[n]? with
   |some (.lst xs)=>(xq (fz k σ m) xs).map .lst
   |some (.Ma a)=>(xq (fz k σ m) (a.map (·.2))).map (.Ma (a.map (·.1)))
   |some (.ins c fs)=>(xq (fz k σ m) (fs.map (·.2))).map (.obj c (fs.map (·.1)))
   |some (.ub _)=>none
   |some (.rl _)=>none
   |none=>none
  | .tup xs=>(xq (fz k σ m) xs).map .tup
  | .lst xs=>(xq (fz k σ m) xs).map .lst
  | .Ma b xs=>(xq (fz k σ m) xs).map (.Ma b)
  | .obj c ns xs=>(xq (fz k σ m) xs).map (.obj c ns)
  |_=>none
open Classical in
def Eg(σ:qb):Out D->Out D
 | .ok d a=>if a.take σ.length=σ then (match fz σ.length a 6 d with
  |some b=>.ok b σ
  |none=>.bad)else .bad
 | .ex x a=>if a.take σ.length=σ then .ex x σ else .bad
 | .bad=>.bad
def Hb(f:M D):M D:=λa=>Eg a (f a)
section
variable{T:Tb}{μ μ':List Addr}{H H':Hp}{σ σ':qb}
mutual
theorem QJ(e:∃ r,μ'=μ++r):∀ (d:D) (v:V),cl d=true->Rep T μ' H d v->Rep T μ H d v
 | .Vb,v,_,h=>by simpa [Rep]using h
 | .bl b,v,_,h=>by simpa [Rep]using h
 | .int i,v,_,h=>by simpa [Rep]using h
 | .str x,v,_,h=>by simpa [Rep]using h
 | .tup ds,v,c,h=>by
  rw[Rep]at h ⊢;obtain⟨p,g,h1,f,h3⟩:=h;exact⟨p,g,h1,f,lD e ds g (by simpa [cl]using c) h3⟩
 | .Qg ns,v,_,h=>by rw[Rep]at h ⊢;exact h
 | .ref n,v,c,h=>by simp[cl]at c
 | .lst ds,v,c,h=>by
  rw[Rep]at h ⊢;obtain⟨a,g,h1,f,h3,h4⟩:=h;exact⟨a,g,h1,λz=>f (by obtain⟨r,rfl⟩:=e;exact Qa _ z),h3,lD e ds g (by simpa [cl]using c) h4⟩
 | .Ma w ds,v,c,h=>by
  rw[Rep]at h ⊢;obtain⟨a,g,h1,f,h3,j,h4⟩:=h;exact⟨a,g,h1,λz=>f (by obtain⟨r,rfl⟩:=e;exact Qa _ z),h3,j,lD e ds _ (by simpa [cl]using c) h4⟩
 | .obj k ns ds,v,c,h=>by
  rw[Rep]at h ⊢;obtain⟨a,o,g,h1,f,h3,j,h4⟩:=h;exact⟨a,o,g,h1,λz=>f (by obtain⟨r,rfl⟩:=e;exact Qa _ z),h3,j,lD e ds _ (by simpa [cl]using c) h4⟩
 | .Jt k,v,_,h=>by
  rw[Rep]at h ⊢;obtain⟨a,m,h1,f,h3,h4⟩:=h;exact⟨a,m,h1,λz=>f (by obtain⟨r,rfl⟩:=e;exact Qa _ z),h3,λn q=>let ⟨l,s,t,u⟩:=h4 n q;⟨l,s,λz=>t (by obtain⟨r,rfl⟩:=e;exact Qa _ z),u⟩⟩
 | .gt ss,v,_,h=>by rw[Rep]at h ⊢;exact h
theorem lD(e:∃ r,μ'=μ++r):∀ (ds:List D) (vs:List V),lg ds=true->Ta T μ' H ds vs->Ta T μ H ds vs
 |[],vs,_,h=>by simpa [Ta]using h
 |d::ds,vs,c,h=>by
  rw[Ta]at h ⊢;obtain⟨v,r,h1,b,h3⟩:=h;have a:cl d=true/\lg ds=true:=by simpa [lg,Da]using c
  exact⟨v,r,h1,QJ e d v a.1 b,lD e ds r a.2 h3⟩
end
mutual
theorem Rep.down(e:∃ r,μ'=μ++r):∀ (d:D) (v0 v:V),Rep T μ H d v0->Rep T μ' H' d v->Rep T μ H' d v
 | .Vb,v0,v,_,h=>by simpa [Rep]using h
 | .bl b,v0,v,_,h=>by simpa [Rep]using h
 | .int i,v0,v,_,h=>by simpa [Rep]using h
 | .str x,v0,v,_,h=>by simpa [Rep]using h
 | .tup ds,v0,v,c,h=>by
  rw[Rep]at h c ⊢;obtain⟨p,j,h1,f,h3⟩:=h;obtain⟨C,g,_,_,o⟩:=c;exact⟨p,j,h1,f,Ta.down e ds g j o h3⟩
 | .Qg ns,v0,v,_,h=>by rw[Rep]at h ⊢;exact h
 | .ref n,v0,v,c,h=>by
  rw[Rep]at h c ⊢;obtain⟨a,h1,f⟩:=h;obtain⟨b,_,c2⟩:=c;refine⟨a,h1,?_⟩;obtain⟨r,rfl⟩:=e;rw[xb (ra.mp c2).1]at f;exact f
 | .lst ds,v0,v,c,h=>by
  rw[Rep]at h c ⊢;obtain⟨a,j,h1,f,h3,h4⟩:=h;obtain⟨_,g,_,_,_,l⟩:=c;exact⟨a,j,h1,λz=>f (by obtain⟨r,rfl⟩:=e;exact Qa _ z),h3,Ta.down e ds g j l h4⟩
 | .Ma B ds,v0,v,c,h=>by
  rw[Rep]at h c ⊢;obtain⟨a,j,h1,f,h3,m,h4⟩:=h;obtain⟨_,g,_,_,_,_,l⟩:=c;exact⟨a,j,h1,λz=>f (by obtain⟨r,rfl⟩:=e;exact Qa _ z),h3,m,Ta.down e ds _ _ l h4⟩
 | .obj k ns ds,v0,v,c,h=>by
  rw[Rep]at h c ⊢;obtain⟨a,u,j,h1,f,h3,m,h4⟩:=h;obtain⟨_,_,g,_,_,_,_,l⟩:=c;exact⟨a,u,j,h1,λz=>f (by obtain⟨r,rfl⟩:=e;exact Qa _ z),h3,m,Ta.down e ds _ _ l h4⟩
 | .Jt k,v0,v,_,h=>by
  rw[Rep]at h ⊢;obtain⟨a,t,h1,f,h3,h4⟩:=h;exact⟨a,t,h1,λz=>f (by obtain⟨r,rfl⟩:=e;exact Qa _ z),h3,λn q=>let ⟨s,w,y,A⟩:=h4 n q;⟨s,w,λz=>y (by obtain⟨r,rfl⟩:=e;exact Qa _ z),A⟩⟩
 | .gt ss,v0,v,_,h=>by rw[Rep]at h ⊢;exact h
theorem Ta.down(e:∃ r,μ'=μ++r):∀ (ds:List D) (a vs:List V),Ta T μ H ds a->Ta T μ' H' ds vs->Ta T μ H' ds vs
 |[],a,vs,_,h=>by simpa [Ta]using h
 |d::ds,a,vs,c,h=>by
  rw[Ta]at h c ⊢;obtain⟨v,r,h1,f,h3⟩:=h;obtain⟨i,g,_,c2,b⟩:=c;exact⟨v,r,h1,Rep.down e d i v c2 f,Ta.down e ds g r b h3⟩
end
theorem KF{f:Type}(e:∃ r,μ'=μ++r):∀ {xs:List (f × D)} {ys zs:List (f × V)},Paired (λ(p:f × D) (q:f × V)=>p.1=q.1/\Rep T μ H p.2 q.2) xs zs->Paired (λ(p:f × D) (q:f × V)=>p.1=q.1/\Rep T μ' H' p.2 q.2) xs ys->Paired (λ(p:f × D) (q:f × V)=>p.1=q.1/\Rep T μ H' p.2 q.2) xs ys
 |_,_,_,.nil,.nil=>.nil
 |_,_,_,.cons a b,.cons c d=>.cons ⟨c.1,Rep.down e _ _ _ a.2 c.2⟩ (KF e b d)
theorem Xp.down(e:∃ r,μ'=μ++r){a:Addr}:∀ {o:Ob},Xp T μ H a o->Xp T μ' H' a o->Xp T μ H' a o
 | .lst ds,⟨_,_,c⟩,⟨b,h,r⟩=>⟨b,h,Ta.down e _ _ _ c r⟩
 | .Ma f,⟨_,_,c⟩,⟨b,h,r⟩=>⟨b,h,KF e c r⟩
 | .ins c fs,⟨_,_,_,d⟩,⟨g,b,h,r⟩=>⟨g,b,h,KF e d r⟩
 | .ub f,⟨_,_,_,d⟩,⟨i,b,h,r⟩=>⟨i,b,h,KF e d r⟩
 | .rl j,_,⟨b,h,r⟩=>⟨b,h,r⟩
theorem Rel.down(c:Rel T μ H σ)(r:Rel T μ' H' σ')(e:Ext μ H μ' H')(ht:σ'.take σ.length=σ):Rel T μ H' σ/\Ext μ H μ H':=by
 refine⟨⟨c.len,c.nd,λn o h=>?_,r.tb.sub λb hb=>by obtain⟨z,rfl⟩:=e.pre;exact Qa _ hb⟩,⟨⟨[],by simp⟩,e.tup,e.Hb,λp o h n=>⟨(e.keep p o h n).1,n⟩⟩⟩;obtain⟨a,h1,g⟩:=c.obs n o h;have f:σ'[n]?=some o:=by
  have i:=(ra.mp h).1;rw[<-ht,Cq i]at h;exact h
 obtain⟨b,h3,h4⟩:=r.obs n o f;have d:=e.get h1;rw[h3]at d;cases d;exact⟨a,h1,g.down e.pre h4⟩
theorem JK{c:Type}:∀ {xs:List (c × D)} {ys:List (c × V)},Paired (λ(p:c × D) (q:c × V)=>p.1=q.1/\Rep T μ H p.2 q.2) xs ys->ys.map (·.1)=xs.map (·.1)/\Ta T μ H (xs.map (·.2)) (ys.map (·.2))
 |_,_,.nil=>⟨rfl,Ta.nil⟩
 |_,_,.cons a b=>by
  obtain⟨h1,d⟩:=JK b;exact⟨by simp[h1,a.1],Ta.cons a.2 d⟩
theorem JQ{f:D->Option D}(e:∀ d d' v,f d=some d'->Rep T μ' H d v->Rep T μ H d' v):∀ (ds a:List D) (vs:List V),xq f ds=some a->Ta T μ' H ds vs->Ta T μ H a vs
 |[],a,vs,h,r=>by cases h;simpa [Ta]using r
 |d::ds,a,vs,h,r=>by
  unfold xq at h;cases b:f d with
  |none=>rw[b]at h;cases h
  |some x=>
   cases c:xq f ds with
   |none=>rw[b,c]at h;cases h
   |some xs=>
    rw[b,c]at h;cases h;rw[Ta]at r;obtain⟨v,w,rfl,g,h3⟩:=r;exact Ta.cons (e d x v b g) (JQ e ds xs w c h3)
theorem MN(e:∃ r,μ'=μ++r)(r:Rel T μ' H σ'):∀ (m:Nat) (d d':D) (v:V),fz μ.length σ' m d=some d'->Rep T μ' H d v->Rep T μ H d' v:=by
 have A:∀ n v,n<μ.length->Rep T μ' H (.ref n) v->Rep T μ H (.ref n) v:=λn v hn h=>by
  rw[Rep]at h ⊢;obtain⟨a,h1,g⟩:=h;obtain⟨q,rfl⟩:=e;rw[xb hn]at g;exact⟨a,h1,g⟩
 intro m;induction m with
 |zero=>
  intro d d' v h l;unfold fz at h;by_cases hc:cl d=true
  ·rw[ia hc]at h;cases h;exact QJ e _ _ hc l
  ·rw[qa hc]at h;cases d with
   |ref n=>
    dsimp only at h;by_cases hn:n<μ.length
    ·rw[ia hn]at h;cases h;exact A n v hn l
    ·rw[qa hn]at h;cases h
   |_=>cases h
 |succ m M=>
  intro d d' v h l;unfold fz at h;by_cases hc:cl d=true
  ·rw[ia hc]at h;cases h;exact QJ e _ _ hc l
  ·rw[qa hc]at h;have go:=JQ (T:=T) (μ:=μ) (μ':=μ') (H:=H) (f:=fz μ.length σ' m) (λd d' v a b=>M d d' v a b);cases d with
   |ref n=>
    dsimp only at h;by_cases hn:n<μ.length
    ·rw[ia hn]at h;cases h;exact A n v hn l
    ·rw[qa hn]at h;cases E:σ'[n]? with
     |none=>rw[E]at h;cases h
     |some o=>
      rw[E]at h;obtain⟨a,rfl,K,x⟩:=r.at l E;have out:a ∉ μ:=λz=>by
       obtain⟨i,J⟩:=xt z;obtain⟨q,rfl⟩:=e;have L:=(ra.mp J).1;have:=HF r.nd (i:=i) (j:=n) (by rw[xb L];exact J) K;omega
      cases o with
      |lst xs=>
       obtain⟨s,h1,g⟩:=Sb.mp h;subst g;obtain⟨k,h3,h4⟩:=x;rw[Rep];exact⟨a,k,rfl,out,h3,go xs s k h1 h4⟩
      |Ma I=>
       obtain⟨s,h1,g⟩:=Sb.mp h;subst g;obtain⟨k,h3,h4⟩:=x;obtain⟨F,G⟩:=JK h4;rw[Rep];exact⟨a,k,rfl,out,(.inl h3),F,go _ s _ h1 G⟩
      |ins c fs=>
       obtain⟨s,h1,g⟩:=Sb.mp h;subst g;obtain⟨B,k,h3,h4⟩:=x;obtain⟨F,G⟩:=JK h4;rw[Rep];exact⟨a,B,k,rfl,out,h3,F,go _ s _ h1 G⟩
      |ub I=>cases h
      |rl _=>cases h
   |tup xs=>
    obtain⟨s,h1,g⟩:=Sb.mp h;subst g;rw[Rep]at l ⊢;obtain⟨p,k,t,u,w⟩:=l;exact⟨p,k,t,u,go xs s k h1 w⟩
   |lst xs=>
    obtain⟨s,h1,g⟩:=Sb.mp h;subst g;rw[Rep]at l ⊢;obtain⟨p,k,t,y,u,w⟩:=l;exact⟨p,k,t,λz=>y (by obtain⟨r,rfl⟩:=e;exact Qa _ z),u,go xs s k h1 w⟩
   |Ma N xs=>
    obtain⟨s,h1,g⟩:=Sb.mp h;subst g;rw[Rep]at l ⊢;obtain⟨p,k,t,y,u,C,w⟩:=l;exact⟨p,k,t,λz=>y (by obtain⟨r,rfl⟩:=e;exact Qa _ z),u,C,go xs s _ h1 w⟩
   |obj c N xs=>
    obtain⟨s,h1,g⟩:=Sb.mp h;subst g;rw[Rep]at l ⊢;obtain⟨p,B,k,t,y,u,C,w⟩:=l;exact⟨p,B,k,t,λz=>y (by obtain⟨r,rfl⟩:=e;exact Qa _ z),u,C,go xs s _ h1 w⟩
   |_=>cases h
theorem Mb.Hb{E:XK}{f:M D}{Q:V->Hp->Prop}(r:Rel T μ H σ)(h:Mb T E (Rep T) μ H (Hb f σ) Q):Mb T E (Rep T) μ H (f σ) Q:=by
 unfold L4.Hb at h;cases e:f σ with
 |bad=>rw[e]at h;exact h
 |ex x a=>
  rw[e]at h;unfold Eg at h;dsimp only at h;by_cases ht:a.take σ.length=σ
  ·rw[ia ht]at h;intro l g b c;obtain⟨k,i⟩:=Rel.down r c b ht;exact h μ g i k
  ·rw[qa ht]at h;exact h.elim
 |ok d a=>
  rw[e]at h;unfold Eg at h;dsimp only at h;by_cases ht:a.take σ.length=σ
  ·rw[ia ht]at h;cases j:fz σ.length a 6 d with
   |none=>rw[j]at h;exact h.elim
   |some m=>
    rw[j]at h;intro l v g b c n;obtain⟨k,i⟩:=Rel.down r c b ht;exact h μ v g i k (MN b.pre c 6 d m v (by rw[r.len];exact j) n)
  ·rw[qa ht]at h;exact h.elim
end
def Mg(f:Ev->M D):Ev->M D:=λa=>Hb (f a)
theorem Jk{T:Tb}{X:Cx}{e:Ca}{f:Ev->M D}(h:FE T X e f):FE T X e (Mg f):=by
 intro a s i H Q I g;obtain⟨j,k,l,c,b,d⟩:=g;exact h a s i H Q I ⟨j,k,l,c,b,Mb.Hb b d⟩
end L4
namespace L4
open PySem PySem.Spec PyProof.Rows L2
def DK(h h':Heap):Prop:=∀ (a:Nat) o,h.objs[a]?=some o->∃ b:Bc,h'.objs[a]?=some b/\b.dict=o.dict
theorem DK.refl(h:Heap):DK h h:=λ_ o e=>⟨o,e,rfl⟩
theorem DK.trans{h1 d h3:Heap}(x:DK h1 d)(y:DK d h3):DK h1 h3:=λa o e=>by
 obtain⟨g,f,q⟩:=x a o e;obtain⟨c,b,h⟩:=y a g f;exact⟨c,b,h.trans q⟩
theorem DK.push(h:Heap)(o:Bc):DK h (h.push o):=λa u e=>by
 obtain⟨b,l⟩:=h;have e:b[a]?=some u:=e;have c:=(Zc.mp e).1;refine⟨u,?_,rfl⟩;show (b.push o)[a]?=some u;rw[Array.getElem?_push_lt c];exact(ai c).symm.trans e
theorem DK.update(h:Heap)(b:Addr){f:Bc->Bc}(d:∀ o,(f o).dict=o.dict):DK h (h.update b f):=λa u e=>by
 obtain⟨c,l⟩:=h;have e:c[a]?=some u:=e;show ∃ g:Bc,(c.modify b f)[a]?=some g/\_;rw[Array.getElem?_modify];by_cases hb:b=a
 ·rw[ia hb,e];exact⟨f u,rfl,d u⟩
 ·rw[qa hb];exact⟨u,e,rfl⟩
theorem DK.get{h h':Heap}(x:DK h h'){a:Addr}{o o':Bc}(e:h.get? a=some o)(b:h'.get? a=some o'):o'.dict=o.dict:=by
 obtain⟨u,c,d⟩:=x a o ((Vv _ _ _).1 e).1;have:=((Vv _ _ _).1 b).1;have z:some u=some o':=c.symm.trans this;cases z;exact d
structure KD{α:Type}(t:uo α):Prop where
 out:∀ (M:Ll) (Γ:PySem.Ctx) (Q:α->re->aa->Prop) (E:Value->re->aa->Prop) (p:re) (s:aa),Sem.wp M Γ t Q E p s->Sem.wp M Γ t (λa p' s'=>Q a p' s'/\DK s.heap s'.heap) (λe p' s'=>E e p' s'/\DK s.heap s'.heap) p s
namespace KD
variable{α β:Type}
theorem Pt(a:α):KD (Pure.pure a:uo α):=⟨λ_ _ _ _ _ s h=>⟨h,.refl _⟩⟩
theorem Ru(w:String):KD (PySem.unsupported w:uo α):=⟨λ_ _ _ _ _ _ h=>h⟩
theorem Wc{m:uo α}{f:α->uo β}(hm:KD m)(e:∀ a,KD (f a)):KD (m >>= f):=⟨λM b Q E p s h=>by
 rw[Wm]at h ⊢;refine bu M b m (λa c d z=>?_) (λ_ _ _ z=>z) p s (hm.out M b _ _ p s h);exact bu M b (f a) (λ_ _ _ q=>⟨q.1,z.2.trans q.2⟩) (λ_ _ _ q=>⟨q.1,z.2.trans q.2⟩) c d ((e a).out M b _ _ c d z.1)⟩
theorem jo{c:Prop}[Decidable c]{t u:uo α}(ht:KD t)(a:KD u):KD (if c then t else u):=by split<;>assumption
theorem ld(a:Addr):KD (PySem.load a):=⟨λ_ _ _ _ _ _ h=>by obtain⟨o,b,h⟩:=h;exact⟨o,b,h,.refl _⟩⟩
theorem upd(a:Addr){f:Bc->Bc}(b:∀ o,(f o).dict=o.dict):KD (PySem.update a f):=⟨λ_ _ _ _ _ _ h=>⟨h.1,h.2,.update _ _ b⟩⟩
theorem Np:KD PySem.stack:=⟨λM a Q E p s h=>by
 unfold PySem.stack at h ⊢;rw[Sem.wp_stack]at h ⊢;exact⟨h,.refl _⟩⟩
theorem Ou(o:Bc):KD (PySem.alloc o):=⟨λ_ _ _ _ _ _ h=>⟨h,.push _ _⟩⟩
theorem fld(v:Value)(i:Nat):KD (PySem.field v i):=⟨λ_ g Q E p s h=>by
 rw[Wv]at h ⊢;obtain⟨a,o,f,x,b,c,d,e,h⟩:=h;exact⟨a,o,f,x,b,c,d,e,h,.refl _⟩⟩
theorem set(v:Value)(i:Nat)(x:Value):KD (PySem.setField v i x):=⟨λ_ m Q E p s h=>by
 rw[jH]at h ⊢;obtain⟨a,o,k,e,f,g,j,h⟩:=h;exact⟨a,o,k,e,f,g,j,h,.update _ _ λo=>by obtain⟨c,d,b,l⟩:=o;cases b<;>rfl⟩⟩
end KD
theorem N8(env:Hg)(l:List Hg):KD (QL env l):=by unfold QL;(repeat' with_reducible first|assumption|exact KD.Pt _|exact KD.Ru _|exact KD.fld _ _|exact KD.set _ _ _|exact KD.ld _|exact KD.upd _ (λ_=>rfl)|exact KD.Np|exact KD.Ou _|apply KD.jo|apply KD.Wc|intro _|split)
theorem l6:KD underTheClaimsCaller:=by unfold underTheClaimsCaller;(repeat' with_reducible first|assumption|exact KD.Pt _|exact KD.Ru _|exact KD.fld _ _|exact KD.set _ _ _|exact KD.ld _|exact KD.upd _ (λ_=>rfl)|exact KD.Np|exact KD.Ou _|apply KD.jo|apply KD.Wc|intro _|split)
theorem N7(env:Hg)(i:Bool)(l:List Hg):KD (keptBack env i l):=by
 have:=l6;cases l<;>unfold keptBack<;>(repeat' with_reducible first|assumption|exact KD.Pt _|exact KD.Ru _|exact KD.fld _ _|exact KD.set _ _ _|exact KD.ld _|exact KD.upd _ (λ_=>rfl)|exact KD.Np|exact KD.Ou _|apply KD.jo|apply KD.Wc|intro _|split)
theorem vP:∀ l:List Hg,KD (readyFrames l)
 |[]=>KD.Pt _
 |env::l=>by
  have b:=vP l;have h1:=N8 env l;have a:=λi=>N7 env i l;unfold readyFrames
  (repeat' with_reducible first|assumption|exact KD.Pt _|exact KD.Ru _|exact KD.fld _ _|exact KD.set _ _ _|exact KD.ld _|exact KD.upd _ (λ_=>rfl)|exact KD.Np|exact KD.Ou _|apply KD.jo|apply KD.Wc|intro _|split)
  all_goals first|exact a _|skip
theorem KU(l:List Hg):KD (frameObject l):=by
 cases l with
 |nil=>exact KD.Pt _
 |cons env l=>
  have:=vP (env::l);unfold frameObject
  (repeat' with_reducible first|assumption|exact KD.Pt _|exact KD.Ru _|exact KD.fld _ _|exact KD.set _ _ _|exact KD.ld _|exact KD.upd _ (λ_=>rfl)|exact KD.Np|exact KD.Ou _|apply KD.jo|apply KD.Wc|intro _|split)
theorem X8:KD frameEnvs:=by unfold frameEnvs;(repeat' with_reducible first|assumption|exact KD.Pt _|exact KD.Ru _|exact KD.fld _ _|exact KD.set _ _ _|exact KD.ld _|exact KD.upd _ (λ_=>rfl)|exact KD.Np|exact KD.Ou _|apply KD.jo|apply KD.Wc|intro _|split)
theorem UV(env:Hg):KD (PySem.frameOf env):=by
 have h1:=X8;have a:=KU;unfold PySem.frameOf
 (repeat' with_reducible first|assumption|exact KD.Pt _|exact KD.Ru _|exact KD.fld _ _|exact KD.set _ _ _|exact KD.ld _|exact KD.upd _ (λ_=>rfl)|exact KD.Np|exact KD.Ou _|apply KD.jo|apply KD.Wc|intro _|split)
 all_goals first|exact a _|skip
theorem W3(f:Addr)(b:Bool):KD (entryPlaceOf f b):=by unfold entryPlaceOf;(repeat' with_reducible first|assumption|exact KD.Pt _|exact KD.Ru _|exact KD.fld _ _|exact KD.set _ _ _|exact KD.ld _|exact KD.upd _ (λ_=>rfl)|exact KD.Np|exact KD.Ou _|apply KD.jo|apply KD.Wc|intro _|split)
theorem LV(a b c d e:Value)(l:List Value):KD (wq a b c d e l):=by
 unfold wq newFields newObj newObjAsIs;dsimp only
 (repeat' with_reducible first|assumption|exact KD.Pt _|exact KD.Ru _|exact KD.fld _ _|exact KD.set _ _ _|exact KD.ld _|exact KD.upd _ (λ_=>rfl)|exact KD.Np|exact KD.Ou _|apply KD.jo|apply KD.Wc|intro _|split)
theorem OW(e:Value)(env:Hg):KD (Ig e env):=by
 have h1:=UV env;have a:=W3;have h3:=LV;unfold Ig
 (repeat' with_reducible first|assumption|exact KD.Pt _|exact KD.Ru _|exact KD.fld _ _|exact KD.set _ _ _|exact KD.ld _|exact KD.upd _ (λ_=>rfl)|exact KD.Np|exact KD.Ou _|apply KD.jo|apply KD.Wc|intro _|split)
 all_goals first|exact a _ _|exact h3 _ _ _ _ _ _|skip
theorem DU(e:Value)(f:Option Addr):KD (zi e f):=by unfold zi;(repeat' with_reducible first|assumption|exact KD.Pt _|exact KD.Ru _|exact KD.fld _ _|exact KD.set _ _ _|exact KD.ld _|exact KD.upd _ (λ_=>rfl)|exact KD.Np|exact KD.Ou _|apply KD.jo|apply KD.Wc|intro _|split)
theorem aS{e:Type}{M:Ll}{A:Fa}{t:uo e}{Q:e->aa->Prop}{E:Value->aa->Prop}{s:aa}(k:KD t)(h:wpAny M A t Q E s):wpAny M A t (λa d=>Q a d/\DK s.heap d.heap) E s:=
 λc p b=>bu M c t (λ_ _ _ z=>z) (λ_ _ _ z=>z.1) p s (k.out M c _ _ p s (h c p b))
section
variable{P:Aa}{w:Ia}{H H':Hp}{h h':Heap}{a:Addr}{o:HO}
theorem KQ(x:qj P w H h a o):∃ u,h.get? a=some u:=by
 cases o with
 |lst xs=>obtain⟨_,_,_,_,e⟩:=x;exact⟨_,e⟩
 |tup xs=>obtain⟨_,_,_,c,e,_⟩:=x;exact⟨_,e⟩
 |dK b=>obtain⟨_,_,_,_,o,_,_,e,_⟩:=x;exact⟨_,e⟩
 |dT b=>obtain⟨_,_,_,_,o,_,_,e,_⟩:=x;exact⟨_,e⟩
 |set S n=>obtain⟨o,_,_,_,e,_⟩:=x;exact⟨_,e⟩
 |ins C d fs=>obtain⟨_,_,_,e,_⟩:=x;exact⟨_,e⟩
 |own y=>obtain⟨_,e⟩:=x;exact⟨_,e⟩
 |xd fs=>obtain⟨_,⟨_,_,_,e,_⟩,_⟩:=x;exact⟨_,e⟩
 |oG lo g=>obtain⟨_,_,_,e⟩:=x;exact⟨_,e⟩
 |Hb c u=>obtain⟨e,_⟩:=x;exact⟨_,e⟩
 |Im i=>exact⟨_,x⟩
 |met f y=>exact⟨_,x⟩
 |ext j=>obtain⟨_,⟨_,e⟩,_⟩:=x;exact⟨_,e⟩
theorem yH(x:Ni P w H h)(k:∀ b o u,H b=some o->h.get? b=some u->h'.get? b=some u):Ni P w H h':=λb o e=>
 (x b o e).zk (λc v hc q=>by
  rcases hc with rfl|hc
  ·exact k _ _ _ e q
  ·exact k _ _ _ hc q) (λ_ q=>q) λ_ _ q=>q
end
section
variable{X:Cx}{pins:List (Addr × Bc)}{st:St}{H H':Hp}{s s':aa}{cls:Value}{h':Heap}{ea:Addr}{args:List Value}{M:Ll}{E:Value->aa->Prop}{Q:Unit->aa->Prop}
theorem BW{B:Heap}{l:List Hg}{a0:Value}{h:Heap}(x:NB B l ea cls a0 h):Tq B l ea cls a0 h:=⟨x.1,x.2.1,x.2.2.1,.inl ⟨.none,x.2.2.2.at⟩⟩
theorem Tq.there{B:Heap}{l:List Hg}{a0:Value}{h:Heap}(x:Tq B l ea cls a0 h):∃ ob,h.get? ea=some ob/\ob.cls=cls:=by
 obtain⟨_,_,_,⟨d,q⟩|⟨a,e,b,c,_⟩⟩:=x
 ·exact q.there
 ·exact⟨a,b,c⟩
theorem Tq.iJ{B:Heap}{l:List Hg}{a0:Value}{h:Heap}{o:Bc}(x:Tq B l ea cls a0 h)(b:h.get? ea=some o):∃ vs,o.data=.fields vs:=by
 obtain⟨_,_,_,⟨g,d,vs,T,i,k,c,a,hd,_⟩|⟨d,vs,e,j,f,_⟩⟩:=x
 ·cases c.symm.trans b;exact⟨vs,hd⟩
 ·cases e.symm.trans b;exact⟨vs,f⟩
theorem WB.next{a:Option Nat}{B h h' h0:Heap}{H':Hp}(x:WB a ea B h h0 H')(k:DK h h')(e:∃ o,h'.get? ea=some o):WB a ea B h' h0 H':=λn q=>by
 obtain⟨b,c,i,d,f,g⟩:=x n q;obtain⟨o,e⟩:=e;exact⟨b,c,o,e,(k.get d e).trans f,g⟩
theorem bJ{A:Fa}{B:Heap}{l:List Hg}{a0:Value}(x:Tq B l ea cls a0 s.heap)(g:∀ h1,Tq B l ea cls a0 h1->s.heap.UpToSlots h1->DK s.heap h1->Q () { s with heap:=h1 }):wpAny M A (zi (.ref ea) none) Q E s:=by
 obtain⟨c,d,f,⟨u,a⟩|a⟩:=x
 ·have k:wpAny M A (zi (.ref ea) none) (λ_ s'=>∃ h1,s'={ s with heap:=h1 }/\Tq B l ea cls a0 h1/\s.heap.UpToSlots h1) E s:=
   wpAny_setFlight_noneW c f a λh1 i j m p=>⟨h1,rfl,BW ⟨i,d,j,m⟩,λb o e n=>⟨o.slots,p b o e n⟩⟩
  exact bc (aS (DU _ _) k) (λ_ _ ⟨⟨h1,e,q,r⟩,t⟩=>by subst e;exact g h1 q r t) λ_ _ z=>z
 ·obtain⟨w,y,h,hc,hd,v,h0,h1⟩:=id a;unfold zi;refine ba (Il h hd h1 ?_);rw[qa (show ¬ ((pb != pb)=true)from by decide)];exact xa (g s.heap ⟨c,d,f,.inr a⟩ (.refl _) (.refl _))
theorem QX{A:Fa}{B:Heap}{env:Hg}{outer:List Hg}{L:Addr}{a0:Value}(l:A.frames=some (env::outer))(j:env.frame=some L)(x:Tq B (env::outer) ea cls a0 s.heap)
  (F:∀ h1,Gp B (env::outer) ea cls a0 L h1->s.heap.UpToSlots h1->Q () { s with heap:=h1 }):wpAny M A (Ig (.ref ea) env) Q E s:=by
 obtain⟨z,t,C,⟨u,h⟩|h⟩:=x
 ·by_cases hm:u=Ee L
  ·subst hm;exact wpAny_noteFrame_againW j h (F s.heap ⟨z,t,C,h⟩ (.refl _))
  ·obtain⟨oe,J,T,S,r,g,hc,hd,h1,m,f,w,a,h3⟩:=h;have sz:3<r.size:=(Zc.mp h3).1;have c:∀ b,b≠T->(s.heap.update T (Mi (·.setIfInBounds 3 pb))).get? b=s.heap.get? b:=λb hb=>aj _ _ (Ye hb);have nr:∀ b o,s.heap.get? b=some o->(∀ v,o.data≠.fields v)->b≠T:=λb o hb hn q=>by
    rw[q,w]at hb;cases hb;exact hn r a
   have d:=ts (Mi (·.setIfInBounds 3 pb)) w (Obj.isFreed_of_fields (Jl a _));have up:s.heap.UpToSlots (s.heap.update T (Mi (·.setIfInBounds 3 pb))):=λb o e n=>⟨o.slots,(c b (nr b o e n)).trans e⟩
   have U:NB B (env::outer) ea cls a0 (s.heap.update T (Mi (·.setIfInBounds 3 pb))):=
    ⟨λb o e=>(c b λq=>by rw[q,m]at e;cases e).trans (z b o e),t,C.of_keeps λb o e n=>⟨o,(c b (nr b o e n)).trans e,rfl⟩,
     oe,J,T,_,_,(c ea (Ye f)).trans g,hc,hd,h1,m,f,d,Jl a _,by simp[sz]⟩
   have H:=wpAny_looks_onW (M:=M) (E:=E) (Q:=Q) (s:={ s with heap:=s.heap.update T (Mi (·.setIfInBounds 3 pb)) }) l j U λh2 q1 q2=>F h2 q1 (up.trans q2);intro Γ p G;have k:=H Γ p G;unfold Ig at k ⊢;simp only[j]at k ⊢;rw[Wm,Wv]at k ⊢;obtain⟨a1,o1,v1,x1,W,Z,N,O,k⟩:=k;cases W;have i:s.heap.get? ea=some o1:=(c ea (Ye f)).symm.trans Z;have I:o1=oe:=by rw[g]at i;cases i;rfl
   subst I;rw[hd]at N;cases N;rw[h1]at O;cases O;refine⟨ea,o1,J,.ref T,rfl,g,hd,h1,?_⟩;have nn:(jb T != pb)=true:=by simp
   simp only[nn,Ng]at k ⊢;rw[Wm,Wv]at k ⊢;obtain⟨a2,o2,v2,x2,X,g2,V,P,k⟩:=k;cases X;have D:=d.symm.trans g2;cases D;have y:=(Jl a (·.setIfInBounds 3 pb)).symm.trans V;cases y;have K:x2=pb:=by
    have:(r.setIfInBounds 3 pb)[3]?=some pb:=by simp[sz]
    rw[this]at P;cases P;rfl
   subst K;refine⟨T,S,r,u,rfl,w,a,h3,?_⟩;have n1:(pb == Ee L)=false:=by simp[Ee]
   have n2:(u == Ee L)=false:=by
    cases q:u == Ee L with
    |false=>rfl
    |true=>exact absurd (Uh.mp q) hm
   simp only[n1,n2,Gu,Dq]at k ⊢;rw[Wm,jH]at k ⊢;obtain⟨a3,o3,v3,Y,g3,d3,i3,k⟩:=k;cases Y;refine⟨T,S,r,rfl,w,a,sz,?_⟩;simp only[Heap.update_setField_twice]at k;exact k
 ·obtain⟨oe,J,g,hc,hd,hz,h0,h1⟩:=h;unfold Ig;simp only[j];refine ba (Il g hd h1 ?_);rw[qa (by decide)];refine wpAny_entryW (base:=B) (outer:=outer) (a0:=a0) l C j g z t hd hz h0 λh4 hN=>?_;obtain⟨k1,k2,R,k4⟩:=hN;rw[hc]at R;exact F h4 ⟨k1,t,k2,R⟩ k4
theorem LS{A:Fa}{B:Heap}{env:Hg}{outer:List Hg}{L:Addr}{a0:Value}(a:A.frames=some (env::outer))(f:env.frame=some L)(x:Tq B (env::outer) ea cls a0 s.heap)
  (d:∀ h1,Gp B (env::outer) ea cls a0 L h1->s.heap.UpToSlots h1->DK s.heap h1->Q () { s with heap:=h1 }):wpAny M A (Ig (.ref ea) env) Q E s:=by
 have k:wpAny M A (Ig (.ref ea) env) (λ_ s'=>∃ h1,s'={ s with heap:=h1 }/\Gp B (env::outer) ea cls a0 L h1/\s.heap.UpToSlots h1) E s:=QX a f x λh1 b c=>⟨h1,rfl,b,c⟩
 exact bc (aS (OW _ _) k) (λ_ _ ⟨⟨h1,e,b,c⟩,g⟩=>by subst e;exact d h1 b c g) λ_ _ z=>z
theorem AM{B:Heap}{l:List Hg}{a0:Value}{L:Addr}{h:Heap}(x:Gp B l ea cls a0 L h):Tq B l ea cls a0 h:=⟨x.1,x.2.1,x.2.2.1,.inl ⟨_,x.2.2.2⟩⟩
theorem R3{A:Fa}{B:Heap}{env:Hg}{outer:List Hg}{L:Addr}{a0:Value}(a:A.frames=some (env::outer))(d:env.frame=some L)(x:Tq B (env::outer) ea cls a0 s.heap)
  (c:∀ h1,Tq B outer ea cls a0 h1->s.heap.UpToSlots h1->DK s.heap h1->Q () { s with heap:=h1 }):wpAny M A (LB env (.ref ea)) Q E s:=by
 unfold LB;refine ba (LS a d x λh1 i j k=>?_);refine bJ (AM i) λb l m n=>?_;obtain⟨e,f,⟨_,_,g⟩,h⟩:=l;exact c b ⟨e,f,g,h⟩ (j.trans m) (k.trans n)
theorem EE(c:X.stack=X.env::X.outer)(a:X.env.frame=some X.env.locals){b:Addr}:b∈Nj X.stack ↔ b=X.env.locals\/b∈Nj X.outer:=by
 rw[c];unfold Nj;rw[xh,a];exact ib
theorem yh8(I:Inv X pins st H s)(j:X.stack=X.env::X.outer)(i:X.env.frame=some X.env.locals)(k:X.ex=[]){h'':Heap}(un:Un (Nj X.stack) [] H H' s.heap h''):Un (Nj X.outer) [] X.H₀ H' X.s₀.heap h'':=by
 have a:∀ b,b ∉ X.ex:=λb z=>by rw[k]at z;cases z
 have f:∀ b o,X.s₀.heap.get? b=some o->b≠X.env.locals:=λb o e=>Ea (Ja (za e) I.ok.above);refine⟨λb o e n hb _=>?_,λb o e n hb _=>?_,λb o e n _=>?_,λb o e _=>?_,λb xs e=>un.Gi b xs (I.base.Gi b xs e),λb o u e=>un.vh b o u (I.base.vh b o u e),λb p e=>?_⟩
 ·exact un.keep b o (I.base.keep b o e n hb (a b)) (I.base.free b o e n (a b)) (λz=>((EE j i).mp z).elim (f b o e) hb) (by simp)
 ·obtain⟨q,c⟩:=I.base.slot b o e n hb (a b);obtain⟨h,d⟩:=un.slot b _ c (I.base.free b o e n (a b)) ((EE j i).mpr (.inr hb)) (by simp);exact⟨h,d⟩
 ·obtain⟨g,c⟩:=I.base.there b o e (a b);exact un.free b g c (I.base.free b o e n (a b)) (by simp)
 ·obtain⟨g,c⟩:=I.base.there b o e (a b);exact un.there b g c (by simp)
 ·obtain⟨l,c⟩:=I.base.di b p e;obtain⟨m,d⟩:=un.di b _ c;exact⟨l++m,by rw[d,Sk]⟩
theorem jJ{P:Aa}{w:Ia}{outer:List Hg}{e:Value}{m:Option Nat}(F:vz P w outer H s cls m H' e s'){h6:Heap}{B:Heap}(r:∀ b o,s.heap.get? b=some o->H b=none->b ∉ Nj outer->B.get? b=some o)(t:∀ b o,H' b=some o->∃ ob,B.get? b=some ob)
  (p:∀ b o,s.heap.get? b=some o->b ∉ Nj outer->∃ d,B.get? b=some d) (k:∀ b o,B.get? b=some o->s'.heap.get? b=some o) (c:∀ b o,B.get? b=some o->h6.get? b=some o) (h:s'.heap.UpToSlots h6) (g:∀ b∈Nj outer,∃ o,s.heap.get? b=some o/\(∀ vs,o.data≠.fields vs)/\H b=none) :
  Un (Nj outer) [] H H' s.heap h6/\Ni P w H' h6:=by
 refine⟨⟨λb o e n hb _=>c b o (r b o e n hb),λb o e n hb l=>?_,F.un.free,λb o e l=>?_,F.un.Gi,F.un.vh,F.un.di⟩,yH F.dc λb o u e q=>?_⟩
 ·obtain⟨v,a⟩:=F.un.slot b o e n hb l;obtain⟨d,f,hd,_⟩:=g b hb;rw[e]at f;cases f;obtain⟨i,j⟩:=h b _ a hd;exact⟨i,j⟩
 ·by_cases hb:b∈Nj outer
  ·obtain⟨d,f,hd,hn⟩:=g b hb;rw[e]at f;cases f;obtain⟨v,a⟩:=F.un.slot b o e hn hb l;obtain⟨i,j⟩:=h b _ a hd;exact⟨_,j⟩
  ·obtain⟨d,a⟩:=p b o e hb;exact⟨d,c b d a⟩
 ·obtain⟨ob,a⟩:=t b o e;have:=k b ob a;rw[q]at this;cases this;exact c b _ a
theorem iK(I:Inv X pins st H s):∀ b∈Nj X.stack,∃ o,s.heap.get? b=some o/\(∀ vs,o.data≠.fields vs)/\H b=none:=λb hb=>by
 obtain⟨_,o,e,hd⟩:=I.stack.mem hb;exact⟨o,e,hd,I.yk b hb⟩
theorem ztv(I:Inv X pins st H s)(f:X.stack=X.env::X.outer)(j:X.env.frame=some X.env.locals)(c:X.ex=[]){e:Value}{k:Option Nat}(F:vz X.prog X.w X.stack H s cls k H' e s')
  (L:∀ i,vz X.prog X.w X.outer X.H₀ X.s₀ cls k H' e i->Q () i):wpAny M X.A (LB X.env e) Q E s':=by
 obtain⟨ea,t,B,rfl,y,hn,d,G,D,C,K⟩:=F.ex;have l:Tq B (X.env::X.outer) ea cls t s'.heap:=by rw[<-f];exact y
 refine R3 (by rw[<-f];exact I.ok.frames) j l λm r R S=>L _ ?_;obtain⟨un,dc⟩:=jJ F D G C y.1 r.1 R (iK I);have a:∀ b,b ∉ X.ex:=λb z=>by rw[c]at z;cases z
 have g:∀ b o,X.s₀.heap.get? b=some o->b≠X.env.locals:=λb o e=>Ea (Ja (za e) I.ok.above);have h:∀ b,s.heap.get? b=none->X.s₀.heap.get? b=none:=λb e=>by
  cases q:X.s₀.heap.get? b with
  |none=>rfl
  |some u=>obtain⟨v,x⟩:=I.base.there _ _ q (a _);rw[e]at x;cases x
 have p:WB k ea B m X.s₀.heap H':=λn q=>by
  obtain⟨J,O,P,T,U,V,W,Y,Z⟩:=K.next S (let ⟨o,e,_⟩:=r.there;⟨o,e⟩) n q;exact⟨J,O,P,T,U,V,W,Y,h _ Z⟩
 refine⟨⟨ea,t,B,rfl,r,hn,?_,G,λb o e n hb=>?_,λb o e hb=>?_,p⟩,F.os.trans I.os,F.bare,yh8 I f j c un,dc⟩
 ·cases q:X.s₀.heap.get? ea with
  |none=>rfl
  |some u=>obtain⟨v,e⟩:=I.base.there _ _ q (a _);rw[d]at e;cases e
 ·exact D b o (I.base.keep b o e n hb (a b)) (I.base.free b o e n (a b)) λz=>((EE f j).mp z).elim (g b o e) hb
 ·obtain⟨N,q⟩:=I.base.there b o e (a b);exact C b N q λz=>((EE f j).mp z).elim (g b o e) hb
end
theorem zZ{P:Aa}{w:Ia}{K:W.Frag}{mg:Str->Option Value}{base:Heap}{N:List Str}{qual:Str}{scope:Scope}{f:Addr}{cd:Value}{A:Fa}{outer:List Hg}{s:aa}{H:Hp}{E:XK}{g:St}{cls:Value}{b:Option Nat}{a:Hp}
  (h:E cls b a):AD (zp (Xk P w) P w K mg base N qual scope f cd A outer s H E) g cls b a where
 RE:=λc i s1 e j I F=>ztv I rfl rfl rfl F λd G=>⟨cls,b,a,G,h⟩
theorem AD.made{X:Cx}{d:List (Addr × Bc)}{l:St}{h:Hp}{s:aa}{cls:Value}{f:Addr}{h':Heap}{i:List Value}(t:AD X l cls none h)(I:Inv X d l h s)(c:Heap.MadeExcOf s.heap h' f cls i):X.xe (.ref f) { s with heap:=h' }:=by
 have m:s.heap.FunFrames (W.hideAll s.heap (Nj X.stack)) X.stack:=W.funFrames_hide (as:=Nj X.stack) I.stack (λenv j a p=>jl.mpr ⟨env,j,p⟩);have g:∀ b o,s.heap.get? b=some o->b ∉ Nj X.stack->(W.hideAll s.heap (Nj X.stack)).get? b=some o:=λb o e n=>W.hideAll_get _ e n;obtain⟨w,j,r,ht⟩:=c.there;have k:∀ b o,h b=some o->b ∉ Nj X.stack:=λb o e z=>by rw[I.yk b z]at e;cases e
 have hn:h f=none:=by
  cases q:h f with
  |none=>rfl
  |some u=>obtain⟨v,e⟩:=KQ (I.dc _ _ q);rw[c.new]at e;cases e
 refine t.RE d h s (.ref f) _ I ⟨⟨f,.ref w,W.hideAll s.heap (Nj X.stack),rfl,⟨λb o q=>c.keeps b o (W.of_hideAll _ q),?_,m.of_keeps λb o e _=>⟨o,c.keeps b o e,rfl⟩,.inr ⟨_,_,j,rfl,rfl,by simp,rfl,rfl⟩⟩,hn,c.new,λb o e=>?_,λb o e n hb=>g b o e hb,λb o e hb=>⟨o,g b o e hb⟩,λn q=>by cases q⟩,rfl,I.bare,⟨λb o e n hb _=>c.keeps b o e,λb o e n hb _=>⟨o.slots,c.keeps b o e⟩,λb o e n _=>n,λb o e _=>⟨o,c.keeps b o e⟩,λ_ _ e=>e,λ_ _ _ e=>e,λb x e=>⟨#[],by rw[e];simp⟩⟩,yH I.dc λb o u e q=>c.keeps b u q⟩
 ·cases q:(W.hideAll s.heap (Nj X.stack)).get? f with
  |none=>rfl
  |some u=>have:=W.of_hideAll _ q;rw[c.new]at this;cases this
 ·obtain⟨u,q⟩:=KQ (I.dc _ _ e);exact⟨u,g b u q (k b o e)⟩
theorem Zm{P:Aa}{w:Ia}{K:W.Frag}{mg:Str->Option Value}{base:Heap}{N:List Str}{qual:Str}{scope:Scope}{f:Addr}{cd:Value}{A:Fa}{outer:List Hg}{s:aa}{H:Hp}{E:XK} :
  vq (model P w) (zp (Xk P w) P w K mg base N qual scope f cd A outer s H E).A (zp (Xk P w) P w K mg base N qual scope f cd A outer s H E).env (zp (Xk P w) P w K mg base N qual scope f cd A outer s H E).xe:=zaC
noncomputable def EV:Fl->M D
 | .nx _=>ret .Vb
 | .rt d=>ret d
 | .xc _ x=>λa=>.ex x a
 |_=>bad
def Cr:Out Fl->Out D
 | .ok a σ=>EV a σ
 |_=>.bad
def run(n:Nat)(g:Ev->M Fl)(ds:List D):M D:=λa=>Cr (g (ds.map some++List.replicate (n - ds.length) none) a)
noncomputable def Eo(T:Tb)(n:Nat)(f:List D->M D):Sp:=λd H Q E=>∃ b c a,Ta T b H a d/\a.length=n/\Rel T b H c/\Mb T E (Rep T) b H (f a c) Q
noncomputable def wt(n:Nat)(f:List D->M D)(dds:List D)(ds:List D):M D:=if (ds++dds).length=n then f (ds++dds)else bad
def md(n:Nat)(f:List D->M D)(dds:List D)(fs:Ev->M (List D)):Ev->M D:=λa=>Wc (fs a) (wt n f dds)
section
variable{T:Tb}{X:Cx}
theorem aX{μ:List Addr}{H:Hp}{ds:List D}{vs:List V}{N:List Str}(h:Ta T μ H ds vs):wh T μ H (ds.map some++List.replicate (N.length - ds.length) none) (L2.qv N vs):=by
 have c:=h.length;refine⟨by simp[L2.qv,c],λi d e=>?_⟩;by_cases b:i<ds.length
 ·rw[xb (by simpa using b),Eb]at e;cases a:ds[i]? with
  |none=>rw[a]at e;cases e
  |some x=>
   rw[a]at e;cases e;obtain⟨v,h1,f⟩:=h.get a;refine⟨v,?_,f⟩;unfold L2.qv;rw[xb (by simpa [<-c]using b),Eb,h1];rfl
 ·rw[gd (by simpa using b),pr]at e;split at e<;>cases e
variable{k:Nat}{f C:Addr}{fd:me}{ps:List Str}{dvs:List V}{dval:List Value}{dds:List D}{x:Str}{p pos:re}{e:Ca}{es:List Ca}{fn:List D->M D}{fs:Ev->M (List D)}{sp:Sp}{t:TA}
theorem LA{a:List (Addr × Bc)}{c:St}{H:Hp}{s:aa}{Q:VK}{us:List Value}{vs:List V}(F:ph X.prog X.w X.K X.mg X.base (Xk X.prog X.w) k f fd ps sp)(j:jd k X.A)(hb:Rr X.K fd ps dval)(hd:ue dvs dval)
  (I:Inv X a c H s) (r:ue vs us) (h:sp (vs++dvs) H Q (XE X c)):wpAny (model X.prog X.w) X.A (call (.ref f) us) (EP X a c Q) X.xe s:=by
 have d:ue (vs++dvs) (us++dval):=r.append hd;have i:(us++dval).length=ps.length:=by rw[<-d.length];exact F.len _ _ _ _ h
 refine Bs (ni (F.run X.A X.stack s H ⟨us,[]⟩ (us++dval) (vs++dvs) Q (XE X c) j I.sD (hb s us I.mj i) d h) λr l hq=>?_);cases r with
 |error e=>obtain⟨cls,fd,m,b,ht⟩:=hq;exact ht.RE a H s e l I b
 |ok g=>
  cases g with
  |ret u=>exact I.after hq
  |next=>exact False.elim hq
  |brk=>exact False.elim hq
  |cont=>exact False.elim hq
theorem VP(F:ph X.prog X.w X.K X.mg X.base (Xk X.prog X.w) k f fd ps (Eo T ps.length fn))(E:jd k X.A)(hg:Gl X x)(hm:X.mg x=some (.ref f))(C:W.keepIn X.K (.ref f)=true)(hb:Rr X.K fd ps dval)(hd:ue dvs dval)(g:∀ μ H,Ta T μ H dds dvs)
  (z:FA T X (e::es) fs) (d:(x == ("__debug__" : Str))=false:=by decide) (B:pa (e::es) X.env=(false,Ib e X.env)::pa es X.env:=by rfl) (j:(nc pos (pa es X.env)).any (·.1)=false:=by rfl) :
  FE T X (.Call (.Name x p) (e::es) [] pos) (md ps.length fn dds fs):=by
 intro a s v H Q I h;refine wf (DA I hg hm ?_ d);obtain⟨μ,L,M,y,l,D⟩:=h;refine W.callWith_K (h₀:=X.base) I.ok.mod.xw C (be (z pos a s v H (λm c=>Eo T ps.length fn (m++dvs) c Q (XE X v)) I ⟨μ,L,M,y,l,D.bind λu o n m c _ N J G b=>?_⟩) λus s1 ⟨m,c,t,r,q⟩=>⟨t.mj,?_⟩) B j
 ·unfold wt at b;by_cases i:(u++dds).length=ps.length
  ·rw[ia i]at b;exact⟨n,o,u++dds,G.append (g _ _),i,J,b⟩
  ·rw[qa i]at b;exact b.elim
 ·exact LA F E hb hd t r q
variable{P:Aa}{w:Ia}{K:W.Frag}{mg:Str->Option Value}{base:Heap}
theorem fB{x qual:Str}{c:Stmt}{N:List Str}{g:Ev->M Fl}{a:Arguments}{B kV e F b ct X:Value}{y od:Option Addr}{o:Array (Option Value)}
  (U:K.lookup f=some ⟨X,od,.func (W.fnOf x qual a (Yi c) (kc c) B kV e F y b ct),o⟩) (n:W.codeIn K b qual=true) (S:ua N ps (kc c))
  (hb:∀ (A:Fa) (outer:List Hg) (s:aa) (H:Hp) (E:XK),jd k (A.deeper (ag qual (kc c) s.heap.objs.size f b))->Hn T (zp (Xk P w) P w K mg base N qual (kc c) f b A outer s H E) (Yi c) g) :
  ph P w K mg base (Xk P w) (k+1) f (W.fnOf x qual a (Yi c) (kc c) B kV e F y b ct) ps (Eo T ps.length (run N.length g)):=by
 refine jQ U n S (λY H Q E h=>?_) (λA outer s H Y Q E R h=>?_)
 ·obtain⟨G,u,l,h1,C,_⟩:=h;rw[<-h1.length];exact C
 ·obtain⟨G,u,l,h1,C,h3,h4⟩:=h;refine⟨_,hb A outer s H E R,G,_,u,aX h1,h3,?_⟩;unfold run at h4;cases m:g (l.map some++List.replicate (N.length - l.length) none) u with
  |bad=>rw[m]at h4;exact h4
  |ex x v=>rw[m]at h4;exact h4.elim
  |ok O v=>
   rw[m]at h4;intro r gl H1 J p i;have j:=h4.mono J;cases O with
   |nx t=>cases gl with
    |nx q=>have z:Q V.Vb H1:=Mb.here (d:=D.Vb) j p (by rw[Rep]);exact z
    |_=>exact i.elim
   |rt I=>cases gl with
    |rt v2=>have z:Q v2 H1:=Mb.here (d:=I) j p i;exact z
    |_=>exact i.elim
   |xc t Z=>cases gl with
    |xc q c2 L=>
     obtain⟨_,rfl,rfl⟩:=i;exact zZ (j r H1 (Ext.refl _ _) p)
    |_=>exact i.elim
   |_=>exact j.elim
theorem wF(F:ph P w K mg base (Xk P w) k f fd ps (Eo T ps.length fn)):ph P w K mg base (Xk P w) k f fd ps (Eo T ps.length (λa=>Hb (fn a))):=
 F.imp λe H Q E h=>by
  obtain⟨c,d,a,h1,b,h3,h4⟩:=h;exact⟨c,d,a,h1,b,h3,Mb.Hb h3 h4⟩
end
noncomputable def Vi(env:Hg)(names:List (Str × ff))(acc:List (Str × Addr)):List (Str × Addr):=
 names.foldl (λa y=>if (y.2 == .free)=true then (match env.cells.lookup y.1 with|some c=>(y.1,c)::a|none=>a)else a) acc
theorem kI(env:Hg):∀ (names:List (Str × ff)) (acc:List (Str × Addr)),(∀ y∈names,y.2=.free->∃ c,env.cells.lookup y.1=some c)->
  (forIn names acc (λx (cs:List (Str × Addr))=>match x with|(name,kind)=>if (kind == .free)=true then (do let a <-cellOf env name;pure (ForInStep.yield ((name,a)::cs)))else pure (ForInStep.yield cs)):uo (List (Str × Addr)))=pure (Vi env names acc)
 |[],acc,_=>rfl
 |(n,k)::r,acc,h=>by
  rw[List.forIn_cons];by_cases b:(k == lb)=true
  ·obtain⟨c,hc⟩:=h (n,k) Xb (by simpa using b);have e:cellOf env n=pure c:=by unfold cellOf;rw[hc]
   simp only[b,Ng,e];show (forIn r ((n,c)::acc) _:uo (List (Str × Addr)))=_;rw[kI env r ((n,c)::acc) λy hy=>h y (nb _ hy)];have d:Vi env ((n,k)::r) acc=Vi env r ((n,c)::acc):=by
    unfold Vi;rw[lh];simp only[b,Ng,hc]
   rw[d]
  ·simp only[b];show (forIn r acc _:uo (List (Str × Addr)))=_;rw[kI env r acc λy hy=>h y (nb _ hy)];have d:Vi env ((n,k)::r) acc=Vi env r acc:=by
    unfold Vi;rw[lh];simp only[b];rfl
   rw[d]
theorem AH(env:Hg)(scope:Scope)(h:∀ y∈scope.names,y.2=.free->∃ c,env.cells.lookup y.1=some c):closureFor scope env=pure (Vi env scope.names []):=by
 have e:=kI env scope.names [] h;unfold closureFor;simp only[bind_pure];exact e
theorem fL(env:Hg):∀ (names:List (Str × ff)) (acc:List (Str × Addr)) (n:Str) (c:Addr),(∀ n c,acc.lookup n=some c->env.cells.lookup n=some c)->(Vi env names acc).lookup n=some c->env.cells.lookup n=some c
 |[],acc,n,c,h,e=>h n c e
 |(y,k)::r,acc,n,c,h,e=>by
  unfold Vi at e;rw[lh]at e;refine fL env r _ n c (λn c q=>?_) e;by_cases a:(k == lb)=true
  ·simp only[a,Ng]at q;cases hc:env.cells.lookup y with
   |none=>rw[hc]at q;exact h n c q
   |some b=>
    rw[hc]at q;rw[Ua]at q;cases hn:(n == y)with
    |true=>rw[hn]at q;cases q;rw[eq_of_beq hn];exact hc
    |false=>rw[hn]at q;exact h n c q
  ·simp only[a]at q;exact h n c q
theorem vT(env:Hg):∀ (names:List (Str × ff)) (acc:List (Str × Addr)) (n:Str),(∃ c,acc.lookup n=some c)->∃ c,(Vi env names acc).lookup n=some c
 |[],acc,n,h=>h
 |(y,k)::r,acc,n,h=>by
  unfold Vi;rw[lh];refine vT env r _ n ?_;by_cases b:(k == lb)=true
  ·simp only[b,Ng];cases hc:env.cells.lookup y with
   |none=>exact h
   |some a=>
    show ∃ c,List.lookup n ((y,a)::acc)=some c;rw[Ua];cases hn:(n == y)with
    |true=>exact⟨a,rfl⟩
    |false=>exact h
  ·simp only[b];exact h
theorem tD(env:Hg):∀ (names:List (Str × ff)) (acc:List (Str × Addr)) (n:Str),(n,lb)∈names->(∃ c,env.cells.lookup n=some c)->∃ c,(Vi env names acc).lookup n=some c
 |[],acc,n,h,_=>nomatch h
 |(y,k)::r,acc,n,h,hc=>by
  unfold Vi;rw[lh];rcases ib.mp h with e|e
  ·cases e;refine vT env r _ _ ?_;obtain⟨c,hc⟩:=hc;refine⟨c,?_⟩;simp[hc]
  ·exact tD env r _ n e hc
theorem EJ{env:Hg}:∀ {names:List (Str × ff)} {x:Str} {k:ff},
  (names.map λ(n,k)=>if (k == lb && env.scope.kind == .function && env.kindOf n == some .cell)then (n,Lc)else (n,k)).lookup x=some k->∃ b,names.lookup x=some b/\(k=b\/(b=.free/\k=.cell))
 |[],_,_,h=>by simp at h
 |(n,b)::r,x,k,h=>by
  have d:=@EJ env r x k;have a:List.lookup x ((if (b == lb && env.scope.kind == .function && env.kindOf n == some .cell)=true then (n,Lc)else (n,b))::(r.map λ(n,k)=>if (k == lb && env.scope.kind == .function && env.kindOf n == some .cell)then (n,Lc)else (n,k)))=some k:=h;cases c:x == n with
  |true=>
   by_cases hc:(b == lb && env.scope.kind == .function && env.kindOf n == some .cell)=true
   ·rw[ia hc]at a;simp only[Ua,c]at a ⊢;cases a;simp only[Da]at hc;exact⟨b,rfl,.inr ⟨by simpa using hc.1.1,rfl⟩⟩
   ·rw[qa hc]at a;simp only[Ua,c]at a ⊢;cases a;exact⟨b,rfl,.inl rfl⟩
  |false=>
   by_cases hc:(b == lb && env.scope.kind == .function && env.kindOf n == some .cell)=true
   ·rw[ia hc]at a;simp only[Ua,c]at a ⊢;exact d a
   ·rw[qa hc]at a;simp only[Ua,c]at a ⊢;exact d a
theorem DM{env:Hg}:∀ {names:List (Str × ff)} {x:Str},names.lookup x=some .free->
  (names.map λ(n,k)=>if (k == lb && env.scope.kind == .function && env.kindOf n == some .cell)then (n,Lc)else (n,k)).lookup x=some .cell\/
  (names.map λ(n,k)=>if (k == lb && env.scope.kind == .function && env.kindOf n == some .cell)then (n,Lc)else (n,k)).lookup x=some .free
 |[],_,h=>by simp at h
 |(n,k)::r,x,h=>by
  have c:=@DM env r x;have a:∀ z,List.lookup x ((if (k == lb && env.scope.kind == .function && env.kindOf n == some .cell)=true then (n,Lc)else (n,k))::(r.map λ(n,k)=>if (k == lb && env.scope.kind == .function && env.kindOf n == some .cell)then (n,Lc)else (n,k)))=z->
   (List.map (λ(n,k)=>if (k == lb && env.scope.kind == .function && env.kindOf n == some .cell)then (n,Lc)else (n,k)) ((n,k)::r)).lookup x=z:=λz e=>e
  cases b:x == n with
  |true=>
   simp only[Ua,b]at h;cases h;by_cases hc:(lb == lb && env.scope.kind == .function && env.kindOf n == some .cell)=true
   ·exact .inl (a _ (by rw[ia hc];simp only[Ua,b]))
   ·exact .inr (a _ (by rw[qa hc];simp only[Ua,b]))
  |false=>
   simp only[Ua,b]at h;have e:List.lookup x ((if (k == lb && env.scope.kind == .function && env.kindOf n == some .cell)=true then (n,Lc)else (n,k))::(r.map λ(n,k)=>if (k == lb && env.scope.kind == .function && env.kindOf n == some .cell)then (n,Lc)else (n,k))) =
     (r.map λ(n,k)=>if (k == lb && env.scope.kind == .function && env.kindOf n == some .cell)then (n,Lc)else (n,k)).lookup x:=by
    by_cases hc:(k == lb && env.scope.kind == .function && env.kindOf n == some .cell)=true
    ·rw[ia hc];simp only[Ua,b]
    ·rw[qa hc];simp only[Ua,b]
   rcases c h with q|q
   ·exact .inl (a _ (e.trans q))
   ·exact .inr (a _ (e.trans q))
theorem Mw{names:List (Str × ff)}{x:Str}{k:ff}(h:names.lookup x=some k):(x,k)∈names:=Pe h
noncomputable def qu(X:Cx)(a:List Str)(scope:Scope)(cl:List (Str × Addr))(C:Addr)(s₀:aa)(H₀:Hp)(ex:List Addr):Cx:=
 { X with N:=a,s₀:=s₀,H₀:=H₀,env:=compEnvC scope cl C X.env,outer:=X.stack,stack:=X.stack,ex:=ex,fn:=λ_=>false,pn:=[],xe:=λ_ _=>False }
structure Qn(X:Cx)(x:Str)(M':List Str)(ix:List Nat)(scope:Scope):Prop where
 kind:scope.kind=.function
 cell:(scope.names.all λy=>!(y.2 == .cell))=true
 names:(scope.names.all λy=>!(y.2 == .local) || scope.names.lookup y.1 == some .local)=true
 free:(scope.names.all λy=>!(y.2 == .free) || (X.env.scope.names.lookup y.1 == some .cell || X.env.scope.names.lookup y.1 == some .free))=true
 at_:ix.map (λi=>X.N[i]?)=M'.map some
 MT:(M'.all λy=>(X.env.scope.names.lookup y == some .cell || X.env.scope.names.lookup y == some .free) && scope.names.lookup y == some .free)=true
def pK(ix:List Nat)(ρ:Ev):Ev:=none::ix.map λi=>(ρ[i]?).getD none
def RM(ix:List Nat)(a:St):St:=none::ix.map λi=>(a[i]?).getD none
theorem fT{T:Tb}{μ:List Addr}{H:Hp}{ρ:Ev}{f:St}(ix:List Nat)(h:wh T μ H ρ f):wh T μ H (pK ix ρ) (RM ix f):=by
 refine⟨by simp[pK,RM],λi d e=>?_⟩;cases i with
 |zero=>simp[pK]at e
 |succ j=>
  have a:(ix.map λi=>(ρ[i]?).getD none)[j]?=some (some d):=e;rw[Eb]at a;cases g:ix[j]? with
  |none=>rw[g]at a;cases a
  |some b=>
   rw[g]at a;have c:(ρ[b]?).getD none=some d:=yb a;have k:ρ[b]?=some (some d):=by
    cases q:ρ[b]? with
    |none=>rw[q]at c;cases c
    |some o=>rw[q]at c;exact Ad some c
   obtain⟨v,h1,l⟩:=h.2 b d k;refine⟨v,?_,l⟩;show (ix.map λi=>(f[i]?).getD none)[j]?=_;rw[Eb,g];show some ((f[b]?).getD none)=_;rw[h1];rfl
section
variable{X:Cx}{pins:List (Addr × Bc)}{st:St}{H:Hp}{s:aa}{x:Str}{M':List Str}{ix:List Nat}{scope:Scope}{fp:List Addr}
theorem VU(L:Qn X x M' ix scope)(y:Str × ff)(hy:y∈scope.names)(e:y.2=.free):X.env.kindOf y.1=some .cell\/X.env.kindOf y.1=some .free:=by
 have q:=Ub.mp L.free y hy;rw[e]at q;simp only[Vh,Fq,Tk,wj]at q;rcases q with q|q
 ·exact .inl (eq_of_beq q)
 ·exact .inr (eq_of_beq q)
theorem Xz(I:Inv X pins st H s)(L:Qn X x M' ix scope):∀ y∈scope.names,y.2=.free->∃ c,X.env.cells.lookup y.1=some c:=λy hy e=>I.ok.has y.1 (VU L y hy e)
theorem FD(L:Qn X x M' ix scope):∀ y∈scope.names,y.2≠.cell:=λy hy e=>by
 have q:=Ub.mp L.cell y hy;rw[e]at q;simp at q
end
def So{α:Type}(m:M α):M α:=λa=>match m a with
 | .ex _ _=>.bad
 |o=>o
theorem Mb.Wu{i o p s:Type}{T:Tb}{E E0:XK}{R:List Addr->Hp->i->p->Prop}{l:List Addr->Hp->o->s->Prop}{μ:List Addr}{H:Hp}{m:M i}{k:i->M o}{σ:qb}{Q:s->Hp->Prop}{Q1:p->Hp->Prop}
  (h:Mb T E l μ H (Wc (So m) k σ) Q) (f:∀ a b c g d,m σ=.ok a b->Ext μ H c d->Rel T c d b->R c d a g->Mb T E l c d (k a b) Q->Q1 g d):Mb T E0 R μ H (m σ) Q1:=by
 unfold Wc So at h;cases e:m σ with
 |ok a b=>
  simp only[e]at h;exact λj g t n r q=>f a b j g t e n r q (h.mono n)
 |ex x b=>simp only[e]at h;exact h.elim
 |bad=>simp only[e]at h;exact h
def oD(T:Tb)(X:Cx)(b:List Ca)(f:Ev->M Bool):Prop:=
 ∀ (a:List (Addr × Bc)) (s:aa) (st:St) (H:Hp) (Q:Bool->Hp->Prop),Inv X a st H s->tT T X f st H Q->
  wpAny (model X.prog X.w) X.A (forIn b true λc r=>if r=true then do let ok <-uA c X.env (Ib c X.env);pure (ForInStep.yield ok)else pure (ForInStep.yield r)) (TP X a st Q) X.xe s
def Gk:Ev->M Bool:=λ_=>ret true
section
variable{T:Tb}{X:Cx}
theorem Bu:oD T X [] Gk:=by
 intro a s e H Q I h;obtain⟨f,g,i,d,c,b⟩:=h;exact wpAny_tests_nil ⟨H,I,Mb.here b c rfl⟩
theorem z7{c:Ca}{f:Ev->M Bool}(h:FT T X c f):oD T X [c] f:=λa s d H Q I b=>wpAny_tests_one (h a s d H Q I b)
theorem D5{fs ex:List Addr}{H d:Hp}{h h1 h2:Heap}{C:Addr}(u:Un fs ex H d h h1)(c:Of C h1 h2)(f:h.objs.size<=C):Un fs ex H d h h2:=by
 have ne:∀ b o,h.get? b=some o->b≠C:=λb o e=>Ea (Ja (za e) f);refine⟨λb o e n hb a=>(c.2 b (ne b o e)).trans (u.keep b o e n hb a),λb o e n hb a=>?_,u.free,λb o e a=>?_,u.Gi,u.vh,u.di⟩
 ·obtain⟨i,q⟩:=u.slot b o e n hb a;exact⟨i,(c.2 b (ne b o e)).trans q⟩
 ·obtain⟨g,q⟩:=u.there b o e a;exact⟨g,(c.2 b (ne b o e)).trans q⟩
theorem Y8{P:Aa}{w:Ia}{H:Hp}{h1 h2:Heap}{C:Addr}(ok:Ni P w H h1)(d:Of C h1 h2)(a:H C=none):Ni P w H h2:=λb f e=>by
 refine(ok b f e).zk (λc g hc q=>(d.2 c ?_).trans q) (λ_ q=>q) λ_ _ q=>q;rintro rfl;rcases hc with rfl|hc
 ·rw[a]at e;cases e
 ·rw[a]at hc;cases hc
theorem zxr{E:XK}{μ:List Addr}{H:Hp}{σ:qb}{n:Nat}{a:Addr}{y:D}{v:V}{Q:VK}(r:Rel T μ H σ)(hn:μ[n]?=some a)(hy:Rep T μ H y v)(h:Mb T E (Rep T) μ H (Jn (.ref n) [y] σ) Q):WI (.ref a) [v] H Q:=
 hD E μ H σ (.ref n) [y] (.ref a) [v] Q r (by rw[Rep];exact⟨a,rfl,hn⟩) (Ta.cons hy Ta.nil) h
theorem uF{a b:Type}{m m':M a}{k:a->M b}{σ:qb}(h:m σ=m' σ):Wc m k σ=Wc m' k σ:=by unfold Wc;rw[h]
theorem MH{b c d:Type}{m:M b}{k:b->M c}{l:c->M d}:Wc (Wc m k) l=Wc m λa=>Wc (k a) l:=by
 funext e;unfold Wc;cases m e<;>rfl
end
def jz(x y:D):M D:=λa=>match Fg a x,Fg a y with
 |some xs,some b=>if xs.length+b.length<=Wi then .ok (.lst (xs++b)) a else .bad
 |_,_=>.bad
def Ch(x y:D):M D:=match x,y with
 | .int i,.int j=>ret (.int (i+j))
 | .tup xs,.tup c=>if xs.length+c.length<=Wi then ret (.tup (xs++c))else bad
 | .str a,.str b=>if a.length+b.length<=100000 then ret (.str (a++b))else bad
 |x,y=>jz x y
theorem A6{n:Nat}(h:n<=100000):n<=sizeLine:=cc h (by decide)
section
variable{T:Tb}{X:Cx}{a b c:Ca}{fa fb fc:Ev->M D}{pos:re}
theorem g4{prog:Aa}{w:Ia}{A:Fa}{F:Value->aa->Prop}{s:aa}{t b:Addr}{k:List Value}{Q:Value->aa->Prop}(ht:Hu s.heap t (#[]:Array Value))(hb:Hu s.heap b k.toArray)(h1:Q (.ref b) s):wpAny (model prog w) A (Gf .Add (.ref t) (.ref b)) Q F s:=by
 obtain⟨⟨cls,l,i,o⟩,j,hc,n,hd⟩:=id ht;obtain⟨⟨h,f,e,g⟩,d,a,m,c⟩:=id hb;simp only at hc hd a c;subst hc hd a c;exact Nv ⟨_,j,rfl⟩ ⟨_,d,rfl⟩ sq au Hi li (Zh _ _)
  (tuple_addW0 t b #[] k.toArray n m l f o g rfl) ⟨j,d,h1⟩
theorem YG{E:XK}{μ:List Addr}{H:Hp}{σ:qb}{x y:D}{v u:V}{g f:Value}{Q:VK}{b:List (Addr × Bc)}{s:aa}{e:St}(I:Inv X b e H s)(m:Ed v g)(k:Ed u f)(r:Rel T μ H σ)(j:Rep T μ H x v)(hy:Rep T μ H y u)(a:Mb T E (Rep T) μ H (jz x y σ) Q) :
  wpAny (model X.prog X.w) X.A (Gf .Add g f) (EP X b e Q) X.xe s:=by
 unfold jz at a;cases c:Fg σ x with
 |none=>rw[c]at a;exact a.elim
 |some xs=>
  cases d:Fg σ y with
  |none=>rw[c,d]at a;exact a.elim
  |some t=>
   rw[c,d]at a;dsimp only at a;by_cases hc:xs.length+t.length<=Wi
   ·rw[ia hc]at a;obtain⟨p,n,rfl,h1,h⟩:=r.ls j c;obtain⟨q,o,rfl,h3,h4⟩:=r.ls hy d;exact Z9 b s e H _ _ g f Q I m k ⟨p,q,n,o,rfl,rfl,h1,h3,by rw[<-h.length,<-h4.length];exact bB hc,λl i=>cF a r (Ta.append h h4) i⟩
   ·rw[qa hc]at a;exact a.elim
theorem ycq(O:T.K=X.K):Bi X (Gf .Add) (rD T Ch):=by
 intro d s w H v u A z Q I k g h;obtain⟨E,S,U,x,y,r,f,hy,c⟩:=h;cases x with
 |int i=>
  cases y with
  |int j=>exact E7 d s w H v u A z Q I k g ⟨i,j,Qq f,Qq hy,Mb.here c r (by rw[Rep])⟩
  |_=>exact YG I k g r f hy c
 |str a=>
  cases y with
  |str b=>
   unfold Ch at c;dsimp only at c;by_cases hc:a.length+b.length<=100000
   ·rw[ia hc]at c;exact L7 d s w H v u A z Q I k g ⟨a,b,by simpa [Rep]using f,by simpa [Rep]using hy,A6 hc,Mb.here c r (by rw[Rep])⟩
   ·rw[qa hc]at c;exact c.elim
  |_=>exact YG I k g r f hy c
 |tup xs=>
  cases y with
  |tup C=>
   unfold Ch at c;dsimp only at c;by_cases hc:xs.length+C.length<=Wi
   ·rw[ia hc]at c;have o:=f;have t:=hy;rw[Rep]at f hy;obtain⟨p,M,rfl,h1,n⟩:=f;obtain⟨q,N,rfl,h3,h4⟩:=hy;cases M with
    |nil=>
     have m:xs=[]:=by have:=n.length;simpa using this
     subst m;cases k;cases g;obtain⟨F,G,J,_⟩:=L2.Inv.tuple I (Ah.of (K:=X.K) h1);obtain⟨B,P,L,_⟩:=L2.Inv.tuple I (Ah.of (K:=X.K) h3);cases G;exact g4 J L ⟨.ref q,H,I,rfl,Mb.here c r (by simpa using t)⟩
    |cons v0 R=>
     refine M5 d s w H _ _ A z Q I k g ⟨p,q,_,N,rfl,rfl,Ah.of h1,Ah.of h3,by simp,?_,λe=>?_,λe l D=>?_⟩
     ·rw[<-n.length,<-h4.length];exact bB hc
     ·subst e;have m:C=[]:=by have:=h4.length;simpa using this
      subst m;exact Mb.here c r (by simpa using o)
     ·exact NA c r (Ta.append n h4) D
   ·rw[qa hc]at c;exact c.elim
  |_=>exact YG I k g r f hy c
 |_=>exact YG I k g r f hy c
noncomputable def GL(a:D->D->M D)(c:M D)(y:D):D->M D:=qy (pk (Wc c (a y)) (ret (.bl false)))
def dJ(o a:D->D->M D)(c:M D)(x y:D):M D:=Wc (o x y) (GL a c y)
def cJ(o a:D->D->M D)(b c:M D)(x:D):M D:=Wc b (dJ o a c x)
def OK(o e:D->D->M D)(a b c:Ev->M D):Ev->M D:=λd=>Wc (a d) (cJ o e (b d) (c d))
theorem bZ{j d:Hq}{r L:R2}{o J:D->D->M D}(V:Bi X (Wb j) r)(Z:gm T r o)(g:Bi X (Wb d) L)(i:gm T L J)(U:FE T X a fa)(hb:FE T X b fb)(hc:FE T X c fc)
  (hm:lastMarks [j,d] [b,c]=false:=by with_unfolding_all rfl):FE T X (.Compare a [j,d] [b,c] pos) (OK o J fa fb fc):=by
 intro e s st H Q I h;refine dX V g U hb hc hm e s st H Q I ?_;obtain⟨μ,q,σ,f,Y,W⟩:=h;refine⟨μ,q,σ,f,Y,W.bind λx t l v H1 _ E r1 q1 p1=>⟨l,q,t,f.mono E,r1,p1.bind λy A m w O _ F r2 K p2=>?_⟩⟩;refine Z _ m O A x y v w _ r2 (Rep.mono F _ _ q1) K (p2.bind λz B n u H3 _ G N q3 p3=>?_);obtain⟨k,rfl,S,p4⟩:=CG q3 p3;refine⟨k,S,?_⟩;cases k with
 |true=>
  unfold pk at p4;rw[ia rfl]at p4 ⊢;exact⟨n,q,B,((f.mono E).mono F).mono G,N,p4.bind λz C p u5 P _ R r5 q5 p5=>i _ p P C y z w u5 Q r5 (Rep.mono R _ _ (Rep.mono G _ _ K)) q5 p5⟩
 |false=>unfold pk at p4;rw[qa Xa]at p4 ⊢;exact Mb.here p4 N (by rw[Rep])
theorem kf{k:Nat}{A:Fa}(a:jd k A):A.units+9<cLine:=by have:=a.un;omega
end
def Jg(K:W.Frag)(mg:Str->Option Value)(x:Str)(c:Stmt)(ps:List Str):Prop:=
 ∃ f b,mg x=some (.ref f)/\Jy K x x c f b/\∀ a:List Value,a.length=ps.length->bindArgs b ⟨a,[]⟩=pure (ps.zip a)
def zf(T:Tb)(P:Aa)(w:Ia)(mg:Str->Option Value)(base:Heap)(k:Nat)(x:Str)(ps:List Str)(fn:List D->M D):Prop:=
 ∃ f b,mg x=some (.ref f)/\W.keepIn T.K (.ref f)=true/\(∀ a:List Value,a.length=ps.length->bindArgs b ⟨a,[]⟩=pure (ps.zip a))/\ph P w T.K mg base (Xk P w) k f b ps (Eo T ps.length fn)
section
variable{T:Tb}{X:Cx}
theorem TY{k:Nat}{ps:List Str}{fn:List D->M D}{x:Str}{p pos:re}{e:Ca}{a:List Ca}{fs:Ev->M (List D)}(h:zf T X.prog X.w X.mg X.base k x ps fn)(i:T.K=X.K)(m:jd k X.A)(hg:Gl X x)
  (j:FA T X (e::a) fs) (b:(x == ("__debug__" : Str))=false:=by decide) (l:pa (e::a) X.env=(false,Ib e X.env)::pa a X.env:=by rfl) (c:(nc pos (pa a X.env)).any (·.1)=false:=by rfl) :
  FE T X (.Call (.Name x p) (e::a) [] pos) (md ps.length fn [] fs):=by
 obtain⟨f,n,hm,g,hb,d⟩:=h;rw[i]at g d;exact VP (dds:=[]) (dvs:=[]) d m hg hm g (.all hb) .nil (λ_ _=>Ta.nil) j b l c
variable{P:Aa}{w:Ia}{K:W.Frag}{mg:Str->Option Value}{base:Heap}{ca:Nat->Addr}{tx:Tx}
theorem kK{k:Nat}{x:Str}{b:Stmt}{ps N:List Str}{g:Ev->M Fl}(h:Jg K mg x b ps)(S:ua N ps (kc b))
  (hb:∀ (f:Addr) (a:Value) (A:Fa) (outer:List Hg) (s:aa) (H:Hp) (E:XK),jd k (A.deeper (ag x (kc b) s.heap.objs.size f a))->Hn ⟨K,ca,tx⟩ (zp (Xk P w) P w K mg base N x (kc b) f a A outer s H E) (Yi b) g) :
  zf ⟨K,ca,tx⟩ P w mg base (k+1) x ps (run N.length g):=by
 obtain⟨f,m,hm,F,c⟩:=h;obtain⟨n,o,kV,e,p,l,a,ct,j,rfl,i,d⟩:=F.ex;exact⟨f,_,hm,F.kp,c,fB i d S (hb f a)⟩
theorem zf.Hb{k:Nat}{x:Str}{ps:List Str}{fn:List D->M D}(h:zf T P w mg base k x ps fn):zf T P w mg base k x ps (λa=>L4.Hb (fn a)):=by
 obtain⟨f,b,h1,c,h3,h4⟩:=h;exact⟨f,b,h1,c,h3,wF h4⟩
theorem uS{h:Heap}{x:Str}{e:Stmt}{ps:List Str}{f:Addr}{m:Value}{od g:Option Addr}{j:Array (Option Value)}{kV d i b ct:Value}(X:K.In h)(G:h.Ns mainGlobals mg)
  (hb:∀ (kV d i:Value) (g:Option Addr) (b ct:Value) (us:List Value),us.length=ps.length->bindArgs (W.fnOf x x (Yn e) (Yi e) (kc e) .none kV d i g b ct) ⟨us,[]⟩=pure (ps.zip us))
  (a:W.nsIn K mainGlobals x=some (some (.ref f))) (l:K.lookup f=some ⟨m,od,.func (W.fnOf x x (Yn e) (Yi e) (kc e) .none kV d i g b ct),j⟩)
  (c:W.codeIn K b x=true) (k:W.keepIn K (.ref f)=true):Jg K mg x e ps:=
 ⟨f,_,W.mg_of X G a,iS l c k,hb kV d i g b ct⟩
theorem x4{h:Heap}{x:Str}{i:Int}{t:Tok}(X:K.In h)(G:h.Ns mainGlobals mg)(a:W.nsIn K mainGlobals x=some (some (.int i t))):∃ t,mg x=some (.int i t):=⟨t,W.mg_of X G a⟩
end
def zI(T:Tb)(P:Aa)(w:Ia)(mg:Str->Option Value)(k:Nat)(x:Str)(ps:List Str)(fn:List D->M D):Prop:=
 ∃ f b,mg x=some (.ref f)/\(∀ a:List Value,a.length=ps.length->bindArgs b ⟨a,[]⟩=pure (ps.zip a))/\∀ base:Heap,ph P w T.K mg base (Xk P w) k f b ps (Eo T ps.length fn)
theorem P6{P:Aa}{w:Ia}{K:W.Frag}{mg:Str->Option Value}{ca:Nat->Addr}{tx:Tx}{k:Nat}{x:Str}{b:Stmt}{ps N:List Str}{g:Ev->M Fl}(h:Jg K mg x b ps)(S:ua N ps (kc b))
  (hb:∀ (base:Heap) (f:Addr) (a:Value) (A:Fa) (outer:List Hg) (s:aa) (H:Hp) (E:XK),jd k (A.deeper (ag x (kc b) s.heap.objs.size f a))->Hn ⟨K,ca,tx⟩ (zp (Xk P w) P w K mg base N x (kc b) f a A outer s H E) (Yi b) g) :
  zI ⟨K,ca,tx⟩ P w mg (k+1) x ps (run N.length g):=by
 obtain⟨f,m,hm,F,c⟩:=h;obtain⟨n,o,kV,e,p,l,a,ct,j,rfl,i,d⟩:=F.ex;exact⟨f,_,hm,c,λbase=>fB i d S (hb base f a)⟩
section
variable{T:Tb}{X:Cx}
end
structure Hd where
 t:Nat->Option Bool
 nm:Option Nat
 g:Ev->M Fl
def VT(i:Nat):Fl->M Fl
 | .nx a=>ret (.nx (a.set i none))
 | .rt d=>ret (.rt d)
 | .bk a=>ret (.bk (a.set i none))
 | .ct a=>ret (.ct (a.set i none))
 | .xc _ _=>bad
def QQ:Fl->M Fl
 | .nx a=>ret (.nx a)
 | .rt d=>ret (.rt d)
 | .bk a=>ret (.bk a)
 | .ct a=>ret (.ct a)
 | .xc _ _=>bad
def hit(h:Hd)(ρ:Ev)(x:Xn):M Fl:=match h.nm with
 |none=>Wc (h.g ρ) QQ
 |some i=>Wc (h.g (ρ.set i (some (.Jt x.cls)))) (VT i)
def ED(ρ:Ev)(x:Xn):List Hd->M Fl
 |[]=>bad
 |h::r=>match h.t x.cls with
  |some true=>hit h ρ x
  |some false=>ED ρ x r
  |none=>bad
def WE(b:List Hd):Fl->M Fl
 | .xc a x=>ED a x b
 | .nx a=>ret (.nx a)
 | .rt d=>ret (.rt d)
 | .bk a=>ret (.bk a)
 | .ct a=>ret (.ct a)
def ZK(g:Ev->M Fl)(a:List Hd):Ev->M Fl:=λb=>Wc (g b) (WE a)
abbrev Cx.Uu(X:Cx)(e:Value):Cx:={ X with A:=X.A.mark (some e),calm:=false,xe:=λ_ _=>False }
abbrev Cx.OF(X:Cx)(a:List (Addr × Bc))(xe:Value->aa->Prop):Cx:={ X with xe:=xe,pn:=X.pn++a }
section
variable{T:Tb}{X:Cx}{pins:List (Addr × Bc)}{st:St}{H:Hp}{s:aa}{e:Value}{xe:Value->aa->Prop}
theorem yam(I:Inv X pins st H s):Inv (Cx.OF X pins xe) [] st H s:=
 ⟨⟨I.ok.mod,I.ok.kind,I.ok.glob,I.ok.blt,I.ok.above,I.ok.inj,I.ok.has,I.ok.uy,I.ok.hd,I.ok.frames,I.ok.Np,I.ok.iA,I.ok.bs,I.ok.Os,I.ok.Xq,I.ok.ar,I.ok.Ij,I.ok.Yu⟩,I.os,I.bare,I.base,I.loc,I.cell,I.free,I.rg,λp a=>I.pin p (by simpa using a),I.dc,I.len⟩
theorem BC{b:List (Addr × Bc)}(I:Inv (Cx.OF X pins xe) b st H s):Inv X pins st H s:=
 ⟨⟨I.ok.mod,I.ok.kind,I.ok.glob,I.ok.blt,I.ok.above,I.ok.inj,I.ok.has,I.ok.uy,I.ok.hd,I.ok.frames,I.ok.Np,I.ok.iA,I.ok.bs,I.ok.Os,I.ok.Xq,I.ok.ar,I.ok.Ij,I.ok.Yu⟩,I.os,I.bare,I.base,I.loc,I.cell,I.free,I.rg,λp a=>I.pin p (Qa _ a),I.dc,I.len⟩
theorem xE(I:Inv X pins st H s):Inv (Cx.Uu X e) pins st H s:=
 ⟨⟨I.ok.mod,I.ok.kind,I.ok.glob,I.ok.blt,I.ok.above,I.ok.inj,I.ok.has,I.ok.uy,λz=>(by cases z),I.ok.frames,I.ok.Np,I.ok.iA,I.ok.bs,I.ok.Os,I.ok.Xq,I.ok.ar,I.ok.Ij,I.ok.Yu⟩,I.os,I.bare,I.base,I.loc,I.cell,I.free,I.rg,I.pin,I.dc,I.len⟩
theorem nD(ok:X.Ok)(I:Inv (Cx.Uu X e) pins st H s):Inv X pins st H s:=
 ⟨ok,I.os,I.bare,I.base,I.loc,I.cell,I.free,I.rg,I.pin,I.dc,I.len⟩
theorem IU{D:Ends}{f:Flow}{s':aa}(h:SP (Cx.OF X pins xe) [] D f s'):SP X pins D f s':=by
 cases f with
 |next=>obtain⟨a,b,I,q⟩:=h;exact⟨a,b,BC I,q⟩
 |brk=>obtain⟨a,b,I,q⟩:=h;exact⟨a,b,BC I,q⟩
 |cont=>obtain⟨a,b,I,q⟩:=h;exact⟨a,b,BC I,q⟩
 |ret u=>obtain⟨v,a,b,I,r,q⟩:=h;exact⟨v,a,b,BC I,r,q⟩
theorem D4(ok:X.Ok){D:Ends}{f:Flow}{s':aa}(h:SP (Cx.Uu X e) pins D f s'):SP X pins D f s':=by
 cases f with
 |next=>obtain⟨a,b,I,q⟩:=h;exact⟨a,b,nD ok I,q⟩
 |brk=>obtain⟨a,b,I,q⟩:=h;exact⟨a,b,nD ok I,q⟩
 |cont=>obtain⟨a,b,I,q⟩:=h;exact⟨a,b,nD ok I,q⟩
 |ret u=>obtain⟨v,a,b,I,r,q⟩:=h;exact⟨v,a,b,nD ok I,r,q⟩
end
def Cu(X:Cx)(a:List (Addr × Bc))(e:St)(H:Hp)(s:aa)(c:Addr)(cls:Value)(d:Option Nat):Prop:=∃ b s0,Inv X a e b s0/\vz X.prog X.w X.stack b s0 cls d H (.ref c) s
section
variable{T:Tb}{X:Cx}{pins:List (Addr × Bc)}{st:St}{H:Hp}{s:aa}{ea:Addr}{cls:Value}{fd:Option Nat}
theorem Cu.inv(L:Cu X pins st H s ea cls fd):Inv X pins st H s:=by
 obtain⟨a,s0,I,F⟩:=L;exact L2.Inv.Dv (ch:=[]) I F.os F.un F.dc F.bare λb z=>absurd z (by simp)
theorem Cu.next(L:Cu X pins st H s ea cls fd){M:Ll}{A:Fa}{E:Value->aa->Prop}{Q:Unit->aa->Prop}(h:∀ s',Cu X pins st H s' ea cls fd->Q () s'):wpAny M A (zi (.ref ea) none) Q E s:=by
 obtain⟨k,s0,I,F⟩:=L;obtain⟨m,l,B,e,f,hn,b,j,i,g,n⟩:=F.ex;cases e;refine bJ f λp a d c=>h _ ?_;obtain⟨un,dc⟩:=jJ F i j g f.1 a.1 d (iK I);exact⟨k,s0,I,⟨ea,l,B,rfl,a,hn,b,j,i,g,n.next c (let ⟨o,e,_⟩:=a.there;⟨o,e⟩)⟩,F.os,F.bare,un,dc⟩
theorem Cu.obj(L:Cu X pins st H s ea cls fd):H ea=none/\(∃ o,s.heap.get? ea=some o/\o.cls=cls)/\∃ s0:aa,s0.heap.get? ea=none/\∃ b,Inv X pins st b s0:=by
 obtain⟨b,s0,I,F⟩:=L;obtain⟨c,f,B,e,d,hn,a,j,h,g,i⟩:=F.ex;cases e;exact⟨hn,d.there,s0,a,b,I⟩
theorem FJ{l:Hp}{s0:aa}{a:Addr}{o:Bc}{φ:Heap->Prop}(I:Inv X pins st H s)(f:Inv X pins st l s0)(d:s0.heap.get? a=none)(hn:H a=none)(t:s.heap.get? a=some o)(i:φ s.heap)
  (w:∀ h1 j:Heap,φ h1->(∀ u,h1.get? a=some u->j.get? a=some u)->φ j):Inv X pins st (upd H a (.ext φ)) s:=by
 have ne:∀ b u,s0.heap.get? b=some u->b≠a:=λb u e z=>by rw[z,d]at e;cases e
 have nt:∀ b u,H b=some u->b≠a:=λb u e z=>by rw[z,hn]at e;cases e
 have y:∀ b u,X.s₀.heap.get? b=some u->b ∉ X.ex->b≠a:=λb u e g=>by obtain⟨F,r⟩:=f.base.there b u e g;exact ne b F r
 refine⟨I.ok,I.os,I.bare,⟨I.base.keep,I.base.slot,λb u e n g=>?_,I.base.there,λb xs e=>?_,λb A u e=>?_,λb E e=>?_⟩,I.loc,I.cell,?_,λx c e=>?_,λp k=>?_,λb u e=>?_,I.len⟩
 ·rw[Qd (y b u e g)];exact I.base.free b u e n g
 ·have q:=I.base.Gi b xs e;rw[Qd (nt b _ q)];exact q
 ·have q:=I.base.vh b A u e;rw[Qd (nt b _ q)];exact q
 ·obtain⟨more,q⟩:=I.base.di b E e;exact⟨more,by rw[Qd (nt b _ q)];exact q⟩
 ·obtain⟨m,⟨u,_,_,h,_⟩,_⟩:=f.loc;rw[Qd (ne _ u h)];exact I.free
 ·obtain⟨v,u,h,_⟩:=f.cell x c e;rw[Qd (ne _ u h)];exact I.rg x c e
 ·obtain⟨B,C,D⟩:=I.pin p k;refine⟨B,?_,D⟩;rw[Qd (ne _ _ (f.pin p k).1)];exact C
 ·by_cases hb:b=a
  ·subst hb;rw[Og]at e;cases e;exact⟨i,⟨o,t⟩,w⟩
  ·rw[Qd hb]at e;exact(I.dc b u e).zk (λc v _ q=>q) (λc q=>by rw[Qd (nt c _ q)];exact q) λc xs q=>by rw[Qd (nt c _ q)];exact q
theorem LR{C a:Addr}{b:Option Addr}:∀ h1 h2:Heap,Hy C b a h1->(∀ u,h1.get? a=some u->h2.get? a=some u)->Hy C b a h2:=λh1 h2 ⟨u,c,q⟩ k=>⟨u,k u c,q⟩
theorem zvf{a:Addr}{n:Nat}:∀ h1 h2:Heap,GC a n h1->(∀ u,h1.get? a=some u->h2.get? a=some u)->GC a n h2:=λh1 h2 ⟨u,b,q⟩ k=>⟨u,k u b,q⟩
theorem Cu.OC(L:Cu X pins st H s ea (.ref C) fd):∃ t f,Inv X pins st f s/\f ea=some (.ext (Hy C t ea))/\(∀ n,fd=some n->∃ a,t=some a/\H a=none/\f a=some (.ext (GC a n)))/\(∀ b u,H b=some u->f b=some u)/\∀ b u,f b=some u->H b=some u\/H b=none:=by
 have I:=L.inv;obtain⟨M,s0,k,F⟩:=L;obtain⟨D,N,B,e,i,hn,c,Q,P,O,E⟩:=F.ex;cases e;obtain⟨o,d,hc⟩:=i.there;cases p:fd with
 |none=>
  have l:=FJ (φ:=Hy C none ea) I k c hn d ⟨o,d,hc,λ_ z=>by cases z⟩ LR;refine⟨none,_,l,Og,(λn q=>by cases q),λb u e=>?_,λb u e=>?_⟩
  ·rw[Qd (λz=>by rw[z,hn]at e;cases e)];exact e
  ·by_cases hb:b=ea
   ·rw[hb];exact .inr hn
   ·rw[Qd hb]at e;exact .inl e
 |some n=>
  obtain⟨a,v,w,x,G,y,J,j,K⟩:=E n p;have r:w=o:=by rw[d]at x;cases x;rfl
  subst r;have g:=i.1 a v y;have h:a≠ea:=λz=>by
   have:=i.2.1;rw[<-z,y]at this;cases this
  have l:=FJ (φ:=Hy C (some a) ea) I k c hn d ⟨w,d,hc,λ_ z=>by cases z;exact⟨G,i.iJ d⟩⟩ LR;have A:=FJ (φ:=GC a n) l k K (by rw[Qd h];exact j) g ⟨v,g,J⟩ zvf;refine⟨some a,_,A,by rw[Qd (Ye h)];exact Og,λm q=>?_,λb u e=>?_,λb u e=>?_⟩
  ·cases q;exact⟨a,rfl,j,Og⟩
  ·rw[Qd (λz=>by rw[z,j]at e;cases e),Qd (λz=>by rw[z,hn]at e;cases e)];exact e
  ·by_cases hd:b=a
   ·rw[hd];exact .inr j
   ·rw[Qd hd]at e;by_cases hb:b=ea
    ·rw[hb];exact .inr hn
    ·rw[Qd hb]at e;exact .inl e
theorem cW(I:Inv X pins st H s)(l:X.stack=X.env::X.outer)(x:X.env.frame=some X.env.locals){s':aa}{p:Hp}{e:Value}(F:vz X.prog X.w X.stack H s cls fd p e s'){M:Ll}{E:Value->aa->Prop}{Q:Value->aa->Prop}
  (h:∀ ea d,e=.ref ea->Cu X pins st p d ea cls fd->Q e d):wpAny M X.A (Ig e X.env) (λ_ s2=>wpAny M X.A (zi e none) (λ_ y=>Q e y) E s2) E s':=by
 obtain⟨ea,f,B,rfl,q,hn,c,u,t,r,v⟩:=F.ex;have j:Tq B (X.env::X.outer) ea cls f s'.heap:=by rw[<-l];exact q
 refine LS (by rw[<-l];exact I.ok.frames) x j λh4 b m g=>?_;refine bJ (AM b) λh5 k n i=>h ea _ rfl ?_;have a:Tq B X.stack ea cls f h5:=by rw[l];exact k
 obtain⟨un,dc⟩:=jJ F t u r q.1 a.1 (m.trans n) (iK I);exact⟨H,s,I,⟨ea,f,B,rfl,a,hn,c,u,t,r,v.next (g.trans i) (let ⟨o,e,_⟩:=a.there;⟨o,e⟩)⟩,F.os,F.bare,un,dc⟩
end
def oH(X:Cx)(x:Str)(cv:Value):Prop:=X.mg x=some cv\/(X.mg x=none/\bootBuiltins x=some cv/\x ≠ "__name__")
inductive jA(T:Tb)(X:Cx):List qg->List Hd->Prop where
 |nil {r:List qg}:jA T X r []
 |cons {x:Str} {np pos:re} {cv:Value} {b₀:Stmt} {suite:List Stmt} {t:Nat->Option Bool} {g:Ev->M Fl} {r:List qg} {hs:List Hd} (hg:Gl X x) (hd:(x == ("__debug__" : Str))=false) (hm:oH X x cv) (ht:∀ c b,t c=some b->W.exmOne X.K (.ref (T.ca c)) cv=some b)
   (hb:∀ e,Hn T (Cx.Uu X e) (b₀::suite) g) (hr:jA T X r hs):jA T X (.ExceptHandler (some (.Name x np)) none (b₀::suite) pos::r) (⟨t,none,g⟩::hs)
 |nz {x n:Str} {i:Nat} {np pos:re} {cv:Value} {b₀:Stmt} {suite:List Stmt} {t:Nat->Option Bool} {g:Ev->M Fl} {r:List qg} {hs:List Hd} (hg:Gl X x) (hd:(x == ("__debug__" : Str))=false) (hm:oH X x cv) (ht:∀ c b,t c=some b->W.exmOne X.K (.ref (T.ca c)) cv=some b)
   (hN:X.N.Nodup) (hi:X.N[i]?=some n) (hl:X.env.scope.names.lookup n=some .local)
   (hb:∀ e,Hn T (Cx.Uu X e) (b₀::suite) g) (hr:jA T X r hs):jA T X (.ExceptHandler (some (.Name x np)) (some n) (b₀::suite) pos::r) (⟨t,some i,g⟩::hs)
section
variable{T:Tb}{X:Cx}
theorem iP{a:List (Addr × Bc)}{c:St}{H:Hp}{s:aa}{x:Str}{cv:Value}{pos:re}{E:Value->aa->Prop}{Q:Value->aa->Prop}(I:Inv X a c H s)(hg:Gl X x)(hd:(x == ("__debug__" : Str))=false)(hm:oH X x cv)(h:Q cv s):wpAny (model X.prog X.w) X.A (Ib (.Name x pos) X.env) Q E s:=by
 rcases hm with hm|⟨hm,b,hn⟩
 ·exact DA I hg hm h hd
 ·exact Ry I hg hm b h hn hd
theorem zvd{e:Value}{μ:List Addr}{H:Hp}{o:Out Fl}{D:Ends}(c:Mb T EN (Xl T) μ H (o.bind QQ) (Rk X D)):Mb T EN (Xl T) μ H o (Rk (Cx.Uu X e) D):=by
 cases o with
 |bad=>exact c
 |ex x σ=>exact c
 |ok i σ=>
  intro a gl d f g b;cases i with
  |nx h=>cases gl with
   |nx st=>exact c a (.nx st) d f g b
   |_=>exact b.elim
  |rt h=>cases gl with
   |rt st=>exact c a (.rt st) d f g b
   |_=>exact b.elim
  |bk h=>cases gl with
   |bk st=>exact c a (.bk st) d f g b
   |_=>exact b.elim
  |ct h=>cases gl with
   |ct st=>exact c a (.ct st) d f g b
   |_=>exact b.elim
  |xc h x=>exact c.elim
theorem KH{μ:List Addr}{H:Hp}{ρ:Ev}{a:St}(h:wh T μ H ρ a)(i:Nat):wh T μ H (ρ.set i none) (a.set i none):=by
 refine⟨by simpa using h.1,λj d q=>?_⟩;rw[Dc]at q;by_cases hj:i=j
 ·subst hj;rw[ia rfl]at q;split at q<;>cases q
 ·rw[qa hj]at q;obtain⟨v,h1,b⟩:=h.2 j d q;exact⟨v,by rw[Dc,qa hj];exact h1,b⟩
theorem I0{e:Value}{μ:List Addr}{H:Hp}{o:Out Fl}{D:Ends}{i:Nat}(d:Mb T EN (Xl T) μ H (o.bind (VT i)) (Rk X D)):Mb T EN (Xl T) μ H o (Rk (Cx.Uu X e) ⟨λa H=>D.nx (a.set i none) H,D.rt,λa H=>D.bk (a.set i none) H,λa H=>D.ct (a.set i none) H⟩):=by
 cases o with
 |bad=>exact d
 |ex x σ=>exact d
 |ok k σ=>
  intro b gl f g h c;cases k with
  |nx j=>cases gl with
   |nx a=>exact d b (.nx (a.set i none)) f g h (KH c i)
   |_=>exact c.elim
  |rt j=>cases gl with
   |rt a=>exact d b (.rt a) f g h c
   |_=>exact c.elim
  |bk j=>cases gl with
   |bk a=>exact d b (.bk (a.set i none)) f g h (KH c i)
   |_=>exact c.elim
  |ct j=>cases gl with
   |ct a=>exact d b (.ct (a.set i none)) f g h (KH c i)
   |_=>exact c.elim
  |xc j x=>exact d.elim
theorem PU{a:List (Addr × Bc)}{K:St}{H:Hp}{s:aa}{n:Str}{i t:Nat}{h':Heap}{m:Str->Option Value}(I:Inv X a K H s)(hN:X.N.Nodup)(R:X.N[i]?=some n)(hl:X.env.scope.names.lookup n=some .local)(hn:s.heap.Ns X.env.locals m){w:Option Value}(D:h'.Ns X.env.locals λy=>if y=n then w else m y)(d:Of X.env.locals s.heap h'):Inv X a (K.set i none) H { s with heap:=h',toks:=t }:=by
 have f:∀ b o,X.s₀.heap.get? b=some o->b≠X.env.locals:=λb o e=>Ea (Ja (za e) I.ok.above);obtain⟨F,C,l⟩:=I.loc;have M:F=m:=by
  obtain⟨o,es,ep,T,hd,hk,Q⟩:=C;obtain⟨G,P,O,x,h,S,B⟩:=hn;rw[T]at x;cases x;rw[hd]at h;cases h;funext y;rw[<-Q y,<-B y]
 subst M;refine⟨I.ok,I.os,I.bare,⟨λb o e n hb A=>(d.2 b (f b o e)).trans (I.base.keep b o e n hb A),λb o e n hb A=>?_,I.base.free,λb o e A=>?_,I.base.Gi,I.base.vh,I.base.di⟩,⟨_,D,λj y v E g L=>?_⟩,λy c e=>?_,I.free,I.rg,λp U=>?_,yH I.dc λb o u e q=>?_,by simpa using I.len⟩
 ·obtain⟨sl,q⟩:=I.base.slot b o e n hb A;exact⟨sl,(d.2 b (f b o e)).trans q⟩
 ·obtain⟨G,q⟩:=I.base.there b o e A;exact⟨G,(d.2 b (f b o e)).trans q⟩
 ·rw[Dc]at g;by_cases hj:i=j
  ·subst hj;rw[ia rfl]at g;split at g<;>cases g
  ·rw[qa hj]at g;obtain⟨u,r,V⟩:=l j y v E g L;refine⟨u,r,?_⟩;have hy:y≠n:=λz=>hj (TJ hN R (z ▸ E));rcases V with⟨k,q⟩|⟨k,c,q,z⟩
   ·exact .inl ⟨k,by show (if y=n then w else F y)=some u;rw[qa hy];exact q⟩
   ·exact .inr ⟨k,c,q,z.sameBut d (I.px y c q)⟩
 ·obtain⟨v,z⟩:=I.cell y c e;exact⟨v,z.sameBut d (I.px y c e)⟩
 ·obtain⟨W,Y,J,Z⟩:=I.pin p U;exact⟨(d.2 p.1 J).trans W,Y,J,Z⟩
 ·exact(d.2 b λz=>by rw[z,I.free]at e;cases e).trans q
theorem T4{D:Ends}{c:List (Addr × Bc)}{G:St}{H:Hp}{d:Addr}{x:Xn}{μ:List Addr}{ρ:Ev}{σ:qb}{Y:List qg}{hs:List Hd}(h:jA T X Y hs)(hE:wh T μ H ρ G)(hr:Rel T μ H σ)(j:Mb T EN (Xl T) μ H (ED ρ x hs σ) (Rk X D)) :
  ∀ s,Cu X c G H s d (T.cv x) (gC x.cls)->wpAny (model X.prog X.w) X.A (SL (.ref d) X.env Y) (SP X c D) X.xe s:=by
 induction h with
 |nil=>exact j.elim
 |@cons y np pos cv U R t g r hs hg hd hm ht hb P ih=>
  intro s L;have I:=L.inv;obtain⟨_,⟨o,ho,hc⟩,_⟩:=L.obj;refine dz (ax (iP (X:=Cx.Uu X (.ref d)) (xE I) hg hd hm ?_)) (by intro q;cases q);unfold ED at j;dsimp only at j;cases N:t x.cls with
  |none=>rw[N]at j;exact j.elim
  |some b=>
   rw[N]at j;have LT:W.Looks (model X.prog X.w) s.heap (Js (.ref d)) (T.cv x):=by rw[<-hc];exact(W.Looks.ld ho).andThen .now
   refine(W.exm_one I.mj LT (ht x.cls b N)).here ?_;cases b with
   |false=>exact ih j s L
   |true=>
    refine codeAny_handlers_suite (L.next λs' L'=>?_);exact bc (hb (.ref d) c s' G H D (xE L'.inv) ⟨μ,ρ,σ,hE,hr,zvd j⟩) (λf s2 q=>D4 I.ok q) λ_ _ z=>z.elim
 |@nz y n i np pos cv U R t g r hs hg hd hm ht hN hi hl hb P ih=>
  intro s L;have I:=L.inv;obtain⟨_,⟨o,ho,hc⟩,_⟩:=L.obj;refine dz (ax (iP (X:=Cx.Uu X (.ref d)) (xE I) hg hd hm ?_)) (by intro q;cases q);unfold ED at j;dsimp only at j;cases N:t x.cls with
  |none=>rw[N]at j;exact j.elim
  |some b=>
   rw[N]at j;have LT:W.Looks (model X.prog X.w) s.heap (Js (.ref d)) (T.cv x):=by rw[<-hc];exact(W.Looks.ld ho).andThen .now
   refine(W.exm_one I.mj LT (ht x.cls b N)).here ?_;cases b with
   |false=>exact ih j s L
   |true=>
    refine codeAny_handlers_suite_as (L.next λs' L'=>?_);have hn:H d=none:=L'.obj.1;obtain⟨dd,H1,I1,a2,a1,C,a5⟩:=Cu.OC L';have B:∀ b,b∈μ->∃ u,H b=some u:=λb z=>by obtain⟨u,E,_⟩:=hr.mem z;exact⟨u,E⟩
    have O:Ext μ H μ H1:=⟨⟨[],by simp⟩,λp xs e=>C _ _ e,λp o u e=>C _ _ e,λp o e n=>⟨⟨o,C _ _ e,.inl rfl⟩,n⟩⟩
    have out:d ∉ μ:=λz=>by obtain⟨u,E⟩:=B _ z;rw[hn]at E;cases E
    have rp:Rep T μ H1 (.Jt x.cls) (.ref d):=by
     rw[Rep];refine⟨d,dd,rfl,out,a2,λn q=>?_⟩;obtain⟨dN,z1,z2,z3⟩:=a1 n q;exact⟨dN,z1,λz=>(by obtain⟨u,E⟩:=B _ z;rw[z2]at E;cases E),z3⟩
    refine xL (X:=Cx.Uu X (.ref d)) (v:=.ref d) (xE I1) hN hi (.inl hl) rfl (λs2 I2=>?_) (.inr hl);refine bc (hb (.ref d) c s2 _ _ ⟨λG H=>D.nx (G.set i none) H,D.rt,λG H=>D.bk (G.set i none) H,λG H=>D.ct (G.set i none) H⟩ I2 ⟨μ,ρ.set i (some (.Jt x.cls)),σ,(hE.mono O).set i rp,hr.keep O (λa ha=>by obtain⟨u,E⟩:=B a ha;rw[C _ _ E,E]) (hr.tb.grow C),I0 (Mb.mono O j)⟩) (λf s3 q=>?_) λ_ _ z=>z.elim;have V:(X.env.scope.kind == .class || (X.env.scope.kind == .module && X.env.locals != X.env.globals))=false:=by rw[I.ok.kind];rfl
    have go:∀ {l:St} {K:Hp},Inv (Cx.Uu X (.ref d)) c l K s3->(∀ S,Inv X c (l.set i none) K S->SP X c D f S)->wpAny (model X.prog X.w) X.A (do bindName X.env n .none;unbindBehindTheSuite X.env n pos) (λ_ a0=>SP X c D f a0) X.xe s3:=fun {l K} F k=>by
     have J:=nD I.ok F;obtain⟨m,Z,_⟩:=id J.loc;exact wpAny_nameGoes_keeps hl Z V λh4 v4 a3 a4=>k _ (PU J hN hi hl Z a3 a4)
    cases f with
    |next=>obtain⟨l,K,F,Q⟩:=q;exact go F λS M=>⟨_,_,M,Q⟩
    |brk=>obtain⟨l,K,F,Q⟩:=q;exact go F λS M=>⟨_,_,M,Q⟩
    |cont=>obtain⟨l,K,F,Q⟩:=q;exact go F λS M=>⟨_,_,M,Q⟩
    |ret u=>obtain⟨v,l,K,F,r3,Q⟩:=q;exact go F λS M=>⟨v,_,_,M,r3,Q⟩
theorem B3{k:List Stmt}{h₀:qg}{h:List qg}{y:List Hd}{g:Ev->M Fl}{pos:re}(B:X.stack=X.env::X.outer)(S:X.env.frame=some X.env.locals)
  (hb:∀ a xe,vq (model X.prog X.w) X.A X.env xe->Hn T (Cx.OF X a xe) k g) (U:jA T X (h₀::h) y):FS T X (.Try k (h₀::h) [] [] pos) (ZK g y):=by
 intro a s i H D I Y;obtain⟨J,l,E,R,W,V⟩:=Y;refine wpAny_Try_except ?_;refine bc (hb a (λe o=>wpAny (model X.prog X.w) X.A (Ig e X.env) (λ_ p=>wpAny (model X.prog X.w) X.A (zi e none) (λ_ c=>wpAny (model X.prog X.w) X.A (SL e X.env (h₀::h)) (SP X a D) X.xe c) X.xe p) X.xe o) zaD [] s i H D (yam I)
  ⟨J,l,E,R,W,?_⟩) (λf s1 q=>?_) λ_ _ z=>z
 ·have b:Mb T EN (Xl T) J H ((g l E).bind (WE y)) (Rk X D):=V;cases eo:g l E with
  |bad=>rw[eo]at b;exact b
  |ex x G=>rw[eo]at b;exact b
  |ok P G=>
   rw[eo]at b;intro j gl r N n d;have m:=b.mono N;cases P with
   |nx l=>cases gl with
    |nx i=>exact m j (.nx i) r (Ext.refl _ _) n d
    |_=>exact d.elim
   |rt l=>cases gl with
    |rt i=>exact m j (.rt i) r (Ext.refl _ _) n d
    |_=>exact d.elim
   |bk l=>cases gl with
    |bk i=>exact m j (.bk i) r (Ext.refl _ _) n d
    |_=>exact d.elim
   |ct l=>cases gl with
    |ct i=>exact m j (.ct i) r (Ext.refl _ _) n d
    |_=>exact d.elim
   |xc a0 x=>cases gl with
    |xc Z cls fd=>
     obtain⟨v,rfl,rfl⟩:=d;refine⟨λp0 H0 s0 e s' K F=>?_⟩;exact cW (BC K) B S F (Q:=λe c=>wpAny (model X.prog X.w) X.A (SL e X.env (h₀::h)) (SP X a D) X.xe c) λea C O L=>by subst O;exact T4 U v n m C L
    |_=>exact d.elim
 ·have t:=IU q;cases f with
  |next=>exact sk t
  |brk=>exact t
  |cont=>exact t
  |ret u=>exact t
end
theorem PQ{T:Tb}{X:Cx}{q:Stmt}{i:Nat}{f:Ev->M D}(h:FS T X q (Af i f)):FS T X q (Af i (Mg f)):=by
 intro o s Q H D I O;obtain⟨r,c,g,C,w,N⟩:=O;refine h o s Q H D I ⟨r,c,g,C,w,?_⟩;have a:Mb T EN (Xl T) r H (xs c (Hb (f c)) (mD i c) g) (Rk X D):=N;show Mb T EN (Xl T) r H (xs c (f c) (mD i c) g) (Rk X D);unfold xs Hb at a;unfold xs;cases e:f c g with
 |bad=>rw[e]at a;exact a
 |ex x k=>
  rw[e]at a;unfold Eg at a;dsimp only at a ⊢;by_cases ht:k.take g.length=g
  ·rw[ia ht]at a;intro t gl u m y p;cases gl with
   |xc st1 J B=>
    obtain⟨E,z⟩:=Rel.down w y m ht;obtain⟨G,P⟩:=p;refine a r (.xc st1 J B) u z E ⟨⟨G.1,λj d b=>?_⟩,P⟩;obtain⟨v,h1,n⟩:=G.2 j d b;obtain⟨F,_,h4⟩:=C.2 j d b;exact⟨v,h1,Rep.down m.pre d F v h4 n⟩
   |_=>exact p.elim
  ·rw[qa ht]at a;exact a.elim
 |ok d k=>
  rw[e]at a;unfold Eg at a;dsimp only at a ⊢;by_cases ht:k.take g.length=g
  ·rw[ia ht]at a;cases A:fz g.length k 6 d with
   |none=>rw[A]at a;exact a.elim
   |some K=>
    rw[A]at a;intro t gl u m y p;cases gl with
    |nx st1=>
     obtain⟨E,z⟩:=Rel.down w y m ht;have l:wh T t u (c.set i (some d)) st1:=p;refine a r (.nx st1) u z E ⟨by simpa using l.1,λj x b=>?_⟩;rw[Dc]at b;by_cases hj:i=j
     ·subst hj;rw[ia rfl]at b;split at b
      ·rename_i L
       cases b;obtain⟨v,h1,n⟩:=l.2 i d (by rw[Dc,ia rfl,ia L]);exact⟨v,h1,MN m.pre y 6 d K v (by rw[w.len];exact A) n⟩
      ·cases b
     ·rw[qa hj]at b;obtain⟨v,h1,n⟩:=l.2 j x (by rw[Dc,qa hj];exact b);obtain⟨F,_,h4⟩:=C.2 j x b;exact⟨v,h1,Rep.down m.pre x F v h4 n⟩
    |_=>exact p.elim
  ·rw[qa ht]at a;exact a.elim
def MG:List D->Option (List Bool)
 |[]=>some []
 | .bl b::r=>(MG r).map (b::·)
 |_::_=>none
def Qt:List D->Option (List Int)
 |[]=>some []
 | .int b::r=>(Qt r).map (b::·)
 |_::_=>none
theorem cM{T:Tb}{μ:List Addr}{H:Hp}:∀ {ds:List D} {vs:List V} {bs:List Bool},Ta T μ H ds vs->MG ds=some bs->vs=bs.map V.bl
 |[],vs,bs,r,h=>by cases h;rw[Ta]at r;exact r
 |d::ds,vs,bs,r,h=>by
  rw[Ta]at r;obtain⟨v,w,rfl,h1,e⟩:=r;cases d with
  |bl b=>
   obtain⟨f,a,c⟩:=Sb.mp h;subst c;rw[Rep]at h1;subst h1;rw[cM e a];rfl
  |_=>cases h
theorem IG{T:Tb}{μ:List Addr}{H:Hp}:∀ {ds:List D} {vs:List V} {bs:List Int},Ta T μ H ds vs->Qt ds=some bs->vs=bs.map V.int
 |[],vs,bs,r,h=>by cases h;rw[Ta]at r;exact r
 |d::ds,vs,bs,r,h=>by
  rw[Ta]at r;obtain⟨v,w,rfl,h1,e⟩:=r;cases d with
  |int b=>
   obtain⟨f,a,c⟩:=Sb.mp h;subst c;rw[Rep]at h1;subst h1;rw[IG e a];rfl
  |_=>cases h
def tE(xs:List D):M D:=λa=>match xs with
 |[x]=>(match (Yj a x).bind MG with
  |some bs=>.ok (.bl (bs.all id)) a
  |none=>.bad)
 |_=>.bad
def nv(xs:List D):M D:=λa=>match xs with
 |[x]=>(match (Yj a x).bind Qt with
  |some bs=>.ok (.int bs.sum) a
  |none=>.bad)
 |_=>.bad
section
variable{T:Tb}{X:Cx}
def tO(K:W.Frag)(g:List Bool->Bool):List V->Hp->VK->Prop:=λxs H Q=>∃ p bs,xs=[.ref p]/\(lf K H p (bs.map V.bl)\/Ah K H p (bs.map V.bl))/\Q (.bl (g bs)) H
def uT(K:W.Frag):List V->Hp->VK->Prop:=λxs H Q=>∃ (p:Addr) (bs:List Int),xs=[.ref p]/\(lf K H p (bs.map V.int)\/Ah K H p (bs.map V.int))/\Q (.int bs.sum) H
theorem VL:∀ {bs:List Bool} {us:List Value},ue (bs.map V.bl) us->us=bs.map Ff
 |[],us,h=>by cases h;rfl
 |b::bs,us,h=>by
  cases h with
  |cons r t=>cases r;rw[VL t];rfl
theorem yS{a:Type}(g:a->Bool)(d:a):∀ (bs:List a),(List.range bs.length).all (λi=>g (bs.getD i d))=bs.all g
 |[]=>rfl
 |b::bs=>by
  rw[Rb,cj,qf,dm,qf];congr 1;rw[<-yS g d bs];congr 1
theorem SW{prog:Aa}{w:Ia}{A:Fa}(bs:List Bool):TruthOf prog w A (λi v=>(bs.map Ff).toArray[i]?=some v) (λi=>bs.getD i false):=by
 intro i v s Q E a d;simp only[Cs,Eb]at a;cases e:bs[i]? with
 |none=>rw[e]at a;cases a
 |some b=>
  rw[e]at a;cases a;have c:Q (bs.getD i false) s:=d;rw[Kf,e]at c;exact sd c
theorem oP{s:aa}{o:Bc}{h':Heap}(k:∀ b u,b ∉ [s.heap.objs.size]->(s.heap.push o).get? b=some u->h'.get? b=some u):∀ b u,s.heap.get? b=some u->h'.get? b=some u:=λb u e=>
 k b u (λz=>absurd (za e) (by rw[ll.mp z];exact Md _)) (ka _ e)
theorem qO{c:List (Addr × Bc)}{s:aa}{k:St}{H:Hp}{p:Addr}{vs:List V}{E:Value->aa->Prop}{Q:Value->aa->Prop}(j:X.A.handled=none)(I:Inv X c k H s)(hq:lf X.K H p vs\/Ah X.K H p vs)
  (h:∀ (its:List Value) (It:Addr) (g:List Addr) (St:Nat->Heap->Prop) (s2:aa),ue vs its->Walks X.prog X.w X.A.in1 It g [It] its.toArray.size (λi v=>its.toArray[i]?=some v) St->St 0 s2.heap->(∀ b∈g,b<s2.heap.objs.size)->
   (∀ h' tk,(∀ b o,b ∉ [It]->s2.heap.get? b=some o->h'.get? b=some o)->Inv X c k H { s2 with heap:=h',toks:=tk })->Q (.ref It) s2):wpAny (model X.prog X.w) X.A.in1 (pyIter (.ref p)) Q E s:=by
 rcases hq with hq|hq
 ·obtain⟨its,f,pl,l⟩:=I.list hq;have a:p<s.heap.objs.size:=by obtain⟨_,e,_⟩:=pl.isList;exact za e
  refine ip pl.isList (h its s.heap.objs.size [s.heap.objs.size,p] _ _ f (jp (A:=X.A.in1) j _ p (Ea a) its.toArray) ⟨⟨_,gb _ rfl,rfl,rfl⟩,pl.isList.push _⟩ (λb hb=>?_) (λh' tk d=>I.kept (oP d)));show b<(s.heap.push _).objs.size;rw[vg];simp only[ib,Te,wn]at hb;rcases hb with rfl|rfl
  ·exact Rc _
  ·exact ui a
 ·obtain⟨its,f,pl,l⟩:=I.tuple hq;have a:p<s.heap.objs.size:=pl.lt;refine qA (show s.heap.IsTuple p _ from pl) (h its s.heap.objs.size [s.heap.objs.size,p] _ _ f (Walks.tuple (A:=X.A.in1) j _ p (Ea a) its.toArray) ⟨⟨_,gb _ rfl,rfl,rfl⟩,kH (show s.heap.IsTuple p _ from pl) _⟩ (λb hb=>?_) (λh' tk d=>I.kept (oP d)));show b<(s.heap.push _).objs.size;rw[vg];simp only[ib,Te,wn]at hb;rcases hb with rfl|rfl
  ·exact Rc _
  ·exact ui a
theorem fY(hc:X.calm=true):Fo X (.builtin "all") (tO X.K λbs=>bs.all id):=by
 intro a s n H xs o Q I r h;obtain⟨p,bs,rfl,hq,q⟩:=h;obtain⟨u,rfl,g⟩:=Xu r;cases g;refine call_all_walk (qO (I.ok.hd hc) I hq λf It l St s2 j W h0 m d=>?_);have b:=VL j;subst b;refine⟨_,_,_,_,_,_,λi=>bs.getD i false,rfl,W,h0,SW bs,λc k e=>⟨.bl (bs.all id),H,d c k e,?_,q⟩⟩;show Ff _=Ff _;rw[va,rc];exact Ad Ff (yS id false bs)
theorem XQ:∀ (bs:List Int) (n:Nat),n<=bs.length->preSum (λi=>bs.getD i 0) n=(bs.take n).sum
 |bs,0,_=>by simp[preSum]
 |bs,n+1,h=>by
  rw[preSum,XQ bs n (by omega),List.take_succ_eq_append_getElem (by omega),List.sum_append];simp[Kf,show n<bs.length by omega]
theorem PH(hc:X.calm=true):Fo X (.builtin "sum") (uT X.K):=by
 intro d s A H xs B Q I r h;obtain⟨p,bs,rfl,hq,q⟩:=h;obtain⟨u,rfl,o⟩:=Xu r;cases o;refine call_sum_walkG (qO (I.ok.hd hc) I hq λa It z St s2 f W h0 m l=>?_);refine⟨_,_,_,_,_,_,λi=>bs.getD i 0,rfl,W,h0,m,λi v c=>?_,λj y w n=>⟨.int bs.sum,H,l j y n,⟨w,?_⟩,q⟩⟩
 ·simp only[Cs]at c;obtain⟨x,h1,k⟩:=ZE f c;rw[Eb]at h1;cases e:bs[i]? with
  |none=>rw[e]at h1;cases h1
  |some b=>
   rw[e]at h1;cases h1;obtain⟨t,rfl⟩:=k;exact⟨t,by show Li b t=Li (bs.getD i 0) t;rw[Kf,e];rfl⟩
 ·have g:a.toArray.size=bs.length:=by rw[va,<-f.length,rc]
  rw[g,XQ bs _ (ya _),bx]
theorem dP{a:Type}{σ:qb}{x:D}{g:List D->Option a}{bs:a}(h:(Yj σ x).bind g=some bs):∃ ys,Yj σ x=some ys/\g ys=some bs:=ti.mp h
theorem y4(g:T.K=X.K):Lr T (tO X.K λbs=>bs.all id) tE:=by
 intro E m H k xs j Q r p h
 match xs with
 |[]=>exact h.elim
 |[x]=>
  rw[Ta]at p;obtain⟨v,w,rfl,i,c⟩:=p;rw[Ta]at c;subst c;unfold tE at h;cases e:(Yj k x).bind MG with
  |none=>simp only[e]at h;exact h.elim
  |some bs=>
   simp only[e]at h;obtain⟨l,d,f⟩:=dP e;obtain⟨b,j,rfl,h1,a⟩:=iz r i d;rw[g,cM h1 f]at a;exact⟨b,bs,rfl,a,Mb.here h r (by rw[Rep])⟩
 |_::_::_=>exact h.elim
theorem ZH(g:T.K=X.K):Lr T (uT X.K) nv:=by
 intro E m H k xs j Q r p h
 match xs with
 |[]=>exact h.elim
 |[x]=>
  rw[Ta]at p;obtain⟨v,w,rfl,i,c⟩:=p;rw[Ta]at c;subst c;unfold nv at h;cases e:(Yj k x).bind Qt with
  |none=>simp only[e]at h;exact h.elim
  |some bs=>
   simp only[e]at h;obtain⟨l,d,f⟩:=dP e;obtain⟨b,j,rfl,h1,a⟩:=iz r i d;rw[g,IG h1 f]at a;exact⟨b,bs,rfl,a,Mb.here h r (by rw[Rep])⟩
 |_::_::_=>exact h.elim
def JP(xs:List D):M D:=match xs with
 |[.int i,.int j]=>ret (.int (max i j))
 |_=>bad
def uD(xs:List D):M D:=match xs with
 |[.int i,.int j]=>ret (.int (min i j))
 |_=>bad
theorem PM{μ:List Addr}{H:Hp}{x y:D}{vs:List V}(p:Ta T μ H [x,y] vs):∃ v u,vs=[v,u]/\Rep T μ H x v/\Rep T μ H y u:=by
 rw[Ta]at p;obtain⟨v,w,rfl,b,a⟩:=p;rw[Ta]at a;obtain⟨u,d,rfl,c,p4⟩:=a;rw[Ta]at p4;subst p4;exact⟨v,u,rfl,b,c⟩
theorem zwi:Lr T (λxs H Q=>∃ i j,xs=[.int i,.int j]/\Q (.int (if j > i then j else i)) H) JP:=by
 intro E d H f xs c Q r p h;unfold JP at h;split at h
 ·rename_i i j
  obtain⟨v,u,rfl,a,b⟩:=PM p;refine⟨i,j,by rw[Qq a,Qq b],?_⟩;have e:(if j > i then j else i)=max i j:=by rw[Int.max_def];split<;>split<;>omega
  rw[e];exact Mb.here h r (by rw[Rep])
 ·exact h.elim
theorem BU:Lr T (λxs H Q=>∃ i j,xs=[.int i,.int j]/\Q (.int (if j<i then j else i)) H) uD:=by
 intro E d H f xs c Q r p h;unfold uD at h;split at h
 ·rename_i i j
  obtain⟨v,u,rfl,a,b⟩:=PM p;refine⟨i,j,by rw[Qq a,Qq b],?_⟩;have e:(if j<i then j else i)=min i j:=by rw[Int.min_def];split<;>split<;>omega
  rw[e];exact Mb.here h r (by rw[Rep])
 ·exact h.elim
def Lx(ns:List Int):List Int:=ns.foldl step_dedup []
theorem X5(ns:List Int):firstMet (λi=>ns.getD i 0) ns.length=Lx ns:=by
 unfold firstMet Lx;congr 1;apply List.ext_getElem?;intro i;by_cases h:i<ns.length
 ·simp[h]
 ·simp[h]
def vB(x:D):M D:=λa=>match (Fg a x).bind Qt with
 |some ns=>if ns.length<=Wi then .ok (.int (Lx ns).length) a else .bad
 |none=>.bad
def sV(K:W.Frag):List V->Hp->VK->Prop:=λxs H Q=>∃ (p:Addr) (ns:List Int),xs=[.ref p]/\lf K H p (ns.map V.int)/\ns.length<=Wi/\∀ l,H l=none->Q (.ref l) (upd H l (.set (λk=>(Lx ns).any (·== k)) (Lx ns).length))
theorem L8{n:Nat}(h:n<=Wi):n+1<scanBound:=Uv (Nat.succ_le_succ h) (by decide)
theorem znq(hc:X.calm=true):Fo X (.type "set") (sV X.K):=by
 intro f s v H xs w Q I r h;obtain⟨p,ns,rfl,hq,j,q⟩:=h;obtain⟨u,rfl,l⟩:=Xu r;cases l;obtain⟨a,g,pl,t⟩:=I.list hq;have c:a.length=ns.length:=by rw[<-g.length,rc]
 refine call_set_list (I.ok.hd hc) pl.isList (ns:=ns) (yM g) (by rw[va,c];exact L8 j) λn m d i=>?_;rw[show a.toArray.size=ns.length by rw[va,c],X5]at d;refine⟨.ref s.heap.objs.size,_,I.laid (t':=m) (o:=.set (λk=>(Lx ns).any (·== k)) (Lx ns).length) (λb o e=>i b o (za e) e) (ya _) ?_,rfl,q _ (I.dc.fresh (ya _))⟩;exact d
theorem eY : Fo X (.builtin "len") (λxs H Q => ∃ (p : Addr) (S : Int -> Bool) (n : Nat), xs = [.ref p] /\ H p = some (.set S n) /\ Q (.int n) H) := by
  intro a s l H xs m Q I r h;obtain ⟨p, S, n, rfl, e, q⟩ := h;obtain ⟨u, rfl, f⟩ := Xu r;cases f;obtain ⟨o, i, g, t, h1, b, h3, h4, j, k, c, d⟩ := (show qj X.prog X.w H s.heap p (.set S n) from I.dc p _ e)
  refine call_len_set h1 b h3 c (by have : scanBound <= 2 ^ 62 := (by decide);omega) ⟨.int n, H, I.tok _, ⟨_, by rw [d]⟩, q⟩
theorem M6{e:Ca}{f:Ev->M D}{p r pos b:re}(U:T.K=X.K)(hc:X.calm=true)(hg:Gl X "len")(hm:X.mg "len" = none)(m:Gl X "set")(o:X.mg "set" = none)(E:FE T X e f)
  (w:pa [e] X.env=(false,Ib e X.env)::pa [] X.env:=by rfl) (q:(nc b (pa [] X.env)).any (·.1)=false:=by rfl)
  (i:pa [.Call (.Name "set" r) [e] [] b] X.env=(false,Ib (.Call (.Name "set" r) [e] [] b) X.env)::pa [] X.env:=by rfl) (g:(nc pos (pa [] X.env)).any (·.1)=false:=by rfl) :
  FE T X (.Call (.Name "len" p) [.Call (.Name "set" r) [e] [] b] [] pos) (Yb vB f):=by
 intro j s L H Q I h;refine aF eY hg hm Gb (Lv (BP (znq hc) m o rfl (Lv E zy w) (by decide) (by decide) w q) zy i) (by decide) (by decide) i g j s L H Q I ?_;obtain⟨N,O,P,C,G,F⟩:=h;refine⟨N,O,P,C,G,F.bind λd u t v R _ S x J c=>?_⟩;unfold vB at c;cases k:(Fg u d).bind Qt with
 |none=>rw[k]at c;exact c.elim
 |some ns=>
  rw[k]at c;dsimp only at c;by_cases n:ns.length<=Wi
  ·rw[ia n]at c;obtain⟨W,y,z⟩:=ti.mp k;obtain⟨a,V,rfl,h1,B⟩:=x.ls J y;have A:=IG B z;subst A;refine⟨a,ns,rfl,lf.of h1,n,λl hn=>?_⟩;exact⟨l,_,_,rfl,Og,c t (.int (Lx ns).length) _ (Yl hn) (x.fresh hn) (by rw[Rep])⟩
  ·rw[qa n]at c;exact c.elim
def wx(xs:List D)(a b:Option Int):List D:=(xs.drop (HT.Hf xs.length 0 a)).take (HT.Hf xs.length xs.length b - HT.Hf xs.length 0 a)
theorem G7{xs:List D}{b a:Option Int}(h:HT.Hf xs.length 0 b=0/\HT.Hf xs.length xs.length a=xs.length):wx xs b a=xs:=by
 unfold wx;rw[h.1,h.2];simp
theorem rJ{μ:List Addr}{H:Hp}{xs:List D}{vs:List V}(r:Ta T μ H xs vs)(b a:Option Int):Ta T μ H (wx xs b a) (Py vs b a):=by
 unfold wx Py;rw[r.length];exact Ta.take _ (Ta.drop _ r)
end
end L4
namespace HT
open PySem PySem.Spec PyProof.Rows
variable{prog:Aa}{w:Ia}{A:Fa}{E:Value->aa->Prop}{s:aa}
theorem Dk{t i:Addr}{a:Array Value}{l m:Value}{b d:Option Int}{Q:Value->aa->Prop}(ht:Hu s.heap t a)(j:s.heap.IsSliceOf i l m .none)(pl:Ml l b)(p:Ml m d)
  (k:Hf a.size 0 b=0/\Hf a.size a.size d=a.size) (h:Q (.ref t) s):wpAny (model prog w) A (ej (.ref t) (.ref i)) Q E s:=by
 obtain⟨os,g,f,n⟩:=id j;have e:s.TypeIs (.ref i) "slice":=⟨os,g,f⟩
 unfold ej;try with_reducible refine Td ?_
 first|refine ba (xa ?_)|skip
 refine ba (DB ht.typeIs (by decide) ?_);refine ba (Eu (name:=Sf "__getitem__") ht.typeIs yc
  (tq yc ht.typeIs az ?_ (oA _ _)))
 show wpAny _ _ (Vk (.ref t) >>= _) _ _ s;refine ba (cU ht ?_);refine ba (Ov e ?_);rw[ia (by decide)];refine ba (pR j pl p ?_);have c:(((Hf a.size 0 b:Nat):Int) == 0 && (1:Int) == 1 && (Hf a.size a.size d - Hf a.size 0 b) == a.size)=true:=by
  rw[k.1,k.2];simp
 show wpAny _ _ (if (((Hf a.size 0 b:Nat):Int) == 0 && (1:Int) == 1 && (Hf a.size a.size d - Hf a.size 0 b) == a.size)=true then _ else _) _ _ s;rw[ia c];obtain⟨o,q,hc,r⟩:=id ht;unfold WD;refine ba (ba (Ov ht.typeIs ?_));refine xa ?_;rw[ia (by decide)];refine ba (wpAny_rule ?_);first
  |exact xa ⟨_,rfl,xa h⟩
  |exact xa (xa ⟨_,rfl,xa h⟩)
  |exact ba (xa (xa ⟨_,rfl,xa h⟩))
end HT
namespace L4
open PySem PySem.Spec PyProof.Rows L2
section
variable{T:Tb}{X:Cx}
def bT(K:W.Frag):V->Option Int->Option Int->Hp->VK->Prop:=λx c b H Q=>∃ a xs,x=.ref a/\Ah K H a xs/\(HT.Hf xs.length 0 c=0/\HT.Hf xs.length xs.length b=xs.length)/\Q (.ref a) H
theorem vV:Cw X (bT X.K):=by
 intro d s o H x v p t m k n Q I j e pl i h;obtain⟨a,xs,rfl,g,f,q⟩:=h;cases j;obtain⟨c,r,ht,l⟩:=I.tuple g;have b:c.toArray.size=xs.length:=by rw[va];exact r.length.symm
 exact⟨"tuple",_,yc.lookup,ht.typeIs,HT.Dk ht e pl i (by rw[b];exact f) ⟨.ref a,H,I,rfl,q⟩⟩
abbrev PF:=Option (Ev->M D)
noncomputable def mL(d:D):M (Option Int):=match d with
 | .int i=>ret (some i)
 |_=>bad
def cA(p:PF):Ev->M (Option Int):=match p with
 |none=>λ_=>ret none
 |some f=>λa=>Wc (f a) mL
def tP(T:Tb)(X:Cx)(f:Ev->M (Option Int)):TO:=λd H Q=>∃ c e g,wh T c H e d/\Rel T c H g/\Mb T (XE X d) (λ_ _ a b=>b=a) c H (f e g) Q
abbrev FO(T:Tb)(X:Cx)(e:Option Ca)(p:PF):Prop:=PO X e (tP T X (cA p))
theorem qV:FO T X none none:=by
 intro a s d H Q I h;obtain⟨f,g,i,e,c,b⟩:=h;exact GZ a s d H Q I (Mb.here b c rfl)
theorem zzp{e:Ca}{f:Ev->M D}(g:FE T X e f):FO T X (some e) (some f):=by
 intro a s n H Q I h;refine uU g a s n H Q I ?_;obtain⟨o,q,r,c,k,j⟩:=h;refine⟨o,q,r,c,k,Mb.bind j λd t p v u _ w m l b=>?_⟩;cases d with
 |int i=>exact⟨i,Qq l,Mb.here b m rfl⟩
 |_=>exact b.elim
def oN(x:D)(c b:Option Int):M D:=λa=>match x with
 | .tup xs=>.ok (.tup (wx xs c b)) a
 | .Qg ns=>.ok (.lst (wx (ns.map D.int) c b)) a
 |x=>(match Fg a x with
  |some xs=>.ok (.lst (wx xs c b)) a
  |none=>.bad)
def yE(x:D)(b:Option Int)(a:Option Int):M D:=oN x b a
def eK(x:D)(a:M (Option Int))(b:Option Int):M D:=Wc a (yE x b)
def eL(b a:M (Option Int))(x:D):M D:=Wc b (eK x a)
def YK(f:Ev->M D)(c b:PF):Ev->M D:=λa=>Wc (f a) (eL (cA c a) (cA b a))
theorem X7{e:Ca}{U S:Option Ca}{f:Ev->M D}{pl V:PF}{pos B:re}(Z:T.K=X.K)(he:FE T X e f)(hl:FO T X U pl)(hh:FO T X S V):FE T X (.Subscript e (.Slice U S none B) pos) (YK f pl V):=by
 intro w s W H Q I h;refine OZ (Cw.or yl9 (Cw.or vV t9)) he hl hh w s W H Q I ?_;obtain⟨μ,L,σ,z,hr,hp⟩:=h;refine⟨μ,L,σ,z,hr,hp.bind λd N G v H1 _ P r1 q1 p1=>⟨G,L,N,z.mono P,r1,p1.bind λl O J g H2 _ R r2 q2 B=>⟨J,L,O,(z.mono P).mono R,r2,B.bind λu o y i r _ Y x q3 c=>?_⟩⟩⟩;have C:g=l:=q2;have E:i=u:=q3;subst C;subst E;have rd:Rep T y r d v:=Rep.mono Y _ _ (Rep.mono R _ _ q1);have b:∀ m,Fg o d=some m->Mb T (XE X W) (Rep T) y r (.ok (.lst (wx m g i)) o) Q->BN X.K v g i r Q\/bT X.K v g i r Q\/eQ X.K v g i r Q:=λm t p4=>by
  obtain⟨a,j,rfl,h1,k⟩:=x.ls rd t;exact .inr (.inr ⟨a,j,rfl,lf.of h1,λp hn=>cF p4 x (rJ k g i) hn⟩)
 cases d with
 |tup xs=>
  have F:=rd;rw[Rep]at rd;obtain⟨p,j,rfl,h1,k⟩:=rd;by_cases A:HT.Hf j.length 0 g=0/\HT.Hf j.length j.length i=j.length
  ·refine .inr (.inl ⟨p,j,rfl,Ah.of h1,A,Mb.here (d:=D.tup (wx xs g i)) c x ?_⟩);rw[G7 (by rw[k.length];exact A)];exact F
  ·exact .inl ⟨p,j,rfl,Ah.of h1,A,λq hn=>NA c x (rJ k g i) hn⟩
 |ref n=>
  unfold yE oN at c;dsimp only at c;cases t:Fg o (.ref n)with
  |none=>rw[t]at c;exact c.elim
  |some m=>rw[t]at c;exact b m t c
 |lst m=>exact b m rfl c
 |Qg ns=>
  rw[Rep]at rd;obtain⟨p,rfl,h1⟩:=rd;have k:=h1.seq;rw[Z]at k;exact .inr (.inr ⟨p,_,rfl,k,λp hn=>cF c x (rJ (UB ns) g i) hn⟩)
 |_=>exact c.elim
end
def FH(K:W.Frag)(mg:Str->Option Value)(x:Str)(e:Stmt)(ps:List Str)(h:List Value):Prop:=
 ∃ f b,mg x=some (.ref f)/\W.keepIn K (.ref f)=true/\(∃ (i:Value) (j:Option Addr) (g kV c k:Value) (an:Option Addr) (a ct:Value) (d:Array (Option Value)),
  b=W.fnOf x x (Yn e) (Yi e) (kc e) g kV c k an a ct/\K.lookup f=some ⟨i,j,.func b,d⟩/\W.codeIn K a x=true)/\Rr K b ps []/\Rr K b ps h
def vv(T:Tb)(P:Aa)(w:Ia)(mg:Str->Option Value)(base:Heap)(k:Nat)(x:Str)(ps:List Str)(b:List Value)(fn:List D->M D):Prop:=
 ∃ f a,mg x=some (.ref f)/\W.keepIn T.K (.ref f)=true/\Rr T.K a ps []/\Rr T.K a ps b/\ph P w T.K mg base (Xk P w) k f a ps (Eo T ps.length fn)
section
variable{T:Tb}{X:Cx}
theorem WZ{k:Nat}{ps:List Str}{g:List Value}{dds:List D}{dvs:List V}{fn:List D->M D}{x:Str}{p pos:re}{e:Ca}{a:List Ca}{fs:Ev->M (List D)}(h:vv T X.prog X.w X.mg X.base k x ps g fn)(l:T.K=X.K)(o:jd k X.A)(hg:Gl X x)(q:ue dvs g)(c:∀ μ H,Ta T μ H dds dvs)
  (m:FA T X (e::a) fs) (b:(x == ("__debug__" : Str))=false:=by decide) (n:pa (e::a) X.env=(false,Ib e X.env)::pa a X.env:=by rfl) (d:(nc pos (pa a X.env)).any (·.1)=false:=by rfl) :
  FE T X (.Call (.Name x p) (e::a) [] pos) (md ps.length fn dds fs):=by
 obtain⟨f,r,hm,j,_,hb,i⟩:=h;rw[l]at j i hb;exact VP (dds:=dds) (dvs:=dvs) i o hg hm j hb q c m b n d
theorem nI:ue [V.Vb] [pb]:=.cons rfl .nil
theorem uL{T:Tb}(μ:List Addr)(H:Hp):Ta T μ H [D.Vb] [V.Vb]:=Ta.cons (by rw[Rep]) Ta.nil
variable{P:Aa}{w:Ia}{K:W.Frag}{mg:Str->Option Value}{base:Heap}{ca:Nat->Addr}{tx:Tx}
theorem O8{k:Nat}{x:Str}{b:Stmt}{ps N:List Str}{d:List Value}{g:Ev->M Fl}(h:FH K mg x b ps d)(S:ua N ps (kc b))
  (hb:∀ (f:Addr) (a:Value) (A:Fa) (outer:List Hg) (s:aa) (H:Hp) (E:XK),jd k (A.deeper (ag x (kc b) s.heap.objs.size f a))->Hn ⟨K,ca,tx⟩ (zp (Xk P w) P w K mg base N x (kc b) f a A outer s H E) (Yi b) g) :
  vv ⟨K,ca,tx⟩ P w mg base (k+1) x ps d (run N.length g):=by
 obtain⟨f,q,hm,l,⟨r,t,p,kV,j,u,o,a,ct,n,rfl,m,c⟩,e,i⟩:=h;exact⟨f,_,hm,l,e,i,fB m c S (hb f a)⟩
theorem vv.Hb{k:Nat}{x:Str}{ps:List Str}{a:List Value}{fn:List D->M D}(h:vv T P w mg base k x ps a fn):vv T P w mg base k x ps a (λb=>L4.Hb (fn b)):=by
 obtain⟨f,c,h1,d,h3,h4,e⟩:=h;exact⟨f,c,h1,d,h3,h4,wF e⟩
theorem P4{h:Heap}{x:Str}{g:Stmt}{ps:List Str}{f t:Addr}{dv:List Value}{y u:Value}{od i v:Option Addr}{m w:Array (Option Value)}{kV e j b ct:Value}{r:Nat}(X:K.In h)(G:h.Ns mainGlobals mg)
  (hb:∀ (t:Addr) (kV e j:Value) (i:Option Addr) (b ct:Value) (s:aa) (o:Bc) (n:Nat) (us:List Value),s.heap.get? t=some o->o.data=.seq dv.toArray n->((us++[]).length=ps.length->xf s (W.fnOf x x (Yn g) (Yi g) (kc g) (.ref t) kV e j i b ct) ⟨us,[]⟩ (ps.zip (us++[])))/\
   ((us++dv).length=ps.length->xf s (W.fnOf x x (Yn g) (Yi g) (kc g) (.ref t) kV e j i b ct) ⟨us,[]⟩ (ps.zip (us++dv))))
  (a:W.nsIn K mainGlobals x=some (some (.ref f))) (l:K.lookup f=some ⟨y,od,.func (W.fnOf x x (Yn g) (Yi g) (kc g) (.ref t) kV e j i b ct),m⟩)
  (c:W.codeIn K b x=true) (k:W.keepIn K (.ref f)=true) (d:K.lookup t=some ⟨u,v,.seq dv.toArray r,w⟩):FH K mg x g ps dv:=
 ⟨f,_,W.mg_of X G a,k,⟨y,od,_,kV,e,j,i,b,ct,m,rfl,l,c⟩,λs us p q=>(hb t kV e j i b ct s _ r us (p _ _ d) rfl).1 q,λs us p q=>(hb t kV e j i b ct s _ r us (p _ _ d) rfl).2 q⟩
end
def ZA(l:List (Nat × Bool)):Nat->Option Bool:=λc=>l.lookup c
theorem aN:∀ {l:List (Nat × Bool)} {c:Nat} {b:Bool},l.lookup c=some b->(c,b)∈l
 |[],_,_,h=>by simp at h
 |(n,d)::r,c,b,h=>by
  rw[Ua]at h;cases e:c == n with
  |true=>rw[e]at h;cases h;rw[eq_of_beq e];exact Xb
  |false=>rw[e]at h;exact nb _ (aN h)
theorem zf.hide{T:Tb}{P:Aa}{w:Ia}{mg:Str->Option Value}{base:Heap}{k:Nat}{x:Str}{ps:List Str}{fn:List D->M D}(h:zf T P w mg base k x ps fn):zf T P w mg base k x ps (L4.hide fn):=by rw[yr];exact h
theorem vv.hide{T:Tb}{P:Aa}{w:Ia}{mg:Str->Option Value}{base:Heap}{k:Nat}{x:Str}{ps:List Str}{a:List Value}{fn:List D->M D}(h:vv T P w mg base k x ps a fn):vv T P w mg base k x ps a (L4.hide fn):=by rw[yr];exact h
section
variable{T:Tb}{X:Cx}{μ:List Addr}{H:Hp}{σ:qb}
def Hj(σ:qb):D->Option (Nat × List (Str × D))
 | .obj c ns ds=>if ns.length=ds.length then some (c,ns.zip ds)else none
 | .ref n=>match σ[n]? with
  |some (.ins c fs)=>some (c,fs)
  |_=>none
 |_=>none
theorem VS:∀ {ns:List Str} {ds:List D} {fs:List (Str × V)},fs.map (·.1)=ns->Ta T μ H ds (fs.map (·.2))->vu T μ H (ns.zip ds) fs
 |[],ds,[],_,h=>by
  rw[wg]at h;cases ds with
  |nil=>exact Paired.nil
  |cons d ds=>have:=h.length;simp at this
 |[],ds,f::fs,e,_=>by simp at e
 |n::ns,ds,[],e,_=>by simp at e
 |n::ns,[],f::fs,e,h=>by have:=h.length;simp at this
 |n::ns,d::ds,f::fs,e,h=>by
  simp only[Sa,yt]at e;rw[Sa,Ta]at h;obtain⟨v,r,a,h1,g⟩:=h;simp only[yt]at a;obtain⟨b,c⟩:=a;subst c;exact Paired.cons ⟨e.1.symm,by rw[b];exact h1⟩ (VS e.2 g)
theorem Sy(r:Rel T μ H σ){d:D}{v:V}{c:Nat}{fs:List (Str × D)}(h:Rep T μ H d v)(e:Hj σ d=some (c,fs)):∃ a b vs,v=.ref a/\H a=some (.ins (T.ca c) b vs)/\vu T μ H fs vs:=by
 cases d with
 |obj i ns ds=>
  unfold Hj at e;by_cases g:ns.length=ds.length
  ·simp only[g,Ng,mh,Prod.mk.injEq]at e;obtain⟨rfl,rfl⟩:=e;rw[Rep]at h;obtain⟨a,b,vs,rfl,_,h3,h4,l⟩:=h;exact⟨a,b,vs,rfl,h3,VS h4 l⟩
  ·simp[g]at e
 |ref n=>
  unfold Hj at e;dsimp only at e;cases f:σ[n]? with
  |none=>rw[f]at e;cases e
  |some o=>
   rw[f]at e;obtain⟨a,rfl,_,k⟩:=r.at h f;cases o with
   |ins i j=>cases e;obtain⟨b,vs,h3,h4⟩:=k;exact⟨a,b,vs,rfl,h3,h4⟩
   |lst _=>cases e
   |Ma _=>cases e
   |ub _=>cases e
   |rl _=>cases e
 |_=>cases e
theorem GA{f:Str}:∀ {fs:List (Str × D)} {vs:List (Str × V)},vu T μ H fs vs->(∀ d,fs.lookup f=some d->∃ v,vs.lookup f=some v/\Rep T μ H d v)/\(fs.lookup f=none->vs.lookup f=none)
 |_,_,.nil=>⟨λd e=>by simp at e,λ_=>rfl⟩
 |(g,x)::fs,(g',v)::vs,.cons ⟨e,h⟩ t=>by
  have b:g=g':=e;subst b;obtain⟨h1,c⟩:=GA t;by_cases hg:(f == g)=true
  ·refine⟨λd q=>?_,λq=>?_⟩
   ·rw[Ua,hg]at q;cases q;exact⟨v,by rw[Ua,hg],h⟩
   ·rw[Ua,hg]at q;cases q
  ·have a:(f == g)=false:=by simpa using hg
   refine⟨λd q=>?_,λq=>?_⟩
   ·rw[Ua,a]at q;obtain⟨w,i,j⟩:=h1 d q;exact⟨w,by rw[Ua,a];exact i,j⟩
   ·rw[Ua,a]at q;rw[Ua,a];exact c q
def Yk(T:Tb)(cs:List Nat)(f:Str):Prop:=∀ c,cs.contains c=true->wl T.K (T.ca c)/\jg T.K (T.ca c) f
theorem Bo{f:Str}:Yk T [] f:=λc h=>by simp at h
theorem Rg{f:Str}{c:Nat}{cs:List Nat}(h1:wl T.K (T.ca c))(a:jg T.K (T.ca c) f)(h:Yk T cs f):Yk T (c::cs) f:=λd hd=>by
 rw[List.contains_cons,wj,Uh]at hd;rcases hd with rfl|hd
 ·exact⟨h1,a⟩
 ·exact h d hd
def Bb(cs:List Nat)(f:Str)(x:D):M D:=λσ=>match Hj σ x with
 |some (c,fs)=>if cs.contains c=true then (match fs.lookup f with
  |some d=>.ok d σ
  |none=>.bad)else .bad
 |none=>.bad
theorem Q3{e:Ca}{f:Str}{g:Ev->M D}{pos:re}{cs:List Nat}(x:T.K=X.K)(hc:Yk T cs f)(z:FE T X e g)
  (hb:Ud e f X.env (Ib e X.env)=Ib e X.env:=by rfl):FE T X (.Attribute e f pos) (Yb (Bb cs f) g):=by
 intro j s E H Q I h;refine ZZ z hb j s E H Q I ?_;obtain⟨μ,J,σ,u,B,A⟩:=h;refine⟨μ,J,σ,u,B,Mb.bind A λd m G v L _ N q C b=>?_⟩;unfold Bb at b;cases k:Hj m d with
 |none=>rw[k]at b;exact b.elim
 |some p=>
  obtain⟨c,fs⟩:=p;rw[k]at b;dsimp only at b;by_cases i:cs.contains c=true
  ·rw[ia i]at b;obtain⟨a,r,F,rfl,h1,t⟩:=Sy q C k;cases l:fs.lookup f with
   |none=>rw[l]at b;exact b.elim
   |some y=>
    rw[l]at b;obtain⟨w,h3,h4⟩:=(GA t).1 y l;obtain⟨n,o⟩:=hc c i;rw[x]at n o;exact⟨a,_,r,F,w,rfl,h1,n,o,h3,Mb.here b q h4⟩
  ·rw[qa i]at b;exact b.elim
def rj(f:Str)(v:D):List (Str × D)->List (Str × D)
 |[]=>[(f,v)]
 |(g,x)::r=>if g=f then (g,v)::r else (g,x)::rj f v r
theorem QM{f:Str}{d:D}{v:V}(hd:Rep T μ H d v):∀ {fs:List (Str × D)} {vs:List (Str × V)},vu T μ H fs vs->vu T μ H (rj f d fs) (xp f v vs)
 |_,_,.nil=>Paired.cons ⟨rfl,hd⟩ Paired.nil
 |(g,x)::fs,(g',w)::vs,.cons ⟨e,h⟩ t=>by
  have a:g=g':=e;subst a;unfold rj xp;by_cases hg:g=f
  ·rw[ia hg,ia hg];exact Paired.cons ⟨rfl,hd⟩ t
  ·rw[qa hg,qa hg];exact Paired.cons ⟨rfl,h⟩ (QM hd t)
theorem vu.mono{μ':List Addr}{a:Hp}(e:Ext μ H μ' a){fs:List (Str × D)}{vs:List (Str × V)}(h:vu T μ H fs vs):vu T μ' a fs vs:=Paired.Rq h λ_ _ q=>⟨q.1,Rep.mono e _ _ q.2⟩
theorem vu.length{fs:List (Str × D)}{vs:List (Str × V)}(h:vu T μ H fs vs):fs.length=vs.length:=Paired.length h
def Iy(cs:List Nat)(f:Str)(d x:D):M Unit:=λσ=>match x with
 | .ref n=>(match σ[n]? with
  |some (.ins c fs)=>if (cs.contains c && decide (fs.length<1000))=true then .ok () (σ.set n (.ins c (rj f d fs)))else .bad
  |_=>.bad)
 |_=>.bad
def tu(ρ:Ev)(cs:List Nat)(f:Str)(d x:D):M Fl:=λσ=>match Iy cs f d x σ with
 | .ok _ a=>.ok (.nx ρ) a
 |_=>.bad
def HK(ρ:Ev)(cs:List Nat)(f:Str)(a:Ev->M D)(d:D):M Fl:=xs ρ (a ρ) (tu ρ cs f d)
def lj(cs:List Nat)(f:Str)(c b:Ev->M D):Ev->M Fl:=λa=>xs a (c a) (HK a cs f b)
theorem Wj{o e:Ca}{f:Str}{C B:Ev->M D}{pos h:re}{cs:List Nat}(O:T.K=X.K)(hc:Yk T cs f)(P:FE T X o B)(U:FE T X e C)
  (S:yi e (some (.Attribute o f h)) pos.line X.env=pure false:=by rfl):FS T X (.Assign [.Attribute o f h] e pos) (lj cs f C B):=by
 intro j s L H D I hq;refine nZ P U S j s L H D I ?_;obtain⟨μ,N,σ,i,R,Q⟩:=hq;refine⟨μ,N,σ,i,R,Q.xs i λd u t v H1 _ m Z W V=>?_⟩;refine⟨t,N,u,i.mono m,Z,V.xs (i.mono m) λx w k vo y _ A J Y b=>?_⟩;have hd:=Rep.mono A _ _ W;unfold tu Iy at b;cases x with
 |ref n=>
  dsimp only at b;cases p:w[n]? with
  |none=>rw[p]at b;exact b.elim
  |some ob=>
   rw[p]at b;cases ob with
   |lst _=>exact b.elim
   |Ma _=>exact b.elim
   |ub _=>exact b.elim
   |rl _=>exact b.elim
   |ins c fs=>
    dsimp only at b;by_cases g:(cs.contains c && decide (fs.length<1000))=true
    ·rw[ia g]at b;rw[Da,ke]at g;obtain⟨a,rfl,hn,l,q,h1,E⟩:=J.at Y p;have ex:Ext k y k (upd y a (.ins (T.ca c) l (xp f v q))):=Ww (Ha hn) h1 (λ_ z=>by cases z) (λ_ _ z=>by cases z);have r:=J.write (o:=.ins (T.ca c) l (xp f v q)) (ob:=.ins c (rj f d fs)) hn ⟨l,_,Og,QM (Rep.mono ex _ _ hd) (vu.mono ex E)⟩;obtain⟨F,G⟩:=hc c g.1;rw[O]at F G;exact⟨a,_,l,q,rfl,h1,F,G,by rw[<-E.length];exact g.2,b _ (.nx L) _ r.1 r.2 ((i.mono m).mono A |>.mono r.1)⟩
    ·rw[qa g]at b;exact b.elim
 |_=>exact b.elim
noncomputable def kx(n:Nat):Out D->Out D
 | .ok .Vb a=>.ok (.ref n) a
 | .ok _ _=>.bad
 | .ex x a=>.ex x a
 | .bad=>.bad
def Wl(c n:Nat)(fn:List D->M D)(ds:List D):M D:=λσ=>if ds.length+1=n then kx σ.length (fn (.ref σ.length::ds) (σ++[.ins c []]))else .bad
def lq(c n:Nat)(fn:List D->M D)(fs:Ev->M (List D)):Ev->M D:=λa=>Wc (fs a) (Wl c n fn)
def Wf(T:Tb)(P:Aa)(w:Ia)(mg:Str->Option Value)(base:Heap)(k:Nat)(f:Addr)(ps:List Str)(fn:List D->M D):Prop:=
 ∃ b,(∀ a:List Value,a.length=ps.length->bindArgs b ⟨a,[]⟩=pure (ps.zip a))/\ph P w T.K mg base (Xk P w) k f b ps (Eo T ps.length fn)
def pW(T:Tb)(P:Aa)(w:Ia)(mg:Str->Option Value)(base:Heap)(k:Nat)(x:Str)(c:Nat)(ps:List Str)(fn:List D->M D):Prop:=
 ∃ f,mg x=some (.ref (T.ca c))/\Mk T.K (T.ca c) f/\Wf T P w mg base k f ps fn
theorem pQ{E:XK}{c:Nat}{ps:List Str}{fn:List D->M D}{ds:List D}{vs:List V}{Q:VK}(r:Rel T μ H σ)(q:Ta T μ H ds vs)(p:Mb T E (Rep T) μ H (Wl c ps.length fn ds σ) Q) :
  ∀ x a,H x=none->H a=none->a≠x->Eo T ps.length fn (.ref x::(vs++[])) (upd (upd H a (.own x)) x (.ins (T.ca c) a [])) (λv u=>v=.Vb/\Q (.ref x) u) E:=by
 intro x a z h m;unfold Wl at p;by_cases l:ds.length+1=ps.length
 ·rw[ia l]at p;have b:Ext μ H μ (upd H a (.own x)):=Yl h;have o:Rel T μ (upd H a (.own x)) σ:=r.fresh h;have i:upd H a (.own x) x=none:=by unfold upd;rw[qa (Ye m)];exact z
  have f:Ext μ (upd H a (.own x)) (μ++[x]) (upd (upd H a (.own x)) x (.ins (T.ca c) a [])):=Lw i;have A:Rel T (μ++[x]) (upd (upd H a (.own x)) x (.ins (T.ca c) a [])) (σ++[.ins c []]):=o.push i ⟨a,[],Og,Paired.nil⟩;refine⟨μ++[x],σ++[.ins c []],.ref σ.length::ds,Ta.cons (XC o) (by rw[mf];exact Ta.mono (b.trans f) _ _ q),by rw[Rb];exact l,A,?_⟩;cases e:fn (.ref σ.length::ds) (σ++[.ins c []])with
  |bad=>rw[e]at p;exact p.elim
  |ex y s=>rw[e]at p;exact λg k j n=>p g k ((b.trans f).trans j) n
  |ok d s=>
   rw[e]at p;intro g v k j n t;have w:d=.Vb:=by cases d<;>first|rfl|exact p.elim
   subst w;rw[Rep]at t;refine⟨t,p g (.ref x) k ((b.trans f).trans j) n ?_⟩;exact Rep.mono j _ _ (XC o)
 ·rw[qa l]at p;exact p.elim
theorem YO{k:Nat}{C f:Addr}{j:me}{ps:List Str}{sp:Sp}{dvs:List V}{ds:List Value}{b:List (Addr × Bc)}{i:St}{H:Hp}{s:aa}{Q:VK}{us:List Value}{vs:List V}(M:Mk X.K C f)(F:ph X.prog X.w X.K X.mg X.base (Xk X.prog X.w) k f j ps sp)(y:jd (k+1) X.A)(hb:Rr X.K j ps ds)(hd:ue dvs ds)
  (I:Inv X b i H s) (r:ue vs us)
  (h:∀ x g,H x=none->H g=none->g≠x->sp (.ref x::(vs++dvs)) (upd (upd H g (.own x)) x (.ins C g [])) (λv n=>v=.Vb/\Q (.ref x) n) (XE X i)) :
  wpAny (model X.prog X.w) X.A (call (.ref C) us) (EP X b i Q) X.xe s:=by
 have hq:=h (s.heap.objs.size+1) s.heap.objs.size (I.dc.fresh (Io _)) (I.dc.fresh (ya _)) (Ea (Rc _));have d:=Inv.made (C:=C) I;have m:ue (V.ref (s.heap.objs.size+1)::(vs++dvs)) (jb (s.heap.objs.size+1)::(us++ds)):=.cons rfl (r.append hd);have t:(jb (s.heap.objs.size+1)::us++ds).length=ps.length:=by
  have e:=m.length;rw[F.len _ _ _ _ hq]at e;exact e.symm
 refine Bs (zt4 (f:=f) I.mj M.makes M.init (Uh.mp M.fn) (ni (F.run _ X.stack _ _ ⟨jb (s.heap.objs.size+1)::us,[]⟩ (jb (s.heap.objs.size+1)::(us++ds)) _ _ (XE X i) (y.make C us [])
  (d.sD.make C us []) (hb _ (jb (s.heap.objs.size+1)::us) d.mj t) m hq) λr D a=>?_))
 cases r with
 |error e=>obtain⟨cls,j,l,c,ht⟩:=a;exact ht.RE b _ _ e D d c
 |ok q=>
  cases q with
  |ret u=>
   obtain⟨v,l,o,B,p,z⟩:=d.after a;subst p;exact⟨B,⟨V.ref (s.heap.objs.size+1),l,o,rfl,z⟩⟩
  |next=>exact False.elim a
  |brk=>exact False.elim a
  |cont=>exact False.elim a
theorem Ew{k c:Nat}{ps:List Str}{fn:List D->M D}{x:Str}{p pos:re}{e:Ca}{b:List Ca}{fs:Ev->M (List D)}(h:pW T X.prog X.w X.mg X.base k x c ps fn)(B:T.K=X.K)(G:jd (k+1) X.A)(hg:Gl X x)
  (C:FA T X (e::b) fs) (j:(x == ("__debug__" : Str))=false:=by decide) (E:pa (e::b) X.env=(false,Ib e X.env)::pa b X.env:=by rfl) (l:(nc pos (pa b X.env)).any (·.1)=false:=by rfl) :
  FE T X (.Call (.Name x p) (e::b) [] pos) (lq c ps.length fn fs):=by
 obtain⟨f,hm,i,U,hb,t⟩:=h;rw[B]at i t;intro d s u H Q I hq;obtain⟨μ,P,σ,z,m,F⟩:=hq;refine wf (DA I hg hm ?_ j);refine W.callWith_K (h₀:=X.base) I.ok.mod.xw i.kp (be (C pos d s u H (λn a=>∀ x g,a x=none->a g=none->g≠x->Eo T ps.length fn (.ref x::(n++[])) (upd (upd a g (.own x)) x (.ins (T.ca c) g [])) (λv y=>v=.Vb/\Q (.ref x) y) (XE X u)) I ⟨μ,P,σ,z,m,F.bind λds R O n a _ S N J L=>pQ N J L⟩) λus s1 ⟨n,a,o,r,q⟩=>⟨o.mj,?_⟩) E l;exact YO (ds:=[]) (dvs:=[]) i t G (.all hb) .nil o r q
structure WJ(T:Tb)(P:Aa)(w:Ia)(mg:Str->Option Value)(base:Heap)(k:Nat)(m:Str)(c:Nat)(ps:List Str)(fn:List D->M D):Prop where
 cl:wl T.K (T.ca c)
 ex:∃ f,Cd T.K (T.ca c) m f/\Wf T P w mg base k f ps fn
abbrev Mt:=List (Nat × (List D->M D))
def br:Mt->Nat->Option (List D->M D)
 |[],_=>none
 |(c,fn)::r,d=>if c == d then some fn else br r d
def si(n:Nat)(fn:List D->M D)(x:D)(ds:List D):M D:=if ds.length+1=n then fn (x::ds)else bad
def Ak(tb:Mt)(n:Nat)(m:Str)(fs:M (List D))(x:D):M D:=λσ=>match Hj σ x with
 |some (c,a)=>(match br tb c,a.lookup m with
  |some fn,none=>Wc fs (si n fn x) σ
  |_,_=>.bad)
 |none=>.bad
def He(tb:Mt)(n:Nat)(m:Str)(f:Ev->M D)(fs:Ev->M (List D)):Ev->M D:=λa=>Wc (f a) (Ak tb n m (fs a))
theorem HL:∀ {tb:Mt} {c:Nat} {fn:List D->M D},br tb c=some fn->(c,fn)∈tb
 |[],_,_,h=>by cases h
 |(d,g)::r,c,fn,h=>by
  unfold br at h;by_cases e:(d == c)=true
  ·rw[ia e]at h;cases h;rw[Uh.mp e];exact Xb
  ·rw[qa e]at h;exact nb _ (HL h)
theorem PV{pl:uo Bool}{k:Nat}{tb:Mt}{ps:List Str}{m:Str}{o e:Ca}{j:List Ca}{f:Ev->M D}{fs:Ev->M (List D)}{pos g:re}(hK:T.K=X.K)(he:FE T X o f)(h:∀ q∈tb,WJ T X.prog X.w X.mg X.base k m q.1 ps q.2)(hr:jd k X.A)(ha:FA T X (e::j) fs)
  (P:pa (e::j) X.env=(false,Ib e X.env)::pa j X.env:=by rfl) (N:(nc pos (pa j X.env)).any (·.1)=false:=by rfl)
  (ht:Ib (.Call (.Attribute o m g) (e::j) [] pos) X.env=(do
   let ov <-Ib o X.env
   Dh g.atName
   let (f,first) <-ve [ov] (yh ov m pl)
   Nl pos f first (nc pos (pa (e::j) X.env)) (Wg pos (Re [] X.env))):=by rfl) :
  FE T X (.Call (.Attribute o m g) (e::j) [] pos) (He tb ps.length m f fs):=by
 intro i s C H Q I hq;obtain⟨μ,ρ,σ,hE,O,hp⟩:=hq;have G:=hE;refine W.methodCall_KW (pl:=pl) (be (he i s C H (λx n=>∃ a c B vs fn,x=.ref a/\n a=some (.ins (T.ca c) B vs)/\br tb c=some fn/\vs.lookup m=none/\tL T X fs C n λus E=>Eo T ps.length fn (x::(us++[])) E Q (XE X C)) I ⟨μ,ρ,σ,hE,O,hp.bind λd t S v n _ e1 r1 q1 b=>?_⟩) λu s1 ⟨x,n,Y,rx,a,c,B,vs,fn,ex,ea,l,en,q⟩=>?_) ht
 ·unfold Ak at b;cases F:Hj t d with
  |none=>rw[F]at b;exact b.elim
  |some z=>
   obtain⟨c,gs⟩:=z;rw[F]at b;dsimp only at b;cases l:br tb c with
   |none=>rw[l]at b;exact b.elim
   |some fn=>
    cases en:gs.lookup m with
    |some y=>rw[l,en]at b;exact b.elim
    |none=>
     rw[l,en]at b;dsimp only at b;obtain⟨a,B,vs,rfl,h1,h2⟩:=Sy r1 q1 F;refine⟨a,c,B,vs,fn,rfl,h1,l,(GA h2).2 en,S,ρ,t,G.mono e1,r1,b.bind λds V U us E _ e2 r2 R p=>?_⟩;unfold si at p;by_cases L:ds.length+1=ps.length
     ·rw[ia L]at p;exact⟨U,V,d::ds,Ta.cons (Rep.mono e2 _ _ q1) (by rw[mf];exact R),by rw[Rb];exact L,r2,p⟩
     ·rw[qa L]at p;exact p.elim
 ·subst ex;obtain rfl:u=jb a:=rx;obtain⟨hC,f',J,fd,hb,hF⟩:=h _ (HL l);rw[hK]at hC J hF;refine aG Y ea hC J en ?_;refine W.callWith_K (first:=[.ref a]) (h₀:=X.base) I.ok.mod.xw J.kp (be (ha pos i s1 C n _ Y q) λus s2 ⟨vs,E,Z,r,R⟩=>⟨Z.mj,?_⟩) P N;exact LA (us:=.ref a::us) (vs:=.ref a::vs) hF hr (.all hb) .nil Z (.cons rfl r) R
theorem W5{pl:uo Bool}{k:Nat}{tb:Mt}{ps:List Str}{m:Str}{o:Ca}{f:Ev->M D}{pos e:re}(Y:T.K=X.K)(Z:FE T X o f)(h:∀ q∈tb,WJ T X.prog X.w X.mg X.base k m q.1 ps q.2)(hr:jd k X.A)
  (ht:Ib (.Call (.Attribute o m e) [] [] pos) X.env=(do
   let N <-Ib o X.env
   Dh e.atName
   let (f,first) <-ve [N] (yh N m pl)
   Nl pos f first (nc pos (pa [] X.env)) (Wg pos (Re [] X.env))):=by rfl) :
  FE T X (.Call (.Attribute o m e) [] [] pos) (He tb ps.length m f Ba):=by
 intro n s G H Q I hq;obtain⟨μ,ρ,σ,V,F,hp⟩:=hq;refine W.methodCall_KW (pl:=pl) (be (Z n s G H (λx j=>∃ a c r vs fn,x=.ref a/\j a=some (.ins (T.ca c) r vs)/\br tb c=some fn/\vs.lookup m=none/\Eo T ps.length fn (x::([]++[])) j Q (XE X G)) I ⟨μ,ρ,σ,V,F,hp.bind λd g p v j _ e1 P O b=>?_⟩) λu s1 ⟨x,j,t,rx,a,c,r,vs,fn,ex,R,i,en,q⟩=>?_) ht
 ·unfold Ak at b;cases B:Hj g d with
  |none=>rw[B]at b;exact b.elim
  |some z=>
   obtain⟨c,S⟩:=z;rw[B]at b;dsimp only at b;cases i:br tb c with
   |none=>rw[i]at b;exact b.elim
   |some fn=>
    cases en:S.lookup m with
    |some y=>rw[i,en]at b;exact b.elim
    |none=>
     rw[i,en]at b;dsimp only at b;obtain⟨a,r,vs,rfl,h1,U⟩:=Sy P O B;have l:Mb T (XE X G) (Rep T) p j (si ps.length fn d [] g) Q:=b;unfold si at l;by_cases E:([]:List D).length+1=ps.length
     ·rw[ia E]at l;exact⟨a,c,r,vs,fn,rfl,h1,i,(GA U).2 en,p,g,[d],Ta.cons O Ta.nil,E,P,l⟩
     ·rw[qa E]at l;exact l.elim
 ·subst ex;obtain rfl:u=jb a:=rx;obtain⟨J,f',C,fd,hb,L⟩:=h _ (HL i);rw[Y]at J C L;refine aG t R J C en ?_;exact W.callWith_K0 (first:=[.ref a]) t.mj C.kp (LA (us:=[.ref a]) (vs:=[.ref a]) L hr (.all hb) .nil t (.cons rfl .nil) q)
structure nV(T:Tb)(P:Aa)(w:Ia)(mg:Str->Option Value)(base:Heap)(k:Nat)(x m:Str)(c:Nat)(ps:List Str)(fn:List D->M D):Prop where
 gl:mg x=some (.ref (T.ca c))
 sp:W.specialIn T.K (.ref (T.ca c)) (Sf "__getattribute__")=some (some (.builtin "type.__getattribute__"))
 ex:∃ f mc,W.readsIn T.K (T.ca c) mc=true/\W.findCls T.K (.ref (T.ca c)) mc m=some (.val (.ref f))/\W.keepIn T.K (.ref f)=true/\Wf T P w mg base k f ps fn
theorem kQ{pl:uo Bool}{k c:Nat}{ps:List Str}{fn:List D->M D}{x m:Str}{p pos a:re}{e:Ca}{b:List Ca}{fs:Ev->M (List D)}(h:nV T X.prog X.w X.mg X.base k x m c ps fn)(N:T.K=X.K)(R:jd k X.A)(hg:Gl X x)(O:FA T X (e::b) fs)
  (j:(x == ("__debug__" : Str))=false:=by decide) (q:pa (e::b) X.env=(false,Ib e X.env)::pa b X.env:=by rfl) (n:(nc pos (pa b X.env)).any (·.1)=false:=by rfl)
  (ht:Ib (.Call (.Attribute (.Name x p) m a) (e::b) [] pos) X.env=(do
   let F <-Ib (.Name x p) X.env
   Dh a.atName
   let (f,first) <-ve [F] (yh F m pl)
   Nl pos f first (nc pos (pa (e::b) X.env)) (Wg pos (Re [] X.env))):=by rfl) :
  FE T X (.Call (.Attribute (.Name x p) m a) (e::b) [] pos) (md ps.length fn [] fs):=by
 intro g s G H Q I hq;obtain⟨μ,Y,σ,L,o,P⟩:=hq;obtain⟨hm,d,f,mc,h1,C,h3,fd,hb,E⟩:=h;rw[N]at d h1 C h3 E;refine W.methodCall_KW (pl:=pl) (DA I hg hm ?_ j) ht;refine W.method_cls I.mj d (W.cls_value I.mj h1 C rfl ?_);have J:=I.tok (s.toks+1);refine W.callWith_K (first:=[]) (h₀:=X.base) I.ok.mod.xw h3 (be (O pos g _ G H (λt y=>Eo T ps.length fn (t++[]) y Q (XE X G)) J ⟨μ,Y,σ,L,o,P.bind λB v u t y _ e1 V S i=>?_⟩) λus s2 ⟨t,Z,z,r,U⟩=>⟨z.mj,?_⟩) q n
 ·unfold wt at i;by_cases l:(B++[]).length=ps.length
  ·rw[ia l]at i;exact⟨u,v,B++[],S.append Ta.nil,l,V,i⟩
  ·rw[qa l]at i;exact i.elim
 ·exact LA E R (.all hb) .nil z r U
end
structure Sd(K:W.Frag)(C:Addr)(x qual:Str)(st:Stmt)(ps:List Str)(f:Addr):Prop where
 ex:∃ fd,Jy K x qual st f fd/\∀ us:List Value,us.length=ps.length->bindArgs fd ⟨us,[]⟩=pure (ps.zip us)
section
variable{P:Aa}{w:Ia}{K:W.Frag}{mg:Str->Option Value}{base:Heap}{ca:Nat->Addr}{tx:Tx}
theorem zM{k:Nat}{C f:Addr}{x qual:Str}{b:Stmt}{ps N:List Str}{g:Ev->M Fl}(h:Sd K C x qual b ps f)(S:ua N ps (kc b))
  (hb:∀ (a:Value) (A:Fa) (outer:List Hg) (s:aa) (H:Hp) (E:XK),jd k (A.deeper (ag qual (kc b) s.heap.objs.size f a))->Hn ⟨K,ca,tx⟩ (zp (Xk P w) P w K mg base N qual (kc b) f a A outer s H E) (Yi b) g) :
  Wf ⟨K,ca,tx⟩ P w mg base (k+1) f ps (run N.length g):=by
 obtain⟨m,F,c⟩:=h.ex;obtain⟨n,o,kV,e,p,l,a,ct,j,rfl,i,d⟩:=F.ex;exact⟨_,c,fB i d S (hb a)⟩
theorem Wf.Hb{T:Tb}{k:Nat}{f:Addr}{ps:List Str}{fn:List D->M D}(h:Wf T P w mg base k f ps fn):Wf T P w mg base k f ps (λa=>L4.Hb (fn a)):=by
 obtain⟨b,h3,h4⟩:=h;exact⟨b,h3,wF h4⟩
theorem Wf.hide{T:Tb}{k:Nat}{f:Addr}{ps:List Str}{fn:List D->M D}(h:Wf T P w mg base k f ps fn):Wf T P w mg base k f ps (L4.hide fn):=by rw[yr];exact h
end
def ce(s:Stmt)(j:Nat):Stmt:=match s with
 | .ClassDef _ _ _ b _ _ _ _ _ _ _=>b.getD j (.Pass ⟨0,0,0,0⟩)
 |s=>s
theorem DV{K:W.Frag}{C f:Addr}{x qual:Str}{d:Stmt}{ps:List Str}{i:Value}{od e:Option Addr}{h:Array (Option Value)}{kV b g a ct:Value}
  (hb:∀ (kV b g:Value) (e:Option Addr) (a ct:Value) (us:List Value),us.length=ps.length->bindArgs (W.fnOf x qual (Yn d) (Yi d) (kc d) .none kV b g e a ct) ⟨us,[]⟩=pure (ps.zip us))
  (l:K.lookup f=some ⟨i,od,.func (W.fnOf x qual (Yn d) (Yi d) (kc d) .none kV b g e a ct),h⟩)
  (c:W.codeIn K a qual=true) (k:W.keepIn K (.ref f)=true):Sd K C x qual d ps f:=⟨⟨_,iS l c k,hb kV b g e a ct⟩⟩
section
variable{T:Tb}{P:Aa}{w:Ia}{mg:Str->Option Value}{base:Heap}
def Bh(T:Tb)(P:Aa)(w:Ia)(mg:Str->Option Value)(base:Heap)(k:Nat)(m:Str)(ps:List Str)(tb:Mt):Prop:=∀ q∈tb,WJ T P w mg base k m q.1 ps q.2
theorem Fi{k:Nat}{m:Str}{ps:List Str}:Bh T P w mg base k m ps []:=λq h=>nomatch h
theorem ybs{j k:Nat}{m:Str}{ps:List Str}{tb:Mt}{c:Nat}{f:Addr}{fn:List D->M D}(h1:wl T.K (T.ca c))(e:Cd T.K (T.ca c) m f)(h3:Wf T P w mg base j f ps fn)(hj:j<=k)(h:Bh T P w mg base k m ps tb):Bh T P w mg base k m ps ((c,fn)::tb):=λq hq=>by
 rcases ib.mp hq with rfl|hq
 ·obtain⟨d,a,b⟩:=h3;exact⟨h1,f,e,d,a,b.mono hj⟩
 ·exact h q hq
end
section
variable{T:Tb}{X:Cx}
end
end L4
namespace L4
open PySem L2
theorem nr{c:Type}{a b:c}(h:a=b):a=b:=h
section
variable{α β:Type}{ρ:Ev}{σ:qb}
@[simp] theorem Od(a:α)(σ:qb)(k:α->M β):(Out.ok a σ).bind k=k a σ:=nr rfl
@[simp] theorem yl0(a:α)(σ:qb):ret a σ=.ok a σ:=nr rfl
@[simp] theorem zo(m:M α)(k:α->M β)(σ:qb):Wc m k σ=(m σ).bind k:=nr rfl
@[simp] theorem mQ(d:D):eC d ρ σ=.ok d σ:=nr rfl
@[simp] theorem Jx(d:D)(r:Ev):da 0 (some d::r) σ=.ok d σ:=nr rfl
@[simp] theorem lJ(i:Nat)(o:Option D)(r:Ev):da (i+1) (o::r) σ=da i r σ:=nr rfl
@[simp] theorem zyj(o:D->D->M D)(a b:Ev->M D):Ga o a b ρ σ=(a ρ σ).bind (HI o (b ρ)):=nr rfl
@[simp] theorem zxz(o:D->D->M D)(m:M D)(x:D):HI o m x σ=(m σ).bind (o x):=nr rfl
@[simp] theorem yhd(o:D->M D)(a:Ev->M D):Yb o a ρ σ=(a ρ σ).bind o:=nr rfl
@[simp] theorem ymv(b:Bool):wA (.bl b) σ=.ok b σ:=nr rfl
@[simp] theorem ypr(p q:M α):pk p q true σ=p σ:=nr rfl
@[simp] theorem ypq(p q:M α):pk p q false σ=q σ:=nr rfl
@[simp] theorem yb3(c:Bool):NJ c σ=.ok (!c) σ:=nr rfl
@[simp] theorem zwx(k:Bool->M α)(b:Bool):qy k (.bl b) σ=k b σ:=nr rfl
@[simp] theorem zue(c:Bool):UK c σ=.ok (.bl (!c)) σ:=nr rfl
@[simp] theorem yos(f:Ev->M D):eT f ρ σ=(f ρ σ).bind wA:=nr rfl
@[simp] theorem zxw(a b:Ev->M Bool):lB a b ρ σ=(a ρ σ).bind (pk (b ρ) (ret false)):=nr rfl
@[simp] theorem ygb(a b:Ev->M Bool):ap a b ρ σ=(a ρ σ).bind (pk (ret true) (b ρ)):=nr rfl
@[simp] theorem zxx(a:Ev->M Bool):ik a ρ σ=(a ρ σ).bind NJ:=nr rfl
@[simp] theorem zyi(a b:Ev->M D):ki a b ρ σ=(a ρ σ).bind (qy (pk (b ρ) (ret (.bl false)))):=nr rfl
@[simp] theorem yhb(a b:Ev->M D):BK a b ρ σ=(a ρ σ).bind (qy (pk (ret (.bl true)) (b ρ))):=nr rfl
@[simp] theorem zyn(a:Ev->M D):NK a ρ σ=(a ρ σ).bind (qy UK):=nr rfl
@[simp] theorem yg7(t:Ev->M Bool)(a b:Ev->M D):Nz t a b ρ σ=(t ρ σ).bind (pk (a ρ) (b ρ)):=nr rfl
@[simp] theorem iF:Ba ρ σ=.ok [] σ:=nr rfl
@[simp] theorem CF(e:Ev->M D)(r:Ev->M (List D)):ja e r ρ σ=(e ρ σ).bind (CJ (r ρ)):=nr rfl
@[simp] theorem sE(m:M (List D))(x:D):CJ m x σ=(m σ).bind (zK x):=nr rfl
@[simp] theorem AG(x:D)(xs:List D):zK x xs σ=.ok (x::xs) σ:=nr rfl
@[simp] theorem z9(a:Ev->M (List D)):Ie a ρ σ=(a ρ σ).bind vw:=nr rfl
@[simp] theorem ymx:vw [] σ=.ok (.tup []) σ:=nr rfl
@[simp] theorem ymy(a:D):vw [a] σ=.ok (.tup [a]) σ:=nr rfl
@[simp] theorem DX(a b:D):vw [a,b] σ=.ok (.tup [a,b]) σ:=nr rfl
@[simp] theorem ym0(a b c:D):vw [a,b,c] σ=.ok (.tup [a,b,c]) σ:=nr rfl
@[simp] theorem ym1(a b c d:D):vw [a,b,c,d] σ=.ok (.tup [a,b,c,d]) σ:=nr rfl
@[simp] theorem yg8(a:Ev->M (List D)):Gh a ρ σ=(a ρ σ).bind eA:=nr rfl
@[simp] theorem zyl(a:Ev->M (List D)):Au a ρ σ=(a ρ σ).bind mC:=nr rfl
@[simp] theorem yjv:mC [] σ=.ok (.ref σ.length) (σ++[.lst []]):=nr rfl
@[simp] theorem yqv(g:Int->Int->Int)(i j:Int):oI g (.int i) (.int j) σ=.ok (.int (g i j)) σ:=nr rfl
@[simp] theorem yqs(g:Int->Int->Bool)(i j:Int):oB g (.int i) (.int j) σ=.ok (.bl (g i j)) σ:=nr rfl
theorem vI{C:Int->Int->Bool}{g:Int->Int->Int}{i j:Int}(h:C i j=true):Pz C g (.int i) (.int j) σ=.ok (.int (g i j)) σ:=by
 show (if C i j=true then ret _ else bad) σ=_;rw[ia h];rfl
@[simp] theorem yb8(i j:Int)(h:0<j)(a:j<1073741824):Fw (.int i) (.int j) σ=.ok (.int (i / j)) σ:=vI (by simp[UJ,h,a])
@[simp] theorem YT(i j:Int)(h:0<j):lr (.int i) (.int j) σ=.ok (.int (i % j)) σ:=vI (by simp[QI,h])
theorem dF{i j:Int}(h:Ez i j=true):qw (.int i) (.int j) σ=.ok (.int (i ^ j.toNat)) σ:=vI h
@[simp] theorem p12:qw (.int 10) (.int 12) σ=.ok (.int 1000000000000) σ:=dF (by simp[Ez])
@[simp] theorem p6:qw (.int 10) (.int 6) σ=.ok (.int 1000000) σ:=dF (by simp[Ez])
@[simp] theorem p4:qw (.int 10) (.int 4) σ=.ok (.int 10000) σ:=dF (by simp[Ez])
@[simp] theorem ycm(i:Int):TH (.int i) σ=.ok (.int (-i)) σ:=nr rfl
@[simp] theorem zuk(i j:Int):Ch (.int i) (.int j) σ=.ok (.int (i+j)) σ:=nr rfl
theorem YC{xs ys:List D}(h:xs.length+ys.length<=Wi):Ch (.lst xs) (.lst ys) σ=.ok (.lst (xs++ys)) σ:=by
 show jz (.lst xs) (.lst ys) σ=_;unfold jz;simp only[Fg];rw[ia h]
@[simp] theorem zur(σ:qb):Dz .Vb .Vb σ=.ok (.bl true) σ:=nr rfl
theorem vG{x y:D}{b:Bool}(h:ij σ 8 x y=some b):oEq x y σ=.ok (.bl b) σ:=by unfold oEq;rw[h]
theorem aA{x y:D}{b:Bool}(h:ij σ 8 x y=some b):Jh x y σ=.ok (.bl (!b)) σ:=by unfold Jh;rw[h]
@[simp] theorem yb9(i j:Int):oEq (.int i) (.int j) σ=.ok (.bl (i == j)) σ:=vG (by simp[ij,kd,qo,Sj])
@[simp] theorem ycl(i j:Int):Jh (.int i) (.int j) σ=.ok (.bl (!(i == j))) σ:=aA (by simp[ij,kd,qo,Sj])
@[simp] theorem yca(i j:Str):oEq (.str i) (.str j) σ=.ok (.bl (i == j)) σ:=vG (by simp[ij,kd,qo,Sj])
theorem fC{xs:List D}{k:Int}{d:D}(h:yl xs k=some d):Va (.tup xs) (.int k) σ=.ok d σ:=by simp[Va,Yj,h]
theorem jB{xs:List D}{k:Int}{d:D}(h:yl xs k=some d):Va (.lst xs) (.int k) σ=.ok d σ:=by simp[Va,Yj,h]
@[simp] theorem ypx(a:D)(r:List D):Va (.tup (a::r)) (.int 0) σ=.ok a σ:=fC (show yl _ ((0:Nat):Int)=_ from Ps rfl)
@[simp] theorem ypy(a b:D)(r:List D):Va (.tup (a::b::r)) (.int 1) σ=.ok b σ:=fC (show yl _ ((1:Nat):Int)=_ from Ps rfl)
@[simp] theorem ypz(a b c:D)(r:List D):Va (.tup (a::b::c::r)) (.int 2) σ=.ok c σ:=fC (show yl _ ((2:Nat):Int)=_ from Ps rfl)
@[simp] theorem yp0(a b c d:D)(r:List D):Va (.tup (a::b::c::d::r)) (.int 3) σ=.ok d σ:=fC (show yl _ ((3:Nat):Int)=_ from Ps rfl)
@[simp] theorem zuu(xs:List D):Zk [.tup xs] σ=.ok (.int xs.length) σ:=nr rfl
@[simp] theorem zus(xs:List D):Zk [.lst xs] σ=.ok (.int xs.length) σ:=nr rfl
@[simp] theorem zut(xs:List Int):Zk [.Qg xs] σ=.ok (.int xs.length) σ:=by simp[Zk,Yj]
@[simp] theorem zrn(o:List D->M D)(fs:Ev->M (List D)):jh o fs ρ σ=(fs ρ σ).bind o:=nr rfl
@[simp] theorem dS(n:Nat)(f:List D->M D)(dds:List D)(fs:Ev->M (List D)):md n f dds fs ρ σ=(fs ρ σ).bind (wt n f dds):=nr rfl
@[simp] theorem G8(f:List D->M D)(a:D):wt 1 f [] [a] σ=f [a] σ:=by unfold wt;rw[ia (by simp)];simp
@[simp] theorem yo5(f:List D->M D)(a b:D):wt 2 f [] [a,b] σ=f [a,b] σ:=by unfold wt;rw[ia (by simp)];simp
@[simp] theorem g7(f:List D->M D)(a b c:D):wt 3 f [] [a,b,c] σ=f [a,b,c] σ:=by unfold wt;rw[ia (by simp)];simp
@[simp] theorem yia(f:List D->M D)(a b c:D):wt 3 f [c] [a,b] σ=f [a,b,c] σ:=by unfold wt;rw[ia (by simp)];simp
@[simp] theorem yo7(f:List D->M D)(a b c d:D):wt 4 f [] [a,b,c,d] σ=f [a,b,c,d] σ:=by unfold wt;rw[ia (by simp)];simp
@[simp] theorem yds:Uf ρ σ=.ok (.nx ρ) σ:=nr rfl
@[simp] theorem yg(g h:Ev->M Fl):zb g h ρ σ=(g ρ σ).bind (pE h):=nr rfl
@[simp] theorem Pg(h:Ev->M Fl)(ρ:Ev):pE h (.nx ρ) σ=h ρ σ:=nr rfl
@[simp] theorem yd6(h:Ev->M Fl)(d:D):pE h (.rt d) σ=.ok (.rt d) σ:=nr rfl
def Uq(ρ:Ev)(k:α->M Fl):Out α->Out Fl
 | .ok a b=>k a b
 | .ex x b=>.ok (.xc ρ x) b
 | .bad=>.bad
@[simp] theorem ft(ρ:Ev)(m:M α)(k:α->M Fl):xs ρ m k σ=Uq ρ k (m σ):=by unfold xs Uq;cases m σ<;>rfl
@[simp] theorem cq(ρ:Ev)(k:α->M Fl)(a:α):Uq ρ k (.ok a σ)=k a σ:=nr rfl
@[simp] theorem ydu(f:Ev->M D):pd f ρ σ=Uq ρ jK (f ρ σ):=ft ..
@[simp] theorem ydl(d:D):jK d σ=.ok (.rt d) σ:=nr rfl
@[simp] theorem zO(f:Ev->M D):qk f ρ σ=Uq ρ (wL ρ) (f ρ σ):=ft ..
@[simp] theorem TR(d:D):wL ρ d σ=.ok (.nx ρ) σ:=nr rfl
@[simp] theorem ydw(i:Nat)(f:Ev->M D):Af i f ρ σ=Uq ρ (mD i ρ) (f ρ σ):=ft ..
@[simp] theorem yd9(i:Nat)(d:D):mD i ρ d σ=.ok (.nx (ρ.set i (some d))) σ:=nr rfl
@[simp] theorem z8(t:Ev->M Bool)(a b:Ev->M Fl):Yf t a b ρ σ=Uq ρ (pk (a ρ) (b ρ)) (t ρ σ):=ft ..
@[simp] theorem ydx(g:Ev->M Fl)(a:List Hd):ZK g a ρ σ=(g ρ σ).bind (WE a):=nr rfl
@[simp] theorem yfl(a:List Hd):WE a (.nx ρ) σ=.ok (.nx ρ) σ:=nr rfl
@[simp] theorem Qz(n:Nat)(g:Ev->M Fl)(ds:List D):run n g ds σ=Cr (g (ds.map some++List.replicate (n - ds.length) none) σ):=nr rfl
@[simp] theorem XI(d:D):Cr (.ok (.rt d) σ)=.ok d σ:=nr rfl
@[simp] theorem WR:Cr (.ok (.nx ρ) σ)=.ok .Vb σ:=nr rfl
@[simp] theorem yig(f:M D):Hb f σ=Eg σ (f σ):=nr rfl
@[simp] theorem zw(f:Ev->M D):Mg f ρ σ=Eg σ (f ρ σ):=nr rfl
theorem BI{k m:Nat}{σ:qb}{d:D}(h:cl d=true):fz k σ m d=some d:=by cases m<;>(unfold fz;rw[ia h])
theorem zN{a:qb}{d:D}(h:cl d=true)(ht:a.take σ.length=σ):Eg σ (.ok d a)=.ok d σ:=by
 unfold Eg;dsimp only;rw[ia ht,BI h]
@[simp] theorem zob{d:D}(h:cl d=true):Eg σ (.ok d σ)=.ok d σ:=zN h bx
theorem mR{j j':qb}{xs:List D}(h:lg xs=true):Eg σ (.ok (.ref σ.length) (σ++[.lst xs]++j))=.ok (.lst xs) σ:=by
 unfold Eg;dsimp only;rw[ia (by simp)];have e:fz σ.length (σ++[.lst xs]++j) 6 (.ref σ.length)=some (.lst xs):=by
  unfold fz;rw[qa (by simp[cl])];dsimp only;rw[qa (Md _)];have:(σ++[Ob.lst xs]++j)[σ.length]?=some (.lst xs):=by simp
  rw[this];dsimp only;have b:∀ (ys:List D) (m:Nat),lg ys=true->xq (fz σ.length (σ++[.lst xs]++j) m) ys=some ys:=by
   intro ys m;induction ys with
   |nil=>intro _;rfl
   |cons y ys c=>
    intro hc;have a:cl y=true/\lg ys=true:=by simpa [lg,Da]using hc
    unfold xq;rw[BI a.1,c a.2]
  rw[b xs 5 h];rfl
 rw[e]
@[simp] theorem ygs(i:Int):cl (.int i)=true:=by simp[cl]
@[simp] theorem yn4(i:Bool):cl (.bl i)=true:=by simp[cl]
@[simp] theorem ygy(i:Str):cl (.str i)=true:=by simp[cl]
@[simp] theorem ygu:cl .Vb=true:=by simp[cl]
@[simp] theorem yg0(xs:List D):cl (.tup xs)=lg xs:=by simp[cl]
@[simp] theorem ygt(xs:List D):cl (.lst xs)=lg xs:=by simp[cl]
@[simp] theorem ygw(n:Nat):cl (.ref n)=false:=by simp[cl]
@[simp] theorem zx7:lg []=true:=by simp[lg]
@[simp] theorem W8(d:D)(ds:List D):lg (d::ds)=(cl d && lg ds):=by simp[lg]
theorem Sz:∀ {ds:List D},(∀ d∈ds,cl d=true)->lg ds=true
 |[],_=>by simp
 |d::ds,h=>by rw[W8,h d Xb,Sz λx a=>h x (nb _ a)];rfl
@[simp] theorem JG(xs ys:List D):lg (xs++ys)=(lg xs && lg ys):=by
 induction xs with
 |nil=>simp
 |cons x xs a=>simp[a,cz]
theorem W0{xs:List D}{k:Int}(h0:0<=k)(h:k<xs.length):yl xs k=some (xs.getD k.toNat .Vb):=by
 obtain⟨n,rfl⟩:=Int.eq_ofNat_of_zero_le h0;have hn:n<xs.length:=by omega
 refine Ps ?_;show xs[n]?=some (xs.getD n .Vb);rw[Kf,vc hn];rfl
theorem J7{a:List Int}{k:Int}(h0:0<=k)(h:k<a.length):yl (a.map D.int) k=some (.int (a.getD k.toNat 0)):=by
 rw[W0 h0 (by simpa using h)];have hn:k.toNat<a.length:=by omega
 simp[hn]
@[simp] theorem yqf(a:D):eA [a] σ=.ok (.lst [a]) σ:=nr rfl
@[simp] theorem yqe:eA [] σ=.ok (.lst []) σ:=nr rfl
@[simp] theorem yqg(a b:D):eA [a,b] σ=.ok (.lst [a,b]) σ:=nr rfl
@[simp] theorem yqh(a b c:D):eA [a,b,c] σ=.ok (.lst [a,b,c]) σ:=nr rfl
@[simp] theorem yjw(a b:D):mC [a,b] σ=.ok (.ref σ.length) (σ++[.lst [a,b]]):=nr rfl
@[simp] theorem SC(xs:List D):Ih (σ++[.lst xs]) σ.length=some xs:=by simp[Ih]
@[simp] theorem nE(a b:Ob):(σ++[a]).set σ.length b=σ++[b]:=by
 rw[Dj _ _ (ya _)];simp
@[simp] theorem zrq(o:D->List D->M D)(f:Ev->M D)(fs:Ev->M (List D)):Fy o f fs ρ σ=(f ρ σ).bind (Jw o (fs ρ)):=nr rfl
theorem DD{o:D->List D->M D}{m:M (List D)}{x:D}{xs:List D}(h:Fg σ x=some xs):Jw o m x σ=(m σ).bind (o x):=by unfold Jw;rw[h];rfl
theorem sG{xs:List D}{d:D}(h:xs.length<1000):Jn (.ref σ.length) [d] (σ++[.lst xs])=.ok .Vb (σ++[.lst (xs++[d])]):=by
 unfold Jn;simp only[SC];rw[ia (show xs.length<Wi from h),nE]
@[simp] theorem zqc(xs:List D):Yj (σ++[.lst xs]) (.ref σ.length)=some xs:=SC xs
@[simp] theorem lY(xs:List D):Yj σ (.lst xs)=some xs:=nr rfl
@[simp] theorem zqf(xs:List D):Yj σ (.tup xs)=some xs:=nr rfl
@[simp] theorem ye8(f:Ev->M D):ri f ρ σ=(f ρ σ).bind gA:=nr rfl
@[simp] theorem r0(ds:List D):gA (.tup ds) σ=.ok (.seq ds) σ:=nr rfl
@[simp] theorem zqa(ds:List D):gA (.lst ds) σ=.ok (.seq ds) σ:=nr rfl
@[simp] theorem ye7(f:Ev->M D):Rx f ρ σ=(f ρ σ).bind Vz:=nr rfl
theorem qS{j:Int}(h:-(2 ^ 62)<=j)(a:j<2 ^ 62):Vz (.int j) σ=.ok (.seq (zz j.toNat)) σ:=by
 unfold Vz;dsimp only;rw[ia (by simp only[zG,yr,Da,ke];exact⟨h,a⟩)]
@[simp] theorem UG(src:Ev->M Src)(tg:D->Ev->Option Ev)(a:Ev->M Fl):aq src tg a ρ σ=Uq ρ (GG tg a ρ) (src ρ σ):=ft ..
@[simp] theorem gE(tg:D->Ev->Option Ev)(a:Ev->M Fl)(ds:List D):GG tg a ρ (.seq ds) σ=Lk tg a ds ρ σ:=nr rfl
@[simp] theorem Hw(tg:D->Ev->Option Ev)(a:Ev->M Fl):Lk tg a [] ρ σ=.ok (.nx ρ) σ:=nr rfl
theorem bX{tg:D->Ev->Option Ev}{a:Ev->M Fl}{d:D}{ds:List D}{ρ1:Ev}(h:tg d ρ=some ρ1):Lk tg a (d::ds) ρ σ=(a ρ1 σ).bind (dw (Lk tg a ds)):=by
 show (match tg d ρ with|none=>bad|some ρ1=>Wc (a ρ1) (dw (Lk tg a ds))) σ=_;rw[h];rfl
@[simp] theorem jr(i:Nat)(a:Ev->M Fl)(d:D)(ds:List D):Lk (Ld i) a (d::ds) ρ σ=(a (ρ.set i (some d)) σ).bind (dw (Lk (Ld i) a ds)):=bX rfl
@[simp] theorem um(k:Ev->M Fl):dw k (.nx ρ) σ=k ρ σ:=nr rfl
theorem dB{m:M α}{a:α}{σ':qb}(h:m σ=.ok a σ'):So m σ=.ok a σ':=by unfold So;rw[h]
end
section
variable{α β:Type}{ρ:Ev}{σ:qb}
@[simp] theorem f8(ns:List Int):Yj σ (.Qg ns)=some (ns.map D.int):=nr rfl
theorem Z2{ns:List Int}{k:Int}(h0:0<=k)(h:k<ns.length):Va (.Qg ns) (.int k) σ=.ok (.int (ns.getD k.toNat 0)) σ:=by
 simp only[Va,f8,J7 h0 h]
@[simp] theorem zun(c:BT)(i:Int):Wp c (.int i) σ=.ok (.bl (match c with | .int=>true|_=>false)) σ:=nr rfl
@[simp] theorem ycd(c:BT)(i:Bool):Wp c (.bl i) σ=.ok (.bl (match c with | .int=>true | .bool=>true|_=>false)) σ:=nr rfl
@[simp] theorem zuq(xs:List D):Wp .tuple (.tup xs) σ=.ok (.bl true) σ:=nr rfl
@[simp] theorem zn1(o d:D->D->M D)(a b c:Ev->M D):OK o d a b c ρ σ=(a ρ σ).bind (cJ o d (b ρ) (c ρ)):=nr rfl
def pl:Nat->D->Bool
 |_,.Vb=>true
 |_,.bl _=>true
 |_,.int _=>true
 |_,.str _=>true
 |n+1,.tup xs=>xs.all (pl n)
 |n+1,.lst xs=>xs.all (pl n)
 |_,_=>false
theorem wI{f:D->D->Option Bool}:∀ {xs:List D},(∀ x∈xs,f x x=some true)->Zo f xs xs=some true
 |[],_=>rfl
 |x::xs,h=>by unfold Zo;rw[h x Xb,wI λy hy=>h y (nb _ hy)];rfl
theorem pF:∀ (n:Nat) (x:D),pl n x=true->ij σ n x x=some true
 |0,x,h=>by cases x<;>simp[pl]at h<;>simp[ij,kd,qo,Sj]
 |n+1,x,h=>by
  cases x with
  |Vb=>simp[ij,kd,qo,Sj]
  |bl b=>simp[ij,kd,qo,Sj]
  |int b=>simp[ij,kd,qo,Sj]
  |str b=>simp[ij,kd,qo,Sj]
  |tup xs=>
   simp only[pl,Ub]at h;unfold ij;simp only[kd,qo];exact wI λy hy=>pF n y (h y hy)
  |lst xs=>
   simp only[pl,Ub]at h;unfold ij;simp only[kd,qo];exact wI λy hy=>pF n y (h y hy)
  |_=>simp[pl]at h
theorem Dy{x:D}(h:pl 8 x=true):oEq x x σ=.ok (.bl true) σ:=vG (pF 8 x h)
theorem Rs{x:D}(h:pl 8 x=true):Jh x x σ=.ok (.bl false) σ:=aA (pF 8 x h)
@[simp] theorem zvx(f a fi:Ev->M D):EA f a fi ρ σ=Uq ρ (uK ρ a fi) (f ρ σ):=ft ..
@[simp] theorem znu(o a:D->D->M D)(b c:M D)(x:D):cJ o a b c x σ=(b σ).bind (dJ o a c x):=nr rfl
@[simp] theorem znw(o a:D->D->M D)(c:M D)(x y:D):dJ o a c x y σ=(o x y σ).bind (GL a c y):=nr rfl
@[simp] theorem znv(a:D->D->M D)(c:M D)(y:D)(b:Bool):GL a c y (.bl b) σ=pk (Wc c (a y)) (ret (.bl false)) b σ:=nr rfl
@[simp] theorem zv9(a fi:Ev->M D)(d:D):uK ρ a fi d σ=Uq ρ (sI ρ fi d) (a ρ σ):=ft ..
@[simp] theorem zwa(fi:Ev->M D)(d x:D):sI ρ fi d x σ=Uq ρ (ly ρ d x) (fi ρ σ):=ft ..
@[simp] theorem yea(d a:D)(r:List D):ly ρ d (.ref σ.length) (.int 0) (σ++[.lst (a::r)])=.ok (.nx ρ) (σ++[.lst (d::r)]):=by
 have:RA (.ref σ.length) (.int 0) d (σ++[.lst (a::r)])=.ok () (σ++[.lst (d::r)]):=by
  simp only[RA,SC];rw[show dt (a::r).length 0=some 0 by simp[dt]];simp
 unfold ly;rw[this]
@[simp] theorem yeb(d a b:D)(r:List D):ly ρ d (.ref σ.length) (.int 1) (σ++[.lst (a::b::r)])=.ok (.nx ρ) (σ++[.lst (a::d::r)]):=by
 have:RA (.ref σ.length) (.int 1) d (σ++[.lst (a::b::r)])=.ok () (σ++[.lst (a::d::r)]):=by
  simp only[RA,SC];rw[show dt (a::b::r).length 1=some 1 by simp[dt];omega];simp
 unfold ly;rw[this]
theorem uE{a:Ob}{d:D}(h:cl d=true):Eg σ (.ok d (σ++[a]))=.ok d σ:=zN h (by simp)
@[simp] theorem zlu(l:List Int):Qt (l.map D.int)=some l:=by
 induction l with
 |nil=>rfl
 |cons x l a=>simp[Qt,a]
theorem zU{l:List Int}(h:l.length<=1000):vB (.lst (l.map D.int)) σ=.ok (.int (Lx l).length) σ:=by
 simp only[vB,Fg,Option.bind_some,zlu];rw[ia (show l.length<=Wi from h)]
end
section
variable{ρ:Ev}{σ:qb}
@[simp] theorem zrp(c n:Nat)(fn:List D->M D)(fs:Ev->M (List D)):lq c n fn fs ρ σ=(fs ρ σ).bind (Wl c n fn):=nr rfl
theorem TB{c n:Nat}{fn:List D->M D}{ds:List D}(h:ds.length+1=n):Wl c n fn ds σ=kx σ.length (fn (.ref σ.length::ds) (σ++[.ins c []])):=by unfold Wl;rw[ia h]
@[simp] theorem rF(c:Nat)(fn:List D->M D)(a:D):Wl c 2 fn [a] σ=kx σ.length (fn [.ref σ.length,a] (σ++[.ins c []])):=TB rfl
@[simp] theorem fP(c:Nat)(fn:List D->M D)(a b:D):Wl c 3 fn [a,b] σ=kx σ.length (fn [.ref σ.length,a,b] (σ++[.ins c []])):=TB rfl
@[simp] theorem QS(c:Nat)(fn:List D->M D)(a b d e f:D):Wl c 6 fn [a,b,d,e,f] σ=kx σ.length (fn [.ref σ.length,a,b,d,e,f] (σ++[.ins c []])):=TB rfl
@[simp] theorem pz(n:Nat):kx n (.ok .Vb σ)=.ok (.ref n) σ:=nr rfl
@[simp] theorem yA(cs:List Nat)(f:Str)(b a:Ev->M D):lj cs f b a ρ σ=Uq ρ (HK ρ cs f a) (b ρ σ):=ft ..
@[simp] theorem KA(cs:List Nat)(f:Str)(a:Ev->M D)(d:D):HK ρ cs f a d σ=Uq ρ (tu ρ cs f d) (a ρ σ):=ft ..
theorem VA{cs:List Nat}{f:Str}{d:D}{c:Nat}{fs:List (Str × D)}(h:cs.contains c=true)(a:fs.length<1000):tu ρ cs f d (.ref σ.length) (σ++[.ins c fs])=.ok (.nx ρ) (σ++[.ins c (rj f d fs)]):=by
 have e:Iy cs f d (.ref σ.length) (σ++[.ins c fs])=.ok () (σ++[.ins c (rj f d fs)]):=by
  have:(σ++[Ob.ins c fs])[σ.length]?=some (.ins c fs):=by simp
  unfold Iy;simp only[this];rw[ia (by rw[h];simpa using a)];simp
 unfold tu;rw[e]
theorem Bl{c:Nat}{ns:List Str}{ds:List D}(h:ns.length=ds.length):Hj σ (.obj c ns ds)=some (c,ns.zip ds):=by unfold Hj;dsimp only;rw[ia h]
theorem Kj{cs:List Nat}{f:Str}{x d:D}{c:Nat}{fs:List (Str × D)}(h:Hj σ x=some (c,fs))(hc:cs.contains c=true)(a:fs.lookup f=some d):Bb cs f x σ=.ok d σ:=by
 unfold Bb;rw[h];dsimp only;rw[ia hc,a]
@[simp] theorem XW(tb:Mt)(n:Nat)(m:Str)(f:Ev->M D)(fs:Ev->M (List D)):He tb n m f fs ρ σ=(f ρ σ).bind (Ak tb n m (fs ρ)):=nr rfl
theorem Dn{tb:Mt}{n:Nat}{m:Str}{fs:M (List D)}{x:D}{c:Nat}{a:List (Str × D)}{fn:List D->M D}(h:Hj σ x=some (c,a))(ht:br tb c=some fn)(b:a.lookup m=none):Ak tb n m fs x σ=(fs σ).bind (si n fn x):=by
 unfold Ak;rw[h];dsimp only;rw[ht,b];rfl
theorem iw{n:Nat}{fn:List D->M D}{x:D}{ds:List D}(h:ds.length+1=n):si n fn x ds σ=fn (x::ds) σ:=by unfold si;rw[ia h]
@[simp] theorem ybt(fn:List D->M D)(x:D):si 1 fn x [] σ=fn [x] σ:=iw rfl
@[simp] theorem v7(fn:List D->M D)(x a:D):si 2 fn x [a] σ=fn [x,a] σ:=iw rfl
@[simp] theorem ybv(fn:List D->M D)(x a b:D):si 3 fn x [a,b] σ=fn [x,a,b] σ:=iw rfl
@[simp] theorem ybx(fn:List D->M D)(x a b c d:D):si 5 fn x [a,b,c,d] σ=fn [x,a,b,c,d] σ:=iw rfl
theorem GD{c:Nat}{fs:List (Str × D)}(h:lg (fs.map (·.2))=true):Eg σ (.ok (.ref σ.length) (σ++[.ins c fs]))=.ok (.obj c (fs.map (·.1)) (fs.map (·.2))) σ:=by
 unfold Eg;dsimp only;rw[ia (by simp)];have e:fz σ.length (σ++[.ins c fs]) 6 (.ref σ.length)=some (.obj c (fs.map (·.1)) (fs.map (·.2))):=by
  unfold fz;rw[qa (by simp)];dsimp only;rw[qa (Md _)];have:(σ++[Ob.ins c fs])[σ.length]?=some (.ins c fs):=by simp
  rw[this];dsimp only;have b:∀ (ys:List D) (m:Nat),lg ys=true->xq (fz σ.length (σ++[.ins c fs]) m) ys=some ys:=by
   intro ys m;induction ys with
   |nil=>intro _;rfl
   |cons y ys d=>
    intro hc;have a:cl y=true/\lg ys=true:=by simpa [lg,Da]using hc
    unfold xq;rw[BI a.1,d a.2]
  rw[b _ 5 h];rfl
 rw[e]
@[simp] theorem xY(i j:Int):uD [.int i,.int j] σ=.ok (.int (min i j)) σ:=nr rfl
@[simp] theorem zup(i:Str):Wp .str (.str i) σ=.ok (.bl true) σ:=nr rfl
@[simp] theorem zuo(c:BT):Wp c .Vb σ=.ok (.bl false) σ:=by cases c<;>rfl
end
end L4
namespace L4
open PySem PySem.Spec PySem.Calls PyProof.Rows PySem.Builtin PySem.Builtin.ObjectAttr PySem.Builtin.Getset_descriptor L2
structure ExK(K:W.Frag)(C:Addr):Prop where
 g:W.findIn K (.ref C) "__getattribute__" = some (some (.builtin "BaseException.__getattribute__"))
 g2:W.findIn K (.ref C) "__getattr__" = some none
 mb:W.mroIn K C (.type "BaseException")=some true
 d:W.hasDictIn K C=true
 a:W.findIn K (.ref C) "__class__" = some (some (.builtin "object.__class__"))
 n:W.specialIn K (.builtin "object.__class__") "__get__" = some (some (.builtin "getset_descriptor.__get__"))
 t:W.takesIn K (.builtin "object.__class__")=some true
 m:W.mroIn K C (.type "object")=some true
section
variable{prog:Aa}{w:Ia}{A:Fa}{E:Value->aa->Prop}{s:aa}{K:W.Frag}{C ea:Addr}{hp:Heap}{Mo:Ll}
theorem Hy.plain{a:Option Addr}(p:Hy C a ea hp):l9 C ea hp:=let ⟨o,h1,b,_⟩:=p;⟨o,h1,b⟩
end
section
variable{T:Tb}{X:Cx}
inductive yx(X:Cx)(y:Str):V->Value->Prop where
 |own {a:Addr} (h:X.mg y=some (.ref a)):yx X y (.ref a) (.ref a)
 |bt {n:String} (h:X.mg y=none) (hv:bootBuiltins y=some (.type n)) (hn:y ≠ "__name__"):yx X y (.ty n) (.type n)
theorem yx.rel{y:Str}{a:V}{cv:Value}(h:yx X y a cv):∀ u,Ed a u->u=cv:=by
 cases h with
 |own h=>exact λu q=>q
 |bt h b hn=>exact λu q=>q
end
section
variable{ρ:Ev}{σ:qb}
end
end L4
namespace L4
open PySem PySem.Spec PySem.Calls PyProof.Rows L2
section
variable{T:Tb}{X:Cx}
end
end L4
namespace HT
open PySem Builtin
open Sem (wp)
end HT
namespace L4
open PySem PySem.Spec PyProof.Rows L2
end L4
namespace HT
open PySem Builtin
open Sem (wp)
end HT
namespace L4
open PySem PySem.Spec PyProof.Rows L2
section
variable{T:Tb}{X:Cx}
end
end L4
namespace L2
open PySem PySem.Spec PyProof.Rows
section
variable{κ:Type}[DecidableEq κ]
def Yq(kvs:List (κ × V))(k:κ):Option V:=(kvs.find? λa=>decide (a.1=k)).map (·.2)
noncomputable def zn(kvs:List (κ × V))(k:κ)(v:V):List (κ × V):=
 if (kvs.any λa=>decide (a.1=k))=true then kvs.map (λa=>if a.1=k then (a.1,v)else a)else kvs++[(k,v)]
def CS(kvs:List (κ × V))(k:κ):List (κ × V):=kvs.filter λa=>decide (a.1≠k)
theorem WG{p:κ × V}{r:List (κ × V)}{k:κ}(e:p.1=k):Yq (p::r) k=some p.2:=by simp[Yq,De,e]
theorem cH{p:κ × V}{r:List (κ × V)}{k:κ}(e:¬ p.1=k):Yq (p::r) k=Yq r k:=by simp[Yq,De,e]
theorem FR(k:κ):∀ kvs:List (κ × V),(kvs.any λa=>decide (a.1=k))=(Yq kvs k).isSome
 |[]=>rfl
 |p::r=>by
  rw[Je];by_cases e:p.1=k
  ·simp only[WG e,bj e,Bool.true_or,Option.isSome_some]
  ·rw[cH e,pe e,Tk];exact FR k r
theorem aH(kvs:List (κ × V))(k:κ)(v:V):(zn kvs k v).length<=kvs.length+1:=by
 unfold zn;split
 ·rw[rc];omega
 ·rw[qe,Rb,gy];omega
theorem zq.ii{o:Option V}{u:Option Value}(r:zq o u):o.isSome=u.isSome:=by
 cases o with
 |none=>cases u with
  |none=>rfl
  |some _=>exact(show False from r).elim
 |some _=>cases u with
  |none=>exact(show False from r).elim
  |some _=>rfl
theorem zq.getD{o:Option V}{u:Option Value}{d:V}{d':Value}(r:zq o u)(rd:Ed d d'):Ed (o.getD d) (u.getD d'):=by
 cases o with
 |none=>cases u with
  |none=>exact rd
  |some _=>exact(show False from r).elim
 |some _=>cases u with
  |none=>exact(show False from r).elim
  |some _=>exact r
theorem KV.val{kvs:List (κ × V)}{vs:List (κ × Value)}(r:KV kvs vs)(k:κ):zq (Yq kvs k) (tp vs k):=by
 unfold KV at r;induction r with
 |nil=>exact True.intro
 |@cons p q g c h t f=>
  obtain⟨h1,d⟩:=h;by_cases e:p.1=k
  ·have a:q.1=k:=h1.symm.trans e;have b:tp (q::c) k=some q.2:=by simp[tp,De,a]
   rw[WG e,b];exact d
  ·have a:¬ q.1=k:=λz=>e (h1.trans z);have b:tp (q::c) k=tp c k:=by simp[tp,De,a]
   rw[cH e,b];exact f
theorem KV.any{kvs:List (κ × V)}{vs:List (κ × Value)}(r:KV kvs vs)(k:κ):(kvs.any λa=>decide (a.1=k))=vs.any λa=>decide (a.1=k):=by
 unfold KV at r;induction r with
 |nil=>rfl
 |cons h t b=>rw[Je,Je,b,h.1]
theorem KV.kz{kvs:List (κ × V)}{vs:List (κ × Value)}(r:KV kvs vs)(k:κ){y:V}{u:Value}(d:Ed y u) :
  KV (kvs.map λa=>if a.1=k then (a.1,y)else a) (vs.map λa=>if a.1=k then (a.1,u)else a):=by
 unfold KV at r ⊢;induction r with
 |nil=>exact .nil
 |@cons p q f g h t c=>
  rw[Sa,Sa];refine .cons ?_ c;obtain⟨h1,b⟩:=h;by_cases e:p.1=k
  ·rw[ia e,ia (h1.symm.trans e)];exact⟨h1,d⟩
  ·rw[qa e,qa (λz=>e (h1.trans z))];exact⟨h1,b⟩
theorem KV.put{kvs:List (κ × V)}{vs:List (κ × Value)}(r:KV kvs vs)(k:κ){y:V}{u:Value}(a:Ed y u):KV (zn kvs k y) (stored vs k u):=by
 unfold zn stored;rw[r.any k];by_cases e:(vs.any λb=>decide (b.1=k))=true
 ·rw[ia e,ia e];exact r.kz k a
 ·rw[qa e,qa e];exact Paired.snoc r ⟨rfl,a⟩
theorem KV.drop{kvs:List (κ × V)}{vs:List (κ × Value)}(r:KV kvs vs)(k:κ):KV (CS kvs k) (without vs k):=by
 unfold KV at r ⊢;unfold CS without;induction r with
 |nil=>exact .nil
 |@cons p q g i h t c=>
  obtain⟨h1,f⟩:=h;rw[Ri,Ri];by_cases e:p.1=k
  ·have a:¬ decide (p.1≠k)=true:=by simp[e]
   have b:¬ decide (q.1≠k)=true:=by simp[h1.symm.trans e]
   rw[qa a,qa b];exact c
  ·have d:¬ q.1=k:=λz=>e (h1.trans z);have a:decide (p.1≠k)=true:=by simp[e]
   have b:decide (q.1≠k)=true:=by simp[d]
   rw[ia a,ia b];exact .cons ⟨h1,f⟩ c
theorem KV.keys{kvs:List (κ × V)}{vs:List (κ × Value)}(r:KV kvs vs):kvs.map (·.1)=vs.map (·.1):=by
 unfold KV at r;induction r with
 |nil=>rfl
 |cons h t a=>rw[Sa,Sa,a,h.1]
theorem KV.length{kvs:List (κ × V)}{vs:List (κ × Value)}(r:KV kvs vs):kvs.length=vs.length:=Paired.length r
end
theorem AA{P:Aa}{w:Ia}{k:Key}{u:Value}(r:Ed (kV k) u):(El P w).is k u=true:=by
 cases k with
 |inl i=>obtain⟨t,e⟩:=(show ∃ t,u=Li i t from r);subst e;exact tZ P w i t
 |inr x=>obtain⟨t,e⟩:=(show ∃ t,u=Xm x t from r);subst e;exact d8 P w x t
theorem YL{P:Aa}{w:Ia}:∀ {ks:List Key} {us:List Value},ue (ks.map kV) us->ItemsAre (El P w) ks us
 |[],_,r=>by rw[wg]at r;cases r;exact .nil
 |k::ks,_,r=>by
  rw[Sa]at r;cases r with
  |cons h t=>exact .cons (AA h) (YL t)
abbrev KT(H:Hp):List (List Key × V)->List (List Key × Addr × Value)->Prop:=Paired λp q=>p.1=q.1/\H q.2.1=some (.tup (p.1.map kV))/\Ed p.2 q.2.2
theorem KT.val{H:Hp}{kvs:List (List Key × V)}{xs:List (List Key × Addr × Value)}(r:KT H kvs xs)(k:List Key):zq (Yq kvs k) ((Ks xs k).map (·.2)):=by
 induction r with
 |nil=>exact True.intro
 |@cons p q g c h t f=>
  obtain⟨h1,_,d⟩:=h;by_cases e:p.1=k
  ·have a:q.1=k:=h1.symm.trans e;have b:Ks (q::c) k=some q.2:=by simp[Ks,De,a]
   rw[WG e,b];exact d
  ·have a:¬ q.1=k:=λz=>e (h1.trans z);have b:Ks (q::c) k=Ks c k:=by simp[Ks,De,a]
   rw[cH e,b];exact f
theorem KT.kz{H:Hp}{kvs:List (List Key × V)}{xs:List (List Key × Addr × Value)}(r:KT H kvs xs)(k:List Key){y:V}{u:Value}(d:Ed y u) :
  KT H (kvs.map λa=>if a.1=k then (a.1,y)else a) (xs.map (putAt k u)):=by
 induction r with
 |nil=>exact .nil
 |@cons p q f g h t c=>
  rw[Sa,Sa];refine .cons ?_ c;obtain⟨h1,b,h3⟩:=h;unfold putAt;by_cases e:p.1=k
  ·rw[ia e,ia (h1.symm.trans e)];exact⟨h1,b,d⟩
  ·rw[qa e,qa (λz=>e (h1.trans z))];exact⟨h1,b,h3⟩
theorem KT.put{H:Hp}{kvs:List (List Key × V)}{xs:List (List Key × Addr × Value)}(r:KT H kvs xs)(k:List Key){b:Addr}{y:V}{u:Value}(hb:H b=some (.tup (k.map kV)))(a:Ed y u) :
  KT H (zn kvs k y) (storedH xs k b u):=by
 have e:(kvs.any λc=>decide (c.1=k))=(Ks xs k).isSome:=by
  rw[FR,(r.val k).ii,ql]
 unfold zn storedH;rw[e];by_cases q:(Ks xs k).isSome=true
 ·rw[ia q,ia q];exact r.kz k a
 ·rw[qa q,qa q];exact Paired.snoc r ⟨rfl,hb,a⟩
theorem KT.keeps{H a:Hp}{kvs:List (List Key × V)}{xs:List (List Key × Addr × Value)}(r:KT H kvs xs)(ht:∀ b ys,H b=some (.tup ys)->a b=some (.tup ys)):KT a kvs xs:=
 Paired.Rq r λ_ _ z=>⟨z.1,ht _ _ z.2.1,z.2.2⟩
section
variable{P:Aa}{w:Ia}{H:Hp}{h:Heap}{a:Addr}
theorem ZP{u:HO}(ok:Ni P w H h)(e:Rd H a u):qj P w H h a u:=e.ok ok
theorem Nu{kvs:List (Key × V)}(ok:Ni P w H h)(e:Rd H a (.dK kvs)):kvs.length<=sizeLine/\(a == Dg)=false/\∃ vs,KV kvs vs/\h.DictOf (El P w) a vs:=
 show qj P w H h a (.dK kvs)from ZP ok e
theorem vK{kvs:List (Key × V)}(ok:Ni P w H h)(e:H a=some (.dK kvs)):kvs.length<=sizeLine/\(a == Dg)=false/\∃ vs,KV kvs vs/\h.DictOf (El P w) a vs:=Nu ok (.inl e)
theorem LC{ks:List Key}(ok:Ni P w H h)(e:H a=some (.tup (ks.map kV))):(uq (El P w)).is h ks a:=by
 obtain⟨_,b,r,o,h1,c,n,h3⟩:=(show qj P w H h a (.tup (ks.map kV))from ok a _ e)
 exact⟨o,b.toArray,n,h1,c,h3,by simpa using YL r⟩
theorem PB{kvs:List (List Key × V)}(ok:Ni P w H h)(e:Rd H a (.dT kvs)):kvs.length<=sizeLine/\(a == Dg)=false/\
  ∃ xs,KT H kvs xs/\h.DictOfH (uq (El P w)) a xs:=by
 obtain⟨z,y,xs,r,o,d,c,h1,f,h3,h4,g⟩:=(show qj P w H h a (.dT kvs)from ZP ok e)
 refine⟨z,y,xs,r,o,d,c,h1,f,h3,h4,λx b=>?_,g⟩;have all:∀ {l:List (List Key × V)} {m:List (List Key × Addr × Value)},KT H l m->∀ x∈m,(uq (El P w)).is h x.1 x.2.1:=by
  intro l m q;induction q with
  |nil=>intro x b;exact nomatch b
  |@cons p q j k hq t i=>
   intro x b;rcases ib.mp b with e|b
   ·subst e;exact LC ok (by rw[<-hq.1];exact hq.2.1)
   ·exact i x b
 exact all r x b
theorem P8{kvs:List (List Key × V)}(ok:Ni P w H h)(e:H a=some (.dT kvs)):kvs.length<=sizeLine/\(a == Dg)=false/\
  ∃ xs,KT H kvs xs/\h.DictOfH (uq (El P w)) a xs:=PB ok (.inl e)
end
def Jj(H:Hp)(a:Addr)(y:V)(r:Option V):Prop:=
 (∃ c k,Rd H a (.dK c)/\y=kV k/\r=Yq c k)\/∃ c k b,Rd H a (.dT c)/\y=.ref b/\H b=some (.tup (k.map kV))/\r=Yq c k
def Az(H:Hp)(a:Addr)(y v:V)(d:Hp):Prop:=
 (∃ c k,H a=some (.dK c)/\y=kV k/\c.length<sizeLine/\d=upd H a (.dK (zn c k v)))\/
 ∃ c k b,H a=some (.dT c)/\y=.ref b/\H b=some (.tup (k.map kV))/\c.length<sizeLine/\d=upd H a (.dT (zn c k v))
theorem Jj.k{H:Hp}{a:Addr}{kvs:List (Key × V)}{k:Key}(e:H a=some (.dK kvs)):Jj H a (kV k) (Yq kvs k):=.inl ⟨kvs,k,.inl e,rfl,rfl⟩
theorem Jj.t{H:Hp}{a b:Addr}{kvs:List (List Key × V)}{k:List Key}(e:H a=some (.dT kvs))(c:H b=some (.tup (k.map kV))):Jj H a (.ref b) (Yq kvs k):=.inr ⟨kvs,k,b,.inl e,rfl,c,rfl⟩
theorem Az.k{H:Hp}{a:Addr}{kvs:List (Key × V)}{k:Key}{v:V}(e:H a=some (.dK kvs))(b:kvs.length<sizeLine):Az H a (kV k) v (upd H a (.dK (zn kvs k v))):=.inl ⟨kvs,k,e,rfl,b,rfl⟩
theorem Az.t{H:Hp}{a b:Addr}{kvs:List (List Key × V)}{k:List Key}{v:V}(e:H a=some (.dT kvs))(c:H b=some (.tup (k.map kV)))(d:kvs.length<sizeLine) :
  Az H a (.ref b) v (upd H a (.dT (zn kvs k v))):=.inr ⟨kvs,k,b,e,rfl,c,d,rfl⟩
section
variable{X:Cx}{pins:List (Addr × Bc)}{σ:St}{H:Hp}{s:aa}{a:Addr}{y v:V}{u r:Value}{o:Option V}{A:Fa}{E:Value->aa->Prop}
theorem Inv.qI(I:Inv X pins σ H s):Dg<s.heap.objs.size:=by
 have h:mainGlobals<s.heap.objs.size:=(I.mod.glob.keeps I.bk).lt;exact Ds (by decide) h
theorem RV{Q:Value->aa->Prop}(x:A.units+1<cLine)(I:Inv X pins σ H s)(g:Jj H a y (some v))(q:Ed y u)(h:∀ d s',Inv X pins σ H s'->Ed v d->Q d s') :
  wpAny (model X.prog X.w) A (ej (.ref a) u) Q E s:=by
 rcases g with⟨n,k,e,i,l⟩|⟨n,k,b,e,i,r,l⟩
 ·subst i;obtain⟨z,hd,B,rel,f⟩:=Nu I.dc e;obtain⟨d,m,c⟩:=zq.some_of (v:=v) (o:=tp B k) (by rw[l];exact rel.val k);exact wpAny_getItem_of (AA q) f.mapOf m (h d _ (I.tok _) c)
 ·subst i;cases (show u=jb b from q);obtain⟨z,hd,xs,rel,f⟩:=PB I.dc e;obtain⟨d,m,c⟩:=zq.some_of (v:=v) (o:=(Ks xs k).map (·.2)) (by rw[l];exact rel.val k);obtain⟨p,t,j⟩:=Sb.mp m;refine wpAny_getItem_heap (Ii x) (LC I.dc r) f t ?_;rw[j];exact h d _ (I.tok _) c
theorem P1{Q:Value->aa->Prop}(m:A.units+1<cLine)(I:Inv X pins σ H s)(g:Jj H a y o)(i:Ed y u)(h:∀ s',Inv X pins σ H s'->Q (.bool o.isSome) s') :
  wpAny (model X.prog X.w) A (Wb .In u (.ref a)) Q E s:=by
 rcases g with⟨f,k,e,d,l⟩|⟨f,k,b,e,d,j,l⟩
 ·subst d;obtain⟨z,hd,n,rel,c⟩:=Nu I.dc e;refine wpAny_in_of (AA i) hd c.mapOf ?_;rw[<-(rel.val k).ii,<-l];exact h _ (I.tok _)
 ·subst d;cases (show u=jb b from i);obtain⟨z,hd,xs,rel,c⟩:=PB I.dc e;refine wpAny_in_heap (Ii m) (LC I.dc j) hd c ?_;have q:=(rel.val k).ii;rw[ql]at q;rw[<-q,<-l];exact h _ (I.tok _)
theorem i2{Q:Value->aa->Prop}(m:A.units+1<cLine)(I:Inv X pins σ H s)(g:Jj H a y o)(i:Ed y u)(h:∀ s',Inv X pins σ H s'->Q (.bool (!o.isSome)) s') :
  wpAny (model X.prog X.w) A (Wb .NotIn u (.ref a)) Q E s:=by
 rcases g with⟨f,k,e,d,l⟩|⟨f,k,b,e,d,j,l⟩
 ·subst d;obtain⟨z,hd,n,rel,c⟩:=Nu I.dc e;refine wpAny_notIn_of (AA i) hd c.mapOf ?_;rw[<-(rel.val k).ii,<-l];exact h _ (I.tok _)
 ·subst d;cases (show u=jb b from i);obtain⟨z,hd,xs,rel,c⟩:=PB I.dc e;refine wpAny_notIn_heap (Ii m) (LC I.dc j) hd c ?_;have q:=(rel.val k).ii;rw[ql]at q;rw[<-q,<-l];exact h _ (I.tok _)
theorem iE{h':Heap}{t':Nat}{ob:HO}(I:Inv X pins σ H s)(g:zD (H a))(f:Of a s.heap h')(d:∃ q,h'.get? a=some q)(c:qj X.prog X.w (upd H a ob) h' a ob) :
  Inv X pins σ (upd H a ob) { s with heap:=h',toks:=t' }:=
 I.write (x:=a) (e:=a) g (.inl rfl) (λb q hb z=>(f.2 b hb).trans z) d c
theorem YF{P:Aa}{w:Ia}{b:Hp}{h':Heap}{kvs:List (Key × V)}{vs:List (Key × Value)}(z:kvs.length<=sizeLine)(hd:(a == Dg)=false)(rel:KV kvs vs)(c:h'.DictOf (El P w) a vs) :
  qj P w b h' a (.dK kvs):=⟨z,hd,vs,rel,c⟩
theorem lW{t:Hp}{Q:Unit->aa->Prop}(N:A.units+1<cLine)(I:Inv X pins σ H s)(g:Az H a y v t)(F:Ed y u)(D:Ed v r)(h:∀ s',Inv X pins σ t s'->Q () s') :
  wpAny (model X.prog X.w) A (Yv (.ref a) u r) Q E s:=by
 rcases g with⟨d,k,e,m,l,j⟩|⟨d,k,b,e,m,x,l,j⟩
 ·subst m j;obtain⟨z,hd,O,rel,i⟩:=vK I.dc e;have p:O.length<=sizeLine:=by rw[<-rel.length];exact z
  have n:(zn d k v).length<=sizeLine:=by have:=aH d k v;omega
  refine wpAny_setItem_pairs (hsz:=p) (AA F) i λC f o=>h _ ?_;have M:∃ q,C.get? a=some q:=let ⟨q,_,_,hq,_⟩:=f;⟨q,hq⟩;exact iE I (by rw[e];exact True.intro) o M (YF n hd (rel.put k D) f)
 ·subst m j;cases (show u=jb b from F);obtain⟨z,hd,xs,rel,i⟩:=P8 I.dc e;have p:xs.length<=sizeLine:=by rw[<-Paired.length rel];exact z
  have n:(zn d k v).length<=sizeLine:=by have:=aH d k v;omega
  refine wpAny_setItem_heap (hsz:=p) (Ii N) (LC I.dc x) i λC f o=>h _ ?_;obtain⟨q,J,G,hq,K,h3,h4,_,L⟩:=f;refine iE I (by rw[e];exact True.intro) o ⟨q,hq⟩ ⟨n,hd,_,(rel.put k x D).keeps λc P B=>?_,q,J,G,hq,K,h3,h4,L⟩;rw[Qd (CK B e (λz=>nomatch z))];exact B
end
section
variable{X:Cx}{pins:List (Addr × Bc)}{σ:St}{H:Hp}{s:aa}{a:Addr}{kvs:List (Key × V)}{k:Key}{u:Value}{A:Fa}{E:Value->aa->Prop}
end
def GI(i:Ca):Prop:=∀ b a,Jq i false b a=operate [b,a] (ej b a)
theorem MU{prog:Aa}{w:Ia}{A:Fa}{E:Value->aa->Prop}{s:aa}{env:Hg}{b a:Ca}{pos:re}{T n:String}{Q:Value->aa->Prop}
  (l:typeLookup (.type T) "__getitem__" = pure (some (.builtin n))) (m:GI a)
  (h:wpAny (model prog w) A (Ib b env) (λo d=>wpAny (model prog w) A (Ib a env) (λi s₂=>s₂.TypeIs o T/\wpAny (model prog w) A (ej o i) Q E s₂) E d) E s) :
  wpAny (model prog w) A (Ib (.Subscript b a pos) env) Q E s:=by
 refine pA (bc h (λo d g=>bc g (λi s₂ c=>?_) λ_ _ x=>x) λ_ _ x=>x);obtain⟨k,c⟩:=c;unfold ku;refine ba ?_;rw[getitemInPython_of_ne k.not_modules];refine ba (wpAny_specialOf k l ?_);have f:wpAny (model prog w) A (Jq a false o i) (λr e=>wpAny (model prog w) A (letTemporaryGo b o r >>= λ_=>pure r) Q E e) E s₂:=by
  rw[m o i];exact wpAny_operating (bc c (λr e j=>ba (wpAny_letTemporaryGo (xa j))) λ_ _ x=>x)
 first
  |exact xa (ba f)
  |exact ba (xa (ba f))
  |exact ba f
theorem A4{X:Cx}{c:List (Addr × Bc)}{σ:St}{H:Hp}{s:aa}{a:Addr}{y:V}{o:Option V}(I:Inv X c σ H s)(g:Jj H a y o):s.TypeIs (.ref a) "dict":=by
 rcases g with⟨f,k,e,_,_⟩|⟨f,k,b,e,_,_,_⟩
 ·obtain⟨_,_,h,_,d⟩:=Nu I.dc e;exact d.typeIs
 ·obtain⟨_,_,xs,_,d⟩:=PB I.dc e;exact d.typeIs
def FZ(e ty:TE):TE:=λc H Q=>e c H λx d=>ty c d λy b=>∃ a v,x=.ref a/\Jj b a y (some v)/\Q v b
section
variable{X:Cx}{o i e value:Ca}{pos pos' tpos:re}{td ty tv:TE}
theorem ycy(p:X.A.units+1<cLine)(m:PE X o td)(l:PE X i ty)(n:GI i):PE X (.Subscript o i pos) (FZ td ty):=by
 intro b s e H Q I h;refine MU PySem.F.slot_dict_getitem.lookup n (be (m b s e H _ I h) λu s1 ⟨x,H1,j,t,q⟩=>be (l b s1 e H1 _ j q) λz s2 ⟨y,f,d,w,a,v,ex,g,r⟩=>?_);subst ex;obtain rfl:u=jb a:=t;exact⟨A4 d g,RV p d g w λC B k c=>⟨v,f,k,c,r⟩⟩
end
theorem zR{P:Aa}{w:Ia}{H:Hp}(h:Heap)(hb:Dg<h.objs.size):qj P w H (h.push { cls:=.type "dict",data:=.dict #[] }) h.objs.size (.dK []):=
 ⟨Zt _,ye.mpr (Ye (Ea hb)),[],.nil,KL h⟩
def uY:TE:=λ_ H Q=>∀ p,H p=none->Q (.ref p) (upd H p (.dK []))
section
variable{X:Cx}{pos:re}
theorem xS:PE X (.Dict [] [] pos) uY:=λb s c H Q I h=>
 wpAny_Dict_empty ⟨.ref s.heap.objs.size,_,I.laid (a:=s.heap.objs.size) (o:=.dK []) (t':=s.toks) (λ_ _ q=>ka _ q) (ya _) (zR s.heap I.qI),rfl,h _ (I.dc.fresh (ya _))⟩
end
section
variable{X:Cx}{pins:List (Addr × Bc)}{σ:St}{H:Hp}{s:aa}{a:Addr}{kvs:List (Key × V)}{A:Fa}{E:Value->aa->Prop}
theorem Y7{Q:Value->aa->Prop}(I:Inv X pins σ H s)(e:Rd H a (.dK kvs))(h:∀ p s',H p=none->Inv X pins σ (upd H p (.dK kvs)) s'->Q (.ref p) s'):wpAny (model X.prog X.w) A (call (.type "dict") [.ref a]) Q E s:=by
 obtain⟨z,hd,i,rel,d⟩:=Nu I.dc e;refine kt_call_dict hd d (by rw[<-rel.length];exact z) λg c f=>?_;refine h _ _ (I.dc.fresh (ya _)) (I.laid (a:=s.heap.objs.size) (o:=.dK kvs) (t':=s.toks) (λb q hq=>?_) (ya _) (YF z (ye.mpr (Ye (Ea I.qI))) rel c));exact(f.2 b (Ea (za hq))).trans (ka _ hq)
end
end L2
namespace L4
open PySem PySem.Spec PyProof.Rows L2
def Kt:D->Option Key
 | .int i=>some (.inl i)
 | .str x=>some (.inr x)
 |_=>none
noncomputable def al(σ:qb):D->Option (List (Key × D))
 | .Ma b xs=>if b.length=xs.length then some (b.zip xs)else none
 | .ref n=>(match σ[n]? with
  |some (.Ma a)=>some a
  |some (.ub a)=>some a
  |_=>none)
 |_=>none
def Zx(kvs:List (Key × D))(k:Key):Option D:=(kvs.find? λa=>decide (a.1=k)).map (·.2)
noncomputable def Wz(kvs:List (Key × D))(k:Key)(d:D):List (Key × D):=
 if kvs.any (λa=>decide (a.1=k))then kvs.map λa=>if a.1=k then (a.1,d)else a else kvs++[(k,d)]
section
variable{T:Tb}{X:Cx}{μ:List Addr}{H:Hp}
theorem fE{y:D}{v:V}{k:Key}(h:Rep T μ H y v)(e:Kt y=some k):v=kV k:=by
 cases y<;>simp[Kt]at e<;>subst e<;>rw[Rep]at h<;>exact h
theorem fG:∀ {ks:List Key} {ds:List D} {kvs:List (Key × V)},kvs.map (·.1)=ks->Ta T μ H ds (kvs.map (·.2))->bh T μ H (ks.zip ds) kvs
 |ks,[],kvs,h1,a=>by
  rw[Ta]at a;have:kvs=[]:=by simpa using a
  subst this;rw[<-h1];exact .nil
 |ks,d::ds,kvs,h1,a=>by
  rw[Ta]at a;obtain⟨v,r,e,b,c⟩:=a;cases kvs with
  |nil=>cases e
  |cons p kvs=>
   rw[Sa]at e h1;cases e;rw[<-h1];exact .cons ⟨rfl,b⟩ (fG rfl c)
theorem Ey{σ:qb}(r:Rel T μ H σ){x:D}{v:V}{kvs:List (Key × D)}(h:Rep T μ H x v)(e:al σ x=some kvs):∃ a vs,v=.ref a/\Rd H a (.dK vs)/\bh T μ H kvs vs:=by
 cases x with
 |Ma f xs=>
  rw[Rep]at h;obtain⟨a,vs,rfl,_,h1,b,h3⟩:=h;unfold al at e;dsimp only at e;split at e
  ·cases e;exact⟨a,vs,rfl,h1,fG b h3⟩
  ·cases e
 |ref n=>
  unfold al at e;dsimp only at e;cases q:σ[n]? with
  |none=>rw[q]at e;cases e
  |some o=>
   rw[q]at e;cases o with
   |Ma c=>
    cases e;obtain⟨a,rfl,_,vs,h1,b⟩:=r.at h q;exact⟨a,vs,rfl,.inl h1,b⟩
   |ub c=>
    cases e;obtain⟨a,rfl,_,d,vs,h1,b⟩:=r.at h q;exact⟨a,vs,rfl,.inr ⟨d,h1⟩,b⟩
   |_=>cases e
 |_=>cases e
theorem hJ{kvs:List (Key × D)}{vs:List (Key × V)}(h:bh T μ H kvs vs)(k:Key):(Zx kvs k=none/\Yq vs k=none)\/∃ d v,Zx kvs k=some d/\Yq vs k=some v/\Rep T μ H d v:=by
 unfold bh at h;induction h with
 |nil=>exact .inl ⟨rfl,rfl⟩
 |@cons p q b i h t g=>
  obtain⟨h1,c⟩:=h;by_cases e:p.1=k
  ·have a:q.1=k:=h1.symm.trans e;exact .inr ⟨p.2,q.2,by unfold Zx;rw[De,bj e];rfl,WG a,c⟩
  ·have a:¬ q.1=k:=λz=>e (h1.trans z);have f:Zx (p::b) k=Zx b k:=by unfold Zx;rw[De,pe e]
   rw[f,cH a];exact g
theorem zxq{kvs:List (Key × D)}{vs:List (Key × V)}(h:bh T μ H kvs vs)(k:Key):(kvs.any λa=>decide (a.1=k))=(vs.any λa=>decide (a.1=k)):=by
 unfold bh at h;induction h with
 |nil=>rfl
 |@cons p q c d h t b=>rw[Je,Je,b,h.1]
theorem bQ{d e:Type}{F:d->e->Prop}{f:d->d}{g:e->e}(c:∀ a b,F a b->F (f a) (g b)):∀ {l:List d} {m:List e},Paired F l m->Paired F (l.map f) (m.map g)
 |_,_,.nil=>.nil
 |_,_,.cons h t=>.cons (c _ _ h) (bQ c t)
theorem PN{d e:Type}{F:d->e->Prop}{a:d}{b:e}(c:F a b):∀ {l:List d} {m:List e},Paired F l m->Paired F (l++[a]) (m++[b])
 |_,_,.nil=>.cons c .nil
 |_,_,.cons h t=>.cons h (PN c t)
theorem DP{kvs:List (Key × D)}{vs:List (Key × V)}(h:bh T μ H kvs vs)(k:Key){d:D}{v:V}(hd:Rep T μ H d v):bh T μ H (Wz kvs k d) (zn vs k v):=by
 unfold Wz zn;rw[zxq h k];split
 ·refine bQ (λp q h=>?_) h;by_cases e:p.1=k
  ·rw[ia e,ia (h.1.symm.trans e)];exact⟨h.1,hd⟩
  ·rw[qa e,qa (λz=>e (h.1.trans z))];exact h
 ·exact PN ⟨rfl,hd⟩ h
theorem bh.mono{μ':List Addr}{a:Hp}(e:Ext μ H μ' a){kvs:List (Key × D)}{vs:List (Key × V)}(h:bh T μ H kvs vs):bh T μ' a kvs vs:=Paired.Rq h λ_ _ z=>⟨z.1,Rep.mono e _ _ z.2⟩
theorem _root_.L2.Jj.kr{H:Hp}{a:Addr}{kvs:List (Key × V)}{k:Key}(e:Rd H a (.dK kvs)):Jj H a (kV k) (Yq kvs k):=.inl ⟨kvs,k,e,rfl,rfl⟩
def Tp(x y:D):M D:=λb=>match Kt y with
 |some k=>(match al b x with
  |some a=>(match Zx a k with
   |some d=>.ok d b
   |none=>.bad)
  |none=>.bad)
 |none=>.bad
theorem av{o i:Ca}{n fi:Ev->M D}{pos:re}(hu:X.A.units+9<cLine)(E:FE T X o n)(C:FE T X i fi)(J:GI i):FE T X (.Subscript o i pos) (Ga Tp n fi):=by
 intro c s R H Q I h;refine ycy (by omega) E C J c s R H Q I ?_;obtain⟨μ,r,W,p,G,F⟩:=h;refine⟨μ,r,W,p,G,F.bind λx l j v Y _ t P N L=>⟨j,r,l,p.mono t,P,L.bind λy m V u Z _ z q O b=>?_⟩⟩;unfold Tp at b;cases f:Kt y with
 |none=>rw[f]at b;exact b.elim
 |some k=>
  rw[f]at b;dsimp only at b;cases e:al m x with
  |none=>rw[e]at b;exact b.elim
  |some K=>
   rw[e]at b;dsimp only at b;obtain⟨a,vs,rfl,h1,B⟩:=Ey q (Rep.mono z _ _ N) e;obtain rfl:=fE O f;rcases hJ B k with⟨g,_⟩|⟨d,w,g,S,U⟩
   ·rw[g]at b;exact b.elim
   ·rw[g]at b;exact⟨a,w,rfl,by rw[<-S];exact Jj.kr h1,Mb.here b q U⟩
def qM:R2:=λy x H Q=>∃ a o,x=.ref a/\Jj H a y o/\Q (.bl o.isSome) H
theorem oT(f:X.A.units+9<cLine):Bi X (Wb .In) qM:=by
 intro b s k H y x i u Q I e d h;obtain⟨a,o,rfl,g,q⟩:=h;obtain rfl:u=jb a:=d;exact P1 (by omega) I g e λj c=>⟨.bl o.isSome,H,c,rfl,q⟩
def qx(y x:D):M D:=λb=>match Kt y with
 |some k=>(match al b x with
  |some a=>.ok (.bl (Zx a k).isSome) b
  |none=>.bad)
 |none=>.bad
theorem nM:gm T qM qx:=by
 intro E μ H l y x u v Q r q p h;unfold qx at h;cases c:Kt y with
 |none=>rw[c]at h;exact h.elim
 |some k=>
  rw[c]at h;dsimp only at h;cases b:al l x with
  |none=>rw[b]at h;exact h.elim
  |some i=>
   rw[b]at h;obtain⟨a,j,rfl,h1,g⟩:=Ey r p b;obtain rfl:=fE q c;refine⟨a,Yq j k,rfl,Jj.kr h1,Mb.here h r ?_⟩;rw[Rep];rcases hJ g k with⟨e,f⟩|⟨d,w,e,f,m⟩
   ·rw[e,f];rfl
   ·rw[e,f];rfl
def HX:EF:=λx y v H Q=>∃ a b,x=.ref a/\Az H a y v b/\Q b
theorem RU(l:X.A.units+9<cLine):uH X HX:=by
 intro b s p H o i v e m u Q I j f k h;obtain⟨a,c,rfl,g,q⟩:=h;obtain rfl:e=jb a:=j;exact lW (by omega) I g f k λn d=>⟨c,d,q⟩
def zr(ρ:Ev)(d x:D)(y:D):M Fl:=λb=>match x with
 | .ref n=>(match Kt y with
  |some k=>(match b[n]? with
   |some (.Ma a)=>if a.length<Wi then .ok (.nx ρ) (b.set n (.Ma (Wz a k d)))else .bad
   |_=>.bad)
  |none=>.bad)
 |_=>.bad
def VH(ρ:Ev)(fi:Ev->M D)(d x:D):M Fl:=xs ρ (fi ρ) (zr ρ d x)
def XJ(ρ:Ev)(a fi:Ev->M D)(d:D):M Fl:=xs ρ (a ρ) (VH ρ fi d)
def Qs(f b fi:Ev->M D):Ev->M Fl:=λa=>xs a (f a) (XJ a b fi)
theorem ou{e o i:Ca}{f P fi:Ev->M D}{pos b:re}(hu:X.A.units+9<cLine)(V:FE T X e f)(Y:FE T X o P)(W:FE T X i fi)
  (U:∀ v,yj (.Subscript o i b) X.env v=(do
   let r <-ve [v] (Ib o X.env);let B <-ve [v,r] (Ib i X.env)
   Dh b
   ve [v,r,B] (Yv r B v)
   release [v,r,B] []):=by intro _;rfl)
  (hs:iu [.Subscript o i b] e pos.line X.env=pure false:=by rfl) (hw:ju [.Subscript o i b] e X.env=pure none:=by rfl)
  (h1:(bf [.Subscript o i b] X.env).map (·.2)=[yj (.Subscript o i b) X.env]:=by rfl):FS T X (.Assign [.Subscript o i b] e pos) (Qs f P fi):=by
 intro m s S H D I hq;refine QR V (WQ Y W (RU hu) U) hs hw h1 m s S H D I ?_;obtain⟨μ,J,σ,g,hr,Z⟩:=hq;refine⟨μ,J,σ,g,hr,Z.xs g λd K F v H1 _ j r1 q1 p1=>?_⟩;refine⟨F,J,K,g.mono j,r1,p1.xs (g.mono j) λx L G vo H2 _ q r2 q2 p2=>?_⟩;refine⟨G,J,L,(g.mono j).mono q,r2,p2.xs ((g.mono j).mono q) λy N p vi O _ t R q3 c=>?_⟩;have hd:=Rep.mono t _ _ (Rep.mono q _ _ q1);have hx:=Rep.mono t _ _ q2;unfold zr at c;cases x with
 |ref n=>
  dsimp only at c;cases u:Kt y with
  |none=>rw[u]at c;exact c.elim
  |some k=>
   rw[u]at c;dsimp only at c;cases w:N[n]? with
   |none=>rw[w]at c;exact c.elim
   |some ob=>
    rw[w]at c;cases ob with
    |Ma h=>
     dsimp only at c;by_cases hc:h.length<Wi
     ·rw[ia hc]at c;obtain⟨a,rfl,hn,C,Q,g2⟩:=R.at hx w;obtain rfl:=fE q3 u;have E:=R.write (o:=.dK (zn C k v)) (ob:=.Ma (Wz h k d)) hn ⟨_,Og,by
       have ex:Ext p O p (upd O a (.dK (zn C k v))):=Ww (Ha hn) Q (λ_ z=>by cases z) (λ_ _ z=>by cases z);exact DP (bh.mono ex g2) k (Rep.mono ex _ _ hd)⟩
      have l:C.length=h.length:=by unfold bh at g2;exact(Paired.length g2).symm
      exact⟨a,_,rfl,Az.k Q (by rw[l];exact Ja hc (by decide)),c _ (.nx S) _ E.1 E.2 (((g.mono j).mono q).mono t |>.mono E.1)⟩
     ·rw[qa hc]at c;exact c.elim
    |_=>exact c.elim
 |_=>exact c.elim
def Xr:Ev->M D:=λ_ a=>.ok (.ref a.length) (a++[.Ma []])
theorem Fv{pos:re}:FE T X (.Dict [] [] pos) Xr:=by
 intro a s d H Q I h;obtain⟨μ,f,g,e,b,c⟩:=h;refine xS a s d H Q I λp hn=>?_;exact c (μ++[p]) (.ref p) _ (Lw hn) (b.push hn ⟨[],Og,.nil⟩) (XC b)
theorem T1{pos:re}:FE T X (.Dict [] [] pos) (eC (.Ma [] [])):=by
 intro a s e H Q I h;obtain⟨μ,g,i,f,b,d⟩:=h;refine xS a s e H Q I λp hn=>?_;exact d μ (.ref p) _ (Yl hn) (b.fresh hn) (by rw[Rep];exact⟨p,[],rfl,λhm=>(by obtain⟨u,c,_⟩:=b.mem hm;rw[hn]at c;cases c),(.inl Og),rfl,Ta.nil⟩)
def YH:List V->Hp->VK->Prop:=λxs H Q=>∃ a b,xs=[.ref a]/\Rd H a (.dK b)/\∀ p,H p=none->Q (.ref p) (upd H p (.dK b))
theorem QH:Fo X (.type "dict") YH:=by
 intro b s i H xs j Q I r h;obtain⟨a,d,rfl,e,q⟩:=h;obtain⟨u,rfl,f⟩:=Xu r;cases f;exact Y7 I e λp g hn c=>⟨.ref p,_,c,rfl,q p hn⟩
def Ny(ds:List D):M D:=λb=>match ds with
 |[x]=>(match al b x with
  |some a=>.ok (.Ma (a.map (·.1)) (a.map (·.2))) b
  |none=>.bad)
 |_=>.bad
theorem VO:∀ {kvs:List (Key × D)} {vs:List (Key × V)},bh T μ H kvs vs->vs.map (·.1)=kvs.map (·.1)/\Ta T μ H (kvs.map (·.2)) (vs.map (·.2))
 |_,_,.nil=>⟨rfl,Ta.nil⟩
 |_,_,.cons h t=>by
  obtain⟨a,b⟩:=VO t;exact⟨by rw[Sa,Sa,a,h.1],Ta.cons h.2 b⟩
theorem JS:Lr T YH Ny:=by
 intro E μ H n f q Q r p h
 match f with
 |[]=>exact h.elim
 |[x]=>
  unfold Ny at h;dsimp only at h;cases b:al n x with
  |none=>rw[b]at h;exact h.elim
  |some i=>
   rw[b]at h;rw[Ta]at p;obtain⟨v,o,rfl,j,d⟩:=p;rw[Ta]at d;subst d;obtain⟨a,e,rfl,h1,g⟩:=Ey r j b;refine⟨a,e,rfl,h1,λl hn=>?_⟩;obtain⟨k,m⟩:=VO g;exact h μ (.ref l) _ (Yl hn) (r.fresh hn) (by rw[Rep];exact⟨l,e,rfl,λhm=>(by obtain⟨u,c,_⟩:=r.mem hm;rw[hn]at c;cases c),(.inl Og),k,Ta.mono (Yl hn) _ _ m⟩)
 |_::_::_=>exact h.elim
end
section
variable{T:Tb}{X:Cx}
structure InK(K:W.Frag)(C:Addr):Prop where
 cl:L2.wl K C
 a:W.findIn K (.ref C) "__class__" = some (some (.builtin "object.__class__"))
 n:W.specialIn K (.builtin "object.__class__") "__get__" = some (some (.builtin "getset_descriptor.__get__"))
 t:W.takesIn K (.builtin "object.__class__")=some true
 m:W.mroIn K C (.type "object")=some true
def R1(K:W.Frag)(cv:Addr):List V->Hp->VK->Prop:=λxs H Q=>∃ a C c fs b,xs=[.ref a,.ref cv]/\H a=some (.ins C c fs)/\InK K C/\W.kitOne K (.ref C) (.ref cv)=some b/\Q (.bl b) H
theorem zq7{cv:Addr}:Fo X (.builtin "isinstance") (R1 X.K cv):=by
 intro d s j H xs l Q I r h;obtain⟨a,C,i,fs,b,rfl,f,Z,e,q⟩:=h;obtain⟨u,u2,rfl,g,c⟩:=xI r;cases c;exact bS I g (.ins f Z.cl Z.a Z.n Z.t Z.m) e λk=>⟨.bl b,H,I.tok _,rfl,q⟩
def wB(t:Nat->Option Bool)(x:D):M D:=λa=>match Hj a x with
 |some (c,_)=>(match t c with|some b=>.ok (.bl b) a|none=>.bad)
 |none=>.bad
def bG(K:W.Frag)(ca:Nat->Addr)(cv:Addr)(l:List (Nat × Bool)):Prop:=∀ p∈l,InK K (ca p.1)/\W.kitOne K (.ref (ca p.1)) (.ref cv)=some p.2
theorem JW{K:W.Frag}{ca:Nat->Addr}{cv:Addr}:bG K ca cv []:=λ_ h=>nomatch h
theorem ux{K:W.Frag}{ca:Nat->Addr}{cv:Addr}{c:Nat}{b:Bool}{l:List (Nat × Bool)}(z:InK K (ca c))(h:W.kitOne K (.ref (ca c)) (.ref cv)=some b)(r:bG K ca cv l):bG K ca cv ((c,b)::l):=λp a=>by
 rcases ib.mp a with rfl|a
 ·exact⟨z,h⟩
 ·exact r p a
theorem n6{y:Str}{cv:Addr}{l:List (Nat × Bool)}{e:Ca}{f:Ev->M D}{p i pos:re}(V:T.K=X.K)(A:FE T X e f)(hg:Gl X "isinstance")(hm:X.mg "isinstance" = none)(n:Gl X y)(m:(y == ("__debug__" : Str))=false)(hc:X.mg y=some (.ref cv))
  (ht:bG X.K T.ca cv l)
  (r:pa [e,.Name y i] X.env=(false,Ib e X.env)::pa [.Name y i] X.env:=by rfl) (o:(nc pos (pa [.Name y i] X.env)).any (·.1)=false:=by rfl) :
  FE T X (.Call (.Name "isinstance" p) [e,.Name y i] [] pos) (Yb (wB (ZA l)) f):=by
 intro g s F H Q I h;refine aF (zq7 (cv:=cv)) hg hm iH (Lv A (Lv (UH (v:=.ref cv) n hc rfl m) zy) r) (by decide) (by decide) r o g s F H Q I ?_;obtain⟨N,P,R,z,C,B⟩:=h;refine⟨N,P,R,z,C,B.bind λx q O v S _ U t E d=>?_⟩;unfold wB at d;cases j:Hj q x with
 |none=>rw[j]at d;exact d.elim
 |some u=>
  obtain⟨c,fs⟩:=u;rw[j]at d;dsimp only at d;cases k:ZA l c with
  |none=>rw[k]at d;exact d.elim
  |some b=>
   rw[k]at d;obtain⟨a,w,G,rfl,h1,_⟩:=Sy t E j;obtain⟨J,L⟩:=ht (c,b) (aN k);exact⟨a,T.ca c,w,G,b,rfl,h1,J,L,Mb.here d t (by rw[Rep])⟩
theorem Z8{l:List (Nat × Bool)}{x:D}{c:Nat}{fs:List (Str × D)}{b:Bool}{σ:qb}(h:Hj σ x=some (c,fs))(a:ZA l c=some b):wB (ZA l) x σ=.ok (.bl b) σ:=by
 unfold wB;rw[h];dsimp only;rw[a]
end
section
variable{T:Tb}{X:Cx}
inductive fD(X:Cx):List (Option Ca)->List Ca->List (Str × Str)->Prop
 |nil:fD X [] [] []
 |cons {k v:Ca} {x y:Str} {ks:List (Option Ca)} {vs:List Ca} {l:List (Str × Str)}:PE X k (tC (.str x))->PE X v (tC (.str y))->fD X ks vs l->fD X (some k::ks) (v::vs) ((x,y)::l)
theorem fD.all{ks vs l}(h:fD X ks vs l):ks.all (·.isSome)=true/\ks.length=vs.length/\ks.length=l.length:=by
 induction h with
 |nil=>exact⟨rfl,rfl,rfl⟩
 |cons _ _ _ a=>exact⟨by simpa using a.1,by simpa using a.2.1,by simpa using a.2.2⟩
end
section
variable{T:Tb}{X:Cx}{e:Ca}{f:Ev->M D}{pos:re}
end
end L4
namespace L4
open PySem PySem.Spec PySem.Calls PyProof.Rows L2
section
variable{T:Tb}{X:Cx}
end
end L4
namespace L4
open PySem PySem.Spec PyProof.Rows L2
def IC(o:D->List D->M D)(m:M (List D))(x:D):M D:=λa=>match al a x with
 |some _=>Wc m (o x) a
 |none=>.bad
def TK(o:D->List D->M D)(f:Ev->M D)(fs:Ev->M (List D)):Ev->M D:=λa=>Wc (f a) (IC o (fs a))
section
variable{T:Tb}{X:Cx}{o e:Ca}{es:List Ca}{f:Ev->M D}{fs:Ev->M (List D)}{name:Str}{apos cpos:re}{id:String}{r:V->List V->Hp->VK->Prop}{g:D->List D->M D}
theorem iQ{p:Addr}{kvs:List (Key × V)}{b:List (Addr × Bc)}{σ:St}{H:Hp}{s:aa}(I:Inv X b σ H s)(d:Rd H p (.dK kvs)):s.TypeIs (.ref p) "dict"/\∀ a,jb p=.ref a->∃ ob,s.heap.get? a=some ob/\ob.dict=none:=by
 obtain⟨_,_,_,_,o,_,_,e,ex,_⟩:=Nu I.dc d;refine⟨⟨o,e,ex.1⟩,λa c=>?_⟩;cases c;exact⟨o,e,ex.2.1⟩
def kW(r:V->List V->Hp->VK->Prop)(to:TE):TE:=λd H Q=>to d H λx c=>(∃ a b,x=.ref a/\Rd c a (.dK b))/\r x [] c Q
def tBD(r:V->List V->Hp->VK->Prop)(to:TE)(t:TA):TE:=λd H Q=>to d H λx c=>(∃ a b,x=.ref a/\Rd c a (.dK b))/\t d c λxs e=>r x xs e Q
theorem rQ{to:TE}(m:xo "dict")(slot:Slot "dict" name id)(e:Js (.builtin id)=pure (.type "method_descriptor"))(hm:Gv X id r)(k:PE X o to)
  (c:Ud o name X.env (Ib o X.env)=Ib o X.env:=by rfl) (d:(apos.endLine == cpos.line)=true:=by rfl):PE X (.Call (.Attribute o name apos) [] [] cpos) (kW r to):=by
 intro b s g H Q I h;refine wpAny_Call_method0_late c d (be (k b s g H _ I h) λv s1 ⟨x,H1,f,p,ty,n⟩=>?_);obtain⟨a,l,rfl,j⟩:=ty;cases p;obtain⟨h1,i⟩:=iQ f j;exact⟨"dict",id,m,slot,e,h1,i,Xi rfl (PySem.evalArgs_none (hm b s1 g H1 (.ref a) [] (.ref a) [] Q f rfl .nil n))⟩
theorem yk2{to:TE}{t:TA}(A:xo "dict")(slot:Slot "dict" name id)(i:Js (.builtin id)=pure (.type "method_descriptor"))(hm:Gv X id r)(w:PE X o to)(q:PA X (e::es) t)
  (d:Ud o name X.env (Ib o X.env)=Ib o X.env:=by rfl)
  (g:((nc cpos (pa (e::es) X.env)).all (λx=>!x.1) && (Wg cpos (Re [] X.env)).all (λx=>x.1.isSome)
   && decide ((e::es).length+([]:List gk).length+(if ([]:List gk).isEmpty then 0 else 1)<30))=true:=by rfl)
  (f:(apos.endLine == cpos.line)=true:=by rfl) (y:pa (e::es) X.env=(false,Ib e X.env)::pa es X.env:=by rfl) (c:(nc cpos (pa es X.env)).any (·.1)=false:=by rfl) :
  PE X (.Call (.Attribute o name apos) (e::es) [] cpos) (tBD r to t):=by
 intro b s j H Q I h;refine Tv d g f rfl (be (w b s j H _ I h) λv s1 ⟨x,H1,k,D,ty,B⟩=>?_);obtain⟨a,z,rfl,u⟩:=ty;cases D;obtain⟨h1,p⟩:=iQ k u;refine⟨"dict",id,A,slot,i,h1,p,?_⟩;have l:=q cpos b s1 j H1 _ k B;rw[y]at l ⊢;refine Xi (by show (false || (nc cpos (pa es X.env)).any (·.1))=false;rw[c]<;>rfl) (As ?_);exact be l λus s2 ⟨F,m,n,E,C⟩=>hm b s2 j m (.ref a) F (.ref a) us Q n rfl E C
theorem KZ(N:xo "dict")(slot:Slot "dict" name id)(p:Js (.builtin id)=pure (.type "method_descriptor"))(hm:Gv X id r)(L:wD T r g)(G:FE T X o f)(F:FA T X (e::es) fs)
  (c:Ud o name X.env (Ib o X.env)=Ib o X.env:=by rfl)
  (i:((nc cpos (pa (e::es) X.env)).all (λx=>!x.1) && (Wg cpos (Re [] X.env)).all (λx=>x.1.isSome)
   && decide ((e::es).length+([]:List gk).length+(if ([]:List gk).isEmpty then 0 else 1)<30))=true:=by rfl)
  (d:(apos.endLine == cpos.line)=true:=by rfl) (n:pa (e::es) X.env=(false,Ib e X.env)::pa es X.env:=by rfl) (b:(nc cpos (pa es X.env)).any (·.1)=false:=by rfl) :
  FE T X (.Call (.Attribute o name apos) (e::es) [] cpos) (TK g f fs):=by
 intro j s R H Q I h;refine yk2 N slot p hm G F c i d n b j s R H Q I ?_;obtain⟨V,A,W,w,K,J⟩:=h;refine⟨V,A,W,w,K,J.bind λx l q v Y _ D z y k=>?_⟩;unfold IC at k;cases m:al l x with
 |none=>rw[m]at k;exact k.elim
 |some xs=>
  rw[m]at k;obtain⟨a,S,rfl,h1,Z⟩:=Ey z y m;refine⟨⟨a,S,rfl,h1⟩,q,A,l,w.mono D,z,k.bind λC u t U B _ E P M O=>?_⟩;exact L _ t B u x C (.ref a) U Q P (Rep.mono E _ _ y) M O
end
def Nx(σ:qb)(x:D):List D->Option (List Bool)
 |[]=>some []
 |y::a=>match ij σ 7 y x,Nx σ x a with
  |some b,some bs=>some (b::bs)
  |_,_=>none
def Qx(a:Bool)(x y:D):M D:=λb=>match Yj b y with
 |some xs=>(match Nx b x xs with
  |some bs=>.ok (.bl (if a then !(bs.any id)else bs.any id)) b
  |none=>.bad)
 |none=>.bad
theorem JO{σ:qb}{x:D}:∀ {xs:List D} {bs:List Bool},Nx σ x xs=some bs->bs.length=xs.length/\∀ (j:Nat) (d:D) (b:Bool),xs[j]?=some d->bs[j]?=some b->ij σ 7 d x=some b
 |[],bs,h=>by cases h;exact⟨rfl,λj d b h=>by simp at h⟩
 |y::g,bs,h=>by
  unfold Nx at h;cases a:ij σ 7 y x with
  |none=>rw[a]at h;cases h
  |some i=>
   cases c:Nx σ x g with
   |none=>rw[a,c]at h;cases h
   |some e=>
    rw[a,c]at h;cases h;obtain⟨h1,f⟩:=JO c;refine⟨by simp[h1],λj d b hd hb=>?_⟩;cases j with
    |zero=>simp at hd hb;subst hd;subst hb;exact a
    |succ j=>exact f j d b (by simpa using hd) (by simpa using hb)
open Classical in
def yu(its:List Value)(bs:List Bool)(u:Value):Bool:=decide (∃ j:Nat,its[j]?=some u/\bs[j]?=some true)
theorem TF{its:List Value}{bs:List Bool}{u:Value}:yu its bs u=true ↔ ∃ j:Nat,its[j]?=some u/\bs[j]?=some true:=by unfold yu;exact @decide_eq_true_iff _ (Classical.propDecidable _)
theorem CQ{its:List Value}{bs:List Bool}(d:bs.length=its.length):its.toArray.any (yu its bs)=bs.any id:=by
 rw[show its.toArray.any (yu its bs)=its.any (yu its bs) by simp,Bool.eq_iff_iff,xn,xn];constructor
 ·rintro ⟨u,_,c⟩;obtain⟨j,_,h⟩:=TF.mp c;exact⟨true,Ha h,rfl⟩
 ·rintro ⟨b,hb,ht⟩;cases (show b=true from ht);obtain⟨j,hj,h⟩:=cu hb;have a:j<its.length:=by omega
  exact⟨its[j],yn a,TF.mpr ⟨j,by simp[a],by simp[hj,h]⟩⟩
theorem QU{A:Fa}{s:aa}{x:Value}{its:List Value}{bs:List Bool}(f:bs.length=its.length)(h:∀ (j:Nat) (u:Value) (b:Bool),its[j]?=some u->bs[j]?=some b->zd A s u x b)(w:Value)(d:w∈its):zd A s w x (yu its bs w):=by
 cases e:yu its bs w with
 |true=>obtain⟨j,h1,a⟩:=TF.mp e;exact h j w true h1 a
 |false=>
  obtain⟨j,hj,rfl⟩:=cu d;have hb:j<bs.length:=by omega
  have c:bs[j]=false:=by
   cases q:bs[j]with
   |false=>rfl
   |true=>exact absurd (TF.mpr ⟨j,vc hj,by rw[vc hb,q]⟩) (by rw[e];decide)
  exact h j _ false (vc hj) (by rw[vc hb,c])
section
variable{T:Tb}{X:Cx}
theorem U6(C:T.K=X.K)(N:X.A.units+9<cLine){i:List (Addr × Bc)}{s:aa}{L:St}{H:Hp}{μ:List Addr}{σ:qb}(I:Inv X i L H s)(r:Rel T μ H σ){x y:D}{v u:V}{l n:Value}(E:Rep T μ H x v)(hy:Rep T μ H y u)(G:Ed v l)(F:Ed u n)
  {xs:List D} {bs:List Bool} (e:Yj σ y=some xs) (B:Nx σ x xs=some bs) {Q:Value->aa->Prop} :
  (Q (.bool (bs.any id)) s->wpAny (model X.prog X.w) X.A (Wb .In l n) Q X.xe s)/\(Q (.bool (!bs.any id)) s->wpAny (model X.prog X.w) X.A (Wb .NotIn l n) Q X.xe s):=by
 obtain⟨p,M,rfl,h1,f⟩:=iz r hy e;rw[C]at f;obtain⟨R,hb⟩:=JO B;cases F;have h:∀ {a:List Value},ue M a->(bs.length=a.length/\∀ w∈a,zd X.A.in1 s w l (yu a bs w)):=fun {a} q=>by
  have O:=h1.length;have P:=q.length;have g:bs.length=a.length:=by omega
  refine⟨g,QU g λj w b c m=>?_⟩;obtain⟨z,o,J⟩:=ZE q c;obtain⟨d,t,rd⟩:=KJ h1 o;exact VE I r 7 X.A.in1 d x z v w l b (by show X.A.units+1+7+1<cLine;omega) rd E J G (hb j d b t m)
 rcases f with f|f
 ·obtain⟨a,q,pl,_⟩:=L2.Inv.list I f;obtain⟨g,k⟩:=h q;refine⟨λhq=>Zw (yu a bs) pl.isList (λw c=>k w (by simpa using c)) ?_,λhq=>SeqAt.notIn_listAt (yu a bs) pl.isList (λw c=>k w (by simpa using c)) ?_⟩<;>rw[CQ g]<;>exact hq
 ·obtain⟨a,q,pl,_⟩:=L2.Inv.tuple I f;obtain⟨g,k⟩:=h q;refine⟨λhq=>Sv (yu a bs) pl (λw c=>k w (by simpa using c)) ?_,λhq=>SeqAt.notIn_tupleAt (yu a bs) pl (λw c=>k w (by simpa using c)) ?_⟩<;>rw[CQ g]<;>exact hq
theorem cX(f:T.K=X.K)(g:X.A.units+9<cLine):Bi X (Wb .In) (rD T (Qx false)):=by
 intro c s l H v u n m Q I k j h;obtain⟨E,o,d,x,y,r,i,hy,a⟩:=h;unfold Qx at a;cases e:Yj d y with
 |none=>rw[e]at a;exact a.elim
 |some xs=>
  rw[e]at a;dsimp only at a;cases b:Nx d x xs with
  |none=>rw[b]at a;exact a.elim
  |some bs=>
   rw[b]at a;exact(U6 f g I r i hy k j e b).1 ⟨.bl (bs.any id),H,I,rfl,Mb.here a r (by rw[Rep];rfl)⟩
end
section
variable{T:Tb}{X:Cx}
end
section
variable{T:Tb}{X:Cx}{tg iter:Ca}{f:Ev->M D}
end
section
variable{T:Tb}{X:Cx}{o e:Ca}{es:List Ca}{f:Ev->M D}{fs:Ev->M (List D)}{name:Str}{apos cpos:re}{id:String}{r:V->List V->Hp->VK->Prop}{g:D->List D->M D}
end
def xG:Ev->M D:=λ_ _=>.bad
def Pi:Ev->M Fl:=λ_ _=>.bad
theorem kN{T:Tb}{X:Cx}{e:Ca}:FE T X e xG:=λpins s st H Q I ⟨b,c,σ,_,_,a⟩=>a.elim
section
variable{X:Cx}{pins:List (Addr × Bc)}{σ:St}{H:Hp}{s:aa}{h':Heap}
theorem aC{H:Hp}{a b:Addr}{u:HO}(e:H b=some u)(n:H a=none):b≠a:=λz=>by rw[z,n]at e;cases e
theorem _root_.L2.Inv.bv{t':Nat}{its:List Addr}{p:Addr}{o:HO}(I:Inv X pins σ H s)(k:∀ b u,b ∉ its->s.heap.get? b=some u->h'.get? b=some u)(d:∀ b∈its,Nm X pins H b)(g:s.heap.objs.size<=p)(f:qj X.prog X.w (upd H p o) h' p o) :
  Inv X pins σ (upd H p o) { s with heap:=h',toks:=t' }:=by
 have hn:H p=none:=I.dc.fresh g;have a:∀ b u,H b=some u->b ∉ its:=λb u e z=>by rw[(d b z).1]at e;cases e
 refine I.step (g':=s.gens) (d':=s.drawn) (ch:=its) (λb hb=>?_) (λb o _ _ hc e _=>k b o hc e) (λb o _ _ hc e _=>⟨o.slots,k b o hc e⟩) (λb u _ q n=>by rw[Qd (Ea (Ja (za q) g))];exact n)
  (λb o hc e=>⟨o,k b o hc e⟩) (λb xs q=>by rw[Qd (aC q hn)];exact q) (λb u xs q=>by rw[Qd (aC q hn)];exact q) (λb C q=>⟨#[],by rw[Qd (aC q hn),q];simp⟩) (λm hm=>?_) (λb u e=>?_) I.bare
 ·obtain⟨A,j,B,l,t,x⟩:=d b hb;exact⟨l,j,t,x⟩
 ·obtain⟨o,i,h,y,r⟩:=hm;exact⟨o,i,h,k _ o (λz=>(d _ z).2.1 rfl) y,r⟩
 ·by_cases hb:b=p
  ·subst hb;rw[Og]at e;cases e;exact f
  ·rw[Qd hb]at e;refine(I.dc b u e).zk (λc v hc q=>k c v ?_ q) (λc q=>by rw[Qd (aC q hn)];exact q) λc xs q=>by rw[Qd (aC q hn)];exact q
   rcases hc with z|z
   ·rw[z];exact a b u e
   ·exact a c _ z
theorem _root_.L2.Inv.Pu{t':Nat}{its:List Addr}(I:Inv X pins σ H s)(k:∀ b u,b ∉ its->s.heap.get? b=some u->h'.get? b=some u)(d:∀ b∈its,Nm X pins H b):Inv X pins σ H { s with heap:=h',toks:=t' }:=by
 have a:∀ b u,H b=some u->b ∉ its:=λb u e z=>by rw[(d b z).1]at e;cases e
 refine I.step (g':=s.gens) (d':=s.drawn) (ch:=its) (λb hb=>?_) (λb o _ _ hc e _=>k b o hc e) (λb o _ _ hc e _=>⟨o.slots,k b o hc e⟩) (λb u _ q n=>n)
  (λb o hc e=>⟨o,k b o hc e⟩) (λb xs q=>q) (λb u xs q=>q) (λb x q=>⟨#[],by rw[q];simp⟩) (λm hm=>?_) (λb u e=>?_) I.bare
 ·obtain⟨t,h,w,i,j,l⟩:=d b hb;exact⟨i,h,j,l⟩
 ·obtain⟨o,g,f,p,r⟩:=hm;exact⟨o,g,f,k _ o (λz=>(d _ z).2.1 rfl) p,r⟩
 ·refine(I.dc b u e).zk (λc v hc q=>k c v ?_ q) (λ_ q=>q) λ_ _ q=>q;rcases hc with z|z
  ·rw[z];exact a b u e
  ·exact a c _ z
end
theorem nq{h:Heap}{a b:Addr}{o i:Bc}{n g:String}(e:h.get? a=some o)(f:h.get? b=some i)(c:o.cls=.type n)(d:i.cls=.type g)(hn:n≠g):a≠b:=λz=>by
 subst z;rw[e]at f;cases f;rw[c]at d;injection d with q;exact hn q
def FN(K:W.Frag)(l:Addr):It:=
 ⟨λi H=>∃ xs x,lf K H l xs/\xs[i]?=some x,λi H v a=>∃ p x,H p=none/\v=.ref p/\(∀ xs,lf K H l xs->xs[i]?=some x)/\a=upd H p (.tup [.int i,x]),λi H=>∃ xs,lf K H l xs/\i=xs.length⟩
def LQ(K:W.Frag)(l m:Addr):It:=
 ⟨λi H=>∃ xs a x y,lf K H l xs/\lf K H m a/\xs[i]?=some x/\a[i]?=some y,λi H v b=>∃ p x y,H p=none/\v=.ref p/\(∀ xs,lf K H l xs->xs[i]?=some x)/\(∀ a,lf K H m a->a[i]?=some y)/\b=upd H p (.tup [x,y]),
  λi H=>∃ xs a,lf K H l xs/\lf K H m a/\i=min xs.length a.length⟩
theorem TZ{P:Aa}{w:Ia}{K:PySem.W.Frag}{j:List Ca}{kk:Nat}{pos:re}(l e it:Addr):Turn P w K (.Tuple j kk pos) (FN K l) [e,it] e (λi h=>(∃ a,IsEnum h e it i a)/\h.IsListIter it l i) where
 mem:=by simp
 obj:=λi h g b hb=>by
  obtain⟨⟨a,s1⟩,o,s2,c,d⟩:=g;simp only[ib,Te,wn]at hb;rcases hb with rfl|rfl
  ·exact⟨_,s1,λv z=>by cases z⟩
  ·exact⟨o,s2,λv z=>by rw[d]at z;cases z⟩
 keep:=λi h G g k=>by
  obtain⟨⟨a,s1⟩,s2⟩:=g;exact⟨⟨a,k e (by simp) _ s1⟩,s2.at λo q=>k it (by simp) o q⟩
 item:=by
  intro X M O L hc i D s σ H E I J g hg;subst M O L;obtain⟨xs,x,hq,R⟩:=hg;obtain⟨f,Y,p,hz⟩:=I.list hq;obtain⟨u,hu,ru⟩:=Y.get R;obtain⟨⟨a,s1⟩,s2⟩:=g;obtain⟨oa,ea,ca,_⟩:=id p.isList;obtain⟨ob,F,Z,_⟩:=id s2;have U:l≠e:=nq ea s1 ca rfl (by decide);have V:l≠it:=nq ea F ca Z (by decide);have S:e≠it:=nq s1 F rfl Z (by decide);have W:=WalksT.enumerate (prog:=X.prog) (w:=X.w) (A:=X.A) (I.ok.hd hc) e it l S U V f.toArray;have hi:i<f.toArray.size:=by
   have:=(ra.mp hu).1;simpa using this
  refine W.item i s _ E hi ⟨⟨a,s1⟩,s2,p.isList⟩ λT a0 G tk N hT r m hk=>?_;obtain⟨t,y,hy,rfl⟩:=N;have ey:y=u:=by
   have:f.toArray[i]?=some u:=by simpa using hu
   rw[this]at hy;cases hy;rfl
  subst ey;refine⟨.ref T,rfl,W.go j kk pos i T { s with heap:=G,toks:=tk } _ E m λh2 hS C=>?_⟩;have B:=W.apart i T G m;have n:h2.IsTuple T #[.int i t,y]:=by
   obtain⟨o,e1,c1⟩:=r;exact⟨o,C T o B e1,c1⟩
  have hn:H T=none:=I.dc.fresh hT;refine⟨.ref T,upd H T (.tup [.int i,x]),I.bv (o:=.tup [.int i,x]) (λb o hb q=>C b o hb (hk b o hb q)) J hT ?_,rfl,⟨T,x,hn,rfl,λys hy=>by rw[I.Ck hy hq];exact R,rfl⟩,⟨hS.1,hS.2.1⟩,λb hb=>?_⟩
  ·exact⟨(show (2:Nat)<=sizeLine by decide),[.int i t,y],.cons ⟨t,rfl⟩ (.cons ru .nil),n⟩
  ·rw[Qd (λz=>B (by rw[<-z];exact hb))];exact(J b hb).1
 done:=by
  intro X M O L hc i D s σ H E I J g hg;subst M O L;obtain⟨xs,hq,R⟩:=hg;obtain⟨f,Y,p,hz⟩:=I.list hq;obtain⟨⟨a,s1⟩,s2⟩:=g;have hl:=Y.length;exact wpAny_pyNext_enum_end (I.ok.hd hc) s1 s2 p.isList (by simp;omega) λG F=>⟨rfl,I.Pu (t':=s.toks) (λb o hb q=>F b o (λz=>hb (by simp[z])) q) J⟩
 self:=λA i s Q E g h=>by
  obtain⟨⟨a,s1⟩,s2⟩:=g;exact GB s1 h
theorem WN{h:Heap}{l m z TI TO p q:Addr}{t u:Nat}{xs ys:Array Value}{a b c d:Value}{f:Value}(r:TI≠TO)(s:p≠q)(v:h.IsList l xs)(w:h.IsList m ys)(s1:IsZip h z TI TO f)(s2:TL h TI a b)(s3:TL h TO c d)(x:h.IsListIter p l t)(y:h.IsListIter q m u):ZipApart z TI TO p q l m:=by
 obtain⟨A,n,k,_⟩:=v;obtain⟨B,o,c2,_⟩:=w;obtain⟨C,i,e,_⟩:=x;obtain⟨D,j,g,_⟩:=y;exact⟨nq s2 s1 rfl rfl (by decide),nq s3 s1 rfl rfl (by decide),nq i s1 e rfl (by decide),nq j s1 g rfl (by decide),r,nq s2 i rfl e (by decide),nq s2 j rfl g (by decide),nq s3 i rfl e (by decide),nq s3 j rfl g (by decide),s,
  nq n s1 k rfl (by decide),nq n s3 k rfl (by decide),nq n i k e (by decide),nq n j k g (by decide),nq o s1 c2 rfl (by decide),nq o s3 c2 rfl (by decide),nq o i c2 e (by decide),nq o j c2 g (by decide)⟩
theorem zw3{P:Aa}{w:Ia}{K:PySem.W.Frag}{C:List Ca}{kk:Nat}{pos:re}(l m z TI TO f g:Addr)(d1:TI≠TO)(d2:f≠g) :
  Turn P w K (.Tuple C kk pos) (LQ K l m) [z,TI,TO,f,g] z (λi h=>IsZip h z TI TO .none/\TL h TI (.ref f) (.ref g)/\(∃ a b,TL h TO a b)/\h.IsListIter f l i/\h.IsListIter g m i) where
 mem:=by simp
 obj:=λi h B b hb=>by
  obtain⟨s1,s2,⟨a,c,j⟩,⟨o4,n,c4,d4⟩,⟨o5,r,c5,d5⟩⟩:=B;simp only[ib,Te,wn]at hb;rcases hb with rfl|rfl|rfl|rfl|rfl
  ·exact⟨_,s1,λv z=>by cases z⟩
  ·exact⟨_,s2,λv z=>by cases z⟩
  ·exact⟨_,j,λv z=>by cases z⟩
  ·exact⟨o4,n,λv z=>by rw[d4]at z;cases z⟩
  ·exact⟨o5,r,λv z=>by rw[d5]at z;cases z⟩
 keep:=λi h Z B k=>by
  obtain⟨s1,s2,⟨a,c,j⟩,n,r⟩:=B;exact⟨k z (by simp) _ s1,k TI (by simp) _ s2,⟨a,c,k TO (by simp) _ j⟩,n.at λo q=>k f (by simp) o q,r.at λo q=>k g (by simp) o q⟩
 item:=by
  intro X hP hw hK hc i Y s σ H E I hf B hg;subst hP hw hK;obtain⟨xs,ys,x,y,hq,t,hx,hy⟩:=hg;obtain⟨e,rv,p,U⟩:=I.list hq;obtain⟨d,J,V,a2⟩:=I.list t;obtain⟨u,hu,ru⟩:=rv.get hx;obtain⟨u2,O,a4⟩:=J.get hy;obtain⟨s1,s2,⟨a,c,j⟩,n,r⟩:=B;have D:=WN d1 d2 p.isList V.isList s1 s2 j n r;have W:=rA (prog:=X.prog) (w:=X.w) (A:=X.A) (I.ok.hd hc) z TI TO f g l m D e.toArray d.toArray;have hi:i<min e.toArray.size d.toArray.size:=by
   have h1:=(ra.mp hu).1;have h2:=(ra.mp O).1;simp;omega
  refine W.item i s _ E hi ⟨s1,s2,⟨a,c,j⟩,n,r,p.isList,V.isList⟩ λT a5 Z tk a0 hT M F hk=>?_;obtain⟨v1,v2,R,S,rfl⟩:=a0;have e1:v1=u:=by
   have:e.toArray[i]?=some u:=by simpa using hu
   rw[this]at R;cases R;rfl
  have e2:v2=u2:=by
   have:d.toArray[i]?=some u2:=by simpa using O
   rw[this]at S;cases S;rfl
  subst e1;subst e2;refine⟨.ref T,rfl,W.go C kk pos i T { s with heap:=Z,toks:=tk } _ E F λh2 L N=>?_⟩;have a1:=W.apart i T Z F;have G:h2.IsTuple T #[v1,v2]:=by
   obtain⟨o,e1,c1⟩:=M;exact⟨o,N T o a1 e1,c1⟩
  have hn:H T=none:=I.dc.fresh hT;have sub:∀ b,b ∉ [z,TI,TO,f,g]->b ∉ [z,TO,f,g]:=λb hb hm=>hb (by simp at hm ⊢;rcases hm with h|h|h|h<;>simp[h]);have a3:∀ b∈[z,TI,TO,f,g],b<s.heap.objs.size:=λb hb=>by
   simp only[ib,Te,wn]at hb;rcases hb with rfl|rfl|rfl|rfl|rfl
   ·exact za s1
   ·exact za s2
   ·exact za j
   ·obtain⟨o,q,_⟩:=n;exact za q
   ·obtain⟨o,q,_⟩:=r;exact za q
  refine⟨.ref T,upd H T (.tup [x,y]),I.bv (o:=.tup [x,y]) (λb o hb q=>N b o (sub b hb) (hk b o (sub b hb) q)) hf hT ?_,rfl,⟨T,x,y,hn,rfl,λzs U=>by rw[I.Ck U hq];exact hx,λzs U=>by rw[I.Ck U t];exact hy,rfl⟩,⟨L.1,L.2.1,L.2.2.1,L.2.2.2.1,L.2.2.2.2.1⟩,λb hb=>?_⟩
  ·exact⟨(show (2:Nat)<=sizeLine by decide),[v1,v2],.cons ru (.cons a4 .nil),G⟩
  ·rw[Qd (Ea (Ja (a3 b hb) hT))];exact(hf b hb).1
 done:=by
  intro X hP hw hK hc i Y s σ H E I hf B hg;subst hP hw hK;obtain⟨xs,ys,hq,t,hx⟩:=hg;obtain⟨e,rv,p,U⟩:=I.list hq;obtain⟨d,J,V,a2⟩:=I.list t;obtain⟨s1,s2,⟨a,c,j⟩,n,r⟩:=B;have D:=WN d1 d2 p.isList V.isList s1 s2 j n r;have W:=rA (prog:=X.prog) (w:=X.w) (A:=X.A) (I.ok.hd hc) z TI TO f g l m D e.toArray d.toArray;have hl:=rv.length;have a6:=J.length;have ei:i=min e.toArray.size d.toArray.size:=by simp;omega
  subst ei;have sub:∀ b,b ∉ [z,TI,TO,f,g]->b ∉ [z,TO,f,g]:=λb hb hm=>hb (by simp at hm ⊢;rcases hm with h|h|h|h<;>simp[h]);exact W.done s _ E ⟨s1,s2,⟨a,c,j⟩,n,r,p.isList,V.isList⟩ λZ tk hk=>⟨rfl,I.Pu (t':=tk) (λb o hb q=>hk b o (sub b hb) q) hf⟩
 self:=λA i s Q E B h=>JD B.1 h
abbrev NX:=Nat->qb->Option (Option D)
def Nr(T:Tb)(c:List Addr)(f:Hp)(nx:NX)(J:It):Prop:=∀ a H e i,Ext c f a H->Rel T a H e->match nx i e with
 |none=>True
 |some none=>J.stop i H
 |some (some d)=>J.go i H/\∀ x b,J.rB i H x b->Ext a H a b/\Rel T a b e/\Rep T a b d x
def tIN(T:Tb)(X:Cx)(f:Ev->M NX):TI:=λb H R=>∃ a c d,wh T a H c b/\Rel T a H d/\Mb T (XE X b) (Nr T) a H (f c d) R
abbrev Px(T:Tb)(X:Cx)(tg a:Ca)(f:Ev->M NX):Prop:=PI X tg a (tIN T X f)
def yp(nx:NX)(tg:D->Ev->Option Ev)(a:Ev->M Fl):Nat->Nat->Ev->M Fl
 |0,_,_=>bad
 |k+1,i,e=>λc=>match nx i c with
  |none=>.bad
  |some none=>.ok (.nx e) c
  |some (some d)=>match tg d e with
   |none=>.bad
   |some b=>Wc (a b) (dw (yp nx tg a k (i+1))) c
def FF(tg:D->Ev->Option Ev)(a:Ev->M Fl)(ρ:Ev)(nx:NX):M Fl:=yp nx tg a 1001 0 ρ
def Mp(src:Ev->M NX)(tg:D->Ev->Option Ev)(a:Ev->M Fl):Ev->M Fl:=λb=>xs b (src b) (FF tg a b)
section
variable{T:Tb}{X:Cx}{tgt iter:Ca}{body:List Stmt}{src:Ev->M NX}{t:D->Ev->Option Ev}{g:Ev->M Fl}{pos:re}
theorem uw(N:vq (model X.prog X.w) X.A X.env X.xe)(hc:X.calm=true)(Z:Px T X tgt iter src)(hg:FG T X tgt t)(hb:Hn T X body g)
  (hs:∀ x,Ug iter X.env x=pure x:=by intro _;rfl):FS T X (.For tgt iter body [] pos) (Mp src t g):=by
 intro v s st H D I hq;refine SQ N hc Z hg hb hs v s st H D I ?_;obtain⟨b,e,q,G,hr,N⟩:=hq;refine⟨b,e,q,G,hr,N.xs G λnx C c J F _ W r1 q1 p1=>?_⟩;have O:Mb T EN (Xl T) c F (yp nx t g 1001 0 e C) (Rk X D):=p1;refine⟨λi m l r=>∃ b e q,Ext c F b r/\wh T b r e l/\Rel T b r q/\Mb T EN (Xl T) b r (yp nx t g m i e q) (Rk X D),⟨1001,c,e,C,Ext.refl _ _,G.mono W,r1,O⟩,?_⟩;rintro i m l r ⟨p,z,f,ex,u,S,a⟩;cases m with
 |zero=>exact a.elim
 |succ m=>
  unfold yp at a;have E:=q1 p r f i ex S;cases en:nx i f with
  |none=>simp only[en]at a;exact a.elim
  |some o=>
   cases o with
   |none=>
    simp only[en]at a E;exact .inl ⟨E,Mb.here (g:=Ao.nx l) a S u⟩
   |some d=>
    simp only[en]at a E;obtain⟨M,hy⟩:=E;refine .inr ⟨M,λn j=>∃ b e q,Ext c F b j/\wh T b j e n/\Rel T b j q/\Mb T EN (Xl T) b j (yp nx t g m (i+1) e q) (Rk X D),λn j h=>⟨m,Rc _,h⟩,λx j y=>?_⟩;obtain⟨k,U,hx⟩:=hy x j y;cases ht:t d z with
    |none=>simp only[ht]at a;exact a.elim
    |some B=>
     simp only[ht]at a;exact⟨p,f,z,d,B,u.mono k,U,hx,ht,λn K=>⟨p,B,f,K,U,(Mb.mono k a).bind λfl R P gl H4 _ Y V q4 p4=>MK V q4 p4 λQ a0 L p5=>⟨P,Q,R,(ex.trans k).trans Y,L,V,p5⟩⟩⟩
end
def uv(a:D):NX:=λi b=>match Fg b a with
 |some xs=>(match xs[i]? with
  |some x=>some (some (.tup [.int (i:Int),x]))
  |none=>if i=xs.length then some none else none)
 |none=>none
def RK(a b:D):NX:=λi d=>match Fg d a with
 |some xs=>(match Fg d b with
  |some c=>(match xs[i]? with
   |some x=>(match c[i]? with
    |some y=>some (some (.tup [x,y]))
    |none=>if i=min xs.length c.length then some none else none)
   |none=>if i=min xs.length c.length then some none else none)
  |none=>none)
 |none=>none
def Kz(d:D):M NX:=λa=>match Fg a d with
 |some _=>.ok (uv d) a
 |none=>.bad
def kG(f:Ev->M D):Ev->M NX:=λa=>Wc (f a) Kz
def sK(a b:D):M NX:=λc=>match Fg c a with
 |some _=>(match Fg c b with
  |some _=>.ok (RK a b) c
  |none=>.bad)
 |none=>.bad
def BM(m:M D)(a:D):M NX:=Wc m (sK a)
def WF(f g:Ev->M D):Ev->M NX:=λa=>Wc (f a) (BM (g a))
section
variable{T:Tb}{X:Cx}{elts:List Ca}{kk:Nat}{p0 p pos:re}{f g:Ev->M D}
theorem qX:bootBuiltins "enumerate" = some (.type "enumerate"):=by decide +kernel
theorem vX:bootBuiltins "zip" = some (.type "zip"):=by decide +kernel
def bW(K:W.Frag)(b:TA):TI:=λd H R=>b d H λc a=>∃ l xs,c=[.ref l]/\lf K a l xs/\R (FN K l) a
theorem HZ{a:Ca}{i:TA}(hg:Gl X "enumerate")(hm:X.mg "enumerate" = none)(m:PA X [a] i)(n:pa [a] X.env=[(false,Ib a X.env)]:=by rfl):PI X (.Tuple elts kk p0) (.Call (.Name "enumerate" p) [a] [] pos) (bW X.K i):=by
 intro d s w H R I h;refine Call_ (Ry I hg hm qX (Ze (be (m pos d s w H _ I h) λus s1 ⟨B,H1,f,u,t⟩=>?_) n rfl));obtain⟨l,xs,e,hq,q⟩:=t;subst e;cases u with
 |cons r v=>
  cases v;cases r;obtain⟨o,A,pl,z⟩:=f.list hq;refine call_enumerate_list pl.isList λy g j x k=>GB g ?_;refine⟨s1.heap.objs.size+1,[s1.heap.objs.size+1,s1.heap.objs.size],_,_,H1,rfl,f.kept (t':=s1.toks) k,TZ l _ _,⟨⟨_,g⟩,j⟩,λb hb=>?_,q⟩;have c:s1.heap.objs.size<=b:=by simp at hb;rcases hb with rfl|rfl<;>omega
  exact f.Qp c (f.dc.fresh c)
theorem AT{e:Ca}(hg:Gl X "enumerate")(hm:X.mg "enumerate" = none)(h:FE T X e f)(u:pa [e] X.env=[(false,Ib e X.env)]:=by rfl):Px T X (.Tuple elts kk p0) (.Call (.Name "enumerate" p) [e] [] pos) (kG f):=by
 intro k s O H R I M;refine HZ hg hm (Lv h zy u) u k s O H R I ?_;obtain⟨Q,V,W,G,L,J⟩:=M;refine⟨Q,V,W,G,L,J.bind λd r S v Z _ e1 B A j=>?_⟩;unfold Kz at j;cases m:Fg r d with
 |none=>rw[m]at j;exact j.elim
 |some ds=>
  rw[m]at j;obtain⟨l,P,rfl,h1,h2⟩:=B.ls A m;refine⟨l,P,rfl,lf.of h1,Mb.here (R:=Nr T) j B λU D t i ex C=>?_⟩;unfold uv;cases n:Fg t d with
  |none=>trivial
  |some xs=>
   obtain⟨l',ws,E,h3,h4⟩:=C.ls (Rep.mono ex _ _ A) n;cases E;have b:lf X.K D l ws:=lf.of h3;dsimp only;cases F:xs[i]? with
   |none=>
    dsimp only;by_cases o:i=xs.length
    ·rw[ia o];exact⟨ws,b,by rw[o];exact h4.length⟩
    ·rw[qa o];trivial
   |some d'=>
    obtain⟨x,w,N⟩:=h4.get F;refine⟨⟨ws,x,b,w⟩,λz Y y=>?_⟩;obtain⟨q,x',a,rfl,c,rfl⟩:=y;have g:=c ws b;rw[w]at g;cases g;refine⟨Yl a,C.fresh a,?_⟩;rw[Rep];exact⟨q,_,rfl,Og,Ta.cons (by rw[Rep]) (Ta.cons (Rep.mono (Yl a) _ _ N) Ta.nil)⟩
def cZ(K:W.Frag)(b:TA):TI:=λe H R=>b e H λc a=>∃ l m xs d,c=[.ref l,.ref m]/\lf K a l xs/\lf K a m d/\R (LQ K l m) a
theorem z4{a b:Ca}{t:TA}(hg:Gl X "zip")(hm:X.mg "zip" = none)(z:PA X [a,b] t)(A:pa [a,b] X.env=[(false,Ib a X.env),(false,Ib b X.env)]:=by rfl)(f:pa [b] X.env=[(false,Ib b X.env)]:=by rfl):PI X (.Tuple elts kk p0) (.Call (.Name "zip" p) [a,b] [] pos) (cZ X.K t):=by
 intro g s J H R I h;refine Call_ (Ry I hg hm vX (Ze (be (z pos g s J H _ I h) λus s1 ⟨P,H1,c,F,D⟩=>?_) (by rw[A,f]) (by rw[f];rfl)));obtain⟨l,m,xs,Q,e,hq,i,q⟩:=D;subst e;cases F with
 |cons r k=>
  cases k with
  |cons E k=>
   cases k;cases r;cases E;obtain⟨C,O,pl,N⟩:=c.list hq;obtain⟨o,G,j,B⟩:=c.list i;refine call_zip_2 pl.isList j.isList λM n u v w x L y=>JD n ?_;refine⟨s1.heap.objs.size+4,[s1.heap.objs.size+4,s1.heap.objs.size+2,s1.heap.objs.size+3,s1.heap.objs.size,s1.heap.objs.size+1],_,_,H1,rfl,c.kept (t':=s1.toks) y,zw3 l m (s1.heap.objs.size+4) (s1.heap.objs.size+2) (s1.heap.objs.size+3) s1.heap.objs.size (s1.heap.objs.size+1) (show (s1.heap.objs.size+2:Nat)≠s1.heap.objs.size+3 by omega) (show (s1.heap.objs.size:Nat)≠s1.heap.objs.size+1 by omega),⟨n,u,⟨_,_,v⟩,w,x⟩,λb hb=>?_,q⟩;have d:s1.heap.objs.size<=b:=by simp at hb;rcases hb with rfl|rfl|rfl|rfl|rfl<;>omega
   exact c.Qp d (c.dc.fresh d)
theorem R0{e a:Ca}(hg:Gl X "zip")(hm:X.mg "zip" = none)(h:FE T X e f)(h':FE T X a g)(Y:pa [e,a] X.env=[(false,Ib e X.env),(false,Ib a X.env)]:=by rfl)(t:pa [a] X.env=[(false,Ib a X.env)]:=by rfl) :
  Px T X (.Tuple elts kk p0) (.Call (.Name "zip" p) [e,a] [] pos) (WF f g):=by
 intro B s st H R I hw;refine z4 hg hm (Lv h (Lv h' zy t) (by rw[Y,t])) Y t B s st H R I ?_;obtain⟨μ,ρ,σ,W,hr,hp⟩:=hw;refine⟨μ,ρ,σ,W,hr,hp.bind λd P O v H1 _ e1 r1 q1 p1=>⟨O,ρ,P,W.mono e1,r1,p1.bind λS D a2 v2 H2 _ e2 L q2 k=>?_⟩⟩;unfold sK at k;cases G:Fg D d with
 |none=>rw[G]at k;exact k.elim
 |some ds=>
  rw[G]at k;dsimp only at k;cases n:Fg D S with
  |none=>rw[n]at k;exact k.elim
  |some a1=>
   rw[n]at k;have C:=Rep.mono e2 _ _ q1;obtain⟨l,vs,rfl,h1,h2⟩:=L.ls C G;obtain⟨m,ws,rfl,h3,h4⟩:=L.ls q2 n;refine⟨l,m,vs,ws,rfl,lf.of h1,lf.of h3,Mb.here (R:=Nr T) k L λa3 Q E i ex M=>?_⟩;unfold RK;cases fl:Fg E d with
   |none=>trivial
   |some xs=>
    obtain⟨l',us,a,h5,U⟩:=M.ls (Rep.mono ex _ _ C) fl;cases a;dsimp only;cases J:Fg E S with
    |none=>trivial
    |some N=>
     obtain⟨m',us2,a,h7,V⟩:=M.ls (Rep.mono ex _ _ q2) J;cases a;have c:lf X.K Q l us:=lf.of h5;have j:lf X.K Q m us2:=lf.of h7;have l1:=U.length;have l2:=V.length;dsimp only;cases ei:xs[i]? with
     |none=>
      dsimp only;by_cases r:i=min xs.length N.length
      ·rw[ia r];exact⟨us,us2,c,j,by rw[r,l1,l2]⟩
      ·rw[qa r];trivial
     |some d'=>
      dsimp only;cases F:N[i]? with
      |none=>
       dsimp only;by_cases r:i=min xs.length N.length
       ·rw[ia r];exact⟨us,us2,c,j,by rw[r,l1,l2]⟩
       ·rw[qa r];trivial
      |some a0=>
       obtain⟨x,Z,rx⟩:=U.get ei;obtain⟨y,hy,ry⟩:=V.get F;refine⟨⟨us,us2,x,y,c,j,Z,hy⟩,λz H' yy=>?_⟩;obtain⟨q,x',y',b,rfl,u,o,rfl⟩:=yy;have w:=u us c;rw[Z]at w;cases w;have A:=o us2 j;rw[hy]at A;cases A;refine⟨Yl b,M.fresh b,?_⟩;rw[Rep];exact⟨q,_,rfl,Og,Ta.cons (Rep.mono (Yl b) _ _ rx) (Ta.cons (Rep.mono (Yl b) _ _ ry) Ta.nil)⟩
end
open PySem.Builtin.Str (occurrences partsBetween subAt)
end L4
namespace L4
open PySem PySem.Spec PyProof.Rows L2
section
variable{T:Tb}{X:Cx}{a b c:Ca}{fa fb fc:Ev->M D}{pos:re}
end
section
variable{T:Tb}{X:Cx}
def iB(y x:D):M D:=λb=>match Kt y with
 |some k=>(match al b x with
  |some a=>.ok (.bl (!(Zx a k).isSome)) b
  |none=>.bad)
 |none=>.bad
def xQ:R2:=λy x H Q=>∃ a o,x=.ref a/\Jj H a y o/\Q (.bl (!o.isSome)) H
theorem YP(f:X.A.units+9<cLine):Bi X (Wb .NotIn) xQ:=by
 intro b s k H y x i u Q I e d h;obtain⟨a,o,rfl,g,q⟩:=h;obtain rfl:u=jb a:=d;exact i2 (by omega) I g e λj c=>⟨.bl (!o.isSome),H,c,rfl,q⟩
theorem wQ:gm T xQ iB:=by
 intro E n H l y x u v Q r q p h;unfold iB at h;cases c:Kt y with
 |none=>rw[c]at h;exact h.elim
 |some k=>
  rw[c]at h;dsimp only at h;cases b:al l x with
  |none=>rw[b]at h;exact h.elim
  |some i=>
   rw[b]at h;obtain⟨a,j,rfl,h1,g⟩:=Ey r p b;obtain rfl:=fE q c;refine⟨a,Yq j k,rfl,Jj.kr h1,Mb.here h r ?_⟩;rw[Rep];rcases hJ g k with⟨e,f⟩|⟨d,w,e,f,m⟩
   ·rw[e,f];rfl
   ·rw[e,f];rfl
def ot(T:Tb)(P:Aa)(w:Ia)(mg:Str->Option Value)(base:Heap)(k:Nat)(f:Addr)(ps:List Str)(b:List Value)(fn:List D->M D):Prop:=
 ∃ a,Rr T.K a ps []/\Rr T.K a ps b/\ph P w T.K mg base (Xk P w) k f a ps (Eo T ps.length fn)
structure kt(K:W.Frag)(C:Addr)(x qual:Str)(st:Stmt)(ps:List Str)(dv:List Value)(f:Addr):Prop where
 ex:∃ fd,(∃ (oc:Value) (od:Option Addr) (dV kV doc pm:Value) (an:Option Addr) (cdv ct:Value) (osl:Array (Option Value)),
  fd=W.fnOf x qual (Yn st) (Yi st) (kc st) dV kV doc pm an cdv ct/\K.lookup f=some ⟨oc,od,.func fd,osl⟩/\W.codeIn K cdv qual=true)/\Rr K fd ps []/\Rr K fd ps dv
end
section
variable{P:Aa}{w:Ia}{K:W.Frag}{mg:Str->Option Value}{base:Heap}{ca:Nat->Addr}{tx:Tx}
theorem LM{k:Nat}{C f:Addr}{x qual:Str}{b:Stmt}{ps N:List Str}{d:List Value}{g:Ev->M Fl}(h:kt K C x qual b ps d f)(S:ua N ps (kc b))
  (hb:∀ (a:Value) (A:Fa) (outer:List Hg) (s:aa) (H:Hp) (E:XK),jd k (A.deeper (ag qual (kc b) s.heap.objs.size f a))->Hn ⟨K,ca,tx⟩ (zp (Xk P w) P w K mg base N qual (kc b) f a A outer s H E) (Yi b) g) :
  ot ⟨K,ca,tx⟩ P w mg base (k+1) f ps d (run N.length g):=by
 obtain⟨p,⟨q,r,o,kV,j,t,n,a,ct,m,rfl,l,c⟩,e,i⟩:=h.ex;exact⟨_,e,i,fB l c S (hb a)⟩
theorem ot.hide{T:Tb}{k:Nat}{f:Addr}{ps:List Str}{a:List Value}{fn:List D->M D}(h:ot T P w mg base k f ps a fn):ot T P w mg base k f ps a (L4.hide fn):=by rw[yr];exact h
theorem ot.Hb{T:Tb}{k:Nat}{f:Addr}{ps:List Str}{a:List Value}{fn:List D->M D}(h:ot T P w mg base k f ps a fn):ot T P w mg base k f ps a (λb=>L4.Hb (fn b)):=by
 obtain⟨c,h1,d,h3⟩:=h;exact⟨c,h1,d,wF h3⟩
theorem wO{C f t:Addr}{x qual:Str}{e:Stmt}{ps:List Str}{i:List Value}{v q:Value}{od g r:Option Addr}{j u:Array (Option Value)}{kV b h a ct:Value}{p:Nat}
  (hb:∀ (t:Addr) (kV b h:Value) (g:Option Addr) (a ct:Value) (s:aa) (o:Bc) (n:Nat) (us:List Value),s.heap.get? t=some o->o.data=.seq i.toArray n->((us++[]).length=ps.length->xf s (W.fnOf x qual (Yn e) (Yi e) (kc e) (.ref t) kV b h g a ct) ⟨us,[]⟩ (ps.zip (us++[])))/\
   ((us++i).length=ps.length->xf s (W.fnOf x qual (Yn e) (Yi e) (kc e) (.ref t) kV b h g a ct) ⟨us,[]⟩ (ps.zip (us++i))))
  (l:K.lookup f=some ⟨v,od,.func (W.fnOf x qual (Yn e) (Yi e) (kc e) (.ref t) kV b h g a ct),j⟩)
  (c:W.codeIn K a qual=true) (d:K.lookup t=some ⟨q,r,.seq i.toArray p,u⟩):kt K C x qual e ps i f:=
 ⟨⟨_,⟨v,od,_,kV,b,h,g,a,ct,j,rfl,l,c⟩,λs us k m=>(hb t kV b h g a ct s _ p us (k _ _ d) rfl).1 m,λs us k m=>(hb t kV b h g a ct s _ p us (k _ _ d) rfl).2 m⟩⟩
end
section
variable{T:Tb}{X:Cx}
theorem bR{pl:uo Bool}{k c:Nat}{fn:List D->M D}{ps:List Str}{dv:List Value}{m:Str}{o e:Ca}{j:List Ca}{f:Ev->M D}{fs:Ev->M (List D)}{pos g:re}{fa:Addr}(hK:T.K=X.K)(he:FE T X o f)(hC:wl T.K (T.ca c))(L:Cd T.K (T.ca c) m fa)
  (h:ot T X.prog X.w X.mg X.base k fa ps dv fn) (hr:jd k X.A) (ha:FA T X (e::j) fs)
  (R:pa (e::j) X.env=(false,Ib e X.env)::pa j X.env:=by rfl) (O:(nc pos (pa j X.env)).any (·.1)=false:=by rfl)
  (ht:Ib (.Call (.Attribute o m g) (e::j) [] pos) X.env=(do
   let ov <-Ib o X.env
   Dh g.atName
   let (f,first) <-ve [ov] (yh ov m pl)
   Nl pos f first (nc pos (pa (e::j) X.env)) (Wg pos (Re [] X.env))):=by rfl) :
  FE T X (.Call (.Attribute o m g) (e::j) [] pos) (He [(c,fn)] ps.length m f fs):=by
 intro i s E H Q I hq;obtain⟨μ,ρ,σ,hE,P,hp⟩:=hq;have J:=hE;refine W.methodCall_KW (pl:=pl) (be (he i s E H (λx l=>∃ a B vs,x=.ref a/\l a=some (.ins (T.ca c) B vs)/\vs.lookup m=none/\tL T X fs E l λus F=>Eo T ps.length fn (x::(us++[])) F Q (XE X E)) I ⟨μ,ρ,σ,hE,P,hp.bind λd t U v l _ e1 r1 q1 b=>?_⟩) λu s1 ⟨x,l,Z,rx,a,B,vs,ex,ea,en,q⟩=>?_) ht
 ·unfold Ak at b;cases G:Hj t d with
  |none=>rw[G]at b;exact b.elim
  |some z=>
   obtain⟨c',gs⟩:=z;rw[G]at b;dsimp only at b;by_cases n:c=c'
   ·subst n;have C:br [(c,fn)] c=some fn:=by unfold br;rw[ia (Vh c)]
    cases en:gs.lookup m with
    |some y=>rw[C,en]at b;exact b.elim
    |none=>
     rw[C,en]at b;dsimp only at b;obtain⟨a,B,vs,rfl,h1,h2⟩:=Sy r1 q1 G;refine⟨a,B,vs,rfl,h1,(GA h2).2 en,U,ρ,t,J.mono e1,r1,b.bind λds Y V us F _ e2 r2 S p=>?_⟩;unfold si at p;by_cases N:ds.length+1=ps.length
     ·rw[ia N]at p;exact⟨V,Y,d::ds,Ta.cons (Rep.mono e2 _ _ q1) (by rw[mf];exact S),by rw[Rb];exact N,r2,p⟩
     ·rw[qa N]at p;exact p.elim
   ·have C:br [(c,fn)] c'=none:=by unfold br;rw[qa (by simpa using n)];rfl
    rw[C]at b;exact b.elim
 ·subst ex;obtain rfl:u=jb a:=rx;obtain⟨fd,hb,_,hF⟩:=h;rw[hK]at hC L hF hb;refine aG Z ea hC L en ?_;refine W.callWith_K (first:=[.ref a]) (h₀:=X.base) I.ok.mod.xw L.kp (be (ha pos i s1 E l _ Z q) λus s2 ⟨vs,F,I2,r,S⟩=>⟨I2.mj,?_⟩) R O;exact LA (us:=.ref a::us) (vs:=.ref a::vs) hF hr hb .nil I2 (.cons rfl r) S
end
section
variable{T:Tb}{X:Cx}
end
def zv(ix:List Nat)(ρ:Ev):Ev:=none::none::ix.map λi=>(ρ[i]?).getD none
def Fz(ix:List Nat)(a:St):St:=none::none::ix.map λi=>(a[i]?).getD none
theorem Q8{T:Tb}{μ:List Addr}{H:Hp}{ρ:Ev}{a:St}(ix:List Nat)(h:wh T μ H ρ a):wh T μ H (zv ix ρ) (Fz ix a):=by
 have q:=fT ix h;refine⟨by simp[zv,Fz],λi d e=>?_⟩;cases i with
 |zero=>simp[zv]at e
 |succ j=>exact q.2 j d e
section
variable{X:Cx}{pins:List (Addr × Bc)}{st:St}{H:Hp}{s:aa}{x z0:Str}{M':List Str}{ix:List Nat}{scope:Scope}{fp:List Addr}
theorem d9(I:Inv X pins st H s)(L:Qn X x M' ix scope)(g:∀ b∈fp,Nm X pins H b/\b<s.heap.objs.size){h':Heap}{t':Nat}{m:Str->Option Value}(J:h'.Ns s.heap.objs.size m)
  (C:∀ b o,s.heap.get? b=some o->h'.get? b=some o) :
  Inv (qu X (x::z0::M') scope (Vi X.env scope.names []) s.heap.objs.size s H fp) [] (Fz ix st) H { s with heap:=h',toks:=t' }:=by
 have sub:∀ n c,(Vi X.env scope.names []).lookup n=some c->X.env.cells.lookup n=some c:=λn c e=>fL X.env scope.names [] n c (λ_ _ q=>by simp at q) e;have A:∀ n c,X.env.cells.lookup n=some c->c<s.heap.objs.size:=λn c e=>by obtain⟨v,z⟩:=I.cell n c e;exact z.lt
 have fresh:H s.heap.objs.size=none:=I.dc.fresh (ya _);refine⟨⟨I.ok.mod,L.kind,I.ok.glob,I.ok.blt,ya _,λa b c h1 d=>I.ok.inj a b c (sub a c h1) (sub b c d),λa W=>?_,λa c h=>(by cases h),I.ok.hd,I.ok.frames,.inl rfl,λb hb=>⟨Ea (g b hb).2,λa c e=>?_⟩,λb o e=>I.bs b o e,cc I.ok.Os I.sz,λb o e hb=>?_,λb hb z=>?_,I.stack,I.yk⟩,
  rfl,I.bare,Un.kept C,⟨m,J,λi y v S D e3=>?_⟩,λa c e=>?_,fresh,λa c e=>I.rg a c (sub a c e),λp Z=>absurd (show p∈([]:List (Addr × Bc))from Z) (by simp),I.dc.kept C,?_⟩
 ·
  have F:(scope.names.map λ(n,k)=>if (k == lb && X.env.scope.kind == .function && X.env.kindOf n == some .cell)then (n,Lc)else (n,k)).lookup a=some .cell\/(scope.names.map λ(n,k)=>if (k == lb && X.env.scope.kind == .function && X.env.kindOf n == some .cell)then (n,Lc)else (n,k)).lookup a=some .free:=W;have P:scope.names.lookup a=some .free:=by
   rcases F with z|z
   ·obtain⟨k0,h1,d⟩:=EJ z;rcases d with d|⟨d,_⟩
    ·subst d;exact absurd rfl (FD L _ (Mw h1))
    ·rw[d]at h1;exact h1
   ·obtain⟨k0,h1,d⟩:=EJ z;rcases d with d|⟨_,d⟩
    ·rw[<-d]at h1;exact h1
    ·cases d
  exact tD X.env scope.names [] a (Mw P) (Xz I L _ (Mw P) rfl)
 ·exact(g b hb).1.2.2.2.2.1 a c (sub a c e)
 ·rcases(g b hb).1.2.2.2.1 with z|z
  ·exact I.ok.Xq b o e z
  ·exact absurd (Ja (za e) (cc I.ok.Os z)) (Md _)
 ·rcases ib.mp (I.js b z)with q|q
  ·exact(g b hb).1.2.1 q
  ·exact(g b hb).1.2.2.1 q
 ·
  cases i with
  |zero=>simp[Fz]at D
  |succ i=>
  cases i with
  |zero=>simp[Fz]at D
  |succ j=>
   have r:M'[j]?=some y:=S;have f:(ix.map λi=>(st[i]?).getD none)[j]?=some (some v):=D;rw[Eb]at f;cases E:ix[j]? with
   |none=>rw[E]at f;cases f
   |some w=>
    rw[E]at f;have B:(st[w]?).getD none=some v:=yb f;have T:st[w]?=some (some v):=by
     cases q:st[w]? with
     |none=>rw[q]at B;cases B
     |some o=>rw[q]at B;exact Ad some B
    have U:X.N[w]?=some y:=by
     have z:=Ad (λl=>l[j]?) L.at_;simp only[Eb,E,r,ah]at z;exact yb z
    have q:=Ub.mp L.MT y (Ha r);simp only[Da,wj]at q;have Q:X.env.scope.names.lookup y=some .cell\/X.env.scope.names.lookup y=some .free:=by
     rcases q.1 with z|z
     ·exact .inl (eq_of_beq z)
     ·exact .inr (eq_of_beq z)
    have M:scope.names.lookup y=some .free:=eq_of_beq q.2;obtain⟨m0,Y,G⟩:=I.loc;obtain⟨u,ru,lu⟩:=G w y v U T (by rcases Q with z|z;exact .inr (.inl z);exact .inr (.inr z));refine⟨u,ru,.inr ⟨DM (env:=X.env) M,?_⟩⟩;rcases lu with⟨z,_⟩|⟨_,c,V,zc⟩
    ·rcases Q with k|k
     ·rw[show X.env.kindOf y=X.env.scope.names.lookup y from rfl,k]at z;cases z
     ·rw[show X.env.kindOf y=X.env.scope.names.lookup y from rfl,k]at z;cases z
    ·obtain⟨R,t⟩:=tD X.env scope.names [] y (Mw M) (Xz I L _ (Mw M) rfl);have O:=sub y R t;rw[V]at O;cases O;obtain⟨o,K,hd⟩:=zc;exact⟨c,t,o,C _ _ K,hd⟩
 ·obtain⟨v,o,K,hd⟩:=I.cell a c (sub a c e);exact⟨v,o,C _ _ K,hd⟩
 ·simp[Fz,qu];have z:=Ad List.length L.at_;simpa using z
end
section
variable{T:Tb}{X:Cx}
end
def Vt(l:List Int):List Int:=l.mergeSort λa b=>decide (a<=b)
theorem Gz(l:List Int):(Vt l).Perm l:=List.mergeSort_perm l _
theorem UM(l:List Int):(Vt l).Pairwise (·<=·):=by
 have:=List.pairwise_mergeSort (le:=λa b:Int=>decide (a<=b)) (λa b c h1 d=>by simp at *;omega) (λa b=>by simp;omega) l;exact this.imp λh=>by simpa using h
theorem gJ:∀ {l m:List Int},l.Perm m->l.Pairwise (·<=·)->m.Pairwise (·<=·)->l=m
 |[],m,h,_,_=>by rw[List.nil_perm]at h;exact h.symm
 |a::l,[],h,_,_=>by have:=h.length_eq;simp at this
 |a::l,b::m,h,h1,c=>by
  rw[List.pairwise_cons]at h1 c;have d:a∈b::m:=h.subset Xb;have hb:b∈a::l:=h.symm.subset Xb;have e:a=b:=by
   rcases ib.mp d with e|d
   ·exact e
   ·rcases ib.mp hb with e|hb
    ·exact e.symm
    ·have:=h1.1 b hb;have:=c.1 a d;omega
  subst e;rw[gJ (zaE h) h1.2 c.2]
def bL(K:W.Frag):List V->Hp->VK->Prop:=λxs H Q=>∃ (p:Addr) (is:List Int),xs=[.ref p]/\lf K H p (is.map V.int)/\is.length<64/\∀ l,H l=none->Q (.ref l) (upd H l (.lst ((Vt is).map V.int)))
section
variable{T:Tb}{X:Cx}
theorem X4:Fo X (.builtin "sorted") (bL X.K):=by
 intro f s v H xs t Q I r h;obtain⟨p,is,rfl,hq,b,q⟩:=h;obtain⟨u,rfl,n⟩:=Xu r;cases n;obtain⟨c,g,pl,o⟩:=I.list hq;have a:=g.length;rw[rc]at a;refine sorted_ints pl.isList (yM g) (by omega) λout d i j k=>?_;obtain⟨e,l⟩:=sortedAll_at s.heap c out;have en:d=Vt is:=gJ (j.trans (Gz is).symm) k (UM is);subst en;have m:=(Gz is).length_eq;exact⟨.ref (s.heap.objs.size+1),_,I.laid (t':=s.toks) (λ_ _=>sortedAll_old) (Io _) (show qj X.prog X.w _ _ _ (.lst ((Vt is).map V.int))from⟨by rw[rc,m];exact cc (Pf b) (by decide),out.toList,e,bD i,by rw[Es];exact l⟩),rfl,q _ (I.dc.fresh (Io _))⟩
def AK(xs:List D):M D:=λa=>match xs with
 |[x]=>(match Fg a x with
  |some b=>(match Qt b with
   |some is=>if is.length<64 then JC ((Vt is).map D.int) a else .bad
   |none=>.bad)
  |none=>.bad)
 |_=>.bad
theorem PJ{μ:List Addr}{H:Hp}:∀ a:List Int,Ta T μ H (a.map D.int) (a.map V.int)
 |[]=>Ta.nil
 |i::a=>Ta.cons (by rw[Rep]) (PJ a)
theorem n7(k:T.K=X.K):Lr T (bL X.K) AK:=by
 intro E o H j xs n Q r p h
 match xs with
 |[]=>exact h.elim
 |[x]=>
  rw[Ta]at p;obtain⟨v,w,rfl,g,c⟩:=p;rw[Ta]at c;subst c;unfold AK at h;cases e:Fg j x with
  |none=>simp only[e]at h;exact h.elim
  |some i=>
   simp only[e]at h;cases a:Qt i with
   |none=>simp only[a]at h;exact h.elim
   |some is=>
    simp only[a]at h;by_cases hc:is.length<64
    ·rw[ia hc]at h;obtain⟨b,m,rfl,h1,d⟩:=r.ls g e;obtain rfl:=IG d a;exact⟨b,is,rfl,lf.of h1,hc,λl f=>JF h r (PJ _) f⟩
    ·rw[qa hc]at h;exact h.elim
 |_::_::_=>exact h.elim
def Ct(kvs more:List (Key × V)):List (Key × V):=more.foldl (λacc a=>zn acc a.1 a.2) kvs
def Zz(kvs more:List (Key × D)):List (Key × D):=more.foldl (λacc a=>Wz acc a.1 a.2) kvs
theorem IY:∀ {more:List (Key × V)} {a:List (Key × Value)} {kvs:List (Key × V)} {vs:List (Key × Value)},KV more a->KV kvs vs->KV (Ct kvs more) (merged vs a):=by
 intro more;induction more with
 |nil=>intro a kvs vs h1 b;cases h1;exact b
 |cons p more d=>
  intro a kvs vs h1 b;cases h1 with
  |cons q h1=>
   obtain⟨c,e⟩:=q;have:=d h1 (b.put p.1 e);rw[c]at this;simpa [Ct,merged,c]using this
theorem jX:∀ (more kvs:List (Key × V)),(Ct kvs more).length<=kvs.length+more.length:=by
 intro more;induction more with
 |nil=>intro kvs;simp[Ct]
 |cons p more a=>
  intro kvs;have h1:=a (zn kvs p.1 p.2);have b:=aH kvs p.1 p.2;have h3:Ct kvs (p::more)=Ct (zn kvs p.1 p.2) more:=rfl;rw[h3,Rb];omega
def cT:V->List V->Hp->VK->Prop:=λx d H Q=>∃ a b c more,x=.ref a/\d=[.ref b]/\a≠b/\H a=some (.dK c)/\Rd H b (.dK more)/\c.length+more.length<=sizeLine/\Q .Vb (upd H a (.dK (Ct c more)))
theorem j6:Gv X "dict.update" cT:=by
 intro n s G H x K v J Q I B A h;obtain⟨a,b,e,more,rfl,rfl,j,m,i,E,q⟩:=h;cases B;obtain⟨u,rfl,y⟩:=Xu A;cases y;obtain⟨z,hd,o,rel,l⟩:=vK I.dc m;obtain⟨L,k,f,c,g⟩:=Nu I.dc i;have C:e.length=o.length:=by unfold KV at rel;exact Paired.length rel
 have D:more.length=f.length:=by unfold KV at c;exact Paired.length c
 refine call_meetsIn lp l.typeIs PySem.F.entry_dict_update (PySem.F.args_dict_update_2 _ _) (meets_dict_update (El X.prog X.w) a b j k) ⟨o,f,l,g,by omega,λp d _ t=>?_⟩;have r:∃ q,p.get? a=some q:=let ⟨q,_,_,hq,_⟩:=d;⟨q,hq⟩;have hm:=jX more e;exact⟨.Vb,_,iE I (by rw[m];exact True.intro) t r (YF (by omega) hd (IY c rel) d),rfl,q⟩
def apart(n:Nat):D->Bool
 | .ref m=>!(m == n)
 |_=>true
def kA(x:D)(xs:List D):M D:=λb=>match x,xs with
 | .ref n,[y]=>(match b[n]? with
  |some (.Ma a)=>(match al b y with
   |some more=>if (apart n y && decide (a.length+more.length<=Wi))=true then .ok .Vb (b.set n (.Ma (Zz a more)))else .bad
   |none=>.bad)
  |_=>.bad)
 |_,_=>.bad
theorem rR{μ:List Addr}{H:Hp}:∀ {more:List (Key × D)} {us:List (Key × V)} {kvs:List (Key × D)} {vs:List (Key × V)},bh T μ H more us->bh T μ H kvs vs->bh T μ H (Zz kvs more) (Ct vs us):=by
 intro more;induction more with
 |nil=>intro us kvs vs h1 a;unfold bh at h1;cases h1;exact a
 |cons p more b=>
  intro us kvs vs h1 a;unfold bh at h1;cases h1 with
  |cons q h1=>
   have:=b h1 (DP a p.1 q.2);rw[q.1]at this;simpa [Zz,Ct,q.1]using this
theorem PZ:wD T cT kA:=by
 intro E D H F x xs v M Q r p q h;cases x with
 |ref n=>
  match xs with
  |[]=>exact h.elim
  |[y]=>
   rw[Ta]at q;obtain⟨w,z,rfl,g,B⟩:=q;rw[Ta]at B;subst B;unfold kA at h;cases d:F[n]? with
   |none=>simp only[d]at h;exact h.elim
   |some ob=>
    cases ob with
    |Ma f=>
     simp only[d]at h;cases i:al F y with
     |none=>simp only[i]at h;exact h.elim
     |some more=>
      simp only[i]at h;by_cases hc:(apart n y && decide (f.length+more.length<=Wi))=true
      ·rw[ia hc]at h;simp only[Da,ke]at hc;obtain⟨a,rfl,hn,j,u,g2⟩:=r.at p d;obtain⟨b,k,rfl,I,l⟩:=Ey r g i;have J:j.length=f.length:=by unfold bh at g2;exact(Paired.length g2).symm
       have K:k.length=more.length:=by unfold bh at l;exact(Paired.length l).symm
       have s:a≠b:=by
        cases y with
        |ref m=>
         rw[Rep]at g;obtain⟨G,e,hm⟩:=g;cases e;intro e;subst e;have t:m=n:=HF r.nd hm hn;have:=hc.1;simp[apart,t]at this
        |Ma L ds=>
         rw[Rep]at g;obtain⟨G,A,e,hb,_⟩:=g;cases e;intro e;subst e;exact hb (Ha hn)
        |_=>cases i
       refine⟨a,b,j,k,rfl,rfl,s,u,I,by rw[J,K];exact cc hc.2 (by decide),?_⟩;have C:=r.write (o:=.dK (Ct j k)) (ob:=.Ma (Zz f more)) hn ⟨_,Og,by
        have ex:Ext D H D (upd H a (.dK (Ct j k))):=Ww (Ha hn) u (λ_ z=>by cases z) (λ_ _ z=>by cases z);exact rR (bh.mono ex l) (bh.mono ex g2)⟩
       exact h _ _ _ C.1 C.2 (by rw[Rep])
      ·rw[qa hc]at h;exact h.elim
    |lst N=>simp only[d]at h;exact h.elim
    |ins c fs=>simp only[d]at h;exact h.elim
    |ub _=>simp only[d]at h;exact h.elim
    |rl _=>simp only[d]at h;exact h.elim
  |_::_::_=>exact h.elim
 |_=>exact h.elim
end
theorem ZN:bootBuiltins "sorted" = some (.builtin "sorted"):=by decide +kernel
theorem uM:∀ {ks:List Key} {vs:List Value},vs.length=ks.length->(∀ (j:Nat) (v:Value) (k:Key),vs[j]?=some v->ks[j]?=some k->Ed (kV k) v)->ue (ks.map kV) vs
 |[],[],_,_=>.nil
 |[],_::_,h,_=>by simp at h
 |_::_,[],h,_=>by simp at h
 |k::ks,v::vs,h,a=>.cons (a 0 v k rfl rfl) (uM (by simpa using h) λj v k b c=>a (j+1) v k b c)
theorem T7{P:Aa}{w:Ia}{k:Key}{v:Value}(h:(El P w).is k v=true):Ed (kV k) v:=by
 rw[L3]at h;rcases Av h with⟨i,t,rfl,rfl⟩|⟨x,t,rfl,rfl⟩
 ·exact⟨t,rfl⟩
 ·exact⟨t,rfl⟩
theorem BS:∀ {kvs:List (Key × V)} {ws:List (Key × Value)},KV kvs ws->ws.map (·.1)=kvs.map (·.1)
 |[],_,h=>by cases h;rfl
 |p::kvs,_,h=>by
  cases h with
  |cons q h=>simp only[Sa];rw[BS h,q.1]
section
variable{T:Tb}{X:Cx}
def Bz:Key->D
 | .inl i=>.int i
 | .inr x=>.str x
end
end L4
namespace L4
open PySem PySem.Spec PySem.Calls PySem.W PyProof.Rows PyProof.V
theorem H5{prog:Aa}{w:Ia}{A:Fa}{E:Value->aa->Prop}{s:aa}{R:List Value->aa->Prop}{p:String}{r d:Addr}{n:Nat}{P:Nat->Value->Prop}{m:Heap->Prop}
  (K:KdlSrc prog w p r d n P m) (t:A.handled=none) (dc:m s.heap) (hn:n<=sizeLine)
  (j:∀ (h':Heap) (tk:Nat) (acc:Array Value),(∀ b o,s.heap.get? b=some o->h'.get? b=some o)->s.heap.objs.size<=h'.objs.size->ItemsOf P acc n->R acc.toList { s with heap:=h',toks:=tk }) :
  wpAny (model prog w) A (collect (.ref r)) R E s:=by
 have lt:=K.there _ dc;let S:Addr:=s.heap.objs.size;let Z:vA->aa->Prop:=λq k=>∃ (h':Heap) (tk:Nat) (acc:Array Value) (c:Nat),q=.ok (.ret (.ref S))/\k={ s with heap:=h',toks:=tk }/\(∀ b o,s.heap.get? b=some o->h'.get? b=some o)/\
  h'.get? S=some { cls:=.type "list",dict:=none,data:=.seq acc c,slots:=#[] }/\ItemsOf P acc n
 have a:∀ {h':Heap} {tk c:Nat} {acc:Array Value},(∀ b o,s.heap.get? b=some o->h'.get? b=some o)->h'.get? S=some { cls:=.type "list",dict:=none,data:=.seq acc c,slots:=#[] }->ItemsOf P acc n->R acc.toList { s with heap:=h',toks:=tk }:=
  λkp g h=>j _ _ _ kp (Pf (za g)) h
 have i:(s.heap.push { cls:=.type "list",data:=.seq ([]:List Value).toArray }).get? S=some { cls:=.type "list",data:=.seq #[] }:=gb _ rfl;have run:=kdl_extend (A:=A) (s:={ s with heap:=s.heap.push { cls:=.type "list",data:=.seq ([]:List Value).toArray } }) (R:=Z) K t (K.keep _ _ dc λb _ o e=>ka _ e) S (Cg lt.1) (Cg lt.2) (.ref S) 0 i
  (λh' tk acc c kp g h=>⟨h',tk,acc,c,rfl,rfl,λb o e=>kp b o (Ea (za e)) (ka _ e),g,h⟩) hn
 unfold collect;refine ba (wpAny_runValue (bi entry_proto_collect' ?_));rw[Bf PySem.F.plain_proto_collect _];show wpAny _ A.in1 (newList [] >>= λl=>again (.builtin "list.__iadd__" ⟨[l,.ref r],[]⟩)) _ _ s;refine ba (Qe (xa ⟨xj Ep _,bi entry_list_iadd' ?_⟩));rw[Bf Ep _];show wpAny _ A.in1 (nH (.ref S) (.ref r) (.ref S)) _ _ _;refine bc run (λf k x=>?_) (λe k x=>by obtain⟨_,_,_,_,z,_⟩:=x;cases z);cases f with
 |done f=>
  obtain⟨h',tk,acc,c,e,rfl,kp,g,h⟩:=x;cases e;exact ba (nA g (xa (a kp g h)))
 |again u=>
  refine⟨x.1,ni x.2 λq s2 y=>?_⟩;obtain⟨h',tk,acc,c,rfl,rfl,kp,g,h⟩:=y;exact ba (nA g (xa (a kp g h)))
end L4
namespace L4
open PySem PySem.Spec PyProof.Rows L2
def nL:List V->Hp->VK->Prop:=λxs H Q=>∃ (a:Addr) (b:List (Key × V)) (is:List Int),xs=[.ref a]/\Rd H a (.dK b)/\b.map (·.1)=is.map Sum.inl/\is.length<64/\∀ l,H l=none->Q (.ref l) (upd H l (.lst ((Vt is).map V.int)))
theorem fQ:∀ {a:List Int} {vs:List Value},ue ((a.map (Sum.inl:Int->Key)).map kV) vs->fm vs a
 |[],_,h=>by cases h;exact .nil
 |i::a,_,h=>by
  cases h with
  |cons q h=>
   obtain⟨t,rfl⟩:=q;exact .cons i t (fQ h)
section
variable{T:Tb}{X:Cx}
theorem B7(hc:X.calm=true):Fo X (.builtin "sorted") nL:=by
 intro J s σ H xs us Q I r h;obtain⟨a,kvs,is,rfl,P,f,n,q⟩:=h;obtain⟨u,rfl,Z⟩:=Xu r;cases Z;obtain⟨z,hd,i,rel,N⟩:=Nu I.dc P;obtain⟨ep,p⟩:=N.dictAt;have E:=BS rel;have U:i.length=kvs.length:=by have:=Ad List.length E;simpa using this
 have T:kvs.length=is.length:=by have:=Ad List.length f;simpa using this
 have hn:i.length<=sizeLine:=by omega
 refine Calls.call_function_entry kind_sorted plain_sorted entry_sorted (args_sorted1 _) ?_;unfold Zv.«sorted»;refine ba (m:=checkCount "sorted" 1 1 _) (xa ?_);refine ba (H5 (A:=X.A.in1) (W.kdl_dict (knd:=El X.prog X.w) (kvs:=i) (ep:=ep) hd) (I.ok.hd hc) p hn λl tk acc kp g c=>?_);have F:acc.toList.length=i.length:=by rw[kh];exact c.1
 have G:ue ((i.map (·.1)).map kV) acc.toList:=uM (by rw[rc];exact F) λj v k O C=>by
  obtain⟨k',x,Y,t⟩:=c.2 j v (by rw[<-Array.getElem?_toList];exact O);rw[Eb,Y]at C;cases C;exact T7 t
 rw[E,f]at G;have R:=fQ G;refine ba (tU ?_ (by rw[F];exact hn));have d:(l.push (Ol "list" acc.toList.toArray 0)).get? l.objs.size=some (Ol "list" acc.toList.toArray 0):=gb _ rfl;refine ba (Td (tq slot_list_sort ⟨_,d,rfl⟩ entry_list_sort (list_sort_tree d R (by omega) λout B K L M=>⟨_,rfl,?_⟩) (args_list_sort _)));refine xa ⟨_,rfl,?_⟩;have en:B=Vt is:=gJ (L.trans (Gz is).symm) M (UM is);subst en;have y:=(Gz is).length_eq;obtain⟨e,S⟩:=sortedHeap_at (out:=out) d;exact⟨.ref l.objs.size,_,I.laid (t':=tk) (λb o D=>by
  have lt:b<l.objs.size:=za (kp b o D);rw[sortedHeap_old (Ea lt) (by rw[size_push'];exact ui lt)];exact ka _ (kp b o D)) g (show qj X.prog X.w _ _ _ (.lst ((Vt is).map V.int))from⟨by rw[rc,y];exact cc (Pf n) (by decide),out.toList,e,bD K,by rw[Es];exact S⟩),rfl,q _ (I.dc.fresh g)⟩
def sx:List (Key × D)->Option (List Int)
 |[]=>some []
 |(.inl i,_)::r=>(sx r).map (i::·)
 |_::_=>none
theorem tR{μ:List Addr}{H:Hp}:∀ {kvs:List (Key × D)} {us:List (Key × V)} {is:List Int},bh T μ H kvs us->sx kvs=some is->us.map (·.1)=is.map Sum.inl
 |[],_,is,h,e=>by unfold bh at h;cases h;cases e;rfl
 |(k,d)::kvs,_,is,h,e=>by
  unfold bh at h;cases h with
  |cons q h=>
   cases k with
   |inr x=>cases e
   |inl i=>
    unfold sx at e;cases a:sx kvs with
    |none=>rw[a]at e;cases e
    |some b=>
     rw[a]at e;cases e;simp only[Sa];rw[tR h a,<-q.1]
def ZB(xs:List D):M D:=λb=>match xs with
 |[x]=>(match al b x with
  |some a=>(match sx a with
   |some is=>if is.length<64 then JC ((Vt is).map D.int) b else .bad
   |none=>.bad)
  |none=>.bad)
 |_=>.bad
theorem wU:Lr T nL ZB:=by
 intro E n H k xs m Q r p h
 match xs with
 |[]=>exact h.elim
 |[x]=>
  rw[Ta]at p;obtain⟨v,w,rfl,i,d⟩:=p;rw[Ta]at d;subst d;unfold ZB at h;cases e:al k x with
  |none=>simp only[e]at h;exact h.elim
  |some c=>
   simp only[e]at h;cases b:sx c with
   |none=>simp only[b]at h;exact h.elim
   |some is=>
    simp only[b]at h;by_cases hc:is.length<64
    ·rw[ia hc]at h;obtain⟨a,j,rfl,f,g2⟩:=Ey r i e;exact⟨a,j,is,rfl,f,tR g2 b,hc,λl g=>JF h r (PJ _) g⟩
    ·rw[qa hc]at h;exact h.elim
 |_::_::_=>exact h.elim
def pM(K:W.Frag):List V->Hp->VK->Prop:=λxs H Q=>bL K xs H Q\/nL xs H Q
theorem wT(hc:X.calm=true):Fo X (.builtin "sorted") (pM X.K):=by
 intro a s c H xs b Q I r h;rcases h with h|h
 ·exact X4 a s c H xs b Q I r h
 ·exact B7 hc a s c H xs b Q I r h
def bw(xs:List D):M D:=λa=>match xs with
 |[x]=>(match Fg a x with
  |some _=>AK [x] a
  |none=>ZB [x] a)
 |_=>.bad
theorem lQ(d:T.K=X.K):Lr T (pM X.K) bw:=by
 intro E c H a xs b Q r p h
 match xs with
 |[]=>exact h.elim
 |[x]=>
  unfold bw at h;cases e:Fg a x with
  |some f=>simp only[e]at h;exact .inl (n7 d E c H a [x] b Q r p h)
  |none=>simp only[e]at h;exact .inr (wU E c H a [x] b Q r p h)
 |_::_::_=>exact h.elim
end
section
variable{T:Tb}{X:Cx}
theorem B2{n:Nat}{dds:List D}{dvs:List V}{pl:uo Bool}{k c:Nat}{fn:List D->M D}{ps:List Str}{dv:List Value}{m:Str}{o e:Ca}{l:List Ca}{f:Ev->M D}{fs:Ev->M (List D)}{pos g:re}{fa:Addr}(hK:T.K=X.K)(he:FE T X o f)(hC:wl T.K (T.ca c))(O:Cd T.K (T.ca c) m fa)
  (h:ot T X.prog X.w X.mg X.base k fa ps dv fn) (hv:ue dvs dv) (P:∀ μ H,Ta T μ H dds dvs) (hn:n+dds.length=ps.length) (hr:jd k X.A) (ha:FA T X (e::l) fs)
  (U:pa (e::l) X.env=(false,Ib e X.env)::pa l X.env:=by rfl) (R:(nc pos (pa l X.env)).any (·.1)=false:=by rfl)
  (ht:Ib (.Call (.Attribute o m g) (e::l) [] pos) X.env=(do
   let ov <-Ib o X.env
   Dh g.atName
   let (f,first) <-ve [ov] (yh ov m pl)
   Nl pos f first (nc pos (pa (e::l) X.env)) (Wg pos (Re [] X.env))):=by rfl) :
  FE T X (.Call (.Attribute o m g) (e::l) [] pos) (He [(c,λi=>fn (i++dds))] n m f fs):=by
 intro j s G H Q I hq;obtain⟨μ,ρ,σ,hE,S,hp⟩:=hq;have N:=hE;refine W.methodCall_KW (pl:=pl) (be (he j s G H (λx p=>∃ a E vs,x=.ref a/\p a=some (.ins (T.ca c) E vs)/\vs.lookup m=none/\tL T X fs G p λus J=>Eo T ps.length fn (x::(us++dvs)) J Q (XE X G)) I ⟨μ,ρ,σ,hE,S,hp.bind λd C Z v p _ e1 r1 q1 b=>?_⟩) λu s1 ⟨x,p,I1,rx,a,E,vs,ex,ea,en,q⟩=>?_) ht
 ·unfold Ak at b;cases L:Hj C d with
  |none=>rw[L]at b;exact b.elim
  |some z=>
   obtain⟨c',gs⟩:=z;rw[L]at b;dsimp only at b;by_cases t:c=c'
   ·subst t;have F:br [(c,λi=>fn (i++dds))] c=some (λi=>fn (i++dds)):=by unfold br;rw[ia (Vh c)]
    cases en:gs.lookup m with
    |some y=>rw[F,en]at b;exact b.elim
    |none=>
     rw[F,en]at b;dsimp only at b;obtain⟨a,E,vs,rfl,h1,h2⟩:=Sy r1 q1 L;refine⟨a,E,vs,rfl,h1,(GA h2).2 en,Z,ρ,C,N.mono e1,r1,b.bind λi a1 a0 us J _ e2 r2 Y B=>?_⟩;unfold si at B;by_cases hl:i.length+1=n
     ·rw[ia hl]at B;exact⟨a0,a1,d::(i++dds),Ta.cons (Rep.mono e2 _ _ q1) (Ta.append Y (P _ _)),by rw[Rb,qe];omega,r2,B⟩
     ·rw[qa hl]at B;exact B.elim
   ·have F:br [(c,λi=>fn (i++dds))] c'=none:=by unfold br;rw[qa (by simpa using t)];rfl
    rw[F]at b;exact b.elim
 ·subst ex;obtain rfl:u=jb a:=rx;obtain⟨fd,_,hb,hF⟩:=h;rw[hK]at hC O hF hb;refine aG I1 ea hC O en ?_;refine W.callWith_K (first:=[.ref a]) (h₀:=X.base) I.ok.mod.xw O.kp (be (ha pos j s1 G p _ I1 q) λus s2 ⟨vs,J,I2,r,Y⟩=>⟨I2.mj,?_⟩) U R;exact LA (us:=.ref a::us) (vs:=.ref a::vs) hF hr hb hv I2 (.cons rfl r) Y
end
end L4
namespace L2
open PySem PySem.Spec PyProof.Rows
def vF:List (TE × TE)->St->Hp->(List (V × V)->Hp->Prop)->Prop
 |[],_,H,Q=>Q [] H
 |(e,f)::r,σ,H,Q=>e σ H λx a=>f σ a λy b=>vF r σ b λd c=>Q ((x,y)::d) c
abbrev VV:List (V × V)->List (Value × Value)->Prop:=Paired λp q=>Ed p.1 q.1/\Ed p.2 q.2
def HD(X:Cx)(pos:re)(keys:List (Option Ca))(a:List Ca)(Ar:List (TE × TE)):Prop:=
 ∀ (b:List (Addr × Bc)) (s:aa) (σ:St) (H:Hp) (Q:List (V × V)->Hp->Prop),Inv X b σ H s->vF Ar σ H Q->
  wpAny (model X.prog X.w) X.A (evalPairs (pairTrees keys a X.env pos)) (λf e=>∃ d c,Inv X b σ c e/\VV d f/\Q d c) X.xe s
theorem z5{X:Cx}{pos:re}:HD X pos [] [] []:=λa s b H Q I h=>pairTrees_nil_walk ⟨[],H,I,.nil,h⟩
theorem D7{X:Cx}{pos:re}{k v:Ca}{ks:List (Option Ca)}{vs:List Ca}{tk c:TE}{Ar:List (TE × TE)}(j:PE X k tk)(m:PE X v c)(l:HD X pos ks vs Ar) :
  HD X pos (some k::ks) (v::vs) ((tk,c)::Ar):=λa s b H Q I h=>
 pairTrees_cons_walk (be (j a s b H _ I h) λu s1 ⟨x,H1,f,r,o⟩=>be (m a s1 b H1 _ f o) λw s2 ⟨y,d,g,t,p⟩=>
  be (l a s2 b d _ g p) λws s3 ⟨n,e,i,rel,q⟩=>⟨(x,y)::n,e,i,.cons ⟨r,t⟩ rel,q⟩)
def lC(kvs more:List (Key × V)):List (Key × V):=more.foldl (λacc a=>zn acc a.1 a.2) kvs
theorem KV.merge:∀ {more:List (Key × V)} {a:List (Key × Value)} {kvs:List (Key × V)} {vs:List (Key × Value)},KV more a->KV kvs vs->KV (lC kvs more) (merged vs a):=by
 intro more a kvs vs r;unfold KV at r;induction r generalizing kvs vs with
 |nil=>intro q;exact q
 |@cons p q d f h t b=>
  intro c;have e:KV (zn kvs p.1 p.2) (stored vs q.1 q.2):=by
   have:=c.put p.1 h.2;rw[<-h.1];exact this
  exact b e
theorem WO:∀ (more kvs:List (Key × V)),(lC kvs more).length<=kvs.length+more.length
 |[],kvs=>by show kvs.length<=kvs.length+0;omega
 |p::r,kvs=>by
  have h1:=WO r (zn kvs p.1 p.2);have a:=aH kvs p.1 p.2;show (lC (zn kvs p.1 p.2) r).length<=_;rw[Rb];omega
theorem JM{P:Aa}{w:Ia}:∀ {kvs:List (Key × V)} {ws:List (Value × Value)},VV (kvs.map λe=>(kV e.1,e.2)) ws->∃ d,Carries (El P w) ws d/\KV kvs d
 |[],_,r=>by rw[wg]at r;cases r;exact⟨[],True.intro,.nil⟩
 |p::kvs,_,r=>by
  rw[Sa]at r;cases r with
  |@cons a b as bs h t=>
   obtain⟨d,c,q⟩:=JM (P:=P) (w:=w) t;obtain⟨g,f⟩:=b;exact⟨(p.1,f)::d,⟨AA h.1,rfl,c⟩,.cons ⟨rfl,h.2⟩ q⟩
def x5(Ar:List (TE × TE)):TE:=λe H Q=>∀ p,H p=none->vF Ar e (upd H p (.dK [])) λd b=>b p=some (.dK [])/\∃ a:List (Key × V),d=a.map (λc=>(kV c.1,c.2))/\a.length<=15/\Q (.ref p) (upd b p (.dK (lC [] a)))
theorem HW{X:Cx}{pos:re}{keys:List (Option Ca)}{b:List Ca}{Ar:List (TE × TE)}(h:HD X pos keys b Ar)(f:keys.all (·.isSome)=true)(r:keys.length=b.length)(h0:keys≠[])
  (j:keys.length<=15):PE X (.Dict keys b pos) (x5 Ar):=by
 intro i s C H Q I q;have hn:=I.dc.fresh (ya s.heap.objs.size);have l:=I.laid (a:=s.heap.objs.size) (o:=.dK []) (h':=s.heap.push { cls:=.type "dict",data:=.dict #[] }) (t':=s.toks) (λ_ _ q=>ka _ q) (ya _) (zR s.heap I.qI);refine wpAny_Dict_walk (knd:=El X.prog X.w) f r h0 j (be (h i _ C _ _ l (q _ hn)) λws s2 ⟨F,D,k,rel,e,g,n,E,v⟩=>?_);subst n;obtain⟨A,c,y⟩:=JM (P:=X.prog) (w:=X.w) rel;obtain⟨z,hd,B,x,m⟩:=vK k.dc e;cases x;refine⟨A,c,m,λh' d t=>⟨.ref s.heap.objs.size,_,?_,rfl,v⟩⟩;have u:(lC [] g).length<=sizeLine:=by
  have h1:=WO g [];rw[gy]at h1;rw[cy];omega
 have p:∃ q,h'.get? s.heap.objs.size=some q:=let ⟨q,_,_,hq,_⟩:=d;⟨q,hq⟩;exact iE k (by rw[e];exact True.intro) t p (YF u hd (y.merge .nil) d)
end L2
namespace L4
open PySem PySem.Spec PyProof.Rows L2
def LF(n:Nat)(ks:List Key)(ds:List D):M D:=λa=>match a[n]? with
 |some (.Ma [])=>if ks.length<=15 then .ok (.ref n) (a.set n (.Ma (Zz [] (ks.zip ds))))else .bad
 |_=>.bad
def QB(ks:List Key)(fs:Ev->M (List D)):Ev->M D:=λb a=>Wc (fs b) (LF a.length ks) (a++[.Ma []])
section
variable{T:Tb}{X:Cx}
inductive yw(T:Tb)(X:Cx):List (Option Ca)->List Ca->List Key->(Ev->M (List D))->Prop
 |nil:yw T X [] [] [] Ba
 |cons {k v:Ca} {kk:Key} {f:Ev->M D} {ks:List (Option Ca)} {vs:List Ca} {kks:List Key} {fs:Ev->M (List D)} (hk:FE T X k (eC (Bz kk))) (hv:FE T X v f) (r:yw T X ks vs kks fs):yw T X (some k::ks) (v::vs) (kk::kks) (ja f fs)
theorem t3{μ:List Addr}{H:Hp}{kk:Key}{v:V}(h:Rep T μ H (Bz kk) v):v=kV kk:=by
 cases kk<;>(unfold Bz at h;rw[Rep]at h;exact h)
theorem yw.Ar{pos:re}{ks:List (Option Ca)}{vs:List Ca}{b:List Key}{fs:Ev->M (List D)}(h:yw T X ks vs b fs) :
  ∃ Ar,HD X pos ks vs Ar/\∀ (e:St) (H:Hp) (Q:List (V × V)->Hp->Prop) (μ:List Addr) (ρ:Ev) (σ:qb),wh T μ H ρ e->Rel T μ H σ->Mb T (XE X e) (Ta T) μ H (fs ρ σ) (λa c=>Q ((b.map kV).zip a) c)->vF Ar e H Q:=by
 induction h with
 |nil=>exact⟨[],z5,λe H Q μ ρ σ i m l=>by
  have z:(λ(a:List V) c=>Q ((([]:List Key).map kV).zip a) c) [] H:=Mb.here (R:=Ta T) (g:=([]:List V)) (Q:=λ(a:List V) c=>Q ((([]:List Key).map kV).zip a) c) l m Ta.nil;exact z⟩
 |@cons k v q f ks vs b fs y A r B=>
  obtain⟨Ar,h1,x⟩:=B;refine⟨_,D7 y A h1,λe H Q μ ρ σ i m l=>?_⟩;refine⟨μ,ρ,σ,i,m,λn g P j J F=>?_⟩;obtain rfl:=t3 F;refine⟨n,ρ,σ,i.mono j,J,(Mb.mono j l).bind λd p o s t _ u K C G=>?_⟩;exact x e t _ o ρ p (i.mono (j.trans u)) K (G.bind λS O N a H3 _ w L E I=>by
   have z:(λ(a:List V) c=>Q (((q::b).map kV).zip a) c) (s::a) H3:=Mb.here (R:=Ta T) (g:=s::a) (Q:=λ(a:List V) c=>Q (((q::b).map kV).zip a) c) I L (Ta.cons (Rep.mono w _ _ C) E);exact z)
theorem iO:∀ (ks:List Key) (us:List V),(ks.map kV).zip us=(ks.zip us).map λa=>(kV a.1,a.2)
 |[],_=>by simp
 |_::_,[]=>by simp
 |k::ks,u::us=>by simp[iO ks us]
theorem QN{μ:List Addr}{H:Hp}:∀ {ks:List Key} {ds:List D} {us:List V},Ta T μ H ds us->bh T μ H (ks.zip ds) (ks.zip us)
 |[],_,_,_=>by unfold bh;simp only[List.zip_nil_left];exact .nil
 |k::ks,[],us,h=>by rw[Ta]at h;subst h;unfold bh;simp only[List.zip_nil_right];exact .nil
 |k::ks,d::ds,us,h=>by
  rw[Ta]at h;obtain⟨v,r,rfl,h1,a⟩:=h;have:=QN (ks:=ks) a;unfold bh at this ⊢;simp only[List.zip_cons_cons];exact .cons ⟨rfl,h1⟩ this
theorem m7{keys:List (Option Ca)}{b:List Ca}{e:List Key}{fs:Ev->M (List D)}{pos:re}(h:yw T X keys b e fs)(j:keys.all (·.isSome)=true)(K:keys.length=b.length)(h0:keys≠[])(t:keys.length<=15) :
  FE T X (.Dict keys b pos) (QB e fs):=by
 intro k s R H Q I hq;obtain⟨Ar,v,ht⟩:=h.Ar (pos:=pos);refine HW v j K h0 t k s R H Q I ?_;obtain⟨l,S,m,J,A,N⟩:=hq;intro p hn;have ex:Ext l H (l++[p]) (upd H p (.dK [])):=Lw hn;have P:Rel T (l++[p]) (upd H p (.dK [])) (m++[.Ma []]):=A.push (p:=p) (o:=.dK []) (ob:=.Ma []) hn ⟨[],Og,by unfold bh;exact .nil⟩;have u:(l++[p])[m.length]?=some p:=by rw[<-A.len];simp
 refine ht _ _ _ (l++[p]) S (m++[.Ma []]) (J.mono ex) P ((Mb.mono ex N).bind λE x i n q _ F B O d=>?_);have f:=F.get u;unfold LF at d;cases g:x[m.length]? with
 |none=>simp only[g]at d;exact d.elim
 |some ob=>
  cases ob with
  |lst V=>simp only[g]at d;exact d.elim
  |ins c fs=>simp only[g]at d;exact d.elim
  |ub _=>simp only[g]at d;exact d.elim
  |rl _=>simp only[g]at d;exact d.elim
  |Ma w=>
   cases w with
   |cons z zs=>simp only[g]at d;exact d.elim
   |nil=>
    simp only[g]at d;by_cases hc:e.length<=15
    ·rw[ia hc]at d;obtain⟨a,G,L,U,y,g2⟩:=B.at (show Rep T i q (.ref m.length) (.ref p) by rw[Rep];exact⟨p,rfl,f⟩) g;cases G;unfold bh at g2;cases g2;refine⟨y,e.zip n,iO e n,by rw[List.length_zip];omega,?_⟩;have C:=B.write (o:=.dK (Ct [] (e.zip n))) (ob:=.Ma (Zz [] (e.zip E))) f ⟨_,Og,by
      have r:Ext i q i (upd q p (.dK (Ct [] (e.zip n)))):=Ww (Ha f) y (λ_ z=>by cases z) (λ_ _ z=>by cases z);exact rR (QN (O.mono r)) (by unfold bh;exact .nil)⟩
     exact d _ _ _ C.1 C.2 (by rw[Rep];exact⟨p,rfl,f⟩)
    ·rw[qa hc]at d;exact d.elim
end
section
variable{T:Tb}{X:Cx}{pins:List (Addr × Bc)}{st:St}{H:Hp}{s:aa}
variable{N':List Str}{scope:Scope}{cl:List (Str × Addr)}{H3:Hp}{s3:aa}{fp:List Addr}{xe:Value->aa->Prop}
end
section
variable{T:Tb}{X:Cx}
end
section
variable{ρ:Ev}{σ:qb}
end
end L4
namespace L4
open PySem PySem.Spec PyProof.Rows L2 Builtin Builtin.Str
section
variable{T:Tb}{X:Cx}{a b e o:Ca}{fa fb f:Ev->M D}{pos apos cpos:re}
end
section
variable{ρ:Ev}{σ:qb}
end
end L4
namespace L4
open PySem PySem.Spec PyProof.Rows L2
section
variable{T:Tb}{X:Cx}
end
section
variable{ρ:Ev}{σ:qb}
end
section
variable{prog:Aa}{w:Ia}{A:Fa}{E:Value->aa->Prop}{h:Heap}{g:Array Hs}{d:NL}{t:Nat}{os:OsState}
variable{nm qn:Str}{C N:Addr}{bs bm bmB:List Value}{hdct:Bool}{sn:List Str}{sub:List Value}{ab:Bool}{col:Option Bool}{dd:Option Addr}{k0 k1 k2 k3 k5:Option Value}{B newId initId:String}
end
section
variable{T:Tb}{X:Cx}{pins:List (Addr × Bc)}{st:St}{H:Hp}{s:aa}
end
section
variable{X:Cx}
end
section
variable{prog:Aa}{w:Ia}{A:Fa}{E:Value->aa->Prop}{h:Heap}{g:Array Hs}{d:NL}{t:Nat}{os:OsState}{K:W.Frag}
variable{nm qn:Str}{C N x:Addr}{bs bm bmB:List Value}{sn:List Str}{sub:List Value}{ab:Bool}{col:Option Bool}{dd:Option Addr}{k0 k1 k2 k3 k5:Option Value}{B newId sa owner:String}{name:Str}{v:Value}{o:Bc}{vs:Array Value}
end
section
variable{X:Cx}
end
section
variable{P:Aa}{w:Ia}{K:W.Frag}{mg:Str->Option Value}{base:Heap}
end
section
variable{M:Ll}{A:Fa}{E:Value->aa->Prop}{s:aa}{env:Hg}
variable{nm qn:Str}{C N:Addr}{bs bm:List Value}{hdct:Bool}{sn:List Str}{sub:List Value}{ab:Bool}{col:Option Bool}{dd:Option Addr}{k0 k1 k2 k3 k5:Option Value}{newId:String}
end
section
variable{T:Tb}{X:Cx}
end
end L4
namespace L4
open PySem PySem.Spec PySem.Calls PyProof.Rows PySem.Builtin PySem.Builtin.ObjectAttr L2
section
variable{prog:Aa}{w:Ia}{A:Fa}{E:Value->aa->Prop}{s:aa}{K:W.Frag}{C ea dN:Addr}{hp:Heap}{n:Nat}{Mo:Ll}
end
section
variable{T:Tb}{X:Cx}
end
section
variable{ρ:Ev}{σ:qb}
end
end L4
namespace HT
open PySem Builtin
open Sem (wp)
end HT
namespace L4
open PySem PySem.Spec PyProof.Rows L2
end L4
namespace L4
open PySem
def BB(xs:Array Nat):Prop:=∀ i k:Nat,∀ a b:Nat,i<k->xs[i]?=some a->xs[k]?=some b->a<b
def Cut(xs:Array Nat)(j p:Nat):Prop:=p<=xs.size/\(∀ i a:Nat,i<p->xs[i]?=some a->a<j)/\∀ i a:Nat,p<=i->xs[i]?=some a->j<=a
theorem zq2{xs:Array Nat}(m:BB xs)(j:Nat):∀ (c b hi:Nat),hi - b<=c->b<=hi->hi<=xs.size->(∀ i a:Nat,i<b->xs[i]?=some a->a<j)->(∀ i a:Nat,hi<=i->xs[i]?=some a->j<=a)->Cut xs j (vp xs j c b hi):=by
 intro c;induction c with
 |zero=>
  intro b hi h1 q h3 h4 h;have e:b=hi:=by omega
  subst e;exact⟨h3,h4,h⟩
 |succ f o=>
  intro b hi h1 q h3 h4 h;unfold vp;by_cases l:b<hi
  ·rw[ia l];dsimp only;have hm:(b+hi) / 2<hi:=by omega
   have r:b<=(b+hi) / 2:=by omega
   have n:(b+hi) / 2<xs.size:=by omega
   have g:xs[(b+hi) / 2]?=some xs[(b+hi) / 2]:=ai n;have p:xs.getD ((b+hi) / 2) j=xs[(b+hi) / 2]:=by simp[Array.getD,n]
   rw[p];by_cases hc:xs[(b+hi) / 2]<j
   ·rw[ia hc];refine o _ _ (by omega) (by omega) h3 (λi a k d=>?_) h;by_cases e:i=(b+hi) / 2
    ·subst e;rw[g]at d;cases d;exact hc
    ·have:=m i ((b+hi) / 2) a _ (by omega) d g;omega
   ·rw[qa hc];refine o _ _ (by omega) (by omega) (by omega) h4 (λi a k d=>?_);by_cases e:i=(b+hi) / 2
    ·subst e;rw[g]at d;cases d;omega
    ·have:=m ((b+hi) / 2) i _ a (by omega) g d;omega
  ·rw[qa l];have e:b=hi:=by omega
   subst e;exact⟨h3,h4,h⟩
theorem znh{xs:Array Nat}(c:BB xs)(j:Nat):Cut xs j (rf xs j):=by
 unfold rf;exact zq2 c j _ _ _ (by omega) (by omega) (ya _) (λi a h=>by omega) (λi a h b=>by
  have:=(Zc.mp b).1;omega)
theorem t0{xs:Array Nat}{p x:Nat}(b:p<=xs.size)(i:Nat):(uk xs p x)[i]?=if i<p then xs[i]? else if i=p then some x else xs[i - 1]?:=by
 unfold uk;have s1:(xs.extract 0 p).size=p:=by simp;omega
 rw[Array.getElem?_append,Array.size_push,s1];by_cases h1:i<p
 ·rw[ia (by omega),ia h1,zt,qa (by rw[s1];omega),qr];simp;omega
 ·rw[qa h1];by_cases a:i=p
  ·subst a;rw[ia (by omega),ia rfl,zt,ia (by rw[s1])]
  ·rw[qa (by omega),qa a,qr];by_cases h3:i - 1<xs.size
   ·rw[ia (by omega)];congr 1;omega
   ·rw[qa (by omega),Array.getElem?_eq_none (by omega)]
theorem Q5{xs:Array Nat}{p x:Nat}(g:BB xs)(hc:Cut xs x p)(hn:¬ xs[p]?=some x):BB (uk xs p x):=by
 have n:∀ i a:Nat,p<=i->xs[i]?=some a->x<a:=λi a o c=>by
  have h1:=hc.2.2 i a o c;rcases Nat.lt_or_ge x a with h|h
  ·exact h
  ·have e:a=x:=by omega
   subst e;by_cases l:i=p
   ·subst l;exact absurd c hn
   ·have r:=(Zc.mp c).1;have q:p<xs.size:=by omega
    have m:xs[p]?=some xs[p]:=ai q;have:=g p i _ _ (by omega) m c;have:=hc.2.2 p _ (ya _) m;omega
 intro i k a b j c d;rw[t0 hc.1]at c d;by_cases h1:i<p
 ·rw[ia h1]at c;by_cases f:k<p
  ·rw[ia f]at d;exact g i k a b j c d
  ·rw[qa f]at d;by_cases h3:k=p
   ·rw[ia h3]at d;cases d;exact hc.2.1 i a h1 c
   ·rw[qa h3]at d;exact g i (k - 1) a b (by omega) c d
 ·rw[qa h1]at c;have f:¬ k<p:=by omega
  rw[qa f,qa (by omega)]at d;by_cases h3:i=p
  ·rw[ia h3]at c;cases c;exact n (k - 1) b (by omega) d
  ·rw[qa h3]at c;exact g (i - 1) (k - 1) a b (by omega) c d
structure Bp(b:Bool)(t:gf):Prop where
 led:t.led = !b
 UI:BB t.place
 xJ:t.dummies=#[]
theorem DO(j:Nat):cx #[] j=false:=by
 unfold cx;simp
theorem yel{b:Bool}{t:gf}(h:Bp b t)(j:Nat):t.slot j=.empty/\¬ t.place[rf t.place j]?=some j\/∃ i,t.slot j=.live i:=by
 unfold SetTable.slot;dsimp only;by_cases e:(t.place[rf t.place j]? == some j)=true
 ·rw[ia e];exact .inr ⟨_,rfl⟩
 ·rw[qa e,h.xJ,DO];exact .inl ⟨rfl,by simpa using e⟩
theorem D9{b:Bool}{t:gf}(h:Bp b t)(d:Nat->Int)(g:Int):∀ (a:Nat) (p:SetTable.Probe) (m:SetTable.Met),p.dummy=none->Yg t d g a p=some m->(∃ j,m=.empty j none/\¬ t.place[rf t.place j]?=some j)\/∃ j i nx,m=.candidate j i nx:=by
 intro a;induction a with
 |zero=>intro p m _ e;unfold Yg at e;cases e
 |succ f k=>
  intro p m hd e;unfold Yg at e;rcases yel h p.j with⟨c,hn⟩|⟨i,c⟩
  ·rw[c]at e;dsimp only at e;cases e;rw[hd];exact .inl ⟨_,rfl,hn⟩
  ·rw[c]at e;dsimp only at e;by_cases hc:(d i == g)=true
   ·rw[ia hc]at e;cases e;exact .inr ⟨_,_,_,rfl⟩
   ·rw[qa hc]at e;refine k _ m ?_ e;unfold SetTable.advance;split
    ·exact hd
    ·exact hd
theorem A8{b:Bool}{t:gf}(h:Bp b t){a:Int}{j:Nat}{wd:Bool}(e:t.freeSlot a=some (j,wd)):¬ t.place[rf t.place j]?=some j:=by
 unfold SetTable.freeSlot SetTable.probe at e;cases c:Yg t (λ_=>a+1) a (10 * SetTable.turns t.mask) (t.probeStart a)with
 |none=>rw[c]at e;cases e
 |some m=>
  rw[c]at e;rcases D9 h _ _ _ _ m rfl c with⟨d,rfl,hn⟩|⟨d,i,nx,rfl⟩
  ·cases e;exact hn
  ·cases e
theorem Bp.put{b:Bool}{t:gf}(h:Bp b t){j:Nat}(hn:¬ t.place[rf t.place j]?=some j):Bp b (t.put j).1:=by
 unfold SetTable.put;dsimp only;refine⟨h.led,Q5 h.UI (znh h.UI j) hn,?_⟩;rw[h.xJ,DO];rfl
theorem Bp.plain{b p:Bool}{t:gf}(h:Bp b t):Bp b { t with plain:=p }:=⟨h.led,h.UI,h.xJ⟩
theorem k8(n:Nat):BB (Array.range n):=by
 intro i k a c g b d;have e:=(Zc.mp b).1;have f:=(Zc.mp d).1;simp only[Array.size_range]at e f;simp[e]at b;simp[f]at d;omega
theorem Bp.Ay{b:Bool}{t:gf}(h:Bp b t)(n:Nat):Bp b (t.standIn n):=⟨h.led,k8 n,rfl⟩
theorem Bp.or{b:Bool}{t:gf}(h:Bp b t)(n:Nat):Bp b (t.orStandIn n):=by
 unfold SetTable.orStandIn;split
 ·exact h
 ·exact h.Ay n
theorem Bp.lay{b:Bool}{t:gf}(h:Bp b t)(c:Array (Int × Value))(a:Int)(x:Value):Bp b (layNew t c a x).2.1:=by
 unfold layNew;cases e:t.freeSlot a with
 |none=>exact h.Ay _
 |some q=>
  obtain⟨j,wd⟩:=q;dsimp only;exact(h.put (A8 h e)).or _
theorem Bp.fresh(b:Bool):Bp b (Lu 0 0 (!b)):=⟨rfl,λi k a c _ d _=>by simp[Lu]at d,rfl⟩
end L4
namespace L4
open PySem PySem.Spec PyProof.Rows
section
variable{prog:Aa}{w:Ia}{K:Type}[DecidableEq K][BEq K][LawfulBEq K]{knd:KeyKind prog w K}{A:Fa}{E:Value->aa->Prop}{s:aa}{b:Bool}{a:Addr}{k:K}{x:Value}
end
section
variable{prog:Aa}{w:Ia}{A:Fa}
variable{E:Value->aa->Prop}{s:aa}
end
section
variable{prog:Aa}{w:Ia}{A:Fa}{E:Value->aa->Prop}{s:aa}
set_option maxHeartbeats 3200000 in
end
def LK(h:Heap)(a:Addr)(b:Array (Int × Value))(ep:Nat)(t:gf):Prop:=∃ o,h.get? a=some o/\o.ExactSet/\o.data=.set b ep t
def qC(h:Heap)(I a:Addr)(first:Value)(i n ep:Nat):Prop:=∃ o,h.get? I=some o/\o.cls=.type "set_iterator"/\o.data=.fields #[first,Ee i,.ref a,Ee n,Ee ep]
section
variable{prog:Aa}{w:Ia}{A:Fa}{E:Value->aa->Prop}{s:aa}{I a:Addr}{es:Array (Int × Value)}{ep:Nat}{t:gf}{i:Nat}
theorem qC.ty{first:Value}{n:Nat}(h:qC s.heap I a first i n ep):s.TypeIs (.ref I) "set_iterator":=let ⟨o,h1,b,_⟩:=h;⟨o,h1,b⟩
end
section
variable{prog:Aa}{w:Ia}{A:Fa}{E:Value->aa->Prop}{s:aa}{a:Addr}{es:Array (Int × Value)}{ep:Nat}{t:gf}{i:Nat}
end
section
variable{prog:Aa}{w:Ia}{A:Fa}{E:Value->aa->Prop}{s:aa}{I a p:Addr}{es:Array (Int × Value)}{ep:Nat}{t:gf}{i:Nat}
def AJ(h:Heap)(p:Addr)(ps:List Nat):Prop:=∃ o n,h.get? p=some o/\o.data=.seq (ps.map λ(i:Nat)=>Ee i).toArray n
end
section
variable{prog:Aa}{w:Ia}{A:Fa}{I a p:Addr}{es:Array (Int × Value)}{ep:Nat}{t:gf}
theorem qC.keep{h h':Heap}{first:Value}{i n:Nat}(x:qC h I a first i n ep)(k:∀ o,h.get? I=some o->h'.get? I=some o):qC h' I a first i n ep:=let ⟨o,e,r⟩:=x;⟨o,k o e,r⟩
theorem LK.keep{h h':Heap}(x:LK h a es ep t)(k:∀ o,h.get? a=some o->h'.get? a=some o):LK h' a es ep t:=let ⟨o,e,r⟩:=x;⟨o,k o e,r⟩
theorem AJ.keep{h h':Heap}{ps:List Nat}(x:AJ h p ps)(k:∀ o,h.get? p=some o->h'.get? p=some o):AJ h' p ps:=let ⟨o,n,e,r⟩:=x;⟨o,n,k o e,r⟩
end
end L4
namespace L4
open PySem PySem.Spec PySem.Calls PySem.W PyProof.Rows PyProof.V
section
variable{prog:Aa}{w:Ia}{A:Fa}{E:Value->aa->Prop}{s:aa}{a:Addr}{es:Array (Int × Value)}{ep:Nat}{t:gf}
end
end L4
namespace L4
open PySem PySem.Spec PyProof.Rows L2
section
variable{T:Tb}{X:Cx}
def yka(x:D)(xs:List D):M D:=λa=>match x,xs with
 | .ref n,[]=>(match a[n]? with
  |some (.Ma _)=>.ok .Vb (a.set n (.Ma []))
  |_=>.bad)
 |_,_=>.bad
def aE(ds:List D):M D:=λb=>match ds with
 |[x]=>(match al b x with
  |some a=>.ok (.ref b.length) (b++[.Ma a])
  |none=>.bad)
 |_=>.bad
theorem j9:Lr T YH aE:=by
 intro E j H k e n Q r p h
 match e with
 |[]=>exact h.elim
 |[x]=>
  unfold aE at h;dsimp only at h;cases b:al k x with
  |none=>rw[b]at h;exact h.elim
  |some g=>
   rw[b]at h;rw[Ta]at p;obtain⟨v,m,rfl,i,c⟩:=p;rw[Ta]at c;subst c;obtain⟨a,d,rfl,h1,f⟩:=Ey r i b;refine⟨a,d,rfl,h1,λl hn=>?_⟩;exact h (j++[l]) (.ref l) _ (Lw hn) (r.push hn ⟨d,Og,Paired.Rq f λ_ _ z=>⟨z.1,Rep.mono (Lw hn) _ _ z.2⟩⟩) (XC r)
 |_::_::_=>exact h.elim
end
section
variable{X:Cx}{pins:List (Addr × Bc)}{σ:St}{H:Hp}{s:aa}
theorem _root_.L2.Inv.freeze{a:Addr}{kvs:List (Key × V)}{od:Bc}(I:Inv X pins σ H s)(hd:H a=some (.dK kvs))(e:s.heap.get? a=some od):Inv X pins σ (upd H a (.Hb od (.dK kvs))) s:=by
 have ne:∀ b u,H b=some u->u≠.dK kvs->b≠a:=λb u q n z=>by rw[z,hd]at q;exact n (yb q).symm
 refine I.step (g':=s.gens) (d':=s.drawn) (t':=s.toks) (h':=s.heap) (ch:=[]) (λ_ z=>nomatch z) (λb o _ _ _ q _=>q) (λb o _ _ _ q _=>⟨o.slots,q⟩) (λb o _ q n=>?_) (λb o _ q=>⟨o,q⟩)
  (λb xs q=>by rw[Qd (ne b _ q (λz=>by cases z))];exact q) (λb u xs q=>by rw[Qd (ne b _ q (λz=>by cases z))];exact q) (λb d q=>⟨#[],by rw[Qd (ne b _ q (λz=>by cases z)),q];simp⟩) (λm hm=>hm) (λb u q=>?_) I.bare
 ·rw[Qd (λz=>by rw[z,hd]at n;cases n)];exact n
 ·by_cases hb:b=a
  ·subst hb;rw[Og]at q;cases q;exact⟨e,I.dc b _ hd⟩
  ·rw[Qd hb]at q;exact(I.dc b u q).zk (λc v _ z=>z) (λc z=>by rw[Qd (ne c _ z (λy=>by cases y))];exact z) λc xs z=>by rw[Qd (ne c _ z (λy=>by cases y))];exact z
theorem XA{a:Addr}{kvs:List (Key × V)}{od:Bc}(I:Inv X pins σ H s)(hd:H a=some (.Hb od (.dK kvs))):∃ vs b ep,KV kvs vs/\od.data=.dict b ep/\s.heap.DictAt (El X.prog X.w) a vs ep:=by
 obtain⟨e,_,_,vs,rel,o,b,ep,d,ex,c,r⟩:=I.dc a _ hd;rw[e]at d;cases d;exact⟨vs,b,ep,rel,c,od,b,e,ex,c,r⟩
end
def Itm(d:Addr)(od:Bc)(kvs:List (Key × V)):It:=
 ⟨λi H=>H d=some (.Hb od (.dK kvs))/\∃ x,kvs[i]?=some x,λi H v a=>∃ p k x,H p=none/\v=.ref p/\kvs[i]?=some (k,x)/\a=upd H p (.tup [kV k,x]),λi H=>H d=some (.Hb od (.dK kvs))/\i=kvs.length⟩
theorem HH{c:Type}:∀ {kvs:List (c × V)} {vs:List (c × Value)} (r:KV kvs vs) (i:Nat) {k:c} {x:V},kvs[i]?=some (k,x)->∃ u,vs[i]?=some (k,u)/\Ed x u
 |_,_,.nil,i,_,_,h=>by simp at h
 |_,_,.cons (b:=q) a b,0,k,x,h=>by
  simp only[Si,mh]at h;obtain⟨d,e⟩:=a;rw[h]at d e;exact⟨q.2,by simp only[Si,mh];exact bU d.symm rfl,e⟩
 |_,_,.cons a b,i+1,k,x,h=>by
  simp only[sr]at h ⊢;exact HH b i h
theorem KR{P:Aa}{w:Ia}{k:Key}{v:Value}(h:(El P w).is k v=true):Ed (kV k) v:=by
 rcases Av (k:=k) (v:=v) h with⟨i,t,rfl,rfl⟩|⟨x,t,rfl,rfl⟩
 ·exact⟨t,rfl⟩
 ·exact⟨t,rfl⟩
theorem GY{P:Aa}{w:Ia}{K:W.Frag}{g:List Ca}{kk:Nat}{pos:re}(d it:Addr)(od:Bc)(kvs:List (Key × V))(U:d≠it){O:Array Ku}{ep:Nat}(m:od.data=.dict O ep) :
  Turn P w K (.Tuple g kk pos) (Itm d od kvs) [it] it (λi h=>∃ ok e,IsItemIter h it d i kvs.length ep ok e) where
 mem:=by simp
 obj:=λi h a b hb=>by
  obtain⟨ok,e,s1⟩:=a;obtain rfl:b=it:=by simpa using hb
  exact⟨_,s1,λv z=>by cases z⟩
 keep:=λi h J a k=>by
  obtain⟨ok,e,s1⟩:=a;exact⟨ok,e,k it (by simp) _ s1⟩
 item:=by
  intro X C G B hc i p s σ H E I r a hg;subst C G B;obtain⟨hd,⟨k,x⟩,M⟩:=hg;obtain⟨vs,y,t,rel,f,hm⟩:=XA I hd;rw[m]at f;cases f;obtain⟨u,hu,ru⟩:=HH rel i M;obtain⟨ok,e,s1⟩:=a;rw[rel.length]at s1;refine wpAny_pyNext_items_item s1 hm hu λc J l Y S Z T=>?_;have j:s.heap.objs.size≠it:=Cg (za s1);refine⟨.ref s.heap.objs.size,rfl,wpAny_letOwnedTupleGo_items Y λR F n=>?_⟩;have hn:H s.heap.objs.size=none:=I.dc.fresh (ya _);have D:R.get? s.heap.objs.size=some { cls:=.type "tuple",data:=.seq #[c,u] }:=n.extBut _ _ j S;refine⟨.ref s.heap.objs.size,upd H s.heap.objs.size (.tup [kV k,x]),I.bv (t':=s.toks) (o:=.tup [kV k,x]) (its:=[it]) (λb o hb q=>n.extBut b o (λz=>hb (by simp[z])) (T b o (λz=>hb (by simp[z])) q)) r (ya _) ?_,rfl,⟨_,k,x,hn,rfl,M,rfl⟩,⟨c,u,by rw[rel.length];exact F⟩,λb hb=>?_⟩
  ·exact⟨(show (2:Nat)<=sizeLine by decide),[c,u],.cons (KR l) (.cons ru .nil),⟨_,D,rfl,_,rfl⟩⟩
  ·obtain rfl:b=it:=by simpa using hb
   rw[Qd (λz=>j z.symm)];exact(r b hb).1
 done:=by
  intro X C G B hc i p s σ H E I r a hg;subst C G B;obtain⟨hd,L⟩:=hg;obtain⟨vs,y,t,rel,f,hm⟩:=XA I hd;rw[m]at f;cases f;obtain⟨ok,e,s1⟩:=a;rw[rel.length]at s1 L;exact wpAny_pyNext_items_end (I.ok.hd hc) s1 hm (by rw[L];simp) λJ N=>⟨rfl,I.Pu (t':=s.toks) (its:=[it]) (λb o hb q=>N b o (λz=>hb (by simp[z])) q) r⟩
 self:=λA i s Q E a h=>by
  obtain⟨ok,e,s1⟩:=a;exact W.kcp_self s1 h
def cn(l a:Addr):Heap->Prop:=λh=>h.IsItemsView l a
def W9:V->List V->Hp->VK->Prop:=λx xs H Q=>∃ a b,x=.ref a/\xs=[]/\Rd H a (.dK b)/\∀ l,H l=none->Q (.ref l) (upd H l (.ext (cn l a)))
theorem zA{H:Hp}{a:Addr}{o:HO}(h:H a=some o):upd H a o=H:=by
 funext b;unfold upd;split
 ·next e=>rw[e,h]
 ·rfl
theorem dH(h:Heap)(o:Bc)(a:o.data≠.freed):(h.push o).get? h.objs.size=some o:=by
 obtain⟨c,d,x,b⟩:=o;simp[Heap.get?,Heap.push];cases x<;>first|rfl|exact absurd rfl a
section
variable{T:Tb}{X:Cx}{elts:List Ca}{kk:Nat}{p0:re}
theorem HM:Gv X "dict.items" W9:=by
 intro f s r H x u v t Q I l j h;obtain⟨a,i,rfl,rfl,g,q⟩:=h;cases l;cases j;obtain⟨z,hd,m,rel,d⟩:=Nu I.dc g;refine call_meetsIn oi d.typeIs PySem.F.entry_dict_items (PySem.F.args_dict_items_1 _) (meets_dict_items (El X.prog X.w) a hd) ⟨⟨m,d⟩,?_⟩;refine⟨.ref s.heap.objs.size,_,I.laid (t':=s.toks) (o:=.ext (cn s.heap.objs.size a)) (λb o e=>ka _ e) (ya _) ?_,rfl,q _ (I.dc.fresh (ya _))⟩;refine⟨⟨_,dH _ _ (λz=>by cases z),rfl,rfl⟩,⟨_,dH _ _ (λz=>by cases z)⟩,λh1 n p k=>?_⟩;obtain⟨o,e,c⟩:=p;exact⟨o,k o e,c⟩
def wX(e:TE):TI:=λf H R=>e f H λv c=>∃ l a b,v=.ref l/\c l=some (.ext (cn l a))/\Rd c a (.dK b)/\∀ d,c a=some (.dK b)\/c a=some (.Hb d (.dK b))->R (Itm a d b) (upd c a (.Hb d (.dK b)))
theorem VM{f:Ca}{p:TE}(y:PE X f p):PI X (.Tuple elts kk p0) f (wX p):=by
 intro i s r H R I h;refine be (y i s r H _ I h) λv s1 ⟨x,H1,j,D,C⟩=>?_;obtain⟨l,a,c,rfl,A,d,q⟩:=C;cases D;obtain⟨g,n,k⟩:∃ g,(H1 a=some (.dK c)\/H1 a=some (.Hb g (.dK c)))/\Inv X i r (upd H1 a (.Hb g (.dK c))) s1:=by
  rcases d with d|⟨g,d⟩
  ·obtain⟨_,_,E,rel,o,w,u,e,_⟩:=j.dc a _ d;exact⟨o,.inl d,j.freeze d e⟩
  ·exact⟨g,.inr d,by rw[zA d];exact j⟩
 obtain⟨E,w,u,rel,t,hm⟩:=XA k Og;have B:s1.heap.IsItemsView l a:=(j.dc l _ A).1;have m:a≠s1.heap.objs.size:=Ea hm.lt_size;refine wpAny_pyIter_items B hm ?_;refine⟨s1.heap.objs.size,[s1.heap.objs.size],_,Itm a g c,_,rfl,k.kept (t':=s1.toks) (λb o e=>ka _ e),GY a _ g c m t,⟨.none,.none,by rw[rel.length];exact dH _ _ (λz=>by cases z)⟩,λb hb=>?_,q g n⟩;obtain rfl:b=s1.heap.objs.size:=by simpa using hb
 exact k.Qp (ya _) (k.dc.fresh (ya _))
noncomputable def Us(a:List (Key × D)):NX:=λi _=>match a[i]? with
 |some p=>some (some (.tup [Bz p.1,p.2]))
 |none=>if i=a.length then some none else none
def qH(d:D):M NX:=λb=>match d with
 | .Ma a xs=>if a.length=xs.length then .ok (Us (a.zip xs)) b else .bad
 |_=>.bad
def wy(f:Ev->M D):Ev->M NX:=λa=>Wc (f a) qH
theorem zJ{μ:List Addr}{H:Hp}(k:Key):Rep T μ H (Bz k) (kV k):=by
 cases k<;>(unfold Bz kV;rw[Rep])
theorem lO{μ:List Addr}{H:Hp}{a:Addr}{od:Bc}{kvs:List (Key × V)}(c:H a=some (.dK kvs)):Ext μ H μ (upd H a (.Hb od (.dK kvs))):=by
 have ne:∀ b u,H b=some u->u≠.dK kvs->b≠a:=λb u q n z=>by rw[z,c]at q;exact n (yb q).symm
 refine⟨⟨[],by simp⟩,λp xs h=>by rw[Qd (ne p _ h (λz=>by cases z))];exact h,λp o u h=>by rw[Qd (ne p _ h (λz=>by cases z))];exact h,λp o h n=>⟨?_,n⟩⟩;by_cases e:p=a
 ·subst e;rw[c]at h;cases h;exact⟨_,Og,.inr (.inl ⟨od,kvs,rfl,rfl⟩)⟩
 ·exact⟨o,by rw[Qd e];exact h,.inl rfl⟩
theorem xF{c d:Type}{R:c->d->Prop}:∀ {xs:List c} {ys:List d},Paired R xs ys->∀ (i:Nat) {x:c},xs[i]?=some x->∃ y,ys[i]?=some y/\R x y
 |_,_,.nil,i,_,h=>by simp at h
 |_,_,.cons a b,0,x,h=>by
  simp only[Si,mh]at h ⊢;subst h;exact⟨_,rfl,a⟩
 |_,_,.cons a b,i+1,x,h=>by
  simp only[sr]at h ⊢;exact xF b i h
theorem eJ{e:Ca}{f:Ev->M D}{j k:re}(h:FE T X e f)(m:Ud e "items" X.env (Ib e X.env)=Ib e X.env:=by rfl)(o:(j.endLine == k.line)=true:=by rfl) :
  Px T X (.Tuple elts kk p0) (.Call (.Attribute e "items" j) [] [] k) (wy f):=by
 intro G s st H R I hw;refine VM (rQ pi oi Fp HM h m o) G s st H R I ?_;obtain⟨μ,ρ,σ,hE,hr,hp⟩:=hw;refine⟨μ,ρ,σ,hE,hr,hp.bind λd σ1 c v g _ e1 r1 Y w=>?_⟩;unfold qH at w;cases d with
 |Ma J xs=>
  dsimp only at w;by_cases W:J.length=xs.length
  ·rw[ia W]at w;rw[Rep]at Y;obtain⟨a,kvs,rfl,hn,n,N,O⟩:=Y;refine⟨⟨a,kvs,rfl,n⟩,a,kvs,rfl,rfl,n,λl t=>?_⟩;have P:a≠l:=by rcases n with n|⟨_,n⟩<;>exact gq n t
   have L:Rd (upd g l (.ext (cn l a))) a (.dK kvs):=by unfold Rd;rw[Qd P];exact n
   refine⟨l,a,kvs,rfl,Og,L,λod A=>?_⟩;have x1:Ext c g c (upd g l (.ext (cn l a))):=Yl t;have x:Rel T c (upd g l (.ext (cn l a))) σ1:=r1.fresh t;obtain⟨x2,Q⟩:Ext c g c (upd (upd g l (.ext (cn l a))) a (.Hb od (.dK kvs)))/\Rel T c (upd (upd g l (.ext (cn l a))) a (.Hb od (.dK kvs))) σ1:=by
    rcases A with A|A
    ·have y:=lO (μ:=c) (od:=od) A;exact⟨x1.trans y,x.keep y (λb hb=>Qd (λz=>hn (by rw[<-z];exact hb))) (x.tb.out (λb hb=>Qd hb) (.inr ⟨_,A⟩))⟩
    ·rw[zA A];exact⟨x1,x⟩
   have h3:upd (upd g l (.ext (cn l a))) a (.Hb od (.dK kvs)) a=some (.Hb od (.dK kvs)):=Og;generalize upd (upd g l (.ext (cn l a))) a (.Hb od (.dK kvs))=H3 at *;refine Mb.here (R:=Nr T) (Mb.mono x2 w) Q λS U a0 i ex r2=>?_;have V:U a=some (.Hb od (.dK kvs)):=ex.Hb _ _ _ h3;have E:bh T S U (J.zip xs) kvs:=bh.mono (x2.trans ex) (fG N O);unfold Us;cases ei:(J.zip xs)[i]? with
   |none=>
    dsimp only;by_cases K:i=(J.zip xs).length
    ·rw[ia K];exact⟨V,by rw[K];exact Paired.length E⟩
    ·rw[qa K];trivial
   |some p=>
    obtain⟨q,hq,C,Z⟩:=xF E i ei;refine⟨⟨V,q,hq⟩,λz H' y=>?_⟩;obtain⟨r,k',x',u,rfl,B,rfl⟩:=y;rw[hq]at B;cases B;dsimp only at C Z;refine⟨Yl u,r2.fresh u,?_⟩;rw[Rep,C];exact⟨r,_,rfl,Og,Ta.cons (zJ _) (Ta.cons (Rep.mono (Yl u) _ _ Z) Ta.nil)⟩
  ·rw[qa W]at w;exact w.elim
 |_=>exact w.elim
end
def Gj(nx:NX)(n:Nat)(tg:D->Ev->Option Ev)(fi:Ev->M Bool)(fe:Ev->M D):Nat->Nat->Ev->M Unit
 |0,_,_=>bad
 |k+1,i,e=>λb=>match nx i b with
  |none=>.bad
  |some none=>.ok () b
  |some (some d)=>match tg d e with
   |none=>.bad
   |some a=>Wc (So (fi a)) (λc=>if c=true then Wc (So (fe a)) λy=>Wc (Jn (.ref n) [y]) λ_=>Gj nx n tg fi fe k (i+1) a else Gj nx n tg fi fe k (i+1) a) b
def eF(tg:D->Ev->Option Ev)(fi:Ev->M Bool)(fe:Ev->M D)(ρ:Ev)(nx:NX):M D:=λa=>
 Wc (Gj nx a.length tg fi fe 1001 0 ρ) (λ_=>ret (.ref a.length)) (a++[.lst []])
def Ym(src:Ev->M NX)(ix:List Nat)(tg:D->Ev->Option Ev)(fi:Ev->M Bool)(fe:Ev->M D):Ev->M D:=λa=>Wc (src a) (eF tg fi fe (zv ix a))
section
variable{T:Tb}{X:Cx}
theorem AS{E:XK}{a5 W a3:Ca}{a6:List Ca}{scope:Scope}{pos:re}{x z0:Str}{M':List Str}{ix:List Nat}{tg:D->Ev->Option Ev}{fi:Ev->M Bool}{fe:Ev->M D}
  {b0:List (Addr × Bc)} {st:St} {R:Hp} {s3:aa} {t:Heap} {t':Nat} {m:Str->Option Value} {fp:List Addr} {it D0:Addr} {tn:Nat->Heap->Prop} {J:It} {nx:NX} {G:List Addr} {b5:qb} {ρ:Ev} {n:Nat} {Q:VK}
  (hc:X.calm=true) (L:Qn X x M' ix scope)
  (d0:∀ cl C s₀ H₀ ex,FG T (qu X (x::z0::M') scope cl C s₀ H₀ ex) a3 tg)
  (c7:∀ cl C s₀ H₀ ex,oD T (qu X (x::z0::M') scope cl C s₀ H₀ ex) a6 fi)
  (b8:∀ cl C s₀ H₀ ex,FE T (qu X (x::z0::M') scope cl C s₀ H₀ ex) a5 fe)
  (I3:Inv X b0 st R s3) (b9:∀ b∈fp,Nm X b0 R b/\b<s3.heap.objs.size) (c9:t.Ns s3.heap.objs.size m) (kp:∀ b o,s3.heap.get? b=some o->t.get? b=some o)
  (TT:Turn X.prog X.w X.K a3 J fp it tn) (a9:tn 0 t) (so:Nr T G R nx J) (hE:wh T G R ρ st) (r3:Rel T G R b5) (hn:G[n]?=some D0)
  (p3:Mb T E (Rep T) G R (Wc (Gj nx n tg fi fe 1001 0 (zv ix ρ)) (λ_=>ret (.ref n)) b5) Q) {RR:vA->aa->Prop}
  (c5:∀ (s6:aa) (j:Hp) (m6:Str->Option Value),s6.heap.Ns s3.heap.objs.size m6->j s3.heap.objs.size=none->Un (Nj X.stack) fp R j s3.heap s6.heap->s6.os=s3.os->Ni X.prog X.w j s6.heap->Tg s6.gens->Q (.ref D0) j->RR (.ok .next) s6) :
  codeAny (model X.prog X.w) X.A (.compStart (.ListComp a5 [⟨a3,W,a6,0⟩] scope pos) 0 (.ref it) (.ref D0) (compEnvC scope (Vi X.env scope.names []) s3.heap.objs.size X.env))
   RR { s3 with heap:=t,toks:=t' }:=by
 have I4:=d9 (z0:=z0) (h':=t) (t':=t') I3 L b9 c9 kp;let Y:Cx:=qu X (x::z0::M') scope (Vi X.env scope.names []) s3.heap.objs.size s3 R fp;have a2:∀ {j:Hp},(∀ b∈fp,j b=none)->∀ b∈fp,Nm Y [] j b:=fun {j} hn b hb=>⟨hn b hb,(I4.ok.iA b hb).1,I4.ok.ar b hb,.inl hb,(I4.ok.iA b hb).2,λp hp=>absurd (show p∈([]:List (Addr × Bc))from hp) (by simp)⟩
 have Lk:codeAny (model X.prog X.w) X.A (.compLoop (.ListComp a5 [⟨a3,W,a6,0⟩] scope pos) 0 (.ref it) (.ref D0) Y.env) RR { s3 with heap:=t,toks:=t' }:=by
  refine codeAny_loop rfl (λk s'=>∃ i f j σ' q B,Inv Y [] B j s'/\tn i s'.heap/\(∀ b∈fp,j b=none)/\Ext G R f j/\wh T f j q B/\Rel T f j σ'/\
   Mb T E (Rep T) f j (Wc (Gj nx n tg fi fe k i q) (λ_=>ret (.ref n)) σ') Q) ?_ 1001 ⟨0,G,R,b5,zv ix ρ,Fz ix st,I4,a9,λb hb=>(b9 b hb).1.1,Ext.refl _ _,Q8 ix hE,r3,p3⟩
  rintro k s' ⟨i,f,j,σ',q,B,I',c1,b6,ex',hE',r',p'⟩;show wpAny _ X.A ((compTurn (.ListComp a5 [⟨a3,W,a6,0⟩] scope pos) 0 (.ref it) (.ref D0) Y.env).onRaise (λx=>do Ig x Y.env;theTreesLotGoes x)) _ _ s';refine wpAny_noted ?_;rw[compTurn_list];refine bc (E:=λ_ _=>False) ?_ (λ_ _ z=>z) (λ_ _ z=>z.elim);refine ba (Yt ?_);cases k with
  |zero=>exact p'.elim
  |succ k=>
   have a8:=so f j σ' i ex' r';cases en:nx i σ' with
   |none=>
    have e1:Gj nx n tg fi fe (k+1) i q σ'=.bad:=by unfold Gj;simp only[en]
    rw[uF (m':=bad) e1]at p';exact p'.elim
   |some od=>
    rw[en]at a8;cases od with
    |none=>
     have e1:Gj nx n tg fi fe (k+1) i q σ'=.ok () σ':=by unfold Gj;simp only[en]
     rw[uF (m':=ret ()) e1]at p';refine ba (be (TT.done Y rfl rfl rfl hc i [] s' B j (λ_ _=>False) I' (a2 b6) c1 a8) λr s6 ⟨er,I6⟩=>?_);subst er;refine xa ?_;obtain⟨m6,c8,_⟩:=I6.loc;exact c5 s6 j m6 c8 I6.free I6.base I6.os I6.dc I6.bare (Mb.here p' r' (by rw[Rep];exact⟨_,rfl,ex'.get hn⟩))
    |some d=>
     refine ba (be (TT.item Y rfl rfl rfl hc i [] s' B j (λ_ _=>False) I' (a2 b6) c1 a8.1) λr s6 ⟨u,er,h6⟩=>?_);subst er;refine ba (be h6 λ_ s7 ⟨xv,H7,I7,r7,y7,b4,c6⟩=>?_);obtain⟨b1,d1,hd⟩:=a8.2 xv H7 y7;replace p':=Mb.mono b1 p';replace hE':=hE'.mono b1;replace ex':=ex'.trans b1;replace r':=d1;cases et:tg d q with
     |none=>
      have e1:Gj nx n tg fi fe (k+1) i q σ'=.bad:=by unfold Gj;simp only[en,et]
      rw[uF (m':=bad) e1]at p';exact p'.elim
     |some h=>
      have e1:Gj nx n tg fi fe (k+1) i q σ'=Wc (So (fi h)) (λc=>if c=true then Wc (So (fe h)) λy=>Wc (Jn (.ref n) [y]) λ_=>Gj nx n tg fi fe k (i+1) h else Gj nx n tg fi fe k (i+1) h) σ':=by
       conv=>lhs;unfold Gj
       simp only[en,et]
      rw[uF e1,MH]at p';have c3:=I7.pinned (a2 c6) (TT.obj _ _ b4);refine ba (be (d0 _ _ _ _ _ _ s7 B H7 xv u (λF H8=>H8=H7/\wh T f H7 h F) c3 r7 ⟨f,σ',q,d,h,hE',r',hd,et,λF V=>⟨rfl,V⟩⟩) λ_ s8 ⟨F,H8,I8,c4,V⟩=>?_);subst c4;refine ba (be (c7 _ _ _ _ _ _ s8 F H8 (λc H9=>∃ N P,Ext f H8 N H9/\Rel T N H9 P/\Mb T E (Rep T) N H9 (Wc (if c=true then Wc (So (fe h)) λy=>Wc (Jn (.ref n) [y]) λ_=>Gj nx n tg fi fe k (i+1) h else Gj nx n tg fi fe k (i+1) h) (λ_=>ret (.ref n)) P) Q) I8
       ⟨f,h,σ',V,r',p'.Wu λc P N c' H9 _ e9 r9 q9 p9=>by cases q9;exact⟨N,P,e9,r9,p9⟩⟩) λc s9 ⟨H9,I9,N,P,e9,r9,p9⟩=>?_)
      have U:∀ {a1:aa} {l:Hp} {a:List Addr} {g:qb},Inv Y ([]++oC fp s7.heap) F l a1->Ext f H8 a l->Rel T a l g->Mb T E (Rep T) a l (Wc (Gj nx n tg fi fe k (i+1) h) (λ_=>ret (.ref n)) g) Q->
        ∃ m,m<k+1/\∃ i f j σ' q B,Inv Y [] B j a1/\tn i a1.heap/\(∀ b∈fp,j b=none)/\Ext G R f j/\wh T f j q B/\Rel T f j σ'/\Mb T E (Rep T) f j (Wc (Gj nx n tg fi fe m i q) (λ_=>ret (.ref n)) σ') Q:=by
       intro a1 l a g S O a0 Z;refine⟨k,Rc _,i+1,a,l,g,h,F,S.Ek,TT.keep _ _ _ b4 (λb hb o e=>(S.pin (b,o) (Oa _ (Oa _ (VG hb e)))).1),λb hb=>?_,ex'.trans O,V.mono O,a0,Z⟩;obtain⟨o,e,_⟩:=TT.obj _ _ b4 b hb;exact(S.pin (b,o) (Oa _ (Oa _ (VG hb e)))).2.1
      cases c with
      |false=>
       rw[qa Xa]at p9;exact xa ⟨rfl,U I9 e9 r9 p9⟩
      |true=>
       rw[ia rfl,MH]at p9;refine ba (ba (be (b8 _ _ _ _ _ _ s9 F H9 (λv I=>∃ y s H,Ext f H8 s I/\Rel T s I H/\Rep T s I y v/\Mb T E (Rep T) s I (Wc (Jn (.ref n) [y]) (λ_=>Wc (Gj nx n tg fi fe k (i+1) h) (λ_=>ret (.ref n))) H) Q) I9
        ⟨N,h,P,V.mono e9,r9,p9.Wu λy H s v I _ a4 b3 b2 a7=>⟨y,s,H,e9.trans a4,b3,b2,by rw[MH]at a7;exact a7⟩⟩) λw d2 ⟨v,I,c2,c0,y,s,H,a4,b3,b2,a7⟩=>?_))
       have b7:=zxr (Q:=λ_ l=>∃ a g,Ext f H8 a l/\Rel T a l g/\Mb T E (Rep T) a l (Wc (Gj nx n tg fi fe k (i+1) h) (λ_=>ret (.ref n)) g) Q) b3 ((ex'.trans a4).get hn) b2
        (a7.bind λ_ g a d3 l _ O a0 d4 Z=>⟨a,g,a4.trans O,a0,Z⟩)
       refine ba (be (VB (X:=Y) _ d2 F I (.ref D0) [v] (.ref D0) [w] _ c2 rfl (.cons c0 .nil) b7) λ_ a1 ⟨d3,l,S,_,a,g,O,a0,Z⟩=>?_);exact xa (xa ⟨rfl,U S O a0 Z⟩)
 exact codeAny_compStart_list Lk (TT.self X.A 0 _ _ _ a9 Lk)
theorem Su{u f t:Ca}{G:List Ca}{scope:Scope}{pos:re}{x z0:Str}{M':List Str}{ix:List Nat}{src:Ev->M NX}{tg:D->Ev->Option Ev}{fi:Ev->M Bool}{fe:Ev->M D}
  (hc:X.calm=true) (L:Qn X x M' ix scope) (E:Px T X t f src)
  (Y:∀ cl C s₀ H₀ ex,FG T (qu X (x::z0::M') scope cl C s₀ H₀ ex) t tg)
  (S:∀ cl C s₀ H₀ ex,oD T (qu X (x::z0::M') scope cl C s₀ H₀ ex) G fi)
  (z:∀ cl C s₀ H₀ ex,FE T (qu X (x::z0::M') scope cl C s₀ H₀ ex) u fe)
  (hs:∀ y,Ug f X.env y=pure y:=by intro _;rfl) :
  FE T X (.ListComp u [⟨t,f,G,0⟩] scope pos) (Ym src ix tg fi fe):=by
 intro l s st H Q I h;obtain⟨N,ρ,σ,hE,hr,hp⟩:=h;rw[eval_ListComp];refine du (use:=none) rfl hs (AH X.env scope (Xz I L)) L.kind (λy hy e=>?_) ?_
 ·have q:=Ub.mp L.names y hy;rw[e]at q;simp only[Vh,Fq,Tk]at q;exact eq_of_beq q
 have h1:=E l s st H (λJ g=>∃ nx a c,Ext N H a g/\Rel T a g c/\Nr T a g nx J/\Mb T (XE X st) (Rep T) a g (Wc (Gj nx c.length tg fi fe 1001 0 (zv ix ρ)) (λ_=>ret (.ref c.length)) (c++[Ob.lst []])) Q) I
  ⟨N,ρ,σ,hE,hr,hp.bind λnx a1 a0 J H1 _ e1 r1 q1 p1=>⟨nx,a0,a1,e1,r1,q1,p1⟩⟩
 refine be h1 λv s1 h2=>be h2 λa2 s2 h3=>?_;obtain⟨it,fp,tn,J,g,rfl,I2,TT,K,f2,nx,a,c,O,r2,so,p2⟩:=h3;refine Qe (Kl (FD L) (by intro y hy;simp at hy) (λF j k=>?_) L.kind);have I3:=I2.yz (ys:=[]) (its:=[]) (t':=s2.toks) .nil (by simp);have w:g s2.heap.objs.size=none:=I2.dc.fresh (ya _);have r3:=r2.push (p:=s2.heap.objs.size) (o:=.lst []) (ob:=.lst []) w ⟨[],Og,Ta.nil⟩;have m:Ext a g (a++[s2.heap.objs.size]) (upd g s2.heap.objs.size (.lst [])):=Lw w;have W:s2.heap.objs.size<(s2.heap.push { cls:=.type "list",data:=.seq ([]:List Value).toArray }).objs.size:=by rw[vg];exact Rc _
 have kp:∀ b o,(s2.heap.push { cls:=.type "list",data:=.seq ([]:List Value).toArray }).get? b=some o->F.get? b=some o:=λb o e=>k.extBut b o (Ea (za e)) (ka _ e);have d:∀ b∈fp,Nm X l (upd g s2.heap.objs.size (.lst [])) b/\b<(s2.heap.push { cls:=.type "list",data:=.seq ([]:List Value).toArray }).objs.size:=λb hb=>by
  obtain⟨o,e,_⟩:=TT.obj 0 _ K b hb;have lt:=za e;exact⟨⟨by rw[Qd (Ea lt)];exact(f2 b hb).1,(f2 b hb).2⟩,Ds lt W⟩
 refine AS (s3:={ s2 with heap:=s2.heap.push { cls:=.type "list",data:=.seq ([]:List Value).toArray },toks:=s2.toks }) (n:=c.length) (D0:=s2.heap.objs.size) hc L Y S z I3 d j kp TT (TT.keep 0 _ _ K λb hb o e=>kp b o (ka _ e))
  (λN H σ i ex r=>so N H σ i (m.trans ex) r) ((hE.mono O).mono m) r3 (by rw[<-r2.len];simp) (p2.mono m) (λs6 H' m6 U P Z V A R hq=>⟨m6,U,λh7 B=>?_⟩)
 have hu:=D5 Z B (ya _);have I7:=L2.Inv.Dv (s':={ s6 with heap:=h7 }) (ch:=fp) I3 V hu (Y8 A B P) R (λb hb=>⟨(d b hb).1.2.2.2.1,(d b hb).1.2.1,(d b hb).1.2.2.2.2.1,(d b hb).1.2.2.2.2.2⟩);exact⟨.ref s2.heap.objs.size,H',I7,rfl,hq⟩
end
def JI(K:W.Frag)(mg:Str->Option Value)(x:Str)(ss:List Str):Prop:=∃ a,mg x=some (.ref a)/\xC K a ss
noncomputable def Rz:List Value->List Str->Bool
 |[],[]=>true
 | .str y _::a,x::ss=>(y == x) && Rz a ss
 |_,_=>false
def fK(K:W.Frag)(a:Addr)(ss:List Str):Bool:=match K.lookup a with
 |some o=>(o.cls == .type "tuple") && (match o.data with
  | .seq b _=>decide (b.size<=sizeLine) && Rz b.toList ss
  |_=>false)
 |none=>false
theorem qR:∀ {vs:List Value} {ss:List Str},Rz vs ss=true->ue (ss.map V.str) vs
 |[],[],_=>.nil
 |[],_::_,h=>by simp[Rz]at h
 |v::vs,[],h=>by cases v<;>simp[Rz]at h
 |v::vs,x::ss,h=>by
  cases v with
  |str y t=>
   simp only[Rz,Da]at h;obtain rfl:=eq_of_beq h.1;exact .cons ⟨t,rfl⟩ (qR h.2)
  |_=>simp[Rz]at h
theorem xC.of{K:W.Frag}{a:Addr}{ss:List Str}(h:fK K a ss=true):xC K a ss:=by
 unfold fK at h;cases e:K.lookup a with
 |none=>rw[e]at h;cases h
 |some o=>
  rw[e]at h;simp only[Da]at h;obtain⟨h1,b⟩:=h;cases c:o.data with
  |seq d n=>
   rw[c]at b;simp only[Da,ke]at b;exact⟨o,d,n,e,eq_of_beq h1,c,b.1,qR b.2⟩
  |_=>rw[c]at b;cases b
section
variable{T:Tb}{X:Cx}{e:Ca}{f:Ev->M D}{x:Str}{p pos:re}{ss:List Str}
end
section
variable{T:Tb}{X:Cx}
end
theorem LU{K:W.Frag}{mg:Str->Option Value}{h:Heap}{x:Str}{C:Addr}{ss:List Str}(X:K.In h)(G:h.Ns mainGlobals mg)(a:W.nsIn K mainGlobals x=some (some (.ref C)))(b:fK K C ss=true):JI K mg x ss:=⟨C,W.mg_of X G a,xC.of b⟩
section
variable{T:Tb}{X:Cx}
end
section
variable{T:Tb}{X:Cx}
end
section
variable{prog:Aa}{w:Ia}{A:Fa}{E:Value->aa->Prop}{l q I S:Addr}{n:Nat}{P:Nat->Value->Prop}{R:vA->aa->Prop}{Q:Value->aa->Prop}
theorem h9(G:Nat->Value->Int->aa->Prop)(hh:A.handled=none)(Y:l≠I)(H:S≠I)(a6:l≠S)
  (hl:∀ j d a s,G j d a s->∃ vs:List Value,vs.length=n/\(∀ (j:Nat) v,vs[j]?=some v->P j v)/\s.heap.IsList l vs.toArray)
  (B:∀ j d a s h' tk,G j d a s->(∀ b o,b≠I->b≠S->s.heap.get? b=some o->h'.get? b=some o)->G j d a { s with heap:=h',toks:=tk })
  (a4:∀ j d a s v oI oS,G j d a s->P j v->s.heap.get? I=some oI->s.heap.get? S=some oS->(∀ v,oI.data≠.cell v)->(∀ v,oS.data≠.cell v)->
   wpAny (model prog w) A.in1 (call (.ref q) [v]) (λx s'=>∃ k t,x=.int k t/\s'.heap.get? I=some oI/\s'.heap.get? S=some oS/\G (j+1) (if k<a then v else d) (if k<a then k else a) s') (λ_ _=>False) s)
  (hR:∀ d a s,G n d a s->R (.ok (.ret d)) s) :
  ∀ (r j:Nat) (s:aa) (d:Value) (a:Int) (tb:Tok) (c:Nat),n - j=r->j<=n->G j d a s->s.heap.get? S=some (Ol "list" #[d,.int a tb] c)->s.heap.IsListIter I l j->
   codeAny (model prog w) A (.builtin "min.loop" ⟨[.ref I,.ref q,.ref S],[]⟩) R s:=by
 have p:(toString "min"++toString ".loop" : String) = "min.loop":=by decide
 intro r;induction r with
 |zero=>
  intro j s d a tb c hr hj g U hit;have V:j=n:=by omega
  obtain⟨vs,O,a2,K⟩:=hl j d a s g;have W:=jp (prog:=prog) (w:=w) (A:=A.in1) hh I l Y vs.toArray;have N:vs.toArray.size=n:=(va ..).trans O;refine bi Ji ?_;rw[Bf Yc _];show wpAny _ A.in1 (XD (.ref S) >>= _) _ _ _;refine ba (Fs U rfl ?_);show wpAny _ A.in1 (tryCatch (pyNext (.ref I)) _ >>= _) _ _ _;refine ba (Zf (W.done _ _ _ ⟨by rw[N,<-V];exact hit,K⟩ λh' a3 J=>?_));have m:∀ b o,b≠I->s.heap.get? b=some o->h'.get? b=some o:=λb o n e=>J b o (by simpa using n) e;have D:=m S _ H U;have s1:=Ti h' S (Nf λ_=>(#[]:Array Value));show wpAny _ A.in1 (updateSeq S (λ_=>#[]) >>= _) _ _ _;refine ba ?_;refine ur D rfl (ba (Gq (xa ?_)));subst V;exact hR d a _ (B _ _ _ s _ _ g λb o n1 n2 e=>by rw[s1.2 b n2];exact m b o n1 e)
 |succ r ih=>
  intro j s d a tb c hr hj g U hit;have L:j<n:=by omega
  obtain⟨vs,O,a2,K⟩:=hl j d a s g;have W:=jp (prog:=prog) (w:=w) (A:=A.in1) hh I l Y vs.toArray;have N:vs.toArray.size=n:=(va ..).trans O;refine bi Ji ?_;rw[Bf Yc _];show wpAny _ A.in1 (XD (.ref S) >>= _) _ _ _;refine ba (Fs U rfl ?_);show wpAny _ A.in1 (tryCatch (pyNext (.ref I)) _ >>= _) _ _ _;refine ba (Zf (W.item j _ _ _ (by rw[N];exact L) ⟨hit,K⟩ λv h' a3 hP a1 J=>?_));have m:∀ b o,b≠I->s.heap.get? b=some o->h'.get? b=some o:=λb o n e=>J b o (by simpa using n) e;have hv:P j v:=a2 j v (by simpa using hP);obtain⟨Q,Z,a0,M⟩:=id a1.1;have g1:=B _ _ _ s h' a3 g λb o n1 n2 e=>m b o n1 e;have D:=m S _ H U;show wpAny _ A.in1 (tryCatch (ve [v] (call (.ref q) [v])) _ >>= _) _ _ _;refine ba (Zf (Td (bc (a4 j d a _ v Q _ g1 hv Z D (λv z=>by rw[M]at z;cases z) (λv z=>by cases z)) (λx u he=>?_) λ_ _ hF=>hF.elim)));obtain⟨y,C,rfl,T,E,g2⟩:=he;have X:u.heap.IsListIter I l (j+1):=⟨Q,T,a0,M⟩
  show wpAny _ A.in1 (tryCatch (ve [v,.int y C] (jy .Lt (.int y C) (.int a tb) >>= _)) _ >>= _) _ _ _;refine ba (Zf (Td (ba (CmpOf.ints_lt (prog:=prog) (w:=w) (A:=A.in1) (P:=λ(i:Nat) v=>∃ t,v=.int (if i=0 then y else a) t) (λi=>if i=0 then y else a) (λi v h=>h) 0 1 _ _ _ _ _ ⟨C,rfl⟩ ⟨tb,rfl⟩ ?_))));refine ba (Td (sd ?_));refine ba (Gq (xa ?_));show wpAny _ _ _ _ _ _;by_cases f:y<a
  ·have s1:=Ti u.heap S (Nf λ_=>#[v,.int y C]);obtain⟨c2,a5⟩:∃ c2,(u.heap.update S (Nf λ_=>#[v,.int y C])).get? S=some (Ol "list" #[v,.int y C] c2):=⟨_,lH E λ_=>#[v,.int y C]⟩
   rw[ia f,ia f]at g2;simp only[f,decide_true,Ng,ez,Dq];refine ba ?_;refine ur E rfl (ba (Gq ?_));rw[p];refine xa ⟨xj Yc _,ih (j+1) _ v y C c2 (by omega) L (B _ _ _ u _ _ g2 λb o n1 n2 e=>by rw[s1.2 b n2];exact e) a5 ⟨Q,(s1.2 I H.symm).trans T,a0,M⟩⟩
  ·rw[qa f,qa f]at g2;simp only[f,decide_false,Gu,Dq,Ng,ez];refine ba (Gq ?_);rw[p];exact xa ⟨xj Yc _,ih (j+1) _ d a tb c (by omega) L (B _ _ _ u _ _ g2 λb o _ _ e=>e) E X⟩
theorem YW(U:aa->Prop)(G:Addr->Addr->Nat->Value->Int->aa->Prop){s:aa}(hh:A.handled=none)(g0:U s){vs:List Value}(a7:vs.length=n)(a6:∀ (j:Nat) v,vs[j]?=some v->P j v)(h:s.heap.IsList l vs.toArray)(L:0<n)
  (V:∀ s h' tk,U s->(∀ b o,s.heap.get? b=some o->h'.get? b=some o)->U { s with heap:=h',toks:=tk })
  (first:∀ (I S:Addr) (s1:aa) v oI i,s.heap.objs.size<=I->s.heap.objs.size<=S->S≠I->(∃ s0,U s0/\(∀ b o,b≠I->s0.heap.get? b=some o->s1.heap.get? b=some o)/\(s1={ s0 with heap:=s1.heap,toks:=s1.toks }))->P 0 v->s1.heap.get? I=some oI->s1.heap.get? S=some i->(∀ v,oI.data≠.cell v)->(∀ v,i.data≠.cell v)->
   wpAny (model prog w) A.in1 (call (.ref q) [v]) (λx m=>∃ k t,x=.int k t/\m.heap.get? I=some oI/\m.heap.get? S=some i/\G I S 1 v k m) (λ_ _=>False) s1)
  (hl:∀ I S j c a s,G I S j c a s->∃ vs:List Value,vs.length=n/\(∀ (j:Nat) v,vs[j]?=some v->P j v)/\s.heap.IsList l vs.toArray)
  (K:∀ I S j c a s h' tk,G I S j c a s->(∀ b o,b≠I->b≠S->s.heap.get? b=some o->h'.get? b=some o)->G I S j c a { s with heap:=h',toks:=tk })
  (T:∀ I S j c a s v oI i,G I S j c a s->P j v->s.heap.get? I=some oI->s.heap.get? S=some i->(∀ v,oI.data≠.cell v)->(∀ v,i.data≠.cell v)->
   wpAny (model prog w) A.in1 (call (.ref q) [v]) (λx m=>∃ k t,x=.int k t/\m.heap.get? I=some oI/\m.heap.get? S=some i/\G I S (j+1) (if k<a then v else c) (if k<a then k else a) m) (λ_ _=>False) s)
  (hQ:∀ I S c a s,G I S n c a s->Q c s) :
  wpAny (model prog w) A (call (.builtin "min") [.ref l] [(Sf "key",.ref q)]) Q E s:=by
 have d:(toString "min"++toString ".loop" : String) = "min.loop":=by decide
 obtain⟨ol,a4,_⟩:=id h;have J:l<s.heap.objs.size:=za a4;refine kmk_tree PySem.F.kind_min PySem.F.plain_min PySem.F.entry_min (kmk_min_key _ _) ?_;show wpAny _ A.in1 (Qj "min" ["key","default"] 0 ⟨[],[(Sf "key",.ref q)]⟩ >>= _) _ _ s;refine ba (wpAny_of_eq (show Qj "min" ["key","default"] 0 ⟨[],[(Sf "key",.ref q)]⟩=pure [some (.ref q),none]from rfl) ?_);refine ba (xa ?_);refine ba (ip h ?_);refine ba (tU ?_ (Zt _));rw[d];have Y:(s.heap.push { cls:=.type "list_iterator",data:=.fields #[.ref l,.int 0 0] }).objs.size=s.heap.objs.size+1:=size_push' ..;have H:l≠s.heap.objs.size:=Ea J;have f:(s.heap.push { cls:=.type "list_iterator",data:=.fields #[.ref l,.int 0 0] }).objs.size≠s.heap.objs.size:=by rw[Y];exact Cg (Rc _)
 have a2:l≠(s.heap.push { cls:=.type "list_iterator",data:=.fields #[.ref l,.int 0 0] }).objs.size:=by rw[Y];exact Ea (ui J)
 have B:s.heap.objs.size<=(s.heap.push { cls:=.type "list_iterator",data:=.fields #[.ref l,.int 0 0] }).objs.size:=by rw[Y];exact Io _
 refine xa ⟨xj Yc _,?_⟩;have gI:((s.heap.push { cls:=.type "list_iterator",data:=.fields #[.ref l,.int 0 0] }).push (Ol "list" #[] 0)).get? s.heap.objs.size=some { cls:=.type "list_iterator",data:=.fields #[.ref l,.int 0 0] }:=
  ka _ (gb _ rfl)
 have gS:((s.heap.push { cls:=.type "list_iterator",data:=.fields #[.ref l,.int 0 0] }).push (Ol "list" #[] 0)).get? (s.heap.push { cls:=.type "list_iterator",data:=.fields #[.ref l,.int 0 0] }).objs.size=some (Ol "list" #[] 0):=gb _ rfl;have D:∀ b o,s.heap.get? b=some o->((s.heap.push { cls:=.type "list_iterator",data:=.fields #[.ref l,.int 0 0] }).push (Ol "list" #[] 0)).get? b=some o:=λb o e=>ka _ (ka _ e);generalize ((s.heap.push { cls:=.type "list_iterator",data:=.fields #[.ref l,.int 0 0] }).push (Ol "list" #[] 0))=hp,(s.heap.push { cls:=.type "list_iterator",data:=.fields #[.ref l,.int 0 0] }).objs.size=S at *;have W:=jp (prog:=prog) (w:=w) (A:=A.in1) hh s.heap.objs.size l H vs.toArray;have a5:vs.toArray.size=n:=(va ..).trans a7;refine bi Ji ?_;rw[Bf Yc _];show wpAny _ A.in1 (XD (.ref _) >>= _) _ _ _;refine ba (Fs gS rfl ?_);show wpAny _ A.in1 (tryCatch (pyNext (.ref s.heap.objs.size)) _ >>= _) _ _ _;refine ba (Zf (W.item 0 _ _ _ (by rw[a5];exact L) ⟨⟨_,gI,rfl,rfl⟩,h.at λo e=>D _ _ e⟩ λv h' a8 hP O a1=>?_));have C:∀ b o,b≠s.heap.objs.size->hp.get? b=some o->h'.get? b=some o:=λb o n e=>a1 b o (by simpa using n) e;have hv:P 0 v:=a6 0 v (by simpa using hP);obtain⟨R,M,a3,N⟩:=id O.1;have Z:=C S _ f gS;show wpAny _ A.in1 (tryCatch (ve [v] (call (.ref q) [v])) _ >>= _) _ _ _;refine ba (Zf (Td (bc (first s.heap.objs.size S _ v R _ (ya _) B f ⟨{ s with heap:=hp,toks:=s.toks },V s hp _ g0 D,λb o n e=>C b o n e,rfl⟩ hv M Z (λv z=>by rw[N]at z;cases z) (λv z=>by cases z)) (λx p he=>?_) λ_ _ hF=>hF.elim)));obtain⟨r,u,rfl,X,y,g2⟩:=he;have s1:=Ti p.heap S (Nf λ_=>#[v,.int r u]);obtain⟨c2,a0⟩:∃ c2,(p.heap.update S (Nf λ_=>#[v,.int r u])).get? S=some (Ol "list" #[v,.int r u] c2):=⟨_,lH y λ_=>#[v,.int r u]⟩
 show wpAny _ A.in1 (updateSeq S (λ_=>#[v,.int r u]) >>= _) _ _ _;refine ba ?_;refine ur y rfl ?_;rw[d];exact xa ⟨xj Yc _,h9 (G _ _) hh H f a2 (hl _ _) (K _ _) (T _ _) (λc a s g=>hQ _ _ c a s g) _ 1 _ v r u c2 rfl L (K _ _ _ _ _ p _ _ g2 λb o n1 n2 e=>by rw[s1.2 b n2];exact e) a0 ⟨R,(s1.2 _ f.symm).trans X,a3,N⟩⟩
end
def nC(X:Cx)(A:Fa)(a:List Str)(qual:Str)(scope:Scope)(q:Addr)(cd:Value)(cl:List (Str × Addr))(s₀:aa)(H₀:Hp):Cx:=
 { X with A:=A.deeper (W.envX qual scope s₀.heap.objs.size q cd cl),N:=a,s₀:=s₀,H₀:=H₀,env:=W.envX qual scope s₀.heap.objs.size q cd cl,outer:=X.stack,stack:=W.envX qual scope s₀.heap.objs.size q cd cl::X.stack,ex:=[],fn:=λ_=>false,calm:=true,pn:=[],xe:=λ_ _=>False }
def PK(ix:List Nat)(d:D)(ρ:Ev):Ev:=some d::ix.map λi=>(ρ[i]?).getD none
def iC(ix:List Nat)(v:V)(a:St):St:=some v::ix.map λi=>(a[i]?).getD none
theorem iW{T:Tb}{μ:List Addr}{H:Hp}{ρ:Ev}{a:St}{d:D}{v:V}(ix:List Nat)(h:wh T μ H ρ a)(hd:Rep T μ H d v):wh T μ H (PK ix d ρ) (iC ix v a):=by
 have z:=(fT ix h).set 0 hd;exact z
section
variable{X:Cx}{pins:List (Addr × Bc)}{st:St}{H:Hp}{s:aa}{x:Str}{M':List Str}{ix:List Nat}{scope:Scope}{A:Fa}{qual:Str}{q:Addr}{cd:Value}{v:V}{u:Value}
theorem zox(I:Inv X pins st H s)(L:Qn X x M' ix scope)(hx:scope.names.lookup x=some .local)(W:A.frames=some X.stack)(E:A.handled=none)(rv:Ed v u){h':Heap}{t':Nat}{m:Str->Option Value}(G:h'.Ns s.heap.objs.size m)(hm:m x=some u)
  (B:∀ b o,s.heap.get? b=some o->h'.get? b=some o) :
  Inv (nC X A (x::M') qual scope q cd (Vi X.env scope.names []) s H) [] (iC ix v st) H { s with heap:=h',toks:=t' }:=by
 have sub:∀ n c,(Vi X.env scope.names []).lookup n=some c->X.env.cells.lookup n=some c:=λn c e=>fL X.env scope.names [] n c (λ_ _ q=>by simp at q) e;have fresh:H s.heap.objs.size=none:=I.dc.fresh (ya _);have g:∀ b:Addr,b ∉ (nC X A (x::M') qual scope q cd (Vi X.env scope.names []) s H).ex:=λb z=>absurd (show b∈([]:List Addr)from z) (by simp);refine⟨⟨I.ok.mod,L.kind,rfl,rfl,ya _,λa b c h1 V=>I.ok.inj a b c (sub a c h1) (sub b c V),λa Y=>?_,λa c h=>(by cases h),λ_=>E,Gr W,.inr ⟨rfl,rfl⟩,λb hb=>absurd hb (g b),λb o e=>I.bs b o e,cc I.ok.Os I.sz,λb o e=>g b,λb hb=>absurd hb (g b),I.stack,I.yk⟩,
  rfl,I.bare,Un.kept B,⟨m,G,λi y v' M O e3=>?_⟩,λa c e=>?_,fresh,λa c e=>I.rg a c (sub a c e),λp hp=>absurd (show p∈([]:List (Addr × Bc))from hp) (by simp),I.dc.kept B,?_⟩
 ·have D:scope.names.lookup a=some .cell\/scope.names.lookup a=some .free:=Y;rcases D with z|z
  ·exact absurd rfl (FD L _ (Mw z))
  ·exact tD X.env scope.names [] a (Mw z) (Xz I L _ (Mw z) rfl)
 ·cases i with
  |zero=>
   have f:some x=some y:=M;have d:some (some v)=some (some v'):=O;cases f;cases d;exact⟨u,rv,.inl ⟨hx,hm⟩⟩
  |succ j=>
   have f:M'[j]?=some y:=M;have d:(ix.map λi=>(st[i]?).getD none)[j]?=some (some v'):=O;rw[Eb]at d;cases C:ix[j]? with
   |none=>rw[C]at d;cases d
   |some t=>
    rw[C]at d;have w:(st[t]?).getD none=some v':=yb d;have S:st[t]?=some (some v'):=by
     cases q:st[t]? with
     |none=>rw[q]at w;cases w
     |some o=>rw[q]at w;exact Ad some w
    have T:X.N[t]?=some y:=by
     have z:=Ad (λl=>l[j]?) L.at_;simp only[Eb,C,f,ah]at z;exact yb z
    have q:=Ub.mp L.MT y (Ha f);simp only[Da,wj]at q;have Q:X.env.scope.names.lookup y=some .cell\/X.env.scope.names.lookup y=some .free:=by
     rcases q.1 with z|z
     ·exact .inl (eq_of_beq z)
     ·exact .inr (eq_of_beq z)
    have K:scope.names.lookup y=some .free:=eq_of_beq q.2;obtain⟨m0,Z,F⟩:=I.loc;obtain⟨u2,ru,lu⟩:=F t y v' T S (by rcases Q with z|z;exact .inr (.inl z);exact .inr (.inr z));refine⟨u2,ru,.inr ⟨.inr K,?_⟩⟩;rcases lu with⟨z,_⟩|⟨_,c,U,zc⟩
    ·rcases Q with k|k
     ·rw[show X.env.kindOf y=X.env.scope.names.lookup y from rfl,k]at z;cases z
     ·rw[show X.env.kindOf y=X.env.scope.names.lookup y from rfl,k]at z;cases z
    ·obtain⟨R,r⟩:=tD X.env scope.names [] y (Mw K) (Xz I L _ (Mw K) rfl);have P:=sub y R r;rw[U]at P;cases P;obtain⟨o,J,hd⟩:=zc;exact⟨c,r,o,B _ _ J,hd⟩
 ·obtain⟨v,o,J,hd⟩:=I.cell a c (sub a c e);exact⟨v,o,B _ _ J,hd⟩
 ·have z:=Ad List.length L.at_;simp[iC,nC];simpa using z
theorem K1{name:Str}{a:Arguments}{c:Ca}{C f:Value}{d:Addr}{t:TE}{Q:VK}(I:Inv X pins st H s)(L:Qn X x M' ix scope)(E:scope.names.lookup x=some .local)(M:A.frames=some X.stack)(p:A.handled=none)(n:A.depth<recursionLimit)
  (N:s.heap.get? q=some (W.kla_obj name qual a c scope (Vi X.env scope.names []) C d f)) (l:s.heap.CodeRec (.ref d) qual)
  (g:bindArgs (W.kla_fn name qual a c scope (Vi X.env scope.names []) C (.ref d) f) ⟨[u],[]⟩=pure [(x,u)]) (m:scope.isCoroutine=false) (i:scope.isGenerator=false) (O:Ed v u)
  (hb:PE (nC X A (x::M') qual scope q (.ref d) (Vi X.env scope.names []) s H) c t) (ht:t (iC ix v st) H Q) :
  wpAny (model X.prog X.w) A (call (.ref q) [u]) (λr F=>CE X.stack X.prog X.w H s Q r F) (λ_ _=>False) s:=by
 refine Bs (W.kla_callFunE (o:=W.kla_obj name qual a c scope (Vi X.env scope.names []) C d f) n N rfl m i rfl l ?_);rw[g];refine xa (Kl (FD L) (λy hy=>?_) (λk B j=>⟨?_,?_⟩) L.kind)
 ·have e:y=(x,u):=by simpa using hy
  subst e;exact E
 ·exact(I.nolimit).fresh _ j
 ·have h:∀ b o,s.heap.get? b=some o->k.get? b=some o:=λb o e=>j.extBut b o (Ea (za e)) (ka _ e);show codeAny _ _ (.expr c (W.envX qual scope s.heap.objs.size q (.ref d) (Vi X.env scope.names []))) _ _;refine W.kla_codeExpr ?_;have K:=zox (A:=A) (qual:=qual) (q:=q) (cd:=.ref d) (t':=s.toks+1) I L E M p O B (by simp) h;refine bc (hb [] _ (iC ix v st) H Q K ht) (λR F z=>?_) λ_ _ z=>z.elim;obtain⟨P,G,J,D,hq⟩:=z;exact⟨P,G,J.os,J.bare,J.base,J.dc,D,hq⟩
end
def UC(K:W.Frag)(c P:Addr):Bool:=match K.lookup c with
 |some o=>(match o.cls,o.data with
  | .type n,.fields a=>n == "code" && (match (a[11]?:Option Value)with|some (.ref p)=>p == P|_=>false) && (match a.getD 11 .none with | .ref p=>p == P|_=>false) && (match a.getD 18 .none with | .str _ _=>true|_=>false) &&
   (match a.getD 7 .none with | .int _ _=>true|_=>false) && (match a.getD 9 .none with | .bool _=>true|_=>false) && (match a.getD 10 .none with | .int _ _=>true|_=>false) && (c != P)
  |_,_=>false)
 |none=>false
theorem v6{K:W.Frag}{h:Heap}{c P:Addr}(X:K.In h)(e:UC K c P=true):W.CodeHd h c P:=by
 unfold UC at e;split at e
 ·next o r=>
  split at e
  ·next n C hc hd=>
   simp only[Da]at e;obtain⟨⟨⟨⟨⟨⟨⟨j,a⟩,b⟩,d⟩,f⟩,g⟩,i⟩,k⟩:=e;split at a;case h_2=>cases a
   next D l=>
   split at b;case h_2=>cases b
   next E h3=>
   split at d;case h_2=>cases d
   next v z h4=>
   split at f;case h_2=>cases f
   next w A m=>
   split at g;case h_2=>cases g
   next x p=>
   split at i;case h_2=>cases i
   next y B q=>
   have t:=eq_of_beq a;have u:=eq_of_beq b;subst t;subst u;have s:=eq_of_beq j;subst s;exact⟨o,C,v,z,w,A,x,y,B,X _ _ r,hc,hd,l,h3,h4,m,p,q,by simpa using k⟩
  ·cases e
 ·cases e
theorem fV{X:Cx}{d:List (Addr × Bc)}{x:St}{H:Hp}{s:aa}{P c':Addr}{ps more:Array Value}{qual:Str}{h':Heap}{tk:Nat}(I:Inv X d x H s)(a:H P=some (.Im ps))(m:Heap.ExtBut P s.heap h')(h:s.heap.objs.size<=c')(E:c'<h'.objs.size)
  (i:uu qual c' h') (j:h'.get? P=some (W.tabObj (ps++more))) :
  Inv X d x (upd (upd H P (.Im (ps++more))) c' (.ext (uu qual c'))) { s with heap:=h',toks:=tk }:=by
 have f:H c'=none:=I.dc.fresh h;have r:c'≠P:=λz=>by rw[z,a]at f;cases f
 have p:∀ b,H b=none->b≠P:=λb n z=>by rw[z,a]at n;cases n
 have l:∀ b u,H b=some u->b≠P->upd (upd H P (.Im (ps++more))) c' (.ext (uu qual c')) b=some u:=λb u e n=>by
  rw[Qd (gq e f),Qd n];exact e
 have G:upd (upd H P (.Im (ps++more))) c' (.ext (uu qual c')) P=some (.Im (ps++more)):=by rw[Qd r.symm,Og]
 refine I.un (h':=h') (t':=tk) ⟨λb o e n _ _=>m b o (p b n) e,λb o e n _ _=>⟨o.slots,m b o (p b n) e⟩,λb o e n _=>?_,λb o e _=>?_,λb xs e=>l b _ e (λz=>by rw[z,a]at e;cases e),λb o u e=>l b _ e (λz=>by rw[z,a]at e;cases e),λb K e=>?_⟩ λb u e=>?_
 ·have:b≠c':=λz=>by subst z;exact absurd (za e) (JL.mpr h)
  rw[Qd this,Qd (p b n)];exact n
 ·by_cases hb:b=P
  ·subst hb;exact⟨_,j⟩
  ·exact⟨o,m b o hb e⟩
 ·by_cases hb:b=P
  ·subst hb;rw[a]at e;cases e;exact⟨more,G⟩
  ·exact⟨#[],by rw[Array.append_empty];exact l b _ e hb⟩
 ·by_cases g:b=c'
  ·subst g;rw[Og]at e;cases e;obtain⟨o,J,t,h1,D,h3⟩:=i;exact⟨⟨o,J,t,h1,D,h3⟩,⟨o,h1⟩,λa1 a2 ⟨F,w,t',A,B,C⟩ k=>⟨F,w,t',k _ A,B,C⟩⟩
  ·rw[Qd g]at e;by_cases hb:b=P
   ·subst hb;rw[Og]at e;cases e;exact j
   ·rw[Qd hb]at e;refine(I.dc b u e).zk (λc v hc q=>m c v ?_ q) (λc q=>l c _ q (λz=>by rw[z,a]at q;cases q)) λc xs q=>l c _ q (λz=>by rw[z,a]at q;cases q);rcases hc with z|z
    ·rw[z];exact hb
    ·intro y;rw[y,a]at z;cases z
section
variable{T:Tb}{X:Cx}{pins:List (Addr × Bc)}{st:St}{H:Hp}{s:aa}{μ:List Addr}{σ:qb}{x:Str}{M':List Str}{ix:List Nat}{scope:Scope}{params:Arguments}{body:Ca}{pos:re}{c:Addr}{t:Tab}
structure Yy(T:Tb)(X:Cx)(t:Tab)(c:Addr)(pos:re):Prop where
 mem:t∈T.tx.Zn
 inj:∀ t'∈T.tx.Zn,t'.P=t.P->t'=t
 code:X.env.code=.ref c
 hd:UC X.K c t.P=true
 line:t.line=pos.line
 col:t.col=pos.col
 qual:t.qual=X.env.qual++"<lambda>"
 bm:X.mg "__builtins__" = some (.ref T.tx.bm)
 bb:T.tx.bm≠builtinsNs
theorem zts(I:Inv X pins st H s)(L:Qn X x M' ix scope)(r:Rel T μ H σ)(f:Yy T X t c pos)(G:defaultsOf params X.env=([],[])) :
  wpAny (model X.prog X.w) X.A (Ib (.Lambda params body scope pos) X.env) (λv s'=>∃ q d g m,v=.ref q/\Inv X ((q,W.kla_obj "<lambda>" t.qual params body scope (Vi X.env scope.names []) ((X.mg "__name__").getD .none) d g)::pins) st m s'/\Ext μ H μ m/\Rel T μ m σ/\d ∉ μ/\m d=some (.ext (uu t.qual d))) X.xe s:=by
 obtain⟨⟨b2,b4,U⟩,S,ps,B,a8⟩:=r.tb t f.mem;have i:s.heap.get? t.P=some (W.tabObj ps):=I.dc _ _ B;have k:s.heap.Ns mainGlobals X.mg:=I.ok.mod.glob.keeps I.bk;have a6:mainGlobals≠t.P:=λz=>by
  obtain⟨o,es,ep,e,hd,_⟩:=k;rw[z,i]at e;cases e;cases hd
 obtain⟨_,⟨ob,Q,o2,o3,o4⟩,_⟩:=I.dc _ _ U;have E:T.tx.bm≠t.P:=λz=>by rw[z,i]at Q;cases Q;cases o2
 have V:T.tx.bm≠mainGlobals:=λz=>by
  obtain⟨o,es,ep,e,hd,_⟩:=k;rw[z,e]at Q;cases Q;rw[hd]at o4;cases o4
 have hB:s.heap.BuiltinsAt X.mg t.P:=⟨T.tx.bm,ob,f.bm,f.bb,V,E,Q,o2,o3,o4⟩
 have F:=AH X.env scope (Xz I L);have C:W.CodeHd s.heap c t.P:=(v6 I.ok.mod.xw f.hd).keeps I.bk;have pinned:∀ {h':Heap} {tk:Nat} {m:Hp} {o:Bc},Inv X pins st m { s with heap:=h',toks:=tk }->o.isFreed=false->(∀ v,o.data≠.cell v)->Inv X ((h'.objs.size,o)::pins) st m { s with heap:=h'.push o,toks:=tk }:=fun {h' tk m o} J hf hc=>by
  have J2:=J.kept (h':=h'.push o) (t':=tk) λb u e=>ka _ e;refine J2.zj λp l=>?_;rcases ib.mp l with rfl|l
  ·exact⟨gb _ hf,J.dc.fresh (ya _),Cg J.lt,J.FC (ya _),hc⟩
  ·exact J2.pin p (Oa _ l)
 refine W.kla_eval G ?_;rw[<-f.qual];rcases a8 with rfl|⟨R,rfl,Y,Z⟩
 ·refine W.kla_makeFunction (mg:=X.mg) F I.ok.glob k f.code C i trivial rfl a6 hB λd g h' tk hx K a7 M a9=>?_;have a0:uu t.qual d h':=by
   obtain⟨c2,o,vs,tt,e,h1,h2,h3⟩:=M;cases e;exact⟨o,vs,tt,h1,h2,h3⟩
  have J:=fV (tk:=tk) I B hx K a7 a0 a9;have j:H d=none:=I.dc.fresh K;have b0:d≠t.P:=λz=>by rw[z,B]at j;cases j
  have y:d ∉ μ:=λz=>by obtain⟨u,O,_⟩:=r.mem z;rw[j]at O;cases O
  have D:∀ b u,H b=some u->b≠t.P->upd (upd H t.P (.Im (#[]++#[Ee pos.line,Ee pos.col,.ref d]))) d (.ext (uu t.qual d)) b=some u:=λb u e n=>by
   rw[Qd (gq e j),Qd n];exact e
  have uP:upd (upd H t.P (.Im (#[]++#[Ee pos.line,Ee pos.col,.ref d]))) d (.ext (uu t.qual d)) t.P=some (.Im (#[]++#[Ee pos.line,Ee pos.col,.ref d])):=by rw[Qd b0.symm,Og]
  have uc:upd (upd H t.P (.Im (#[]++#[Ee pos.line,Ee pos.col,.ref d]))) d (.ext (uu t.qual d)) d=some (.ext (uu t.qual d)):=Og;have e:Ext μ H μ (upd (upd H t.P (.Im (#[]++#[Ee pos.line,Ee pos.col,.ref d]))) d (.ext (uu t.qual d))):=by
   refine⟨⟨[],by simp⟩,λp xs h=>D p _ h (λz=>by rw[z,B]at h;cases h),λp o u h=>D p _ h (λz=>by rw[z,B]at h;cases h),λp o h n=>⟨?_,n⟩⟩;by_cases l:p=t.P
   ·subst l;rw[B]at h;cases h;exact⟨_,uP,.inr (.inr ⟨_,_,rfl,rfl⟩)⟩
   ·exact⟨o,D p o h l,.inl rfl⟩
  refine⟨_,d,g,_,rfl,pinned J rfl (λv z=>by cases z),e,r.keep e (λa ha=>?_) λt' N=>?_,y,uc⟩
  ·obtain⟨u,O,_⟩:=r.mem ha;rw[O];exact D a u O λz=>S (by rw[<-z];exact ha)
  ·obtain⟨⟨a1,b1,a2⟩,a3,qs,a4,a5⟩:=r.tb t' N;refine⟨⟨a1,b1,D _ _ a2 E⟩,a3,?_⟩;by_cases l:t'.P=t.P
   ·have et:=f.inj t' N l;subst et;exact⟨_,uP,.inr ⟨d,by rw[f.line,f.col];rfl,y,uc⟩⟩
   ·refine⟨qs,D _ _ a4 l,a5.imp id λ⟨c3,z1,z2,z3⟩=>⟨c3,z1,z2,D _ _ z3 (λz=>by rw[z,B]at z3;cases z3)⟩⟩
 ·refine W.kla_makeFunctionHit (mg:=X.mg) (cv:=.ref R) F I.ok.glob k f.code C i ?_ ?_ hB λg h' tk hk b3=>?_
  ·exact trivial
  ·rw[f.line,f.col];show codeAmong pos [Ee pos.line,Ee pos.col,.ref R]=_;simp[codeAmong,Ee]
  ·have J:=I.kept (h':=h') (t':=tk) hk;exact⟨_,R,g,H,rfl,pinned J rfl (λv z=>by cases z),Ext.refl _ _,r,Y,Z⟩
end
def Kw(fe:Ev->M D)(ug:Ev):List D->D->Int->M D
 |[],b,_=>ret b
 |d::ds,b,a=>Wc (So (fe (some d::ug))) λk=>match k with
  | .int k=>if k<a then Kw fe ug ds d k else Kw fe ug ds b a
  |_=>bad
def Mz(fe:Ev->M D)(ug:Ev)(ds:List D):M D:=match ds with
 |[.lst (x::xs)]=>Wc (So (fe (some x::ug))) λk=>match k with
  | .int k=>Kw fe ug xs x k
  |_=>bad
 |_=>bad
def mK(ix:List Nat)(fe:Ev->M D)(fs:Ev->M (List D)):Ev->M D:=λa=>Wc (fs a) (Mz fe (ix.map λi=>(a[i]?).getD none))
theorem tN{X:Cx}{a:List (Addr × Bc)}{l:St}{H:Hp}{s:aa}{h':Heap}{t':Nat}{i j:Addr}(I:Inv X a l H s)(k:∀ b o,b≠i->b≠j->s.heap.get? b=some o->h'.get? b=some o)(f:Nm X a H i)(hj:Nm X a H j):Inv X a l H { s with heap:=h',toks:=t' }:=by
 have d:∀ b u,H b=some u->b≠i/\b≠j:=λb u e=>⟨(λz=>by rw[z,f.1]at e;cases e),(λz=>by rw[z,hj.1]at e;cases e)⟩
 have g:∀ {b:Addr},b ∉ [i,j]->b≠i/\b≠j:=fun {b} h=>⟨λz=>h (by simp[z]),λz=>h (by simp[z])⟩
 refine I.step (g':=s.gens) (d':=s.drawn) (ch:=[i,j]) (λb hb=>?_) (λb o _ _ hc e _=>k b o (g hc).1 (g hc).2 e) (λb o _ _ hc e _=>⟨o.slots,k b o (g hc).1 (g hc).2 e⟩) (λ_ _ _ _ n=>n)
  (λb o hc e=>⟨o,k b o (g hc).1 (g hc).2 e⟩) (λ_ _ e=>e) (λ_ _ _ e=>e) (λb x e=>⟨#[],by rw[e];simp⟩) (λm hm=>?_) (λb u e=>?_) I.bare
 ·have e:b=i\/b=j:=by simpa using hb
  rcases e with rfl|rfl
  ·exact⟨f.2.2.2.1,f.2.1,f.2.2.2.2.1,f.2.2.2.2.2⟩
  ·exact⟨hj.2.2.2.1,hj.2.1,hj.2.2.2.2.1,hj.2.2.2.2.2⟩
 ·obtain⟨o,t,p,w,r⟩:=hm;exact⟨o,t,p,k _ o (Ye f.2.1) (Ye hj.2.1) w,r⟩
 ·refine(I.dc b u e).zk (λc v hc q=>?_) (λ_ q=>q) λ_ _ q=>q;rcases hc with z|z
  ·rw[z]at q ⊢;exact k b v (d b u e).1 (d b u e).2 q
  ·exact k c v (d c _ z).1 (d c _ z).2 q
section
variable{T:Tb}{X:Cx}
theorem N9{e E:Ca}{f:Arguments}{scope:Scope}{b0 pos kp p:re}{x:Str}{M':List Str}{ix:List Nat}{fs:Ev->M (List D)}{fe:Ev->M D}{t:Tab}{c:Addr}{k:Nat}
  (N:jd (k+2) X.A) (L:Qn X x M' ix scope) (hx:scope.names.lookup x=some .local) (Lm:Yy T X t c b0) (hg:Gl X "min") (hm:X.mg "min" = none)
  (c0:defaultsOf f X.env=([],[])) (d0:scope.isCoroutine=false) (c1:scope.isGenerator=false)
  (b4:∀ (cl:List (Str × Addr)) (pm cd K u:Value),bindArgs (W.kla_fn "<lambda>" t.qual f E scope cl pm cd K) ⟨[u],[]⟩=pure [(x,u)])
  (ha:FA T X [e] fs)
  (hb:∀ (A:Fa) (q:Addr) (cd:Value) (s₀:aa) (H₀:Hp),jd k (A.deeper (W.envX t.qual scope s₀.heap.objs.size q cd (Vi X.env scope.names [])))->FE T (nC X A (x::M') t.qual scope q cd (Vi X.env scope.names []) s₀ H₀) E fe)
  (he:nc pos (pa [e] X.env)=(false,Ib e X.env)::nc pos (pa [] X.env):=by rfl)
  (a7:(nc pos (pa [e] X.env)).any (·.1)=false:=by rfl) :
  FE T X (.Call (.Name "min" p) [e] [⟨some "key",.Lambda f E scope b0,kp⟩] pos) (mK ix fe fs):=by
 intro l s st H Q I h;refine wf (Ry I hg hm (show bootBuiltins "min" = some (.builtin "min")from rfl) ?_);obtain⟨μ,ρ,σ,hE,hr,hp⟩:=h;refine callWith_kw (be (ha pos l s st H (λvs H1=>∃ F a6 ds,Ext μ H F H1/\Rel T F H1 a6/\Ta T F H1 ds vs/\Mb T (XE X st) (Rep T) F H1 (Mz fe (ix.map λi=>(ρ[i]?).getD none) ds a6) Q) I ⟨μ,ρ,σ,hE,hr,hp.bind λds a6 F vs H1 _ e1 r1 q1 p1=>⟨F,a6,ds,e1,r1,q1,p1⟩⟩) λus s1 ⟨vs,H1,I1,rv,F,a6,ds,e1,r1,q1,p1⟩=>kws_cons (be (zts I1 L r1 Lm c0) λlv s2 ⟨q,c',K,Z,c4,I2,e2,r2,c7,c8⟩=>kws_nil ?_)) he a7;subst c4;show wpAny _ _ (call (.builtin "min") us [(Sf "key",.ref q)]) _ _ _;have c5:wh T F Z ρ st:=(hE.mono e1).mono e2;generalize b6:(ix.map λi=>(ρ[i]?).getD none)=ug at *;obtain⟨x0,xs,rfl⟩:∃ x0 xs,ds=[.lst (x0::xs)]:=by
  unfold Mz at p1;split at p1
  ·exact⟨_,_,rfl⟩
  ·exact p1.elim
 rw[Ta]at q1;obtain⟨v0,rr,rfl,q2,q3⟩:=q1;rw[Ta]at q3;subst q3;rw[Rep]at q2;obtain⟨a,ws,rfl,b9,c6,d2⟩:=q2;obtain⟨u0,rfl,d3⟩:=ue.one rv;obtain rfl:u0=.ref a:=d3;have p2:=Mb.mono e2 p1;have a9:Z a=some (.lst ws):=(e2.Qi _ _ c6 b9).1;have a4:Ta T F Z (x0::xs) ws:=Ta.mono e2 _ _ d2;have a0:(x0::xs).length=ws.length:=a4.length;have lst:∀ {H':Hp} {s':aa} {pn:List (Addr × Bc)},Inv X pn st H' s'->H' a=some (.lst ws)->∃ O:List Value,O.length=ws.length/\(∀ (j:Nat) v,O[j]?=some v->∃ w,ws[j]?=some w/\Ed w v)/\s'.heap.IsList a O.toArray:=fun {H' s' pn} J z=>by
  obtain⟨_,O,n,rv,ho⟩:=J.dc _ _ z;refine⟨O,rv.length.symm,λj v hv=>?_,⟨_,ho,rfl,⟨_,rfl⟩⟩⟩;have hj:j<ws.length:=by rw[rv.length];exact(ra.mp hv).1
  obtain⟨u,hu,ru⟩:=rv.get (i:=j) (x:=ws[j]) (by simp[hj]);rw[hv]at hu;cases hu;exact⟨ws[j],by simp[hj],ru⟩
 have one:∀ {C:List Addr} {H':Hp} {G:qb} {s':aa} {d:D} {w:V} {v:Value} {I S:Addr} {oI oS:Bc} {kk:Int->M D},Inv X ((q,W.kla_obj "<lambda>" t.qual f E scope (Vi X.env scope.names []) ((X.mg "__name__").getD .none) c' K)::l) st H' s'->Ext F Z C H'->Rel T C H' G->Rep T C H' d w->Ed w v->
   Nm X ((q,W.kla_obj "<lambda>" t.qual f E scope (Vi X.env scope.names []) ((X.mg "__name__").getD .none) c' K)::l) H' I->Nm X ((q,W.kla_obj "<lambda>" t.qual f E scope (Vi X.env scope.names []) ((X.mg "__name__").getD .none) c' K)::l) H' S->
   s'.heap.get? I=some oI->s'.heap.get? S=some oS->(∀ v,oI.data≠.cell v)->(∀ v,oS.data≠.cell v)->
   Mb T (XE X st) (Rep T) C H' (Wc (So (fe (some d::ug))) (λk=>match k with | .int k=>kk k|_=>bad) G) Q->
   wpAny (model X.prog X.w) X.A.in1 (call (.ref q) [v]) (λy s''=>∃ k t',y=.int k t'/\s''.heap.get? I=some oI/\s''.heap.get? S=some oS/\∃ m B r,Inv X ((q,W.kla_obj "<lambda>" t.qual f E scope (Vi X.env scope.names []) ((X.mg "__name__").getD .none) c' K)::l) st B s''/\Ext C H' m B/\Rel T m B r/\
    Nm X ((q,W.kla_obj "<lambda>" t.qual f E scope (Vi X.env scope.names []) ((X.mg "__name__").getD .none) c' K)::l) B I/\Nm X ((q,W.kla_obj "<lambda>" t.qual f E scope (Vi X.env scope.names []) ((X.mg "__name__").getD .none) c' K)::l) B S/\Mb T (XE X st) (Rep T) m B (kk k r) Q) (λ_ _=>False) s':=by
  intro C H' G s' d w v I S oI oS kk J ex r' rd d4 fI fS gI gS cI cS po;generalize c2:W.kla_obj "<lambda>" t.qual f E scope (Vi X.env scope.names []) ((X.mg "__name__").getD .none) c' K=U at *;have b5:s'.heap.CodeRec (.ref c') t.qual:=by
   obtain⟨⟨o,d5,tt,h1,h2,h3⟩,_⟩:=J.dc _ _ (ex.Qi _ _ c8 c7).1;exact⟨c',o,d5,tt,rfl,h1,h2,h3⟩
  have hq:=(J.pin (q,U) (Oa _ (.head _))).1;have J2:Inv X ((I,oI)::(S,oS)::(q,U)::l) st H' s':=J.zj λp hp=>by
   rcases ib.mp hp with rfl|hp
   ·exact⟨gI,fI.1,fI.2.1,fI.2.2.1,cI⟩
   ·rcases ib.mp hp with rfl|hp
    ·exact⟨gS,fS.1,fS.2.1,fS.2.2.1,cS⟩
    ·exact J.pin p (Oa _ hp)
  have hd:X.A.in1.handled=none:=N.hd;refine bc (K1 (A:=X.A.in1) (t:=tF T _ fe) (v:=w) (Q:=λy B=>∃ k m r,y=.int k/\Ext C H' m B/\Rel T m B r/\Mb T (XE X st) (Rep T) m B (kk k r) Q) J2 L hx J.ok.frames hd (jd.in1 N).depth (by rw[<-c2]at hq;exact hq) b5 (b4 _ _ _ _ _) d0 c1 d4 (hb _ _ _ _ _ ((jd.in1 N).deeper _)) ⟨C,PK ix d ρ,G,iW ix (c5.mono ex) rd,r',?_⟩) (λy s'' c9=>?_) λ_ _ z=>z
  ·unfold PK;rw[b6];refine po.Wu λy r m g B _ b1 b7 c3 a8=>?_;cases y with
   |int k=>
    rw[Rep]at c3;exact⟨k,m,r,c3,b1,b7,a8⟩
   |_=>exact a8.elim
  ·obtain⟨yv,B,J3,ry,k,m,r,rfl,b1,b7,a8⟩:=J2.after c9;obtain⟨t',rfl⟩:=ry;have pI:=J3.pin (I,oI) (Oa _ (.head _));have pS:=J3.pin (S,oS) (Oa _ (.tail _ (.head _)));have J4:Inv X ((q,U)::l) st B s'':=J3.zj λp hp=>J3.pin p (Oa _ (.tail _ (.tail _ hp)));exact⟨k,t',rfl,pI.1,pS.1,m,B,r,J4,b1,b7,⟨pI.2.1,fI.2⟩,⟨pS.2.1,fS.2⟩,a8⟩
 obtain⟨O,hn,hP,d1⟩:=lst I2 a9;generalize c2:W.kla_obj "<lambda>" t.qual f E scope (Vi X.env scope.names []) ((X.mg "__name__").getD .none) c' K=U at *;refine YW (n:=ws.length) (P:=λj v=>∃ w,ws[j]?=some w/\Ed w v) (λs'=>Inv X ((q,U)::l) st Z s')
  (λI S j vb kb s'=>Nm X ((q,U)::l) Z I/\Nm X ((q,U)::l) Z S/\∃ C H' G b wb,Inv X ((q,U)::l) st H' s'/\Ext F Z C H'/\Rel T C H' G/\Rep T C H' b wb/\Ed wb vb/\Nm X ((q,U)::l) H' I/\Nm X ((q,U)::l) H' S/\Mb T (XE X st) (Rep T) C H' (Kw fe ug ((x0::xs).drop j) b kb G) Q)
  N.hd I2 hn hP d1 (by rw[<-a0];simp) (λs0 h' tk g k=>g.kept k) ?_ ?_ ?_ ?_ ?_
 ·
  intro I S s3 v oI oS hI hS d6 ⟨s0,g0,hk,es⟩ ⟨w,hw,a5⟩ gI gS cI cS;have fI:Nm X ((q,U)::l) Z I:=I2.Qp hI (I2.dc.fresh hI);have fS:Nm X ((q,U)::l) Z S:=I2.Qp hS (I2.dc.fresh hS);have J:Inv X ((q,U)::l) st Z s3:=by
   rw[es];exact tN g0 (λb o n _ e=>hk b o n e) fI fS
  have rd:∃ w',ws[0]?=some w'/\Rep T F Z x0 w':=a4.get (i:=0) rfl;obtain⟨w',a3,rd⟩:=rd;rw[hw]at a3;cases a3;refine bc (one (kk:=λk=>Kw fe ug xs x0 k) J (Ext.refl _ _) r2 rd a5 fI fS gI gS cI cS p2) (λy s4 z=>?_) λ_ _ z=>z;obtain⟨k,t',rfl,b2,b3,m,B,r,J4,e4,r4,f1,f2,p4⟩:=z;exact⟨k,t',rfl,b2,b3,fI,fS,m,B,r,x0,w,J4,e4,r4,Rep.mono e4 _ _ rd,a5,f1,f2,p4⟩
 ·intro I S j vb kb s' ⟨_,_,C,H',G,b,wb,J,ex,r',rb,Y,f1,f2,p'⟩;exact lst J (ex.Qi _ _ a9 b9).1
 ·intro I S j vb kb s' h' tk ⟨a1,a2,C,H',G,b,wb,J,ex,r',rb,Y,f1,f2,p'⟩ k;exact⟨a1,a2,C,H',G,b,wb,tN J k f1 f2,ex,r',rb,Y,f1,f2,p'⟩
 ·intro I S j vb kb s' v oI oS ⟨a1,a2,C,H',G,b,wb,J,ex,r',rb,Y,f1,f2,p'⟩ ⟨w,hw,a5⟩ gI gS cI cS;have hj:j<(x0::xs).length:=by rw[a0];exact(ra.mp hw).1
  obtain⟨w',a3,rd⟩:=a4.get (i:=j) (d:=(x0::xs)[j]) (by rw[vc hj]);rw[hw]at a3;cases a3;rw[ci hj]at p';generalize (x0::xs)[j]=d at *;generalize d7:(x0::xs).drop (j+1)=b8 at *;unfold Kw at p';refine bc (one (kk:=λk=>if k<kb then Kw fe ug b8 d k else Kw fe ug b8 b kb) J ex r' (Rep.mono ex _ _ rd) a5 f1 f2 gI gS cI cS p') (λy s4 z=>?_) λ_ _ z=>z;obtain⟨k,t',rfl,b2,b3,m,B,r,J4,e4,r4,f3,f4,p4⟩:=z;refine⟨k,t',rfl,b2,b3,a1,a2,m,B,r,?_⟩;by_cases hk:k<kb
  ·rw[ia hk]at p4;rw[ia hk,ia hk];exact⟨d,w,J4,ex.trans e4,r4,Rep.mono (ex.trans e4) _ _ rd,a5,f3,f4,p4⟩
  ·rw[qa hk]at p4;rw[qa hk,qa hk];exact⟨b,wb,J4,ex.trans e4,r4,Rep.mono e4 _ _ rb,Y,f3,f4,p4⟩
 ·intro I S vb kb s' ⟨_,_,C,H',G,b,wb,J,ex,r',rb,Y,f1,f2,p'⟩;rw[<-a0,List.drop_length]at p';have q':Q wb H':=Mb.here (R:=Rep T) p' r' rb;exact⟨wb,H',J.zj (λp hp=>J.pin p (Oa _ (.tail _ hp))),Y,q'⟩
end
def Ox(K:W.Frag)(x:Str):Addr:=((W.tabIn K x).getD (0,0)).1
noncomputable def vy(K:W.Frag)(x:Str):Addr:=((W.tabIn K x).getD (0,0)).2
def Bx(K:W.Frag):Addr:=match W.nsIn K mainGlobals "__builtins__" with
 |some (some (.ref a))=>a
 |_=>0
theorem G3{K:W.Frag}{x:Str}(h:(W.tabIn K x).isSome=true):W.tabIn K x=some (Ox K x,vy K x):=by
 unfold Ox vy;cases e:W.tabIn K x with
 |none=>rw[e]at h;cases h
 |some p=>rfl
def FK(K:W.Frag)(xs:List Str):Bool:=
 W.noTabs K && (match W.nsIn K mainGlobals "__builtins__" with
  |some (some (.ref a))=>(K.lookup a).isNone && (a != builtinsNs)
  |_=>false) && xs.all λx=>(W.tabIn K x).isSome && UC K (Ox K x) (vy K x)
structure mx(K:W.Frag)(xs:List Str):Prop where
 no:W.noTabs K=true
 bm:W.nsIn K mainGlobals "__builtins__" = some (some (.ref (Bx K)))
 bk:K.lookup (Bx K)=none
 bb:Bx K≠builtinsNs
 tab:∀ x∈xs,W.tabIn K x=some (Ox K x,vy K x)
 hd:∀ x∈xs,UC K (Ox K x) (vy K x)=true
theorem v8{K:W.Frag}{xs:List Str}(h:FK K xs=true):mx K xs:=by
 unfold FK at h;rw[Da,Da]at h;obtain⟨⟨h1,b⟩,h3⟩:=h;split at b
 ·next a e=>
  have c:Bx K=a:=by unfold Bx;rw[e]
  rw[Da]at b;refine⟨h1,by rw[c];exact e,by rw[c];exact Option.isNone_iff_eq_none.mp b.1,by rw[c];simpa using b.2,λx d=>?_,λx d=>?_⟩
  ·have z:=Ub.mp h3 x d;rw[Da]at z;exact G3 z.1
  ·have z:=Ub.mp h3 x d;rw[Da]at z;exact z.2
 ·cases b
def tH(K:W.Frag)(mg:Str->Option Value)(x:Str)(c:Stmt)(ps:List Str):Prop:=
 ∃ f a,mg x=some (.ref f)/\Jy K x x c f a/\(∀ b:List Value,b.length=ps.length->bindArgs a ⟨b,[]⟩=pure (ps.zip b))/\a.code=.ref (Ox K x)
theorem R6{K:W.Frag}{mg:Str->Option Value}{h:Heap}{x:Str}{a:Stmt}{ps xs:List Str}(X:K.In h)(G:h.Ns mainGlobals mg)(d:Jg K mg x a ps)(ht:mx K xs)(g:x∈xs):tH K mg x a ps:=by
 obtain⟨f,l,hm,F,hb⟩:=d;obtain⟨m,n,kV,c,o,k,b,ct,j,rfl,i,e⟩:=F.ex;exact⟨f,_,hm,F,hb,W.law_code X G (ht.tab x g) hm (X _ _ i) rfl⟩
theorem BX{P:Aa}{w:Ia}{K:W.Frag}{mg:Str->Option Value}{base:Heap}{ca:Nat->Addr}{tx:Tx}{k:Nat}{x:Str}{a:Stmt}{ps N:List Str}{g:Ev->M Fl}(h:tH K mg x a ps)(S:ua N ps (kc a))
  (hb:∀ (f:Addr) (A:Fa) (outer:List Hg) (s:aa) (H:Hp) (E:XK),jd k (A.deeper (ag x (kc a) s.heap.objs.size f (.ref (Ox K x))))->Hn ⟨K,ca,tx⟩ (zp (Xk P w) P w K mg base N x (kc a) f (.ref (Ox K x)) A outer s H E) (Yi a) g) :
  zf ⟨K,ca,tx⟩ P w mg base (k+1) x ps (run N.length g):=by
 obtain⟨f,n,hm,F,c,hc⟩:=h;obtain⟨o,p,kV,i,q,m,b,ct,l,rfl,j,d⟩:=F.ex;have e:b=.ref (Ox K x):=hc;subst e;exact⟨f,_,hm,F.kp,c,fB j d S (hb f)⟩
theorem Z7{P:Aa}{w:Ia}{K:W.Frag}{mg mb:Str->Option Value}{k:Nat}{fa a:Addr}{fd:me}{x:Str}{s₁:aa}{vs:List Value}{ns:List Int}{ca:Nat->Addr}{tx:Tx}{fn:List D->M D}{ob:Bc}
  (KX:K.In s₁.heap) (a8:s₁.heap.Ns mainGlobals mg) (hb:s₁.heap.Ns builtinsNs mb) (a4:∀ x:Str,x ≠ "__name__"->mb x=bootBuiltins x) (R:s₁.heap.NoLimit) (hg:s₁.gens=#[])
  (B:s₁.heap.get? a=some { cls:=.type "list",data:=.seq vs.toArray }) (hi:fm vs ns) (hl:ns.length<=63) (hr:jd k Xg)
  (hK:W.noTabs K=true) (g:s₁.heap.get? tx.bm=some ob) (O:ob.cls=.type "module") (a5:ob.dict=some builtinsNs) (I:ob.data=.plain) (a3:K.lookup tx.bm=none)
  (N:∀ t∈tx.Zn,∃ c,W.CodeHd s₁.heap c t.P/\s₁.heap.get? t.P=some (W.tabObj #[]))
  (F:∀ base:Heap,ph P w K mg base (Xk P w) k fa fd [x] (Eo ⟨K,ca,tx⟩ 1 fn)) (G:∀ (s:aa) (u:Value),xf s fd ⟨[u],[]⟩ [(x,u)])
  (tr:∀ ns:List Int,ns.length<=63->∃ σ,fn [.Qg ns] []=.ok (.bl true) σ) :
  codeAny (model P w) Xg (.call (.ref fa) ⟨[.ref a],[]⟩) (λr p=>r=.ok (.ret (.bool true))/\OldK s₁.heap p.heap/\p.os=s₁.os/\Tg p.gens) s₁:=by
 have rv:=bD hi;have S:=hi.length;have Q:ns.length<=sizeLine:=cc hl (by decide);have y:∀ E:Bool,(E=true->K.lookup a=none)->(E=false->K.lookup a=some { cls:=.type "list",data:=.seq vs.toArray })->
   codeAny (model P w) Xg (.call (.ref fa) ⟨[.ref a],[]⟩) (λr p=>r=.ok (.ret (.bool true))/\OldK s₁.heap p.heap/\p.os=s₁.os/\Tg p.gens) s₁:=by
  intro E a6 a7;obtain⟨H,c1,c2,c3,T⟩:∃ H:Hp,(∀ t∈tx.Zn,H t.P=some (.Im #[]))/\(H tx.bm=some (.Hb ob (.ext (zE tx.bm))))/\(E=true->H a=some (.Hb { cls:=.type "list",data:=.seq vs.toArray } (.lst (ns.map V.int))))/\
    ∀ b u,H b=some u->(u=.Im #[]/\∃ t∈tx.Zn,b=t.P)\/(b=tx.bm/\u=.Hb ob (.ext (zE tx.bm)))\/(b=a/\E=true/\u=.Hb { cls:=.type "list",data:=.seq vs.toArray } (.lst (ns.map V.int))):=by
   refine⟨λb=>if b=tx.bm then some (.Hb ob (.ext (zE tx.bm)))else if b=a then (if E=true then some (.Hb { cls:=.type "list",data:=.seq vs.toArray } (.lst (ns.map V.int)))else none)else if b∈tx.Zn.map (·.P)then some (.Im #[])else none,λt ht=>?_,ia rfl,λh=>?_,λb u e=>?_⟩
   ·obtain⟨c,_,i⟩:=N t ht;have n1:t.P≠tx.bm:=λz=>by rw[z,g]at i;cases i;cases O
    have n2:t.P≠a:=λz=>by rw[z,B]at i;cases i
    dsimp only;rw[qa n1,qa n2,ia (Ge.mpr ⟨t,ht,rfl⟩)]
   ·have n1:a≠tx.bm:=λz=>by rw[z,g]at B;cases B;cases I
    dsimp only;rw[qa n1,ia rfl,ia h]
   ·dsimp only at e;split at e
    ·next a1=>cases e;exact .inr (.inl ⟨a1,rfl⟩)
    ·split at e
     ·next a2=>
      split at e
      ·next h=>cases e;exact .inr (.inr ⟨a2,h,rfl⟩)
      ·cases e
     ·split at e
      ·next hm=>cases e;obtain⟨t,ht,rfl⟩:=Ge.mp hm;exact .inl ⟨rfl,t,ht,rfl⟩
      ·cases e
  have dc:Ni P w H s₁.heap:=λb u e=>by
   rcases T b u e with⟨rfl,t,ht,rfl⟩|⟨rfl,rfl⟩|⟨rfl,_,rfl⟩
   ·obtain⟨c,_,i⟩:=N t ht;exact i
   ·exact⟨g,⟨ob,g,O,a5,I⟩,⟨ob,g⟩,λh1 Y ⟨o,e1,A⟩ k=>⟨o,k _ e1,A⟩⟩
   ·exact⟨B,by rw[rc];exact Q,vs,_,rv,B⟩
  have f:∀ {b:Addr} {o:Bc},s₁.heap.get? b=some o->H b=none->(vt s₁.heap H).get? b=some o:=λe n=>UP e n;have b0:∀ {b:Addr} {o:Bc} {X:Array Ku} {U:Nat},s₁.heap.get? b=some o->o.data=.dict X U->H b=none:=fun {b o X U} e d=>by
   cases q:H b with
   |none=>rfl
   |some u=>
    rcases T b u q with⟨_,t,ht,rfl⟩|⟨rfl,_⟩|⟨rfl,_,_⟩
    ·obtain⟨c,_,i⟩:=N t ht;rw[i]at e;cases e;cases d
    ·rw[g]at e;cases e;rw[I]at d;cases d
    ·rw[B]at e;cases e;cases d
  have L:∀ {b:Addr} {m:Str->Option Value},s₁.heap.Ns b m->(vt s₁.heap H).Ns b m:=fun {b m} ⟨o,X,U,e,d,r⟩=>⟨o,X,U,f e (b0 e d),d,r⟩
  have a0:K.In (vt s₁.heap H):=λb o e=>f (KX b o e) (by
   cases q:H b with
   |none=>rfl
   |some u=>
    rcases T b u q with⟨_,t,ht,rfl⟩|⟨rfl,_⟩|⟨rfl,h,_⟩
    ·obtain⟨c,_,i⟩:=N t ht;have A:=KX _ _ e;rw[i]at A;cases A;have Y:=Ub.mp hK (t.P,_) (W.mem_of_lookupK e);exact absurd (show false=true from Y) Xa
    ·rw[a3]at e;cases e
    ·rw[a6 h]at e;cases e)
  have hM:Mod K mg (vt s₁.heap H):=⟨a0,L a8,⟨mb,L hb,a4⟩,let ⟨mc,h1,Y⟩:=R;⟨mc,L h1,Y⟩⟩
  have e0:Sm P w K mg (vt s₁.heap H) Xg [] s₁ H:=⟨rfl,hM,λb o e=>UL e,rs (sT _ _),trivial,λb hb=>absurd (show b∈([]:List Addr)from hb) (by simp),dc,.of_eq hg⟩
  have hS:DE K H a ns:=by
   cases E with
   |true=>exact .inl ⟨_,c3 rfl⟩
   |false=>exact .inr ⟨_,vs.toArray,_,a7 rfl,rfl,rfl,rfl,by rw[va,S];exact Q,by simpa using rv⟩
  obtain⟨σ,ef⟩:=tr ns hl;have a9:Eo ⟨K,ca,tx⟩ 1 fn [.ref a] H (λv _=>v=.bl true) λ_ _ _=>False:=by
   refine⟨[],[],[.Qg ns],Ta.cons (by rw[Rep];exact⟨a,rfl,hS⟩) Ta.nil,rfl,⟨rfl,List.nodup_nil,λn o q=>by simp at q,λt ht=>⟨⟨by simp,ob,c2⟩,by simp,#[],c1 t ht,.inl rfl⟩⟩,?_⟩;rw[ef];intro b1 v H' _ _ r;rw[Rep]at r;exact r
  refine ni ((F _).run Xg [] s₁ H ⟨[.ref a],[]⟩ [.ref a] [.ref a] _ _ hr e0 (G s₁ (.ref a)) (.cons rfl .nil) a9) λr p h=>?_;cases r with
  |error e=>obtain⟨_,_,_,_,z⟩:=h;exact z.elim
  |ok f2=>
   cases f2 with
   |next=>exact False.elim h
   |brk=>exact False.elim h
   |cont=>exact False.elim h
   |ret u=>
    obtain⟨v,H',os,bare,un,l,r',q⟩:=h;have q':v=.bl true:=q;subst q';obtain rfl:u=Ff true:=r';have C:∀ b o,s₁.heap.get? b=some o->(¬ ∃ t∈tx.Zn,b=t.P)->p.heap.get? b=some o:=λb o e n=>by
     cases q:H b with
     |none=>exact un.keep b o e q (by intro z;exact absurd (show b∈([]:List Addr)from z) (by simp)) (by simp)
     |some u=>
      rcases T b u q with⟨_,z⟩|⟨rfl,rfl⟩|⟨rfl,_,rfl⟩
      ·exact absurd z n
      ·obtain⟨A,_⟩:=l _ _ (un.vh _ _ _ q);rw[g]at e;cases e;exact A
      ·obtain⟨A,_⟩:=l _ _ (un.vh _ _ _ q);rw[B]at e;cases e;exact A
    have j:∀ t∈tx.Zn,∃ Z,p.heap.get? t.P=some (W.tabObj Z):=λt ht=>by
     obtain⟨more,z⟩:=un.di _ _ (c1 t ht);exact⟨_,l _ _ z⟩
    refine⟨rfl,⟨λb o e=>?_,λb o e=>?_⟩,os,bare⟩
    ·by_cases hb:∃ t∈tx.Zn,b=t.P
     ·obtain⟨t,ht,rfl⟩:=hb;obtain⟨c,hc,i⟩:=N t ht;obtain⟨Z,J⟩:=j t ht;rw[i]at e;cases e;exact .inr (.inl ⟨(hc.tab i).isCodeTable,rfl,#[],Z,rfl,by rw[Array.empty_append];exact J⟩)
     ·exact .inl (C b o e hb)
    ·by_cases hb:∃ t∈tx.Zn,b=t.P
     ·obtain⟨t,ht,rfl⟩:=hb;obtain⟨Z,J⟩:=j t ht;exact⟨_,J⟩
     ·exact⟨o,C b o e hb⟩
 cases hk:K.lookup a with
 |some o=>
  have e:=KX a o hk;rw[B]at e;cases e;exact y false (λh=>by cases h) λ_=>hk
 |none=>exact y true (λ_=>hk) λh=>by cases h
theorem yZ{l:W.OpenLaw}{q:Aa}{i:List Str}{J:(Str->Option Value)->Heap->Prop}{B:Ia->Heap->Prop}{d:DefRec}{K:PL->W.Frag}{k:Nat}{x:Str}{fn:List D->M D}(xs:List Str)
  (hn:l.most=some 63) (v:d.params.defaults=[]) (hr:jd k Xg) (hY:∀ (w:Ia) (h:Heap),B w h->(K w.params).In h)
  (Z:∀ w:Ia,FK (K w.params) xs=true) (n:(xs.all λx=>((recsOf q).find? λe=>e.name == x).isSome)=true)
  (F:∀ (w:Ia) (mg:Str->Option Value) (h:Heap),(K w.params).In h->h.Ns mainGlobals mg->mx (K w.params) xs->∃ ca Zn,(∀ t∈Zn,∃ x∈xs,t.P=vy (K w.params) x)/\zI ⟨K w.params,ca,⟨Zn,Bx (K w.params)⟩⟩ l.prog w mg k d.name [x] fn)
  (tr:∀ ns:List Int,ns.length<=63->∃ σ,fn [.Qg ns] []=.ok (.bl true) σ) :
  W.WalkO q i J B l.row.toRowW d [] (λf I=>PySem.call f I):=by
 refine Att.cm hn v λw s₀ H mg mb fa o pm cd S a I ns G Y ho hd a0 A m c j hg=>?_;have p:=hY w _ Y;have TT:=v8 (Z w);obtain⟨ca,Zn,hP,f0,U,E,V,X⟩:=F w mg _ p G.T.g TT;rw[A]at E;cases E;obtain⟨bm,ob,L,b2,N,O,Q,R⟩:=G.T.bmain;have C:=W.mg_of p G.T.g TT.bm;rw[L]at C;cases C;refine Z7 (tx:=⟨Zn,Bx (K w.params)⟩) (ca:=ca) (ob:=ob) p G.T.g G.T.b G.T.builtins G.T.nolimit hg m c j hr TT.no N O Q R TT.bk (λt ht=>?_) X (λs u=>.of_eq (V [u] rfl)) tr;obtain⟨y,hy,e⟩:=hP t ht;have z:=Ub.mp n y hy;obtain⟨d',r⟩:=Fe.mp z;have:=W.tab_of G.T p r (TT.tab y hy);rw[e];exact⟨_,this.1,this.2⟩
theorem ysr{a b:Tab}{bm:Addr}(h:(a.P == b.P)=false):∀ t∈(⟨[a,b],bm⟩:Tx).Zn,∀ t'∈(⟨[a,b],bm⟩:Tx).Zn,t'.P=t.P->t'=t:=by
 have n:a.P≠b.P:=by simpa using h
 intro t ht t' c e;simp only[ib,Te,wn]at ht c;rcases ht with rfl|rfl<;>rcases c with rfl|rfl
 ·rfl
 ·exact absurd e.symm n
 ·exact absurd e n
 ·rfl
def Nw(x:D)(xs:List D):M D:=λa=>match x,xs with
 | .ref n,[y]=>(match Ih a n with
  |some b=>(match Fg a y with
   |some zs=>if b.length+zs.length<=Wi then .ok .Vb (a.set n (.lst (b++zs)))else .bad
   |none=>.bad)
  |none=>.bad)
 |_,_=>.bad
section
variable{T:Tb}
theorem HR:wD T rS Nw:=by
 intro E l H m x xs v c Q r p q h;cases x with
 |ref n=>
  match xs with
  |[]=>exact h.elim
  |[y]=>
   rw[Ta]at q;obtain⟨w,z,rfl,s,i⟩:=q;rw[Ta]at i;subst i;unfold Nw at h;cases d:Ih m n with
   |none=>simp only[d]at h;exact h.elim
   |some k=>
    simp only[d]at h;cases e:Fg m y with
    |none=>simp only[e]at h;exact h.elim
    |some zs=>
     simp only[e]at h;by_cases hc:k.length+zs.length<=Wi
     ·rw[ia hc]at h;obtain⟨a,c,rfl,hn,h1,g⟩:=r.lst p d;obtain⟨b,f,rfl,h3,h4⟩:=r.ls s e;have j:=r.write (o:=.lst (c++f)) (ob:=.lst (k++zs)) hn ⟨_,Og,by
       have ex:Ext l H l (upd H a (.lst (c++f))):=Ww (Ha hn) h1 (λ_ z=>by cases z) (λ_ _ z=>by cases z);exact Ta.append (Ta.mono ex _ _ g) (Ta.mono ex _ _ h4)⟩
      exact⟨a,b,c,f,rfl,rfl,h1,h3,by rw[<-g.length,<-h4.length];exact bB hc,h _ _ _ j.1 j.2 (by rw[Rep])⟩
     ·rw[qa hc]at h;exact h.elim
  |_::_::_=>exact h.elim
 |_=>exact h.elim
end
section
variable{T:Tb}{X:Cx}
end
section
variable{X:Cx}{pins:List (Addr × Bc)}{st:St}{H:Hp}{s:aa}{x z0 z1:Str}{M':List Str}{ix:List Nat}{scope:Scope}{fp:List Addr}
end
section
variable{T:Tb}{X:Cx}
end
section
variable{T:Tb}{X:Cx}{pins:List (Addr × Bc)}{st:St}{H:Hp}{s:aa}{μ:List Addr}{σ:qb}
end
section
variable{T:Tb}{X:Cx}
end
section
variable{T:Tb}{X:Cx}{x y:Str}{p pos:re}{ss:List Str}
theorem HN(hg:Gl X x)(hG:JI T.K X.mg x ss)(hd:(x == ("__debug__" : Str))=false:=by decide):FE T X (.Name x p) (eC (.gt ss)):=by
 obtain⟨a,hm,b⟩:=hG;exact xA (UH hg hm (v:=.ref a) rfl hd) λ_ _=>by rw[Rep];exact⟨a,rfl,b⟩
theorem zf.alias{P:Aa}{w:Ia}{mg:Str->Option Value}{base:Heap}{k:Nat}{ps:List Str}{fn:List D->M D}(h:zf T P w mg base k x ps fn)(e:mg y=mg x):zf T P w mg base k y ps fn:=by
 obtain⟨f,a,h1,b⟩:=h;exact⟨f,a,e.trans h1,b⟩
end
section
variable{T:Tb}{μ μ':List Addr}{H H':Hp}{σ:qb}{a:Addr}
mutual
theorem Rep.chg(j:∀ b,b≠a->H' b=H b)(l:a∈μ)(h1:∀ xs,H a≠some (.tup xs))(r:∀ o xs,H a≠some (.Hb o (.lst xs))):∀ (d:D) (v:V),Rep T μ H d v->Rep T μ H' d v
 | .Vb,v,h=>by simpa [Rep]using h
 | .bl b,v,h=>by simpa [Rep]using h
 | .int i,v,h=>by simpa [Rep]using h
 | .str x,v,h=>by simpa [Rep]using h
 | .tup ds,v,h=>by
  rw[Rep]at h ⊢;obtain⟨p,m,g,e,k⟩:=h;exact⟨p,m,g,by rw[j p (λz=>h1 _ (by rw[<-z];exact e))];exact e,Ta.chg j l h1 r ds m k⟩
 | .Qg ns,v,h=>by
  rw[Rep]at h ⊢;obtain⟨p,g,e⟩:=h;refine⟨p,g,?_⟩;rcases e with⟨o,e⟩|e
  ·exact .inl ⟨o,by rw[j p (λz=>r _ _ (by rw[<-z];exact e))];exact e⟩
  ·exact .inr e
 | .ref n,v,h=>by rw[Rep]at h ⊢;exact h
 | .lst ds,v,h=>by
  rw[Rep]at h ⊢;obtain⟨p,m,g,f,e,k⟩:=h;exact⟨p,m,g,f,by rw[j p (λz=>f (by rw[z];exact l))];exact e,Ta.chg j l h1 r ds m k⟩
 | .Ma C ds,v,h=>by
  rw[Rep]at h ⊢;obtain⟨p,m,g,f,e,s,k⟩:=h;exact⟨p,m,g,f,by unfold Rd at e ⊢;rw[j p (λz=>f (by rw[z];exact l))];exact e,s,Ta.chg j l h1 r ds _ k⟩
 | .obj c ns ds,v,h=>by
  rw[Rep]at h ⊢;obtain⟨p,y,m,g,f,e,s,k⟩:=h;exact⟨p,y,m,g,f,by rw[j p (λz=>f (by rw[z];exact l))];exact e,s,Ta.chg j l h1 r ds _ k⟩
 | .Jt c,v,h=>by
  rw[Rep]at h ⊢;obtain⟨p,w,g,f,e,k⟩:=h;refine⟨p,w,g,f,by rw[j p (λz=>f (by rw[z];exact l))];exact e,λn q=>?_⟩;obtain⟨t,A,u,B⟩:=k n q;exact⟨t,A,u,by rw[j t (λz=>u (by rw[z];exact l))];exact B⟩
 | .gt ss,v,h=>by rw[Rep]at h ⊢;exact h
theorem Ta.chg(f:∀ b,b≠a->H' b=H b)(e:a∈μ)(h1:∀ xs,H a≠some (.tup xs))(c:∀ o xs,H a≠some (.Hb o (.lst xs))):∀ (ds:List D) (vs:List V),Ta T μ H ds vs->Ta T μ H' ds vs
 |[],vs,h=>by simpa [Ta]using h
 |d::ds,vs,h=>by
  rw[Ta]at h ⊢;obtain⟨v,r,g,i,j⟩:=h;exact⟨v,r,g,Rep.chg f e h1 c d v i,Ta.chg f e h1 c ds r j⟩
end
theorem QF{c:Type}(f:∀ b,b≠a->H' b=H b)(e:a∈μ)(h1:∀ xs,H a≠some (.tup xs))(d:∀ o xs,H a≠some (.Hb o (.lst xs))){xs:List (c × D)}{ys:List (c × V)}(h:Paired (λ(p:c × D) (q:c × V)=>p.1=q.1/\Rep T μ H p.2 q.2) xs ys) :
  Paired (λ(p:c × D) (q:c × V)=>p.1=q.1/\Rep T μ H' p.2 q.2) xs ys:=L2.Paired.Rq h λp q z=>⟨z.1,Rep.chg f e h1 d _ _ z.2⟩
theorem Xp.chg(d:∀ b,b≠a->H' b=H b)(g:a∈μ)(h1:∀ xs,H a≠Option.some (.tup xs))(f:∀ o xs,H a≠Option.some (.Hb o (.lst xs))){b:Addr}(hb:b≠a):∀ {o:Ob},Xp T μ H b o->Xp T μ H' b o
 | .lst ds,⟨e,h,r⟩=>⟨e,(d b hb).trans h,Ta.chg d g h1 f _ _ r⟩
 | .Ma i,⟨e,h,r⟩=>⟨e,(d b hb).trans h,QF d g h1 f r⟩
 | .ins c fs,⟨j,e,h,r⟩=>⟨j,e,(d b hb).trans h,QF d g h1 f r⟩
 | .ub i,⟨k,e,h,r⟩=>⟨k,e,(d b hb).trans h,QF d g h1 f r⟩
 | .rl l,⟨e,h,r⟩=>⟨e,(d b hb).trans h,r⟩
theorem Rel.chg(r:Rel T μ H σ)(d:∀ b,b≠a->H' b=H b){n:Nat}(hn:μ[n]?=some a)(h1:∀ xs,H a≠some (.tup xs))(e:∀ o xs,H a≠some (.Hb o (.lst xs))){ob:Ob}(f:Xp T μ H' a ob):Rel T μ H' (σ.set n ob):=by
 have c:=Ha hn;refine⟨by simp[r.len],r.nd,λm x h=>?_,r.tb.out d (.inl c)⟩;rw[Dc]at h;by_cases hm:n=m
 ·subst hm;rw[ia rfl]at h;split at h
  ·cases h;exact⟨a,hn,f⟩
  ·cases h
 ·rw[qa hm]at h;obtain⟨b,h3,h4⟩:=r.obs m x h;exact⟨b,h3,h4.chg d c h1 e (λz=>hm (by subst z;exact HF r.nd hn h3))⟩
end
theorem _root_.L2.Inv.Ux{X:Cx}{d:List (Addr × Bc)}{g:St}{H:Hp}{s:aa}{a:Addr}{od:Bc}{kvs:List (Key × V)}(I:Inv X d g H s)(hd:H a=some (.Hb od (.dK kvs)))(h0:∀ o u,X.H₀ a≠some (.Hb o u)):Inv X d g (upd H a (.dK kvs)) s:=by
 have ne:∀ b u,H b=some u->(∀ o w,u≠.Hb o w)->b≠a:=λb u q n z=>by rw[z,hd]at q;exact n _ _ (yb q).symm
 refine⟨I.ok,I.os,I.bare,⟨I.base.keep,I.base.slot,λb o e n i=>?_,I.base.there,λb xs e=>?_,λb o u e=>?_,λb j e=>?_⟩,I.loc,I.cell,?_,λx c e=>?_,λp h=>?_,λb u e=>?_,I.len⟩
 ·have:=I.base.free b o e n i;rw[Qd (λz=>by rw[z,hd]at this;cases this)];exact this
 ·have:=I.base.Gi b xs e;rw[Qd (ne b _ this (λ_ _ z=>by cases z))];exact this
 ·have:=I.base.vh b o u e;rw[Qd (λz=>h0 o u (by rw[<-z];exact e))];exact this
 ·obtain⟨more,this⟩:=I.base.di b j e;exact⟨more,by rw[Qd (ne b _ this (λ_ _ z=>by cases z))];exact this⟩
 ·rw[Qd (λz=>by have:=I.free;rw[z,hd]at this;cases this)];exact I.free
 ·have:=I.rg x c e;rw[Qd (λz=>by rw[z,hd]at this;cases this)];exact this
 ·obtain⟨k,f,l⟩:=I.pin p h;exact⟨k,by rw[Qd (λz=>by rw[z,hd]at f;cases f)];exact f,l⟩
 ·by_cases hb:b=a
  ·subst hb;rw[Og]at e;cases e;exact(I.dc b _ hd).2
  ·rw[Qd hb]at e;refine(I.dc b u e).zk (λc v _ z=>z) (λc z=>?_) λc xs z=>?_
   ·rw[Qd (ne c _ z (λ_ _ y=>by cases y))];exact z
   ·rw[Qd (ne c _ z (λ_ _ y=>by cases y))];exact z
section
variable{T:Tb}{X:Cx}{elts:List Ca}{kk:Nat}{p0:re}
theorem vL{μ:List Addr}{H:Hp}{a:Addr}{od:Bc}{kvs:List (Key × V)}{f:List (Key × D)}(h3:H a=some (.Hb od (.dK kvs)))(n:bh T μ H f kvs):Nr T μ H (Us f) (Itm a od kvs):=by
 intro h j s i ex o;have k:j a=some (.Hb od (.dK kvs)):=ex.Hb _ _ _ h3;have e:bh T h j f kvs:=bh.mono ex n;unfold Us;cases m:f[i]? with
 |none=>
  dsimp only;by_cases g:i=f.length
  ·rw[ia g];exact⟨k,by rw[g];exact Paired.length e⟩
  ·rw[qa g];trivial
 |some p=>
  obtain⟨q,hq,d,l⟩:=xF e i m;refine⟨⟨k,q,hq⟩,λz t y=>?_⟩;obtain⟨r,u,v,b,rfl,c,rfl⟩:=y;rw[hq]at c;cases c;dsimp only at d l;refine⟨Yl b,o.fresh b,?_⟩;rw[Rep,d];exact⟨r,_,rfl,Og,Ta.cons (zJ _) (Ta.cons (Rep.mono (Yl b) _ _ l) Ta.nil)⟩
def eE(d:D):M NX:=λb=>match d with
 | .Ma c xs=>if c.length=xs.length then .ok (Us (c.zip xs)) b else .bad
 | .ref n=>(match b[n]? with
  |some (.Ma a)=>.ok (Us a) (b.set n (.ub a))
  |some (.ub a)=>.ok (Us a) b
  |_=>.bad)
 |_=>.bad
def Cy(f:Ev->M D):Ev->M NX:=λa=>Wc (f a) eE
theorem SF{e:Ca}{f:Ev->M D}{u w:re}(h:FE T X e f)(C:Ud e "items" X.env (Ib e X.env)=Ib e X.env:=by rfl)(E:(u.endLine == w.line)=true:=by rfl) :
  Px T X (.Tuple elts kk p0) (.Call (.Attribute e "items" u) [] [] w) (Cy f):=by
 intro N s st H R I hw;refine VM (rQ pi oi Fp HM h C E) N s st H R I ?_;obtain⟨μ,ρ,σ,hE,hr,hp⟩:=hw;refine⟨μ,ρ,σ,hE,hr,hp.bind λd σ1 c v j _ e1 P V p=>?_⟩;unfold eE at p;cases d with
 |Ma ks xs=>
  dsimp only at p;by_cases Y:ks.length=xs.length
  ·rw[ia Y]at p;rw[Rep]at V;obtain⟨a,i,rfl,hn,q,S,U⟩:=V;refine⟨⟨a,i,rfl,q⟩,a,i,rfl,rfl,q,λl g=>?_⟩;have t:a≠l:=by rcases q with q|⟨_,q⟩<;>exact gq q g
   have Q:Rd (upd j l (.ext (cn l a))) a (.dK i):=by unfold Rd;rw[Qd t];exact q
   refine⟨l,a,i,rfl,Og,Q,λod m=>?_⟩;have A:Ext c j c (upd j l (.ext (cn l a))):=Yl g;have k:Rel T c (upd j l (.ext (cn l a))) σ1:=P.fresh g;obtain⟨Z,W⟩:Ext c j c (upd (upd j l (.ext (cn l a))) a (.Hb od (.dK i)))/\Rel T c (upd (upd j l (.ext (cn l a))) a (.Hb od (.dK i))) σ1:=by
    rcases m with m|m
    ·have y:=lO (μ:=c) (od:=od) m;exact⟨A.trans y,k.keep y (λb hb=>Qd (λz=>hn (by rw[<-z];exact hb))) (k.tb.out (λb hb=>Qd hb) (.inr ⟨_,m⟩))⟩
    ·rw[zA m];exact⟨A,k⟩
   exact Mb.here (R:=Nr T) (Mb.mono Z p) W (vL Og (bh.mono Z (fG S U)))
  ·rw[qa Y]at p;exact p.elim
 |ref n=>
  dsimp only at p;cases O:σ1[n]? with
  |none=>rw[O]at p;exact p.elim
  |some o=>
   rw[O]at p;obtain⟨a,rfl,hn,L⟩:=P.at V O;cases o with
   |Ma i=>
    obtain⟨vs,B,G⟩:=L;have q:Rd j a (.dK vs):=.inl B;refine⟨⟨a,vs,rfl,q⟩,a,vs,rfl,rfl,q,λl g=>?_⟩;have t:a≠l:=gq B g;have r:upd j l (.ext (cn l a)) a=some (.dK vs):=by rw[Qd t];exact B
    refine⟨l,a,vs,rfl,Og,.inl r,λod _=>?_⟩;have A:Ext c j c (upd j l (.ext (cn l a))):=Yl g;have k:Rel T c (upd j l (.ext (cn l a))) σ1:=P.fresh g;have K:Ext c (upd j l (.ext (cn l a))) c (upd (upd j l (.ext (cn l a))) a (.Hb od (.dK vs))):=Ww (Ha hn) r (λ_ z=>by cases z) (λ_ _ z=>by cases z);have x:bh T c (upd (upd j l (.ext (cn l a))) a (.Hb od (.dK vs))) i vs:=bh.mono (A.trans K) G;have wr:=k.write (o:=.Hb od (.dK vs)) (ob:=.ub i) hn ⟨od,vs,Og,x⟩ (λkv z=>by rw[O]at z;cases z);exact Mb.here (R:=Nr T) (Mb.mono (A.trans K) p) wr.2 (vL Og x)
   |ub i=>
    obtain⟨J,vs,B,G⟩:=L;have q:Rd j a (.dK vs):=.inr ⟨J,B⟩;refine⟨⟨a,vs,rfl,q⟩,a,vs,rfl,rfl,q,λl g=>?_⟩;have t:a≠l:=gq B g;have r:upd j l (.ext (cn l a)) a=some (.Hb J (.dK vs)):=by rw[Qd t];exact B
    refine⟨l,a,vs,rfl,Og,.inr ⟨J,r⟩,λod m=>?_⟩;have A:Ext c j c (upd j l (.ext (cn l a))):=Yl g;have k:Rel T c (upd j l (.ext (cn l a))) σ1:=P.fresh g;rcases m with m|m
    ·rw[r]at m;cases m
    ·rw[zA m];exact Mb.here (R:=Nr T) (Mb.mono A p) k (vL m (bh.mono A G))
   |_=>exact p.elim
 |_=>exact p.elim
def bC{c:Type}(ok:c->Bool)(n:Nat):Out c->Out c
 | .ok a σ=>if ok a=true then (match σ[n]? with
  |some (.ub b)=>.ok a (σ.set n (.Ma b))
  |_=>.bad)else .bad
 |_=>.bad
def eG{α:Type}(ok:α->Bool)(m:M D)(g:M α):M α:=λa=>match m a with
 | .ok (.ref n) _=>(match a[n]? with
  |some (.Ma _)=>bC ok n (g a)
  |_=>g a)
 |_=>g a
noncomputable def yL:Fl->Bool
 | .xc _ _=>false
 |_=>true
def Uw(f:Ev->M D)(g:Ev->M Fl):Ev->M Fl:=λa=>eG yL (f a) (g a)
theorem W4{μ μ':List Addr}{H b:Hp}{a:Addr}{d vs:List (Key × V)}{od:Bc}(ex:Ext μ H μ' b)(c:a∈μ)(e:H a=some (.dK d))(f:b a=some (.Hb od (.dK vs))):Ext μ H μ' (upd b a (.dK vs)):=by
 refine⟨ex.pre,λp xs h=>?_,λp o u h=>?_,λp o h n=>?_⟩
 ·rw[Qd (λz=>by rw[z,e]at h;cases h)];exact ex.tup p xs h
 ·rw[Qd (λz=>by rw[z,e]at h;cases h)];exact ex.Hb p o u h
 ·rw[Qd (λz=>n (by rw[z];exact c))];exact ex.keep p o h n
theorem zV{l s:Type}{E:XK}{R:List Addr->Hp->l->s->Prop}{ok:l->Bool}{μ:List Addr}{H:Hp}{n:Nat}{a:Addr}{q:List (Key × V)}{o:Out l}{Q:s->Hp->Prop}(hn:μ[n]?=some a)(y:H a=some (.dK q))
  (w:∀ (μ':List Addr) (c:Hp) (d:l) (g:s) (od:Bc) (vs:List (Key × V)),a∈μ'->c a=some (.Hb od (.dK vs))->ok d=true->R μ' c d g->R μ' (upd c a (.dK vs)) d g) (h:Mb T E R μ H (bC ok n o) Q) :
  Mb T E R μ H o (λg c=>∃ od vs,c a=some (.Hb od (.dK vs))/\Q g (upd c a (.dK vs))/\∃ μ' d,ok d=true/\R μ' c d g):=by
 cases o with
 |bad=>exact h
 |ex x k=>exact h.elim
 |ok d k=>
  unfold bC at h;dsimp only at h;by_cases dc:ok d=true
  ·rw[ia dc]at h;cases m:k[n]? with
   |none=>rw[m]at h;exact h.elim
   |some B=>
    rw[m]at h;cases B with
    |ub A=>
     intro μ' g c ex r v;obtain⟨C,i,od,vs,j,p⟩:=r.obs n _ m;have e:=ex.get hn;rw[e]at i;cases i;have f:a∈μ':=Ha e;have u:∀ b,b≠a->upd c a (.dK vs) b=c b:=λb hb=>Qd hb;have t:∀ xs,c a≠some (.tup xs):=λxs z=>by rw[j]at z;cases z
     have g2:∀ o xs,c a≠some (.Hb o (.lst xs)):=λo xs z=>by rw[j]at z;cases z
     exact⟨od,vs,j,h μ' g _ (W4 ex (Ha hn) y j) (r.chg u e t g2 ⟨vs,Og,QF u f t g2 p⟩) (w μ' c d g od vs f j dc v),μ',d,dc,v⟩
    |_=>exact h.elim
  ·rw[qa dc]at h;exact h.elim
theorem cE{μ':List Addr}{c:Hp}{a:Addr}{od:Bc}{vs:List (Key × V)}(e:a∈μ')(f:c a=some (.Hb od (.dK vs)))(d:D)(v:V)(h:Rep T μ' c d v):Rep T μ' (upd c a (.dK vs)) d v:=
 Rep.chg (λb hb=>Qd hb) e (λxs z=>by rw[f]at z;cases z) (λo xs z=>by rw[f]at z;cases z) d v h
theorem VC{s:Stmt}{f:Ev->M D}{g:Ev->M Fl}(h:FS T X s g):FS T X s (Uw f g):=by
 intro m sh N H D I hq;obtain⟨E,G,J,K,C,t⟩:=hq;have plain:Mb T EN (Xl T) E H (g G J) (Rk X D)->wpAny (model X.prog X.w) X.A (exec s X.env) (SP X m D) X.xe sh:=λq=>h m sh N H D I ⟨E,G,J,K,C,q⟩;unfold Uw eG at t;split at t
 ·rename_i n _ _
  split at t
  ·rename_i Q O
   obtain⟨a,hn,S,L,_⟩:=C.obs n _ O;have h0:∀ o u,X.H₀ a≠some (.Hb o u):=λo u z=>by have:=I.base.vh a o u z;rw[L]at this;cases this
   have q:=zV hn L (λF e d gl k c p j dc l=>by
    cases d with
    |xc _ _=>cases dc
    |nx B=>cases gl<;>first|exact l.elim|exact⟨l.1,λi d q=>let ⟨v,x,y⟩:=l.2 i d q;⟨v,x,cE p j _ _ y⟩⟩
    |bk B=>cases gl<;>first|exact l.elim|exact⟨l.1,λi d q=>let ⟨v,x,y⟩:=l.2 i d q;⟨v,x,cE p j _ _ y⟩⟩
    |ct B=>cases gl<;>first|exact l.elim|exact⟨l.1,λi d q=>let ⟨v,x,y⟩:=l.2 i d q;⟨v,x,cE p j _ _ y⟩⟩
    |rt U=>cases gl<;>first|exact l.elim|exact cE p j _ _ l) t
   refine bc (h m sh N H ⟨λb e=>∃ k c,e a=some (.Hb k (.dK c))/\D.nx b (upd e a (.dK c)),λv e=>∃ k c,e a=some (.Hb k (.dK c))/\D.rt v (upd e a (.dK c)),λb e=>∃ k c,e a=some (.Hb k (.dK c))/\D.bk b (upd e a (.dK c)),λb e=>∃ k c,e a=some (.Hb k (.dK c))/\D.ct b (upd e a (.dK c))⟩ I ⟨E,G,J,K,C,q.imp λgl e z=>?_⟩) (λP V z=>?_) λ_ _ z=>z
   ·obtain⟨k,c,j,hq,F,d,dc,l⟩:=z;cases gl with
    |nx b=>exact⟨k,c,j,hq⟩
    |rt v=>exact⟨k,c,j,hq⟩
    |bk b=>exact⟨k,c,j,hq⟩
    |ct b=>exact⟨k,c,j,hq⟩
    |xc b cls fd=>cases d<;>first|exact l.elim|cases dc
   ·cases P with
    |next=>obtain⟨b,e,r,k,c,j,hq⟩:=z;exact⟨b,_,r.Ux j h0,hq⟩
    |brk=>obtain⟨b,e,r,k,c,j,hq⟩:=z;exact⟨b,_,r.Ux j h0,hq⟩
    |cont=>obtain⟨b,e,r,k,c,j,hq⟩:=z;exact⟨b,_,r.Ux j h0,hq⟩
    |ret u=>obtain⟨v,b,e,r,R,k,c,j,hq⟩:=z;exact⟨v,b,_,r.Ux j h0,R,hq⟩
  ·exact plain t
 ·exact plain t
end
end L4
namespace L4
open PySem PySem.Spec PyProof.Rows L2
def VF(d:Addr)(od:Bc)(kvs:List (Key × V)):It:=
 ⟨λi H=>H d=some (.Hb od (.dK kvs))/\∃ x,kvs[i]?=some x,λi H v a=>a=H/\∃ k x,v=kV k/\kvs[i]?=some (k,x),λi H=>H d=some (.Hb od (.dK kvs))/\i=kvs.length⟩
theorem j8{P:Aa}{w:Ia}{K:W.Frag}{tg:Ca}(d it:Addr)(od:Bc)(kvs:List (Key × V))(Y:d≠it){T:Array Ku}{ep:Nat}(l:od.data=.dict T ep) :
  Turn P w K tg (VF d od kvs) [it] it (λi h=>h.IsKeyIter it d i kvs.length ep) where
 mem:=by simp
 obj:=λi h a b hb=>by
  obtain rfl:b=it:=by simpa using hb
  obtain⟨o,e,c,q⟩:=a;exact⟨o,e,λv z=>by rw[q]at z;cases z⟩
 keep:=λi h n a k=>a.at λo e=>k it (by simp) o e
 item:=by
  intro X G L F hc i f s Q H E I p a hg;subst G L F;obtain⟨hd,⟨k,x⟩,O⟩:=hg;obtain⟨vs,t,r,rel,g,hm⟩:=XA I hd;rw[l]at g;cases g;obtain⟨u,Z,ru⟩:=HH rel i O;rw[rel.length]at a;obtain⟨y,A,U,B,C,D⟩:=p it (by simp);refine wpAny_pyNext_dict_item a hm Z λM n j m J=>?_;have R:Inv X f Q H { s with heap:=n }:=I.turned (t':=s.toks) (λb o hb e=>J.extBut b o hb e) y A B C D;obtain⟨o,e,c,q⟩:=id m;exact⟨M,rfl,kE (s:={ s with heap:=n }) e c q (by decide) ⟨kV k,H,R,KR j,⟨rfl,k,x,rfl,O⟩,by rw[rel.length];exact m,λb hb=>(p b hb).1⟩⟩
 done:=by
  intro X G L F hc i f s Q H E I p a hg;subst G L F;obtain⟨hd,N⟩:=hg;obtain⟨vs,t,r,rel,g,hm⟩:=XA I hd;rw[l]at g;cases g;rw[rel.length]at a N;obtain⟨y,A,U,B,C,D⟩:=p it (by simp);exact wpAny_pyNext_dict_end (I.ok.hd hc) a hm (by rw[N];simp) λn S=>⟨rfl,I.turned (t':=s.toks) (λb o hb e=>S b o hb e) y A B C D⟩
 self:=λ_ _ _ _ _ a h=>wpAny_pyIter_keyiter a h
noncomputable def OA(a:List (Key × D)):NX:=λi _=>match a[i]? with
 |some p=>some (some (Bz p.1))
 |none=>if i=a.length then some none else none
def aL(d:D):M NX:=λb=>match d with
 | .ref n=>(match b[n]? with
  |some (.Ma a)=>.ok (OA a) (b.set n (.ub a))
  |some (.ub a)=>.ok (OA a) b
  |_=>.bad)
 |_=>.bad
def XF(f:Ev->M D):Ev->M NX:=λa=>Wc (f a) aL
section
variable{T:Tb}{X:Cx}{tg:Ca}
theorem cQ{μ:List Addr}{H:Hp}{a:Addr}{od:Bc}{kvs:List (Key × V)}{e:List (Key × D)}(h3:H a=some (.Hb od (.dK kvs)))(l:bh T μ H e kvs):Nr T μ H (OA e) (VF a od kvs):=by
 intro g h n i ex m;have j:h a=some (.Hb od (.dK kvs)):=ex.Hb _ _ _ h3;have d:bh T g h e kvs:=bh.mono ex l;unfold OA;cases k:e[i]? with
 |none=>
  dsimp only;by_cases f:i=e.length
  ·rw[ia f];exact⟨j,by rw[f];exact Paired.length d⟩
  ·rw[qa f];trivial
 |some p=>
  obtain⟨q,hq,c,s⟩:=xF d i k;refine⟨⟨j,q,hq⟩,λz o y=>?_⟩;obtain⟨rfl,r,t,rfl,b⟩:=y;rw[hq]at b;cases b;dsimp only at c;exact⟨Ext.refl _ _,m,by rw[c];exact zJ _⟩
def E3(e:TE):TI:=λf H R=>e f H λv c=>∃ a b,v=.ref a/\Rd c a (.dK b)/\∀ d,c a=some (.dK b)\/c a=some (.Hb d (.dK b))->R (VF a d b) (upd c a (.Hb d (.dK b)))
theorem k6{f:Ca}{n:TE}(w:PE X f n):PI X tg f (E3 n):=by
 intro i s p H R I h;refine be (w i s p H _ I h) λv s1 ⟨x,H1,j,B,A⟩=>?_;obtain⟨a,c,rfl,d,q⟩:=A;cases B;obtain⟨_,y,_⟩:=Nu j.dc d;obtain⟨g,m,k⟩:∃ g,(H1 a=some (.dK c)\/H1 a=some (.Hb g (.dK c)))/\Inv X i p (upd H1 a (.Hb g (.dK c))) s1:=by
  rcases d with d|⟨g,d⟩
  ·obtain⟨_,_,C,rel,o,u,t,e,_⟩:=j.dc a _ d;exact⟨o,.inl d,j.freeze d e⟩
  ·exact⟨g,.inr d,by rw[zA d];exact j⟩
 obtain⟨C,u,t,rel,r,hm⟩:=XA k Og;have l:a≠s1.heap.objs.size:=Ea hm.lt_size;refine wpAny_pyIter_dict y hm ?_;refine⟨s1.heap.objs.size,[s1.heap.objs.size],_,VF a g c,_,rfl,k.kept (t':=s1.toks) (λb o e=>ka _ e),j8 a _ g c l r,by rw[rel.length];exact⟨_,dH _ _ (λz=>by cases z),rfl,rfl⟩,λb hb=>?_,q g m⟩;obtain rfl:b=s1.heap.objs.size:=by simpa using hb
 exact k.Qp (ya _) (k.dc.fresh (ya _))
theorem SV{e:Ca}{f:Ev->M D}(h:FE T X e f):Px T X tg e (XF f):=by
 intro r s G H R I E;refine k6 h r s G H R I ?_;obtain⟨K,L,N,A,C,B⟩:=E;refine⟨K,L,N,A,C,B.bind λd y k v u _ O x F b=>?_⟩;unfold aL at b;cases d with
 |ref n=>
  dsimp only at b;cases t:y[n]? with
  |none=>rw[t]at b;exact b.elim
  |some o=>
   rw[t]at b;obtain⟨a,rfl,hn,p⟩:=x.at F t;cases o with
   |Ma j=>
    obtain⟨vs,m,i⟩:=p;refine⟨a,vs,rfl,.inl m,λq _=>?_⟩;have l:Ext k u k (upd u a (.Hb q (.dK vs))):=Ww (Ha hn) m (λ_ z=>by cases z) (λ_ _ z=>by cases z);have c:bh T k (upd u a (.Hb q (.dK vs))) j vs:=bh.mono l i;have J:=x.write (o:=.Hb q (.dK vs)) (ob:=.ub j) hn ⟨q,vs,Og,c⟩ (λP z=>by rw[t]at z;cases z);exact Mb.here (R:=Nr T) (Mb.mono l b) J.2 (cQ Og c)
   |ub j=>
    obtain⟨w,vs,m,i⟩:=p;refine⟨a,vs,rfl,.inr ⟨w,m⟩,λq g=>?_⟩;rcases g with g|g
    ·rw[m]at g;cases g
    ·rw[zA g];exact Mb.here (R:=Nr T) b x (cQ g i)
   |_=>exact b.elim
 |_=>exact b.elim
end
section
variable{T:Tb}{X:Cx}
theorem nj{a:List Stmt}:Hn T X a Pi:=λpins s st H D I ⟨c,d,σ,_,_,b⟩=>b.elim
end
open Classical in
def eO(μ μ' b:List Addr):Prop:=(∃ r,μ'=μ++r)/\(∀ (n:Nat) (a:Addr),μ[n]?=some a->b[n]?=some a)/\∀ a∈b,a∈μ'
section
variable{T:Tb}{μ μ' μ2:List Addr}{H H':Hp}{σ σ':qb}
mutual
theorem SJ.down(e:eO μ μ' μ2):∀ (d:D) (v0 v:V),Rep T μ H d v0->Rep T μ' H' d v->Rep T μ2 H' d v
 | .Vb,v0,v,_,h=>by simpa [Rep]using h
 | .bl b,v0,v,_,h=>by simpa [Rep]using h
 | .int i,v0,v,_,h=>by simpa [Rep]using h
 | .str x,v0,v,_,h=>by simpa [Rep]using h
 | .tup ds,v0,v,c,h=>by
  rw[Rep]at h c ⊢;obtain⟨p,j,h1,f,h3⟩:=h;obtain⟨C,g,_,_,o⟩:=c;exact⟨p,j,h1,f,Vq.down e ds g j o h3⟩
 | .Qg ns,v0,v,_,h=>by rw[Rep]at h ⊢;exact h
 | .ref n,v0,v,c,h=>by
  rw[Rep]at h c ⊢;obtain⟨a,h1,f⟩:=h;obtain⟨b,_,c2⟩:=c;refine⟨a,h1,?_⟩;have h3:=e.2.1 _ _ c2;obtain⟨⟨r,rfl⟩,_⟩:=e;rw[xb (ra.mp c2).1]at f;rw[c2]at f;cases f;exact h3
 | .lst ds,v0,v,c,h=>by
  rw[Rep]at h c ⊢;obtain⟨a,j,h1,f,h3,h4⟩:=h;obtain⟨_,g,_,_,_,l⟩:=c;exact⟨a,j,h1,λz=>f (e.2.2 _ z),h3,Vq.down e ds g j l h4⟩
 | .Ma B ds,v0,v,c,h=>by
  rw[Rep]at h c ⊢;obtain⟨a,j,h1,f,h3,m,h4⟩:=h;obtain⟨_,g,_,_,_,_,l⟩:=c;exact⟨a,j,h1,λz=>f (e.2.2 _ z),h3,m,Vq.down e ds _ _ l h4⟩
 | .obj k ns ds,v0,v,c,h=>by
  rw[Rep]at h c ⊢;obtain⟨a,u,j,h1,f,h3,m,h4⟩:=h;obtain⟨_,_,g,_,_,_,_,l⟩:=c;exact⟨a,u,j,h1,λz=>f (e.2.2 _ z),h3,m,Vq.down e ds _ _ l h4⟩
 | .Jt k,v0,v,_,h=>by
  rw[Rep]at h ⊢;obtain⟨a,t,h1,f,h3,h4⟩:=h;exact⟨a,t,h1,λz=>f (e.2.2 _ z),h3,λn q=>let ⟨s,w,y,A⟩:=h4 n q;⟨s,w,λz=>y (e.2.2 _ z),A⟩⟩
 | .gt ss,v0,v,_,h=>by rw[Rep]at h ⊢;exact h
theorem Vq.down(e:eO μ μ' μ2):∀ (ds:List D) (a vs:List V),Ta T μ H ds a->Ta T μ' H' ds vs->Ta T μ2 H' ds vs
 |[],a,vs,_,h=>by simpa [Ta]using h
 |d::ds,a,vs,c,h=>by
  rw[Ta]at h c ⊢;obtain⟨v,r,h1,f,h3⟩:=h;obtain⟨i,g,_,c2,b⟩:=c;exact⟨v,r,h1,SJ.down e d i v c2 f,Vq.down e ds g r b h3⟩
end
end
end L4
namespace L4
open PySem PySem.Spec PyProof.Rows L2
section
variable{P:Aa}{w:Ia}{K:W.Frag}{mg:Str->Option Value}{base:Heap}{T:Tb}
end
section
variable{T:Tb}{X:Cx}
end
section
variable{T:Tb}{X:Cx}{tg:Ca}
end
section
variable{T:Tb}{X:Cx}
end
def NF(dds ds:List D):M (List D):=ret (ds++dds)
def kB(dds:List D)(fs:Ev->M (List D)):Ev->M (List D):=λa=>Wc (fs a) (NF dds)
section
variable{T:Tb}{X:Cx}
theorem zsd{k c:Nat}{ps:List Str}{a:List Value}{dvs:List V}{dds:List D}{fn:List D->M D}{x:Str}{p pos:re}{e:Ca}{d:List Ca}{fs:Ev->M (List D)}{f:Addr}{B:me}(hm:X.mg x=some (.ref (T.ca c)))(j:Mk T.K (T.ca c) f)(hb:Rr T.K B ps a)
  (C:ph X.prog X.w T.K X.mg X.base (Xk X.prog X.w) k f B ps (Eo T ps.length fn)) (P:ue dvs a) (m:∀ μ H,Ta T μ H dds dvs) (G:T.K=X.K) (O:jd (k+1) X.A) (hg:Gl X x)
  (J:FA T X (e::d) fs) (l:(x == ("__debug__" : Str))=false:=by decide) (L:pa (e::d) X.env=(false,Ib e X.env)::pa d X.env:=by rfl) (o:(nc pos (pa d X.env)).any (·.1)=false:=by rfl) :
  FE T X (.Call (.Name x p) (e::d) [] pos) (lq c ps.length fn (kB dds fs)):=by
 rw[G]at j C hb;intro g s u H Q I hq;obtain⟨μ,h,σ,F,t,N⟩:=hq;have n:Mb T (XE X u) (Rep T) μ H (Wc (fs h) (λds=>Wl c ps.length fn (ds++dds)) σ) Q:=by
  have:lq c ps.length fn (kB dds fs) h σ=Wc (fs h) (λds=>Wl c ps.length fn (ds++dds)) σ:=by
   unfold lq kB NF Wc;cases fs h σ<;>rfl
  rw[<-this];exact N
 refine wf (DA I hg hm ?_ l);refine W.callWith_K (h₀:=X.base) I.ok.mod.xw j.kp (be (J pos g s u H (λy b=>∀ x i,b x=none->b i=none->i≠x->Eo T ps.length fn (.ref x::(y++dvs)) (upd (upd b i (.own x)) x (.ins (T.ca c) i [])) (λv E=>v=.Vb/\Q (.ref x) E) (XE X u)) I ⟨μ,h,σ,F,t,n.bind λds Z Y y b _ e1 U R S=>?_⟩) λus s1 ⟨y,b,z,r,q⟩=>⟨z.mj,?_⟩) L o
 ·have:=pQ U (Ta.append R (m _ _)) S;rw[mf]at this;exact this
 ·exact YO (ds:=a) (dvs:=dvs) j C O hb P z r q
theorem fZ{k c:Nat}{ps:List Str}{j a:List Value}{dvs:List V}{dds:List D}{fn:List D->M D}{x:Str}{p pos:re}{e:Ca}{b:List Ca}{fs:Ev->M (List D)}{f:Addr}(hm:X.mg x=some (.ref (T.ca c)))(n:Mk T.K (T.ca c) f)(h:ot T X.prog X.w X.mg X.base k f ps j fn)(hd:a=[]\/a=j)(t:ue dvs a)(g:∀ μ H,Ta T μ H dds dvs)(m:T.K=X.K)(s:jd (k+1) X.A)(hg:Gl X x)
  (o:FA T X (e::b) fs) (d:(x == ("__debug__" : Str))=false:=by decide) (r:pa (e::b) X.env=(false,Ib e X.env)::pa b X.env:=by rfl) (i:(nc pos (pa b X.env)).any (·.1)=false:=by rfl) :
  FE T X (.Call (.Name x p) (e::b) [] pos) (lq c ps.length fn (kB dds fs)):=by
 obtain⟨u,hb,q,l⟩:=h;exact zsd hm n (by rcases hd with rfl|rfl<;>assumption) l t g m s hg o d r i
end
structure sC(P:Aa)(w:Ia)(K:W.Frag)(mg:Str->Option Value)(base:Heap)(k:Nat)(f:Addr)(fd:me)(ps:List Str)(sp:Sp):Prop where
 len:∀ vs H Q E,sp vs H Q E->vs.length=ps.length
 run:∀ (A:Fa) (outer:List Hg) (s:aa) (H:Hp) (args:Args) (us:List Value) (vs:List V) (Q:VK) (E:XK),jd k { A with handled:=none }->Sm P w K mg base A outer s H->xf s fd args (ps.zip us)->ue vs us->sp vs H Q E->
  codeAny (model P w) A (.call (.ref f) args) (CR (Xk P w) outer P w H s Q E) s
section
variable{P:Aa}{w:Ia}{K:W.Frag}{mg:Str->Option Value}{base:Heap}{ca:Nat->Addr}{tx:Tx}{T:Tb}{k:Nat}{f:Addr}{ps:List Str}
def oK(T:Tb)(P:Aa)(w:Ia)(mg:Str->Option Value)(base:Heap)(k:Nat)(x:Str)(ps:List Str)(fn:List D->M D):Prop:=
 ∃ f b,mg x=some (.ref f)/\W.keepIn T.K (.ref f)=true/\(∀ a:List Value,a.length=ps.length->bindArgs b ⟨a,[]⟩=pure (ps.zip a))/\sC P w T.K mg base k f b ps (Eo T ps.length fn)
theorem oK.hide{k:Nat}{x:Str}{ps:List Str}{fn:List D->M D}(h:oK T P w mg base k x ps fn):oK T P w mg base k x ps (L4.hide fn):=by rw[yr];exact h
end
section
variable{T:Tb}{X:Cx}
open Classical in
open Classical in
end
section
variable{T:Tb}{X:Cx}
open Classical in
theorem F4{c:List Addr}{f:Hp}{src:Src}{J:It}(h:Yx T c f src J):Nr T c f src.nx J:=λk H g i ex r=>by
 have q:=h k H g i ex r;cases e:src.nx i g with
 |none=>trivial
 |some o=>
  rw[e]at q;cases o with
  |none=>exact q
  |some d=>exact⟨q.1,λx j y=>let ⟨a,b⟩:=q.2 x j y;by subst a;exact⟨Ext.refl _ _,r,b⟩⟩
noncomputable def DL(s:Src):M NX:=ret s.nx
def toN(f:Ev->M Src):Ev->M NX:=λa=>Wc (f a) DL
theorem zu{tg a:Ca}{f:Ev->M Src}(h:FI T X tg a f):Px T X tg a (toN f):=by
 intro b s m H R I g;obtain⟨n,p,q,c,e,d⟩:=g;exact h b s m H R I ⟨n,p,q,c,e,d.bind λl r o J t _ u k j i=>Mb.here i k (F4 j)⟩
theorem GO{w f t:Ca}{F:List Ca}{scope:Scope}{pos G py:re}{x y z0:Str}{i:Nat}{M':List Str}{ix:List Nat}{src:Ev->M NX}{tg:D->Ev->Option Ev}{fi:Ev->M Bool}{fe:Ev->M D}
  (hN:X.N.Nodup) (hi:X.N[i]?=some y) (hx:Loc X.env.scope y)
  (hc:X.calm=true) (L:Qn X x M' ix scope) (W:Px T X t f src)
  (b4:∀ cl C s₀ H₀ ex,FG T (qu X (x::z0::M') scope cl C s₀ H₀ ex) t tg)
  (a7:∀ cl C s₀ H₀ ex,oD T (qu X (x::z0::M') scope cl C s₀ H₀ ex) F fi)
  (U:∀ cl C s₀ H₀ ex,FE T (qu X (x::z0::M') scope cl C s₀ H₀ ex) w fe)
  (hs:∀ y,Ug f X.env y=pure y:=by intro _;rfl)
  (b2:yi (.ListComp w [⟨t,f,F,0⟩] scope pos) (some (.Name y py)) G.line X.env=pure true:=by rfl)
  (hf:X.fn y=true\/X.env.scope.names.lookup y=some .local:=by first|exact .inl rfl|exact .inr rfl|assumption) :
  FS T X (.Assign [.Name y py] (.ListComp w [⟨t,f,F,0⟩] scope pos) G) (Af i (Ym src ix tg fi fe)):=by
 intro m s O H D I h;obtain⟨μ,ρ,σ,hE,hr,b0⟩:=h;have hp:Mb T (XE X O) (Rep T) μ H (Ym src ix tg fi fe ρ σ) (λv R=>D.nx (O.set i (some v)) R):=b0.xs hE λd a3 a2 v R _ e1 r1 q1 p1=>Mb.here (g:=Ao.nx (O.set i (some v))) p1 r1 ((hE.mono e1).set i q1);rw[exec_Assign_Name_used _ _ _ _ b2];refine ba (Yt (ba ?_));show wpAny _ X.A (do let _ <-comprehension (.ListComp w [⟨t,f,F,0⟩] scope pos) scope X.env _ (newList []) false (Ib f X.env) (some (yj (.Name y py) X.env))) _ _ s;refine ba (bc (du (use:=some (yj (.Name y py) X.env)) (Q:=λ_ s'=>SP X m D .next s') rfl hs (AH X.env scope (Xz I L)) L.kind (λy hy e=>?_)
  ?_) (λ_ s' hq=>xa (xa hq)) λ_ _ e=>e)
 ·have q:=Ub.mp L.names y hy;rw[e]at q;simp only[Vh,Fq,Tk]at q;exact eq_of_beq q
 have h1:=W m s O H (λJ u=>∃ nx j k,Ext μ H j u/\Rel T j u k/\Nr T j u nx J/\Mb T (XE X O) (Rep T) j u (Wc (Gj nx k.length tg fi fe 1001 0 (zv ix ρ)) (λ_=>ret (.ref k.length)) (k++[Ob.lst []])) (λv R=>D.nx (O.set i (some v)) R)) I
  ⟨μ,ρ,σ,hE,hr,hp.bind λnx a3 a2 J R _ e1 r1 q1 p1=>⟨nx,a2,a3,e1,r1,q1,p1⟩⟩
 refine be h1 λv s1 h2=>be h2 λb7 s2 h3=>?_;obtain⟨it,fp,tn,J,u,rfl,I2,TT,a1,f2,nx,j,k,a4,r2,so,p2⟩:=h3;refine Qe (Kl (FD L) (by intro y hy;simp at hy) (λY B E=>?_) L.kind);have P:=I2.yz (ys:=[]) (its:=[]) (t':=s2.toks) .nil (by simp);have S:u s2.heap.objs.size=none:=I2.dc.fresh (ya _);have r3:=r2.push (p:=s2.heap.objs.size) (o:=.lst []) (ob:=.lst []) S ⟨[],Og,Ta.nil⟩;have K:Ext j u (j++[s2.heap.objs.size]) (upd u s2.heap.objs.size (.lst [])):=Lw S;have b3:s2.heap.objs.size<(s2.heap.push { cls:=.type "list",data:=.seq ([]:List Value).toArray }).objs.size:=by rw[vg];exact Rc _
 have kp:∀ b o,(s2.heap.push { cls:=.type "list",data:=.seq ([]:List Value).toArray }).get? b=some o->Y.get? b=some o:=λb o e=>E.extBut b o (Ea (za e)) (ka _ e);have l:∀ b∈fp,Nm X m (upd u s2.heap.objs.size (.lst [])) b/\b<(s2.heap.push { cls:=.type "list",data:=.seq ([]:List Value).toArray }).objs.size:=λb hb=>by
  obtain⟨o,e,_⟩:=TT.obj 0 _ a1 b hb;have lt:=za e;exact⟨⟨by rw[Qd (Ea lt)];exact(f2 b hb).1,(f2 b hb).2⟩,Ds lt b3⟩
 refine AS (s3:={ s2 with heap:=s2.heap.push { cls:=.type "list",data:=.seq ([]:List Value).toArray },toks:=s2.toks }) (n:=k.length) (D0:=s2.heap.objs.size) hc L b4 a7 U P l B kp TT (TT.keep 0 _ _ a1 λb hb o e=>kp b o (ka _ e))
  (λμ H σ i ex r=>so μ H σ i (K.trans ex) r) ((hE.mono a4).mono K) r3 (by rw[<-r2.len];simp) (p2.mono K) (λs6 H' m6 a8 a5 b5 a9 V a6 hq=>?_)
 have I6:=L2.Inv.Dv (s':=s6) (ch:=fp) P a9 b5 V a6 (λb hb=>⟨(l b hb).1.2.2.2.1,(l b hb).1.2.1,(l b hb).1.2.2.2.2.1,(l b hb).1.2.2.2.2.2⟩);have a0:X.env.locals<(s2.heap.push { cls:=.type "list",data:=.seq ([]:List Value).toArray }).objs.size:=P.lt;have Z:∀ z c,X.env.cells.lookup z=some c->c<(s2.heap.push { cls:=.type "list",data:=.seq ([]:List Value).toArray }).objs.size:=λz c e=>by
  obtain⟨v,q⟩:=P.cell z c e;exact q.lt
 show wpAny _ X.A (yj (.Name y py) X.env (.ref s2.heap.objs.size)) _ _ s6;refine CB (ES (v:=.ref s2.heap.objs.size) I6 hN hi hx rfl (λs7 I7 ⟨a,sb,ha⟩=>?_) hf);have b6:a≠(s2.heap.push { cls:=.type "list",data:=.seq ([]:List Value).toArray }).objs.size:=by
  rcases ha with rfl|ha
  ·exact Ea a0
  ·exact Ea (Z _ _ ha)
 refine⟨m6,a8.sameBut sb (Ye b6),λh8 b1=>?_⟩;refine⟨O.set i (some (.ref s2.heap.objs.size)),H',?_,hq⟩;exact I7.turned (t':=s7.toks) (it:=(s2.heap.push { cls:=.type "list",data:=.seq ([]:List Value).toArray }).objs.size) (λb o hb e=>(b1.2 b hb).trans e) a5 (Cg a0) (.inr (cc P.sz (ya _))) (λz c e=>Ea (Z z c e)) (λp hp=>Ea (za (P.pin p hp).1))
end
section
variable{P:Aa}{w:Ia}
def KS(h0 h:Heap):Prop:=∀ b o a n,h0.get? b=some o->o.data=.seq a n->h.get? b=some o
theorem KS.keeps{h0 h h':Heap}{d:Addr}{o:Bc}{es ep}(x:KS h0 h)(g:h.get? d=some o)(hd:o.data=.dict es ep)(i:Of d h h'):KS h0 h':=λb j f n e a=>by
 have q:=x b j f n e a;have c:b≠d:=by
  rintro rfl;rw[g]at q;cases q;rw[hd]at a;exact nomatch a
 exact(i.2 b c).trans q
def NT(P:Aa)(w:Ia)(h0:Heap):Nat->Value->Int->Nat->Prop
 |0,v,x,n=>∃ k,(El P w).is k v=true/\x=(El P w).hash k/\n=1
 |d+1,v,x,n=>(∃ k,(El P w).is k v=true/\x=(El P w).hash k/\n=1)\/
  ∃ a o b m,∃ c:List (Value × Int × Nat),v=.ref a/\h0.get? a=some o/\o.cls=.type "tuple"/\o.data=.seq b m/\b.toList=c.map (·.1)/\(∀ p∈c,NT P w h0 d p.1 p.2.1 p.2.2)/\
   x=reduceHash (ZD (c.map (·.2.1)))/\n=(c.map (·.2.2)).sum+1
structure NQ(P:Aa)(w:Ia)(h0:Heap)(a0:Addr)(x0:Int)(n0:Nat)(t:Key):Prop where
 nt:NT P w h0 5 (.ref a0) x0 n0
 hd:∃ o v0 its m,h0.get? a0=some o/\o.cls=.type "tuple"/\o.data=.seq its m/\its.toList.head?=some v0/\(El P w).is t v0=true
end
section
variable{T:Tb}{X:Cx}
open Classical in
end
structure Tt(K:W.Frag)(C:Addr):Prop where
 f:W.findIn K (.ref C) "__eq__" = some (some (.builtin "object.__eq__"))
 o:W.mroIn K C (.type "object")=some true
section
variable{prog:Aa}{w:Ia}{K:W.Frag}{A:Fa}{E:Value->aa->Prop}{h:Heap}{g:Array Hs}{d:NL}{t:Nat}{os:OsState}{x y C D:Addr}{ox oy:Bc}
theorem tY{M:Ll}{r:Option Value}{name:Str}{Q:Option Value->aa->Prop}(X:K.In h)(f:W.findIn K (.ref C) name=some r)(a:h.get? x=some ox)(hc:ox.cls=.ref C)(hq:Q r ⟨h,g,d,t,os⟩):wpAny M A (specialOf (.ref x) name) Q E ⟨h,g,d,t,os⟩:=by
 unfold specialOf;repeat (first|(with_reducible refine dj a ?_;rw[hc])|(with_reducible refine W.Looks.at (W.looks_findIn X f) ?_)|wp_step)
 exact hq
theorem FQ(X:K.In h)(c:Tt K C)(m:h.get? x=some ox)(hc:ox.cls=.ref C)(hy:h.get? y=some oy)(i:x≠y){Q:Value->aa->Prop}(hq:Q .notImplemented ⟨h,g,d,t,os⟩) :
  wpAny (model prog w) A (call (.builtin "object.__eq__") [.ref x,.ref y]) Q E ⟨h,g,d,t,os⟩:=by
 refine Bs (codeAny_call_builtin LL.eq.plain F.cmpEntry_eq ?_);have j:=F.cmpArgs_eq (.ref x) (.ref y);have f:=W.looks_mroIn (M:=model prog w) X c.o;have b:ox.cls≠.type "tuple":=by rw[hc];intro e;cases e
 simp only[checkBuiltinCall,F.cmpKind_eq,F.cmpSplit_eq];refine ba ?_;unfold isInstance;have hL:∀ (k:Unit->aa->Prop),k () ⟨h,g,d,t,os⟩->wpAny (model prog w) A (match vr "object.__eq__" with|some sig=>Ip "object.__eq__" sig ⟨[.ref x,.ref y],[]⟩|none=>pure ()) k E ⟨h,g,d,t,os⟩:=λk l=>by
  cases a:vr "object.__eq__" with
  |none=>exact xa l
  |some sig=>
   simp only[argsOk,a]at j;have n:Ip "object.__eq__" sig ⟨[.ref x,.ref y],[]⟩=pure ():=j;show wpAny _ A (Ip "object.__eq__" sig ⟨[.ref x,.ref y],[]⟩) k E _;rw[n];exact xa l
 repeat (first|(with_reducible refine dj m ?_;rw[hc])|(with_reducible refine W.Looks.at f ?_)|(with_reducible refine Xv i m hy b ?_)|wp_step)
 exact hq
theorem oQ(X:K.In h)(c:Tt K C)(b:h.get? x=some ox)(hc:ox.cls=.ref C)(hy:h.get? y=some oy)(a:x≠y){Q:Option Value->aa->Prop}(hq:Q none ⟨h,g,d,t,os⟩) :
  wpAny (model prog w) A (tryCompare (.ref x) "__eq__" (.ref y)) Q E ⟨h,g,d,t,os⟩:=by
 simp only[tryCompare];refine ba ?_;simp only[callSpecialIfBound?,bindSpecialIfBound?];refine Td (ba (ba (tY X c.f b hc ?_)));simp only[LL.eq.bind];refine ba (wpAny_askSetting (wpAny_ite ?_));split
 ·exact ba (xa (xa (ba (FQ X c b hc hy a (xa (xa hq))))))
 ·exact Zf (ba (xa (xa (ba (FQ X c b hc hy a (xa (xa hq)))))))
theorem S6(X:K.In h)(c:Tt K C)(l:Tt K D)(m:W.mroIn K D (.ref C)=some false)(i:h.get? x=some ox)(hc:ox.cls=.ref C)(hy:h.get? y=some oy)(a:oy.cls=.ref D)(f:C≠D)(n:A.units<cLine){Q:Value->aa->Prop}(hq:Q (.bool false) ⟨h,g,d,t,os⟩) :
  wpAny (model prog w) A (Wb .Eq (.ref x) (.ref y)) Q E ⟨h,g,d,t,os⟩:=by
 have b:x≠y:=λe=>by
  subst e;rw[i]at hy;cases hy;rw[hc]at a;cases a;exact f rfl
 have k:ox.cls≠.type "tuple":=by rw[hc];intro e;cases e
 have hL:=W.looks_mroIn (M:=model prog w) X m;have j:(jb C != jb D)=true:=by simp[f]
 show wpAny (model prog w) A (jy .Eq (.ref x) (.ref y)) Q E _;simp only[jy,cmpInfo_Eq,oneThing_ref];repeat (first|with_reducible refine wpAny_cRoomFor n ?_|(with_reducible refine dj i ?_;rw[hc])|(with_reducible refine dj hy ?_;rw[a])|(rw[j,ia rfl];with_reducible refine ba (W.Looks.at hL ?_))|(with_reducible refine W.Looks.at hL ?_)|(with_reducible refine oQ X c i hc hy b ?_)|(with_reducible refine oQ X l hy a i (Ye b) ?_)|(with_reducible refine Xv b i hy k ?_)|wp_step)
 exact hq
end
def fN(K:W.Frag):R2:=λv u H Q=>∃ x y C D a b fs c,v=.ref x/\u=.ref y/\H x=some (.ins C a fs)/\H y=some (.ins D b c)/\Tt K C/\Tt K D/\W.mroIn K D (.ref C)=some false/\C≠D/\Q (.bl false) H
def QE(K:W.Frag)(ca:Nat->Addr)(l:List (Nat × Nat)):Prop:=∀ p∈l,Tt K (ca p.1)/\Tt K (ca p.2)/\W.mroIn K (ca p.2) (.ref (ca p.1))=some false/\ca p.1≠ca p.2
def zC(l:List (Nat × Nat))(x y:D):M D:=λa=>match Hj a x,Hj a y with
 |some (c,_),some (d,_)=>if (c,d)∈l then .ok (.bl false) a else .bad
 |_,_=>.bad
theorem FY{K:W.Frag}{ca:Nat->Addr}:QE K ca []:=λ_ h=>nomatch h
theorem GH{K:W.Frag}{ca:Nat->Addr}{c d:Nat}{l:List (Nat × Nat)}(a:Tt K (ca c))(b:Tt K (ca d))(m:W.mroIn K (ca d) (.ref (ca c))=some false)(n:ca c≠ca d)(r:QE K ca l):QE K ca ((c,d)::l):=λp e=>by
 rcases ib.mp e with rfl|e
 ·exact⟨a,b,m,n⟩
 ·exact r p e
section
variable{T:Tb}{X:Cx}
theorem sX(B:X.A.units+9<cLine):Bi X (Wb .Eq) (fN X.K):=by
 intro b s E H v u o z Q I r p h;obtain⟨x,y,C,D,f,i,fs,j,rfl,rfl,h1,k,c,e,m,a,q⟩:=h;obtain rfl:o=jb x:=r;obtain rfl:z=jb y:=p;obtain⟨_,_,_,n,_⟩:=(show qj X.prog X.w H s.heap x (.ins C f fs)from I.dc x _ h1)
 obtain⟨_,_,_,hy,_⟩:=(show qj X.prog X.w H s.heap y (.ins D i j)from I.dc y _ k)
 have l:=I.mj;obtain⟨h,g,d,t,os⟩:=s;exact S6 l c e m n rfl hy rfl a (by omega) ⟨.bl false,H,I,rfl,q⟩
theorem O3{K:W.Frag}{l:List (Nat × Nat)}(ht:QE K T.ca l):gm T (fN K) (zC l):=by
 intro E B H g x y u v Q r q p h;unfold zC at h;cases e:Hj g x with
 |none=>rw[e]at h;exact h.elim
 |some i=>
  cases f:Hj g y with
  |none=>rw[e,f]at h;exact h.elim
  |some cg=>
   obtain⟨c,fs⟩:=i;obtain⟨d,A⟩:=cg;rw[e,f]at h;dsimp only at h;by_cases hm:(c,d)∈l
   ·rw[ia hm]at h;obtain⟨a,j,n,rfl,h1,_⟩:=Sy r q e;obtain⟨b,k,o,rfl,m,_⟩:=Sy r p f;obtain⟨s,t,w,z⟩:=ht (c,d) hm;exact⟨a,b,_,_,j,k,n,o,rfl,rfl,h1,m,s,t,w,z,Mb.here h r (by rw[Rep])⟩
   ·rw[qa hm]at h;exact h.elim
end
end L4
namespace L4
open PySem PyProof.Rows PySem.W L2
def uB:D->Option (List D)
 | .gt ss=>some (ss.map D.str)
 | .tup ds=>some ds
 |_=>none
def TC(x y:D):M D:=λa=>match uB x,uB y with
 |some xs,some c=>(match Zo (ij a 0) xs c with
  |some b=>.ok (.bl b) a
  |none=>.bad)
 |_,_=>.bad
theorem jP{T:Tb}{X:Cx}{μ:List Addr}{H:Hp}{x:D}{v:V}{xs:List D}(c:T.K=X.K)(h:uB x=some xs)(a:Rep T μ H x v):∃ p vs,v=.ref p/\Ah X.K H p vs/\Ta T μ H xs vs:=by
 cases x with
 |gt ss=>
  cases h;rw[Rep]at a;obtain⟨p,rfl,h1⟩:=a;rw[c]at h1;exact⟨p,_,rfl,.inr h1,mI ss⟩
 |tup ds=>
  cases h;rw[Rep]at a;obtain⟨p,vs,rfl,h1,b⟩:=a;exact⟨p,vs,rfl,Ah.of h1,b⟩
 |_=>cases h
theorem n8{T:Tb}{X:Cx}(f:T.K=X.K)(S:X.A.units+9<cLine):Bi X (Wb .Eq) (rD T TC):=by
 intro c s L H v u g W Q I J G h;obtain⟨E,μ,R,x,y,r,t,hy,a⟩:=h;unfold TC at a;cases ex:uB x with
 |none=>rw[ex]at a;exact a.elim
 |some xs=>
  cases d:uB y with
  |none=>rw[ex,d]at a;exact a.elim
  |some P=>
   rw[ex,d]at a;dsimp only at a;cases e:Zo (ij R 0) xs P with
   |none=>rw[e]at a;exact a.elim
   |some b=>
    rw[e]at a;obtain⟨p,Y,rfl,h1,C⟩:=jP f ex t;obtain⟨q,Z,rfl,o,D⟩:=jP f d hy;cases J;cases G;obtain⟨U,z,M,_⟩:=L2.Inv.tuple I h1;obtain⟨V,B,N,_⟩:=L2.Inv.tuple I o;obtain⟨n,g2⟩:=qL (A:=X.A.in1) (λx y v w g O b i j k l m=>VE I r 0 X.A.in1 x y v w g O b (by show X.A.units+1+0+1<cLine;omega) i j k l m) C D z B e;have F:Lh X.A s (.ref p) (.ref q) b:=by rw[g2];exact .tuples M N (by omega) n
    exact F X.prog X.w X.xe (EP X c L Q) ⟨.bl b,H,I,rfl,Mb.here a r (by rw[Rep])⟩
end L4
set_option maxHeartbeats 0
namespace L4
open PySem PySem.Spec PyProof.Rows L2
section
variable{T:Tb}{X:Cx}{P:Aa}{w:Ia}{K:W.Frag}{mg:Str->Option Value}{base:Heap}{ca:Nat->Addr}{tx:Tx}
theorem Zd{N Q:List Str}{sc:Scope}(a:sc.kind=.function:=by rfl)(b:sc.isCoroutine=false:=by rfl)(c:sc.isGenerator=false:=by rfl)(h:N.Nodup/\N.take Q.length=Q/\(∀ x∈Q,sc.names.lookup x=some .local\/sc.names.lookup x=some .cell)/\∀ y∈sc.names,y.2≠.free:=by decide +kernel):ua N Q sc:=⟨a,b,c,h.1,h.2.1,h.2.2.1,h.2.2.2⟩
theorem ae{k n:Nat}{ps:List Str}{fn:List D->M D}{x:Str}{p pos:re}{e:Ca}{a:List Ca}{fs:Ev->M (List D)}(h:zf T X.prog X.w X.mg X.base k x ps fn)(j:jd n X.A)(f:FA T X (e::a) fs)(d:T.K=X.K:=by rfl)(i:k<=n:=by decide)(hg:Gl X x:=by exact rfl)(b:(x == ("__debug__" : Str))=false:=by decide)(g:pa (e::a) X.env=(false,Ib e X.env)::pa a X.env:=by rfl)(c:(nc pos (pa a X.env)).any (·.1)=false:=by rfl):FE T X (.Call (.Name x p) (e::a) [] pos) (md ps.length fn [] fs):=TY h d (j.mono i) hg f b g c
theorem fmt{pl:uo Bool}{k n:Nat}{tb:Mt}{ps:List Str}{m:Str}{o e:Ca}{b:List Ca}{f:Ev->M D}{fs:Ev->M (List D)}{pos a:re}(h:Bh T X.prog X.w X.mg X.base k m ps tb)(q:jd n X.A)(l:FE T X o f)(j:FA T X (e::b) fs)(i:T.K=X.K:=by rfl)(p:k<=n:=by decide)(d:pa (e::b) X.env=(false,Ib e X.env)::pa b X.env:=by rfl)(c:(nc pos (pa b X.env)).any (·.1)=false:=by rfl)
  (ht:Ib (.Call (.Attribute o m a) (e::b) [] pos) X.env=(do
   let g <-Ib o X.env
   Dh a.atName
   let (f,first) <-ve [g] (yh g m pl)
   Nl pos f first (nc pos (pa (e::b) X.env)) (Wg pos (Re [] X.env))):=by rfl):FE T X (.Call (.Attribute o m a) (e::b) [] pos) (He tb ps.length m f fs):=PV i l h (q.mono p) j d c ht
theorem Zq{pl:uo Bool}{k n:Nat}{tb:Mt}{ps:List Str}{m:Str}{o:Ca}{f:Ev->M D}{pos a:re}(h:Bh T X.prog X.w X.mg X.base k m ps tb)(g:jd n X.A)(d:FE T X o f)(c:T.K=X.K:=by rfl)(e:k<=n:=by decide)
  (ht:Ib (.Call (.Attribute o m a) [] [] pos) X.env=(do
   let b <-Ib o X.env
   Dh a.atName
   let (f,first) <-ve [b] (yh b m pl)
   Nl pos f first (nc pos (pa [] X.env)) (Wg pos (Re [] X.env))):=by rfl):FE T X (.Call (.Attribute o m a) [] [] pos) (He tb ps.length m f Ba):=W5 c d h (g.mono e) ht
theorem Cc{a b:Ca}{c d:Ev->M D}{pos:re}(f:FE T X a c)(hb:FE T X b d)(e:T.K=X.K:=by rfl)(g:IJ b:=by exact λ_ _=>rfl):FE T X (.Subscript a b pos) (Ga Va c d):=CW v9 (w1 e) f hb g
theorem bn{k:Nat}{a b:Ca}{c d:Ev->M D}{pos:re}(f:jd k X.A)(e:FE T X a c)(hb:FE T X b d):FE T X (.Compare a [.Eq] [b] pos) (Ga oEq c d):=vx (wm (kf f)) uh e hb (ng _)
theorem Tl{a b:Ca}{c d:Ev->M D}{pos:re}(f:FE T X a c)(hb:FE T X b d)(e:T.K=X.K:=by rfl):FE T X (.BinOp a .Add b pos) (Ga Ch c d):=rk (ycq e) uh f hb
theorem Hc{e:Ca}{f:Str}{g:Ev->M D}{pos:re}{cs:List Nat}(hc:Yk T cs f)(b:FE T X e g)(a:T.K=X.K:=by rfl)(hb:Ud e f X.env (Ib e X.env)=Ib e X.env:=by rfl):FE T X (.Attribute e f pos) (Yb (Bb cs f) g):=Q3 a hc b hb
theorem ud{e:Ca}{f:Ev->M D}{pos:re}(a:FE T X e f):Hn T X [.Return (some e) pos] (pd f):=qi (VX a)
theorem Ka{e:Ca}{fe:Ev->M D}(a:FE T X e fe)(b:pa [e] X.env=(false,Ib e X.env)::pa [] X.env:=by rfl):FA T X [e] (ja fe Ba):=Pa a Vl b
theorem kg{i:Nat}{x:Str}{e:Ca}{f:Ev->M D}{pos a:re}(hN:X.N.Nodup)(b:FE T X e f)(d:X.N[i]?=some x:=by rfl)(h:Loc X.env.scope x:=by exact Or.inl rfl)(g:yi e (some (.Name x a)) pos.line X.env=pure false:=by rfl)(c:X.fn x=true\/X.env.scope.names.lookup x=some .local:=by first|exact .inl rfl|exact .inr rfl|assumption):FS T X (.Assign [.Name x a] e pos) (Af i f):=RP hN d h b g c
theorem Hh{i:Nat}{x:Str}{pos:re}(hN:X.N.Nodup)(b:X.N[i]?=some x:=by rfl)(c:Loc X.env.scope x:=by exact Or.inl rfl)(a:X.fn x=true\/X.env.scope.names.lookup x=some .local:=by first|exact .inl rfl|exact .inr rfl|assumption):FG T X (.Name x pos) (Ld i):=OH hN b c a
theorem Sg{j k:Nat}{m:Str}{ps:List Str}{tb:Mt}{c:Nat}{f:Addr}{fn:List D->M D}(h1:wl T.K (T.ca c))(a:Cd T.K (T.ca c) m f)(h3:Wf T P w mg base j f ps fn)(h:Bh T P w mg base k m ps tb)(hj:j<=k:=by decide):Bh T P w mg base k m ps ((c,fn)::tb):=ybs h1 a h3 hj h
theorem Fh{k n:Nat}{x:Str}{b:Stmt}{ps N:List Str}{g:Ev->M Fl}(h:Jg K mg x b ps)(S:ua N ps (kc b))
  (hb:∀ {f:Addr} {a:Value} {A:Fa} {outer:List Hg} {s:aa} {H:Hp} {E:XK},jd k (A.deeper (ag x (kc b) s.heap.objs.size f a))->Hn ⟨K,ca,tx⟩ (zp (Xk P w) P w K mg base N x (kc b) f a A outer s H E) (Yi b) g) (hn:N.length=n:=by rfl) :
  zf ⟨K,ca,tx⟩ P w mg base (k+1) x ps (L4.hide λc=>L4.Hb (run n g c)):=hn ▸ zf.hide (zf.Hb (kK h S λ_ _ _ _ _ _ _=>hb))
theorem nk{k n:Nat}{C f:Addr}{x qual:Str}{b:Stmt}{ps N:List Str}{g:Ev->M Fl}(h:Sd K C x qual b ps f)(S:ua N ps (kc b))
  (hb:∀ {a:Value} {A:Fa} {outer:List Hg} {s:aa} {H:Hp} {E:XK},jd k (A.deeper (ag qual (kc b) s.heap.objs.size f a))->Hn ⟨K,ca,tx⟩ (zp (Xk P w) P w K mg base N qual (kc b) f a A outer s H E) (Yi b) g) (hn:N.length=n:=by rfl) :
  Wf ⟨K,ca,tx⟩ P w mg base (k+1) f ps (L4.hide λc=>L4.Hb (run n g c)):=hn ▸ Wf.hide (Wf.Hb (zM h S λ_ _ _ _ _ _=>hb))
theorem xr{k n:Nat}{C f:Addr}{x qual:Str}{b:Stmt}{ps N:List Str}{g:Ev->M Fl}(h:Sd K C x qual b ps f)(S:ua N ps (kc b))
  (hb:∀ {a:Value} {A:Fa} {outer:List Hg} {s:aa} {H:Hp} {E:XK},jd k (A.deeper (ag qual (kc b) s.heap.objs.size f a))->Hn ⟨K,ca,tx⟩ (zp (Xk P w) P w K mg base N qual (kc b) f a A outer s H E) (Yi b) g) (hn:N.length=n:=by rfl) :
  Wf ⟨K,ca,tx⟩ P w mg base (k+1) f ps (L4.hide (run n g)):=hn ▸ Wf.hide (zM h S λ_ _ _ _ _ _=>hb)
end
end L4
namespace K47
open PySem PySem.Spec PyProof.Rows L2 L4
noncomputable def top(i:Nat):Stmt:=PySem.Challenge.pw_sidebook_k47_nothing_behind_a_laying.main.body.getD i (.Pass ⟨0,0,0,0⟩)
def HE(K:W.Frag):Tab:=⟨vy K "paper",289,27, "paper.<locals>.<lambda>"⟩
def tx(K:W.Frag):Tx:=⟨[HE K],Bx K⟩
theorem dM(K:W.Frag):HE K∈(tx K).Zn:=(.head _)
theorem oY(K:W.Frag):∀ t∈(tx K).Zn,∃ x∈[("paper" : Str)],t.P=vy K x:=by
 intro t ht;have h:t∈[HE K]:=ht;simp only[ib,Te,wn]at h;rcases h with rfl
 ·exact⟨"paper",by simp,rfl⟩
structure Txt(K:W.Frag)(mg:Str->Option Value)(ca:Nat->Addr):Prop where
 Pb:Jg K mg "_law_cell_at" (top 108) ["_law_script","_law_k"]
 Bg:Jg K mg "is_whole" (top 8) ["thing"]
 Jb:Jg K mg "is_between" (top 9) ["thing","least","most"]
 Cf:Jg K mg "check_span" (top 84) ["hand","every","pots"]
 Ab:Sd K (ca 10) "learn" "Keeper.learn" (ce (top 92) 2) ["self","words"] (ca 28)
 vd:Sd K (ca 10) "hold" "Keeper.hold" (ce (top 92) 1) ["self","account","claim","seen"] (ca 27)
 Ag:Jg K mg "are_ties" (top 29) ["thing"]
 Ef:Jg K mg "are_shares" (top 28) ["thing"]
 tf:Jg K mg "is_number" (top 14) ["thing"]
 je:Jg K mg "is_stand" (top 30) ["thing"]
 Aj:FH K mg "stand" (top 31) ["number","shares","ties"] [.none]
 Ci:Jg K mg "first" (top 32) ["left","right"]
 Pj:Sd K (ca 5) "__init__" "Account.__init__" (ce (top 55) 0) ["self","pot","side","mine","grant","may","strikes"] (ca 16)
 we:Jg K mg "first_account" (top 59) ["pot","side","left","right"]
 Wq:kt K (ca 10) "__init__" "Keeper.__init__" (ce (top 92) 0) ["self","hand","every","pots","words"] [.none] (ca 26)
 zg:Jg K mg "is_hand" (top 11) ["thing"]
 df:Jg K mg "makes_a_pot" (top 101) ["thing"]
 Oe:Jg K mg "checked_pots" (top 102) ["pots"]
 fo:Sd K (ca 11) "__init__" "Claim.__init__" (ce (top 94) 0) ["self","whole"] (ca 50)
 ge:Jg K mg "whole_of" (top 103) ["made"]
 Nq:Sd K (ca 15) "__init__" "Book.__init__" (ce (top 106) 0) ["self","pots"] (ca 63)
 Xf:Jg K mg "_law_new" (top 110) ["_law_one","_law_side","_law_by"]
 eb:Sd K (ca 10) "account" "Keeper.account" (ce (top 92) 6) ["self","pot"] (ca 32)
 xg:Jg K mg "is_side" (top 10) ["thing"]
 rh:Jg K mg "is_pot" (top 16) ["thing"]
 ie:Jg K mg "is_of_a_side" (top 46) ["thing"]
 ee:Jg K mg "is_thing" (top 47) ["thing"]
 Vf:Jg K mg "is_agree" (top 49) ["thing"]
 sf:Jg K mg "is_strike" (top 50) ["thing"]
 eh:Jg K mg "is_word" (top 12) ["thing"]
 Ec:Jg K mg "has_its_parts" (top 51) ["letter"]
 Kb:Jg K mg "is_letter" (top 52) ["thing"]
 db:Sd K (ca 10) "holds" "Keeper.holds" (ce (top 92) 12) ["self","pot"] (ca 38)
 ec:Sd K (ca 6) "word" "Calm.word" (ce (top 56) 0) ["self"] (ca 19)
 Nb:Sd K (ca 7) "word" "Offered.word" (ce (top 57) 0) ["self"] (ca 21)
 Qb:Sd K (ca 8) "word" "Waiting.word" (ce (top 58) 0) ["self"] (ca 23)
 Gg:Jg K mg "deals" (top 33) ["one"]
 yd:Jg K mg "is_stand_of" (top 34) ["thing","coin"]
 wa:Sd K (ca 5) "agree_of" "Account.agree_of" (ce (top 55) 1) ["self","side","one"] (ca 17)
 fh:Jg K mg "offered" (top 60) ["account","shares","ties"]
 Xe:Jg K mg "read_stand" (top 67) ["view","pot","one"]
 bg:Jg K mg "read_pots" (top 68) ["view"]
 Ce:Jg K mg "all_choices" (top 69) ["readings"]
 Me:Jg K mg "lots_by_word" (top 71) ["reads"]
 gi:Jg K mg "sum_of" (top 76) ["reads","by_word","fates","every"]
 Be:Jg K mg "least_paper" (top 77) ["reads","chosen","every"]
 Tc:Jg K mg "chosen_readings" (top 70) ["readings","chosen"]
 Cj:tH K mg "paper" (top 78) ["view"]
 Nh:Jg K mg "worth" (top 79) ["view"]
 dg:Jg K mg "with_more" (top 35) ["shares","side","amount"]
 Ae:Jg K mg "stands_told" (top 85) ["account","claim"]
 Yr:Sd K (ca 9) "__init__" "View.__init__" (ce (top 63) 0) ["self","every","look","words","pots"] (ca 25)
 Mc:Sd K (ca 10) "words" "Keeper.words" (ce (top 92) 3) ["self"] (ca 29)
 pc:Sd K (ca 10) "view_by" "Keeper.view_by" (ce (top 92) 7) ["self","accounts"] (ca 33)
 Yd:Sd K (ca 10) "view" "Keeper.view" (ce (top 92) 8) ["self"] (ca 34)
 lc:Sd K (ca 10) "worth" "Keeper.worth" (ce (top 92) 9) ["self"] (ca 35)
 qc:Sd K (ca 10) "is_good" "Keeper.is_good" (ce (top 92) 11) ["self","account","allowance"] (ca 37)
 Ic:Sd K (ca 10) "take_ask" "Keeper.take_ask" (ce (top 92) 16) ["self","letter"] (ca 42)
 Le:Jg K mg "is_following" (top 54) ["thing","one"]
 na:Sd K (ca 5) "strike_of" "Account.strike_of" (ce (top 55) 2) ["self","side","one"] (ca 18)
 Wd:Sd K (ca 6) "taken" "Calm.taken" (ce (top 56) 1) ["self","letter"] (ca 20)
 Nc:Sd K (ca 7) "taken" "Offered.taken" (ce (top 57) 1) ["self","letter"] (ca 22)
 Oc:Sd K (ca 8) "taken" "Waiting.taken" (ce (top 58) 1) ["self","letter"] (ca 24)
 gc:Sd K (ca 10) "is_as_asked" "Keeper.is_as_asked" (ce (top 92) 17) ["self","letter"] (ca 43)
 ic:Sd K (ca 10) "take_step" "Keeper.take_step" (ce (top 92) 18) ["self","letter"] (ca 44)
 La:Sd K (ca 10) "take" "Keeper.take" (ce (top 92) 15) ["self","letter"] (ca 41)
 Bd:Jg K mg "_law_fitting" (top 109) ["_law_account","_law_new_here"]
 Gc:Sd K (ca 10) "wish" "Keeper.wish" (ce (top 92) 13) ["self","wish"] (ca 39)
 ze:Sd K (ca 15) "today" "Book.today" (ce (top 106) 2) ["self"] (ca 65)
 Db:Sd K (ca 15) "check_pot" "Book.check_pot" (ce (top 106) 1) ["self","pot"] (ca 64)
 Jd:Sd K (ca 12) "told" "Held.told" (ce (top 95) 0) ["self"] (ca 51)
 Dd:Sd K (ca 13) "told" "Laid.told" (ce (top 96) 1) ["self"] (ca 55)
 Xc:Sd K (ca 14) "told" "Taken.told" (ce (top 97) 1) ["self"] (ca 60)
 Kc:Sd K (ca 15) "told" "Book.told" (ce (top 106) 8) ["self","pot"] (ca 71)
 Pc:Sd K (ca 15) "shown_for" "Book.shown_for" (ce (top 106) 9) ["self","pot"] (ca 72)
 Qc:Sd K (ca 15) "all_shown" "Book.all_shown" (ce (top 106) 13) ["self"] (ca 76)
 Uc:Sd K (ca 15) "made_of" "Book.made_of" (ce (top 106) 14) ["self"] (ca 77)
 Fc:Jg K mg "is_given_up" (top 87) ["account","claim"]
 We:Jg K mg "check_side" (top 105) ["side"]
 Ve:Jg K mg "other_side" (top 17) ["side"]
 Vd:Sd K (ca 13) "waits" "Laid.waits" (ce (top 96) 2) ["self","day"] (ca 56)
 wc:Sd K (ca 13) "may_strike" "Laid.may_strike" (ce (top 96) 4) ["self","pot","side","day","thing"] (ca 58)
 Wr:Sd K (ca 14) "__init__" "Taken.__init__" (ce (top 97) 0) ["self","whole","side"] (ca 59)
 Xd:Sd K (ca 15) "strike" "Book.strike" (ce (top 106) 7) ["self","pot","side","thing"] (ca 70)
 Fb:Sd K (ca 10) "strike_all" "Keeper.strike_all" (ce (top 92) 20) ["self","book"] (ca 46)
 gh:Jg K mg "ties_to" (top 86) ["account","claim"]
 Jc:Sd K (ca 10) "show_all" "Keeper.show_all" (ce (top 92) 22) ["self","book"] (ca 48)
 eg:Jg K mg "is_agreed" (top 104) ["pot","side","stand","agreement"]
 Gd:Sd K (ca 15) "may_lie" "Book.may_lie" (ce (top 106) 5) ["self","pot","side","stand","agreement"] (ca 68)
 ms:Sd K (ca 13) "__init__" "Laid.__init__" (ce (top 96) 0) ["self","whole","side","stand","day","wait"] (ca 54)
 qd:kt K (ca 15) "lay" "Book.lay" (ce (top 106) 6) ["self","pot","side","stand","agreement"] [.none] (ca 69)
 Zb:Sd K (ca 10) "lay_all" "Keeper.lay_all" (ce (top 92) 23) ["self","book"] (ca 49)
 Wa:Sd K (ca 10) "look" "Keeper.look" (ce (top 92) 19) ["self","book"] (ca 45)
 Fd:Sd K (ca 10) "given" "Keeper.given" (ce (top 92) 5) ["self"] (ca 31)
 uf:Jg K mg "_law_seen" (top 111) ["_law_keeper"]
 Se:Jg K mg "_law_shut" (top 112) ["_law_keeper","_law_new_here","_law_letter","_law_number"]
 Df:Jg K mg "_law_taken" (top 113) ["_law_keeper","_law_book","_law_side","_law_coins"]
 Cp:Jg K mg "law" (top 114) ["_law_script"]
 tj:mg "worth_worth" = mg "worth"
 XB:mg "all" = none
 bA:mg "bool" = none
 Sr:mg "dict" = none
 Zl:mg "enumerate" = none
 wC:mg "int" = none
 Vc:mg "isinstance" = none
 sg:mg "len" = none
 oj:mg "list" = none
 Vy:mg "min" = none
 Xs:mg "range" = none
 RC:mg "set" = none
 fr:mg "sorted" = none
 Uy:mg "str" = none
 Tu:mg "sum" = none
 Ai:mg "tuple" = none
 jD:mg "zip" = none
 Iv:JI K mg "HELD" ["held"]
 Ph:∃ t,mg "MOST_COIN" = some (.int 1000000000000 t)
 Fk:∃ t,mg "MOST_EVERY" = some (.int 50 t)
 Ul:∃ t,mg "MOST_HAND" = some (.int 3 t)
 Tj:∃ t,mg "MOST_NUMBER" = some (.int 1000000 t)
 Di:∃ t,mg "MOST_POT" = some (.int 2 t)
 dh:∃ t,mg "MOST_SHARE" = some (.int 2000000000000 t)
 Pl:∃ t,mg "MOST_TIES" = some (.int 6 t)
 Ql:∃ t,mg "MOST_WAIT" = some (.int 100 t)
 Sl:∃ t,mg "MOST_WORD" = some (.int 59 t)
 Cb:L2.wl K (ca 10)
 On:L2.jg K (ca 10) "hand"
 Dm:L2.jg K (ca 10) "every"
 dn:L2.wl K (ca 9)
 Oo:L2.jg K (ca 9) "every"
 Oj:L2.jg K (ca 10) "last_look"
 Ik:L2.jg K (ca 9) "last_look"
 Fn:L2.jg K (ca 10) "gave"
 zm:L2.jg K (ca 10) "known"
 Uo:L2.jg K (ca 9) "known"
 Vj:L2.jg K (ca 10) "accounts"
 Ue:L2.wl K (ca 15)
 Nn:L2.jg K (ca 15) "claims"
 zl:L2.jg K (ca 10) "claims"
 ko:L2.jg K (ca 10) "seen"
 Hm:L2.jg K (ca 10) "asked"
 Lj:L2.jg K (ca 10) "finishing"
 Fm:L2.Cd K (ca 10) "learn" (ca 28)
 de:L2.wl K (ca 8)
 Mn:L2.jg K (ca 8) "pot"
 Pd:L2.wl K (ca 7)
 Ln:L2.jg K (ca 7) "pot"
 Tf:L2.wl K (ca 6)
 dr:L2.jg K (ca 6) "pot"
 vf:L2.wl K (ca 5)
 En:L2.jg K (ca 5) "pot"
 Bn:L2.Cd K (ca 10) "hold" (ca 27)
 Cn:L2.wl K (ca 14)
 Ko:L2.jg K (ca 14) "side"
 Th:L2.wl K (ca 13)
 dq:L2.jg K (ca 13) "side"
 sm:L2.jg K (ca 8) "side"
 Um:L2.jg K (ca 7) "side"
 Yp:L2.jg K (ca 6) "side"
 Mm:L2.jg K (ca 5) "side"
 km:L2.jg K (ca 8) "mine"
 jm:L2.jg K (ca 7) "mine"
 kq:L2.jg K (ca 6) "mine"
 im:L2.jg K (ca 5) "mine"
 Al:L2.jg K (ca 8) "grant"
 ul:L2.jg K (ca 7) "grant"
 bp:L2.jg K (ca 6) "grant"
 Dl:L2.jg K (ca 5) "grant"
 An:L2.jg K (ca 8) "may"
 ao:L2.jg K (ca 7) "may"
 gr:L2.jg K (ca 6) "may"
 Tn:L2.jg K (ca 5) "may"
 ek:L2.jg K (ca 8) "strikes"
 ak:L2.jg K (ca 7) "strikes"
 mm:L2.jg K (ca 6) "strikes"
 Zj:L2.jg K (ca 5) "strikes"
 Jr:mg "Calm" = some (.ref (ca 6))
 Lp:L2.Mk K (ca 6) (ca 16)
 Qu:mg "Keeper" = some (.ref (ca 10))
 Rt:L2.Mk K (ca 10) (ca 26)
 mq:L2.jg K (ca 15) "pots"
 oq:L2.jg K (ca 9) "pots"
 ir:L2.jg K (ca 15) "day"
 Kq:L2.jg K (ca 13) "day"
 mo:L2.jg K (ca 14) "whole"
 Lo:L2.jg K (ca 13) "whole"
 Ts:L2.wl K (ca 12)
 No:L2.jg K (ca 12) "whole"
 Bv:L2.wl K (ca 11)
 Rn:L2.jg K (ca 11) "whole"
 fv:mg "Held" = some (.ref (ca 12))
 Hx:L2.Mk K (ca 12) (ca 50)
 Qo:L2.jg K (ca 15) "shown"
 tz:mg "Book" = some (.ref (ca 15))
 Fx:L2.Mk K (ca 15) (ca 63)
 xk:L2.Cd K (ca 10) "account" (ca 32)
 Om:L2.Cd K (ca 10) "holds" (ca 38)
 Em:L2.Cd K (ca 8) "word" (ca 23)
 ym:L2.Cd K (ca 7) "word" (ca 21)
 fq:L2.Cd K (ca 6) "word" (ca 19)
 Ft:mg "Offered" = some (.ref (ca 7))
 Vr:L2.Mk K (ca 7) (ca 16)
 Mj:L2.Cd K (ca 8) "agree_of" (ca 17)
 Zg:L2.Cd K (ca 7) "agree_of" (ca 17)
 ji:L2.Cd K (ca 6) "agree_of" (ca 17)
 Fj:L2.Cd K (ca 5) "agree_of" (ca 17)
 lz:mg "View" = some (.ref (ca 9))
 Xx:L2.Mk K (ca 9) (ca 25)
 Am:L2.Cd K (ca 10) "words" (ca 29)
 Kk:L2.Cd K (ca 10) "view_by" (ca 33)
 io:L2.Cd K (ca 10) "view" (ca 34)
 Vm:L2.Cd K (ca 10) "worth" (ca 35)
 Nk:L2.Cd K (ca 10) "is_good" (ca 37)
 Xj:L2.Cd K (ca 10) "take_ask" (ca 42)
 Nt:mg "Waiting" = some (.ref (ca 8))
 Tr:L2.Mk K (ca 8) (ca 16)
 Qh:L2.Cd K (ca 6) "strike_of" (ca 18)
 Lg:L2.Cd K (ca 7) "strike_of" (ca 18)
 Kg:L2.Cd K (ca 8) "strike_of" (ca 18)
 xl:L2.Cd K (ca 8) "taken" (ca 24)
 Hl:L2.Cd K (ca 7) "taken" (ca 22)
 Yo:L2.Cd K (ca 6) "taken" (ca 20)
 oo:L4.Tt K (ca 6)
 Mq:L4.Tt K (ca 7)
 Km:W.mroIn K (ca 7) (.ref (ca 6))=some false
 om:(ca 6)≠(ca 7)
 Rl:L4.Tt K (ca 8)
 xm:W.mroIn K (ca 8) (.ref (ca 6))=some false
 tm:(ca 6)≠(ca 8)
 Qm:W.mroIn K (ca 6) (.ref (ca 8))=some false
 rm:(ca 8)≠(ca 6)
 Ui:L2.Cd K (ca 10) "is_as_asked" (ca 43)
 Ej:L2.Cd K (ca 10) "take_step" (ca 44)
 ro:L2.Cd K (ca 10) "take" (ca 41)
 Vn:L2.Cd K (ca 10) "wish" (ca 39)
 Wo:L2.Cd K (ca 15) "today" (ca 65)
 wk:L2.Cd K (ca 15) "check_pot" (ca 64)
 Vo:L2.jg K (ca 13) "stand"
 Ro:L2.Cd K (ca 14) "told" (ca 60)
 Vp:L2.Cd K (ca 13) "told" (ca 55)
 Up:L2.Cd K (ca 12) "told" (ca 51)
 Zp:L2.Cd K (ca 15) "told" (ca 71)
 vk:L2.Cd K (ca 15) "shown_for" (ca 72)
 Pk:L2.Cd K (ca 15) "all_shown" (ca 76)
 qm:L2.Cd K (ca 15) "made_of" (ca 77)
 bq:L2.jg K (ca 13) "wait"
 Po:L2.Cd K (ca 13) "waits" (ca 56)
 fk:L2.Cd K (ca 13) "may_strike" (ca 58)
 Ys:mg "Claim" = some (.ref (ca 11))
 Rh:W.specialIn K (.ref (ca 11)) (Sf "__getattribute__")=some (some (.builtin "type.__getattribute__"))
 Oh:W.readsIn K (ca 11) (.type "type")=true
 Sh:W.findCls K (.ref (ca 11)) (.type "type") "__init__" = some (.val (.ref (ca 50)))
 Mh:W.keepIn K (.ref (ca 50))=true
 Mx:mg "Taken" = some (.ref (ca 14))
 jv:L2.Mk K (ca 14) (ca 59)
 Pn:L2.Cd K (ca 15) "strike" (ca 70)
 gj:L2.Cd K (ca 5) "strike_of" (ca 18)
 fj:L2.Cd K (ca 10) "strike_all" (ca 46)
 ck:L2.Cd K (ca 10) "show_all" (ca 48)
 Gx:L4.InK K (ca 15)
 Rp:W.kitOne K (.ref (ca 15)) (.ref (ca 12))=some false
 wv:L4.InK K (ca 14)
 To:W.kitOne K (.ref (ca 14)) (.ref (ca 12))=some false
 Ix:L4.InK K (ca 13)
 Pp:W.kitOne K (.ref (ca 13)) (.ref (ca 12))=some false
 Ax:L4.InK K (ca 12)
 iq:W.kitOne K (.ref (ca 12)) (.ref (ca 12))=some true
 Dt:L4.InK K (ca 10)
 Wn:W.kitOne K (.ref (ca 10)) (.ref (ca 12))=some false
 Vx:L4.InK K (ca 9)
 Op:W.kitOne K (.ref (ca 9)) (.ref (ca 12))=some false
 Ur:L4.InK K (ca 8)
 vm:W.kitOne K (.ref (ca 8)) (.ref (ca 12))=some false
 Zr:L4.InK K (ca 7)
 Pm:W.kitOne K (.ref (ca 7)) (.ref (ca 12))=some false
 gx:L4.InK K (ca 6)
 Jp:W.kitOne K (.ref (ca 6)) (.ref (ca 12))=some false
 Gm:L2.Cd K (ca 15) "may_lie" (ca 68)
 Uz:mg "Laid" = some (.ref (ca 13))
 zx:L2.Mk K (ca 13) (ca 54)
 pj:L2.Cd K (ca 15) "lay" (ca 69)
 Hk:L2.Cd K (ca 10) "lay_all" (ca 49)
 bo:L2.Cd K (ca 10) "look" (ca 45)
 Bm:L2.Cd K (ca 10) "given" (ca 31)
 tb:mx K ["paper"]
 QY:mg "__builtins__" = some (.ref (Bx K))
 JJ:∀ t∈(tx K).Zn,∀ t'∈(tx K).Zn,t'.P=t.P->t'=t
seal L2.PE L2.PS L2.Ms L2.PT L2.PW L2.PA L2.PI L2.PG
section
variable{P:Aa}{w:Ia}{K:W.Frag}{mg:Str->Option Value}{base:Heap}{ca:Nat->Addr}
abbrev Y1:Stmt:=top 108
def uQ:Ev->M Fl:=
 (zb (Yf (eT (Ga oLt (da 1) (jh Zk (ja (da 0) Ba)))) (pd (Ga Va (da 0) (da 1))) Uf) (pd (eC (.int 0))))
def Pb:List D->M D:=hide λa=>Hb (run 2 uQ a)
theorem m2:ua ["_law_script","_law_k"] ["_law_script","_law_k"] (kc Y1):=Zd
theorem EC(a:Txt K mg ca):zf ⟨K,ca,tx K⟩ P w mg base 1 "_law_cell_at" ["_law_script","_law_k"] Pb:=
 Fh a.Pb m2 λb=>
  (Lb (ig (og eB UA (ga 1) (gn Oq (mr rfl) rfl a.sg Gb (Ka (ga 0))) (ng _)) (ud (Cc (ga 0) (ga 1))) fg)
  (ud Ra))
abbrev R7:Stmt:=top 8
def EQ:Ev->M Fl:=
 (pd (ki (Yb (Wp .int) (da 0)) (NK (Yb (Wp .bool) (da 0)))))
def Bg:List D->M D:=hide λa=>Hb (run 1 EQ a)
theorem y1:ua ["thing"] ["thing"] (kc R7):=Zd
theorem sW(a:Txt K mg ca):zf ⟨K,ca,tx K⟩ P w mg base 1 "is_whole" ["thing"] Bg:=
 Fh a.Bg y1 λb=>
  (ud (Ei (Gw .int (ga 0) rfl a.Vc rfl a.wC boot_int) (am (UW (Gw .bool (ga 0) rfl a.Vc rfl a.bA boot_bool)))))
abbrev g8:Stmt:=top 9
def MS:Ev->M Fl:=
 (pd (ki (md 1 Bg [] (ja (da 0) Ba)) (OK oLe oLe (da 1) (da 0) (da 2))))
def Jb:List D->M D:=hide λa=>Hb (run 3 MS a)
theorem x8:ua ["thing","least","most"] ["thing","least","most"] (kc g8):=Zd
theorem nu(a:Txt K mg ca):zf ⟨K,ca,tx K⟩ P w mg base 2 "is_between" ["thing","least","most"] Jb:=
 Fh a.Jb x8 λb=>
  (ud (Ei (ae (sW a) b (Ka (ga 0))) (am (bZ mS ZL mS ZL (ga 1) (ga 0) (ga 2)))))
abbrev D1:Stmt:=top 84
abbrev KI:Ev->M Fl:=(Yf (lB (eT (Ga (Cz false) (da 0) (YK (da 3) none (some (eC (.int 2)))))) (eT (Ga oLt (Ga Va (da 3) (eC (.int 4))) (Ga Ch (da 1) (eC (.int 1)))))) Pi Uf)
def bO:Ev->M Fl:=
 (zb (Yf (ik (eT (md 3 Jb [] (ja (da 1) (ja (eC (.int 1)) (ja (eC (.int 50)) Ba)))))) Pi Uf) (aq (ri (da 2)) (Ld 3) KI))
def Cf:List D->M D:=hide λa=>Hb (run 4 bO a)
theorem LO:ua ["hand","every","pots","made"] ["hand","every","pots"] (kc D1):=Zd
theorem zX(a:Txt K mg ca):zf ⟨K,ca,tx K⟩ P w mg base 3 "check_span" ["hand","every","pots"] Cf:=
 Fh a.Cf LO λb=>
  (Lb (ig (il (Rj (ae (nu a) b (Pa (ga 1) (Pa Ra (Ka (su (u:=.int 50 (a.Fk).choose) rfl (a.Fk).choose_spec ⟨_,rfl⟩))))))) nj fg)
  (qi (qt Zm rfl (rn rfl (ga 2)) (Hh LO.nd) (qi (ig (L2.PW.pt (jF (og yT (rN rfl false) (ga 0) (X7 rfl (ga 3) qV (zzp Ra)) rfl) (qG (og eB UA (Cc (ga 3) Ra) (Tl (ga 1) Ra) (ng _))))) nj fg)))))
theorem xV(a:Txt K mg ca):Yk ⟨K,ca,tx K⟩ [10] "hand":=(Rg a.Cb a.On Bo)
theorem UF(a:Txt K mg ca):Yk ⟨K,ca,tx K⟩ [9,10] "every":=(Rg a.dn a.Oo (Rg a.Cb a.Dm Bo))
theorem gB(a:Txt K mg ca):Yk ⟨K,ca,tx K⟩ [9,10] "last_look":=(Rg a.dn a.Ik (Rg a.Cb a.Oj Bo))
theorem sO(a:Txt K mg ca):Yk ⟨K,ca,tx K⟩ [10] "gave":=(Rg a.Cb a.Fn Bo)
theorem DG(a:Txt K mg ca):Yk ⟨K,ca,tx K⟩ [9,10] "known":=(Rg a.dn a.Uo (Rg a.Cb a.zm Bo))
theorem Dr(a:Txt K mg ca):Yk ⟨K,ca,tx K⟩ [10] "accounts":=(Rg a.Cb a.Vj Bo)
theorem Pr(a:Txt K mg ca):Yk ⟨K,ca,tx K⟩ [10,15] "claims":=(Rg a.Cb a.zl (Rg a.Ue a.Nn Bo))
theorem LG(a:Txt K mg ca):Yk ⟨K,ca,tx K⟩ [10] "seen":=(Rg a.Cb a.ko Bo)
theorem YJ(a:Txt K mg ca):Yk ⟨K,ca,tx K⟩ [10] "asked":=(Rg a.Cb a.Hm Bo)
theorem yI(a:Txt K mg ca):Yk ⟨K,ca,tx K⟩ [10] "finishing":=(Rg a.Cb a.Lj Bo)
abbrev T9:Stmt:=ce (top 92) 2
abbrev OI:Ev->M Fl:=(Qs (eC (.bl true)) (Yb (Bb [9,10] "known") (da 0)) (da 2))
def bH:Ev->M Fl:=
 (aq (ri (da 1)) (Ld 2) OI)
def Ab:List D->M D:=hide (run 3 bH)
theorem HS:ua ["self","words","word"] ["self","words"] (kc T9):=Zd
theorem Z3(a:Txt K mg ca):Wf ⟨K,ca,tx K⟩ P w mg base 1 (ca 28) ["self","words"] Ab:=
 xr a.Ab HS λb=>
  (qi (qt Zm rfl (rn rfl (ga 1)) (Hh HS.nd) (qi (ou (kf b) Zs (Hc (DG a) (ga 0)) (ga 2)))))
theorem RI(a:Txt K mg ca):Bh ⟨K,ca,tx K⟩ P w mg base 1 "learn" ["self","words"] [(10,Ab)]:=(Sg a.Cb a.Fm (Z3 a) Fi)
theorem Lq(a:Txt K mg ca):Yk ⟨K,ca,tx K⟩ [5,6,7,8] "pot":=(Rg a.vf a.En (Rg a.Tf a.dr (Rg a.Pd a.Ln (Rg a.de a.Mn Bo))))
abbrev oX:Stmt:=ce (top 92) 1
def kT:Ev->M Fl:=
 (zb (Qs (da 1) (Yb (Bb [10] "accounts") (da 0)) (Yb (Bb [5,6,7,8] "pot") (da 1))) (zb (Qs (da 2) (Yb (Bb [10,15] "claims") (da 0)) (Yb (Bb [5,6,7,8] "pot") (da 1))) (Qs (da 3) (Yb (Bb [10] "seen") (da 0)) (Yb (Bb [5,6,7,8] "pot") (da 1)))))
def vd:List D->M D:=hide (run 4 kT)
theorem TU:ua ["self","account","claim","seen"] ["self","account","claim","seen"] (kc oX):=Zd
theorem zey(a:Txt K mg ca):Wf ⟨K,ca,tx K⟩ P w mg base 1 (ca 27) ["self","account","claim","seen"] vd:=
 xr a.vd TU λb=>
  (Lb (ou (kf b) (ga 1) (Hc (Dr a) (ga 0)) (Hc (Lq a) (ga 1)))
  (Lb (ou (kf b) (ga 2) (Hc (Pr a) (ga 0)) (Hc (Lq a) (ga 1)))
  (qi (ou (kf b) (ga 3) (Hc (LG a) (ga 0)) (Hc (Lq a) (ga 1))))))
theorem V1(a:Txt K mg ca):Bh ⟨K,ca,tx K⟩ P w mg base 1 "hold" ["self","account","claim","seen"] [(10,vd)]:=(Sg a.Cb a.Bn (zey a) Fi)
abbrev S8:Stmt:=top 29
def tM:Ev->M Fl:=
 (zb (Yf (ap (ik (eT (Yb (Wp .tuple) (da 0)))) (eT (Ga BF (jh Zk (ja (da 0) Ba)) (eC (.int 6))))) Pi Uf) (zb (Yf (ik (eT (jh tE (ja (Mg (Ym (toN (ri (da 0))) [] (Ld 0) Gk xG)) Ba)))) Pi Uf) (pd (Ga oEq (Yb vB (Mg (Ym (toN (ri (da 0))) [] (Ld 0) Gk xG))) (jh Zk (ja (da 0) Ba))))))
def Ag:List D->M D:=hide λa=>Hb (run 1 tM a)
theorem X3:ua ["thing"] ["thing"] (kc S8):=Zd
theorem J0(a:Txt K mg ca):zf ⟨K,ca,tx K⟩ P w mg base 1 "are_ties" ["thing"] Ag:=
 Fh a.Ag X3 λb=>
  (Lb (ig (L2.PW.pt (rq (il (Rj (Gw .tuple (ga 0) rfl a.Vc rfl a.Ai Ki))) (Er (og qK IH (gn Oq (mr rfl) rfl a.sg Gb (Ka (ga 0))) (su (u:=.int 6 (a.Pl).choose) rfl (a.Pl).choose_spec ⟨_,rfl⟩) (ng _))))) nj fg)
  (Lb (ig (il (Rj (gn (fY rfl) (y4 rfl) rfl a.XB boot_all (Ka (Jk (Su (x:="tie") (z0:="0") (M':=[]) (ix:=[]) rfl ⟨rfl,rfl,rfl,rfl,rfl,rfl⟩ (zu (rn rfl (ga 0))) (λ_ _ _ _ _=>Hh (by show List.Nodup (("tie"::"0"::[]):List Str);decide +kernel)) (λ_ _ _ _ _=>Bu) (λ_ _ _ _ _=>kN))))))) nj fg)
  (ud (bn b (M6 rfl rfl rfl a.sg rfl a.RC (Jk (Su (x:="tie") (z0:="0") (M':=[]) (ix:=[]) rfl ⟨rfl,rfl,rfl,rfl,rfl,rfl⟩ (zu (rn rfl (ga 0))) (λ_ _ _ _ _=>Hh (by show List.Nodup (("tie"::"0"::[]):List Str);decide +kernel)) (λ_ _ _ _ _=>Bu) (λ_ _ _ _ _=>kN)))) (gn Oq (mr rfl) rfl a.sg Gb (Ka (ga 0)))))))
abbrev y6:Stmt:=top 28
def yQ:Ev->M Fl:=
 (pd (ki (Yb (Wp .tuple) (da 0)) (ki (Ga oEq (jh Zk (ja (da 0) Ba)) (eC (.int 2))) (ki (md 3 Jb [] (ja (Ga Va (da 0) (eC (.int 0))) (ja (eC (.int 0)) (ja (eC (.int 2000000000000)) Ba)))) (md 3 Jb [] (ja (Ga Va (da 0) (eC (.int 1))) (ja (eC (.int 0)) (ja (eC (.int 2000000000000)) Ba))))))))
def Ef:List D->M D:=hide λa=>Hb (run 1 yQ a)
theorem zhb:ua ["thing"] ["thing"] (kc y6):=Zd
theorem L0(a:Txt K mg ca):zf ⟨K,ca,tx K⟩ P w mg base 3 "are_shares" ["thing"] Ef:=
 Fh a.Ef zhb λb=>
  (ud (Ei (Gw .tuple (ga 0) rfl a.Vc rfl a.Ai Ki) (Ei (bn b (gn Oq (mr rfl) rfl a.sg Gb (Ka (ga 0))) Ra) (Ei (ae (nu a) b (Pa (Cc (ga 0) Ra) (Pa Ra (Ka (su (u:=.int 2000000000000 (a.dh).choose) rfl (a.dh).choose_spec ⟨_,rfl⟩))))) (am (ae (nu a) b (Pa (Cc (ga 0) Ra) (Pa Ra (Ka (su (u:=.int 2000000000000 (a.dh).choose) rfl (a.dh).choose_spec ⟨_,rfl⟩))))))))))
abbrev f5:Stmt:=top 14
def CT:Ev->M Fl:=
 (pd (md 3 Jb [] (ja (da 0) (ja (eC (.int 0)) (ja (eC (.int 1000000)) Ba)))))
def tf:List D->M D:=hide λa=>Hb (run 1 CT a)
theorem XV:ua ["thing"] ["thing"] (kc f5):=Zd
theorem qP(a:Txt K mg ca):zf ⟨K,ca,tx K⟩ P w mg base 3 "is_number" ["thing"] tf:=
 Fh a.tf XV λb=>
  (ud (ae (nu a) b (Pa (ga 0) (Pa Ra (Ka (su (u:=.int 1000000 (a.Tj).choose) rfl (a.Tj).choose_spec ⟨_,rfl⟩))))))
abbrev X0:Stmt:=top 30
def GR:Ev->M Fl:=
 (pd (ki (Yb (Wp .tuple) (da 0)) (ki (Ga oEq (jh Zk (ja (da 0) Ba)) (eC (.int 3))) (ki (md 1 tf [] (ja (Ga Va (da 0) (eC (.int 0))) Ba)) (ki (md 1 Ef [] (ja (Ga Va (da 0) (eC (.int 1))) Ba)) (md 1 Ag [] (ja (Ga Va (da 0) (eC (.int 2))) Ba)))))))
def je:List D->M D:=hide λa=>Hb (run 1 GR a)
theorem iZ:ua ["thing"] ["thing"] (kc X0):=Zd
theorem zF(a:Txt K mg ca):zf ⟨K,ca,tx K⟩ P w mg base 4 "is_stand" ["thing"] je:=
 Fh a.je iZ λb=>
  (ud (Ei (Gw .tuple (ga 0) rfl a.Vc rfl a.Ai Ki) (Ei (bn b (gn Oq (mr rfl) rfl a.sg Gb (Ka (ga 0))) Ra) (Ei (ae (qP a) b (Ka (Cc (ga 0) Ra))) (Ei (ae (L0 a) b (Ka (Cc (ga 0) Ra))) (am (ae (J0 a) b (Ka (Cc (ga 0) Ra)))))))))
abbrev BD(x q:Str)(s:Stmt)(ps:List Str):Prop:=∀ (kV b c:Value) (an:Option Addr) (a ct:Value) (us:List Value),us.length=ps.length->bindArgs (W.fnOf x q (Yn s) (Yi s) (kc s) .none kV b c an a ct) ⟨us,[]⟩=pure (ps.zip us)
abbrev dA:Stmt:=top 31
def xM:Ev->M Fl:=
 (zb (Af 3 (Ie (ja (da 0) (ja (da 1) (ja (Nz (eT (Ga Dz (da 2) (eC .Vb))) (Ie Ba) (da 2)) Ba))))) (zb (Yf (ik (eT (md 1 je [] (ja (da 3) Ba)))) Pi Uf) (pd (da 3))))
def Aj:List D->M D:=hide λa=>Hb (run 4 xM a)
theorem yN:ua ["number","shares","ties","made"] ["number","shares","ties"] (kc dA):=Zd
theorem zq1(t:Addr)(kV b f:Value)(d:Option Addr)(a ct:Value)(s:aa)(o:Bc)(n:Nat)(us:List Value)(h1:s.heap.get? t=some o)(e:o.data=.seq ([pb]:List Value).toArray n) :
  ((us++[]).length=(["number","shares","ties"]:List Str).length->xf s (W.fnOf "stand" "stand" (Yn dA) (Yi dA) (kc dA) (.ref t) kV b f d a ct) ⟨us,[]⟩ ((["number","shares","ties"]:List Str).zip (us++[])))/\
  ((us++[pb]).length=(["number","shares","ties"]:List Str).length->xf s (W.fnOf "stand" "stand" (Yn dA) (Yi dA) (kc dA) (.ref t) kV b f d a ct) ⟨us,[]⟩ ((["number","shares","ties"]:List Str).zip (us++[pb]))):=
 ⟨λc=>match us,(show us.length=3 by simpa using c)with|[_,_,_],_=>Ke rfl h1 e rfl rfl,λc=>match us,(show us.length=2 by simpa using c)with|[_,_],_=>Ke rfl h1 e rfl rfl⟩
theorem N4(a:Txt K mg ca):vv ⟨K,ca,tx K⟩ P w mg base 5 "stand" ["number","shares","ties"] [pb] Aj:=
 vv.hide (vv.Hb (O8 a.Aj yN λ_ _ _ _ _ _ _ b=>
  (Lb (kg yN.nd (cf (Pa (ga 0) (Pa (ga 1) (Ka (ZG (og SI nK (ga 2) rC (ng _)) (cf Vl) (ga 2)))))))
  (Lb (ig (il (Rj (ae (zF a) b (Ka (ga 3))))) nj fg)
  (ud (ga 3))))))
abbrev bY:Stmt:=top 32
def RT:Ev->M Fl:=
 (pd (md 3 Aj [.Vb] (ja (eC (.int 0)) (ja (Ie (ja (da 0) (ja (da 1) Ba))) Ba))))
def Ci:List D->M D:=hide λa=>Hb (run 2 RT a)
theorem E6:ua ["left","right"] ["left","right"] (kc bY):=Zd
theorem NN(a:Txt K mg ca):zf ⟨K,ca,tx K⟩ P w mg base 6 "first" ["left","right"] Ci:=
 Fh a.Ci E6 λb=>
  (ud (WZ (N4 a) rfl (b.mono (by decide)) rfl nI uL (Pa Ra (Ka (cf (Pa (ga 0) (Ka (ga 1))))))))
theorem Xo(a:Txt K mg ca):Yk ⟨K,ca,tx K⟩ [5,6,7,8,13,14] "side":=(Rg a.vf a.Mm (Rg a.Tf a.Yp (Rg a.Pd a.Um (Rg a.de a.sm (Rg a.Th a.dq (Rg a.Cn a.Ko Bo))))))
theorem Jo(a:Txt K mg ca):Yk ⟨K,ca,tx K⟩ [5,6,7,8] "mine":=(Rg a.vf a.im (Rg a.Tf a.kq (Rg a.Pd a.jm (Rg a.de a.km Bo))))
theorem uC(a:Txt K mg ca):Yk ⟨K,ca,tx K⟩ [5,6,7,8] "grant":=(Rg a.vf a.Dl (Rg a.Tf a.bp (Rg a.Pd a.ul (Rg a.de a.Al Bo))))
theorem fw(a:Txt K mg ca):Yk ⟨K,ca,tx K⟩ [5,6,7,8] "may":=(Rg a.vf a.Tn (Rg a.Tf a.gr (Rg a.Pd a.ao (Rg a.de a.An Bo))))
theorem My(a:Txt K mg ca):Yk ⟨K,ca,tx K⟩ [5,6,7,8] "strikes":=(Rg a.vf a.Zj (Rg a.Tf a.mm (Rg a.Pd a.ak (Rg a.de a.ek Bo))))
abbrev l0:Stmt:=ce (top 55) 0
def kP:Ev->M Fl:=
 (zb (lj [5,6,7,8] "pot" (da 1) (da 0)) (zb (lj [5,6,7,8,13,14] "side" (da 2) (da 0)) (zb (lj [5,6,7,8] "mine" (da 3) (da 0)) (zb (lj [5,6,7,8] "grant" (da 4) (da 0)) (zb (lj [5,6,7,8] "may" (Mg (jh jq (ja (da 5) Ba))) (da 0)) (lj [5,6,7,8] "strikes" (Mg (jh jq (ja (da 6) Ba))) (da 0)))))))
def Pj:List D->M D:=hide (run 7 kP)
theorem hZ:ua ["self","pot","side","mine","grant","may","strikes"] ["self","pot","side","mine","grant","may","strikes"] (kc l0):=Zd
theorem WC(a:Txt K mg ca):Wf ⟨K,ca,tx K⟩ P w mg base 1 (ca 16) ["self","pot","side","mine","grant","may","strikes"] Pj:=
 xr a.Pj hZ λb=>
  (Lb (Wj rfl (Lq a) (ga 0) (ga 1))
  (Lb (Wj rfl (Xo a) (ga 0) (ga 2))
  (Lb (Wj rfl (Jo a) (ga 0) (ga 3))
  (Lb (Wj rfl (uC a) (ga 0) (ga 4))
  (Lb (Wj rfl (fw a) (ga 0) (Jk (Du By (Oy rfl) rfl a.oj xi (Ka (ga 5)))))
  (qi (Wj rfl (My a) (ga 0) (Jk (Du By (Oy rfl) rfl a.oj xi (Ka (ga 6)))))))))))
abbrev iX:Stmt:=top 59
def SR:Ev->M Fl:=
 (zb (Af 4 (md 2 Ci [] (ja (da 2) (ja (da 3) Ba)))) (pd (Mg (lq 6 7 Pj (ja (da 0) (ja (da 1) (ja (da 4) (ja (eC .Vb) (ja (Gh (ja (da 4) Ba)) (ja (Gh Ba) Ba))))))))))
def we:List D->M D:=hide λa=>Hb (run 5 SR a)
theorem WM:ua ["pot","side","left","right","mine"] ["pot","side","left","right"] (kc iX):=Zd
theorem O4(a:Txt K mg ca):zf ⟨K,ca,tx K⟩ P w mg base 7 "first_account" ["pot","side","left","right"] we:=
 Fh a.we WM λb=>
  (Lb (kg WM.nd (ae (NN a) b (Pa (ga 2) (Ka (ga 3)))))
  (ud (Jk (Ew (c:=6) (ps:=["self","pot","side","mine","grant","may","strikes"]) ⟨_,a.Jr,a.Lp,WC a⟩ rfl (b.mono (by decide)) rfl (Pa (ga 0) (Pa (ga 1) (Pa (ga 4) (Pa rC (Pa (Oi (Ka (ga 4))) (Ka (Oi Vl)))))))))))
abbrev qz:Stmt:=ce (top 92) 0
abbrev SB:Ev->M Fl:=(Yf (eT (Ga oEq (Ga Va (da 6) (da 7)) (da 1))) (qk (He [(10,vd)] 4 "hold" (da 0) (ja (md 4 we [] (ja (da 5) (ja (da 7) (ja (Ga Va (da 6) (eC (.int 2))) (ja (Ga Va (da 6) (eC (.int 3))) Ba))))) (ja (eC (.gt ["held"])) (ja (eC (.Ma [] [])) Ba))))) Uf)
abbrev yG:Ev->M Fl:=(aq (ri (Ie (ja (eC (.int 0)) (ja (eC (.int 1)) Ba)))) (Ld 7) SB)
def nR:Ev->M Fl:=
 (zb (qk (md 3 Cf [] (ja (da 1) (ja (da 2) (ja (da 3) Ba))))) (zb (lj [10] "hand" (da 1) (da 0)) (zb (lj [9,10] "every" (da 2) (da 0)) (zb (lj [9,10] "last_look" (eC (.int 0)) (da 0)) (zb (lj [10] "gave" (eC (.int 0)) (da 0)) (zb (lj [9,10] "known" Xr (da 0)) (zb (lj [10] "accounts" Xr (da 0)) (zb (lj [10,15] "claims" Xr (da 0)) (zb (lj [10] "seen" Xr (da 0)) (zb (lj [10] "asked" Xr (da 0)) (zb (lj [10] "finishing" Xr (da 0)) (zb (qk (He [(10,Ab)] 2 "learn" (da 0) (ja (Nz (eT (Ga Dz (da 4) (eC .Vb))) (Gh Ba) (da 4)) Ba))) (Mp (kG (da 3)) (Gn 2 (Wh (Ld 5) (Wh (Ld 6) Co))) yG)))))))))))))
def Wq:List D->M D:=hide (run 8 nR)
theorem AE:ua ["self","hand","every","pots","words","pot","made","side"] ["self","hand","every","pots","words"] (kc qz):=Zd
theorem J6(t:Addr)(kV b f:Value)(d:Option Addr)(a ct:Value)(s:aa)(o:Bc)(n:Nat)(us:List Value)(h1:s.heap.get? t=some o)(e:o.data=.seq ([pb]:List Value).toArray n) :
  ((us++[]).length=(["self","hand","every","pots","words"]:List Str).length->xf s (W.fnOf "__init__" "Keeper.__init__" (Yn qz) (Yi qz) (kc qz) (.ref t) kV b f d a ct) ⟨us,[]⟩ ((["self","hand","every","pots","words"]:List Str).zip (us++[])))/\
  ((us++[pb]).length=(["self","hand","every","pots","words"]:List Str).length->xf s (W.fnOf "__init__" "Keeper.__init__" (Yn qz) (Yi qz) (kc qz) (.ref t) kV b f d a ct) ⟨us,[]⟩ ((["self","hand","every","pots","words"]:List Str).zip (us++[pb]))):=
 ⟨λc=>match us,(show us.length=5 by simpa using c)with|[_,_,_,_,_],_=>Ke rfl h1 e rfl rfl,λc=>match us,(show us.length=4 by simpa using c)with|[_,_,_,_],_=>Ke rfl h1 e rfl rfl⟩
theorem w8(a:Txt K mg ca):ot ⟨K,ca,tx K⟩ P w mg base 8 (ca 26) ["self","hand","every","pots","words"] [pb] Wq:=
 ot.hide (LM a.Wq AE λ_ _ _ _ _ _ b=>
  (Lb (Wk (ae (zX a) b (Pa (ga 1) (Pa (ga 2) (Ka (ga 3))))))
  (Lb (Wj rfl (xV a) (ga 0) (ga 1))
  (Lb (Wj rfl (UF a) (ga 0) (ga 2))
  (Lb (Wj rfl (gB a) (ga 0) Ra)
  (Lb (Wj rfl (sO a) (ga 0) Ra)
  (Lb (Wj rfl (DG a) (ga 0) Fv)
  (Lb (Wj rfl (Dr a) (ga 0) Fv)
  (Lb (Wj rfl (Pr a) (ga 0) Fv)
  (Lb (Wj rfl (LG a) (ga 0) Fv)
  (Lb (Wj rfl (YJ a) (ga 0) Fv)
  (Lb (Wj rfl (yI a) (ga 0) Fv)
  (Lb (Wk (fmt (RI a) b (ga 0) (Ka (ZG (og SI nK (ga 4) rC (ng _)) (Oi Vl) (ga 4)))))
  (qi (uw Zm rfl (AT rfl a.Zl (ga 3)) (sw rfl (Ap (Hh AE.nd) (Ap (Hh AE.nd) Aw))) (qi (qt Zm rfl (rn rfl (cf (Pa Ra (Ka Ra)))) (Hh AE.nd) (qi (ig (og (wm (kf b)) uh (Cc (ga 6) (ga 7)) (ga 1) (ng _)) (qi (Wk (fmt (V1 a) b (ga 0) (Pa (ae (O4 a) b (Pa (ga 5) (Pa (ga 7) (Pa (Cc (ga 6) Ra) (Ka (Cc (ga 6) Ra)))))) (Pa (HN (ss:=["held"]) rfl a.Iv) (Ka T1)))))) fg)))))))))))))))))))
abbrev l7:Stmt:=top 11
def BO:Ev->M Fl:=
 (pd (md 3 Jb [] (ja (da 0) (ja (eC (.int 0)) (ja (eC (.int 3)) Ba)))))
def zg:List D->M D:=hide λa=>Hb (run 1 BO a)
theorem LW:ua ["thing"] ["thing"] (kc l7):=Zd
theorem ZQ(a:Txt K mg ca):zf ⟨K,ca,tx K⟩ P w mg base 3 "is_hand" ["thing"] zg:=
 Fh a.zg LW λb=>
  (ud (ae (nu a) b (Pa (ga 0) (Pa Ra (Ka (su (u:=.int 3 (a.Ul).choose) rfl (a.Ul).choose_spec ⟨_,rfl⟩))))))
abbrev mV:Stmt:=top 101
def qQ:Ev->M Fl:=
 (pd (ki (Yb (Wp .tuple) (da 0)) (ki (Ga oEq (jh Zk (ja (da 0) Ba)) (eC (.int 5))) (ki (md 1 zg [] (ja (Ga Va (da 0) (eC (.int 0))) Ba)) (ki (md 1 zg [] (ja (Ga Va (da 0) (eC (.int 1))) Ba)) (ki (Ga Jh (Ga Va (da 0) (eC (.int 0))) (Ga Va (da 0) (eC (.int 1)))) (ki (md 3 Jb [] (ja (Ga Va (da 0) (eC (.int 2))) (ja (eC (.int 0)) (ja (eC (.int 1000000000000)) Ba)))) (ki (md 3 Jb [] (ja (Ga Va (da 0) (eC (.int 3))) (ja (eC (.int 0)) (ja (eC (.int 1000000000000)) Ba)))) (md 3 Jb [] (ja (Ga Va (da 0) (eC (.int 4))) (ja (eC (.int 1)) (ja (eC (.int 100)) Ba))))))))))))
def df:List D->M D:=hide λa=>Hb (run 1 qQ a)
theorem uZ:ua ["thing"] ["thing"] (kc mV):=Zd
theorem Z1(a:Txt K mg ca):zf ⟨K,ca,tx K⟩ P w mg base 4 "makes_a_pot" ["thing"] df:=
 Fh a.df uZ λb=>
  (ud (Ei (Gw .tuple (ga 0) rfl a.Vc rfl a.Ai Ki) (Ei (bn b (gn Oq (mr rfl) rfl a.sg Gb (Ka (ga 0))) Ra) (Ei (ae (ZQ a) b (Ka (Cc (ga 0) Ra))) (Ei (ae (ZQ a) b (Ka (Cc (ga 0) Ra))) (Ei (vx (qq (kf b)) uh (Cc (ga 0) Ra) (Cc (ga 0) Ra) (ng _)) (Ei (ae (nu a) b (Pa (Cc (ga 0) Ra) (Pa Ra (Ka (su (u:=.int 1000000000000 (a.Ph).choose) rfl (a.Ph).choose_spec ⟨_,rfl⟩))))) (Ei (ae (nu a) b (Pa (Cc (ga 0) Ra) (Pa Ra (Ka (su (u:=.int 1000000000000 (a.Ph).choose) rfl (a.Ph).choose_spec ⟨_,rfl⟩))))) (am (ae (nu a) b (Pa (Cc (ga 0) Ra) (Pa Ra (Ka (su (u:=.int 100 (a.Ql).choose) rfl (a.Ql).choose_spec ⟨_,rfl⟩))))))))))))))
abbrev m1:Stmt:=top 102
abbrev OG:Ev->M Fl:=(Yf (ap (eT (Ga BF (da 1) (eC (.int 2)))) (ik (eT (md 1 df [] (ja (da 2) Ba))))) Pi Uf)
def gN:Ev->M Fl:=
 (zb (Mp (kG (da 0)) (Gn 2 (Wh (Ld 1) (Wh (Ld 2) Co))) OG) (pd (Mg (jh jq (ja (da 0) Ba)))))
def Oe:List D->M D:=hide λa=>Hb (run 3 gN a)
theorem lK:ua ["pots","number","made"] ["pots"] (kc m1):=Zd
theorem nY(a:Txt K mg ca):zf ⟨K,ca,tx K⟩ P w mg base 5 "checked_pots" ["pots"] Oe:=
 Fh a.Oe lK λb=>
  (Lb (uw Zm rfl (AT rfl a.Zl (ga 0)) (sw rfl (Ap (Hh lK.nd) (Ap (Hh lK.nd) Aw))) (qi (ig (L2.PW.pt (rq (og qK IH (ga 1) (su (u:=.int 2 (a.Di).choose) rfl (a.Di).choose_spec ⟨_,rfl⟩) (ng _)) (Er (il (Rj (ae (Z1 a) b (Ka (ga 2)))))))) nj fg)))
  (ud (Jk (Du By (Oy rfl) rfl a.oj xi (Ka (ga 0))))))
theorem lw(a:Txt K mg ca):Yk ⟨K,ca,tx K⟩ [9,15] "pots":=(Rg a.dn a.oq (Rg a.Ue a.mq Bo))
theorem Lz(a:Txt K mg ca):Yk ⟨K,ca,tx K⟩ [13,15] "day":=(Rg a.Th a.Kq (Rg a.Ue a.ir Bo))
theorem S9(a:Txt K mg ca):Yk ⟨K,ca,tx K⟩ [11,12,13,14] "whole":=(Rg a.Bv a.Rn (Rg a.Ts a.No (Rg a.Th a.Lo (Rg a.Cn a.mo Bo))))
abbrev t2:Stmt:=ce (top 94) 0
def oR:Ev->M Fl:=
 (lj [11,12,13,14] "whole" (da 1) (da 0))
def fo:List D->M D:=hide (run 2 oR)
theorem l5:ua ["self","whole"] ["self","whole"] (kc t2):=Zd
theorem jL(a:Txt K mg ca):Wf ⟨K,ca,tx K⟩ P w mg base 1 (ca 50) ["self","whole"] fo:=
 xr a.fo l5 λb=>
  (qi (Wj rfl (S9 a) (ga 0) (ga 1)))
abbrev g5:Stmt:=top 103
def aP:Ev->M Fl:=
 (pd (Ga Ch (Ga Va (da 0) (eC (.int 2))) (Ga Va (da 0) (eC (.int 3)))))
def ge:List D->M D:=hide λa=>Hb (run 1 aP a)
theorem dZ:ua ["made"] ["made"] (kc g5):=Zd
theorem RF(a:Txt K mg ca):zf ⟨K,ca,tx K⟩ P w mg base 1 "whole_of" ["made"] ge:=
 Fh a.ge dZ λb=>
  (ud (Tl (Cc (ga 0) Ra) (Cc (ga 0) Ra)))
theorem II(a:Txt K mg ca):Yk ⟨K,ca,tx K⟩ [15] "shown":=(Rg a.Ue a.Qo Bo)
abbrev GV:Stmt:=ce (top 106) 0
def IP:Ev->M Fl:=
 (zb (lj [9,15] "pots" (md 1 Oe [] (ja (da 1) Ba)) (da 0)) (zb (lj [13,15] "day" (eC (.int 0)) (da 0)) (zb (lj [10,15] "claims" (Ym (toN (ri (Yb (Bb [9,15] "pots") (da 0)))) [] (Ld 0) Gk (Mg (lq 12 2 fo (ja (md 1 ge [] (ja (da 0) Ba)) Ba)))) (da 0)) (lj [15] "shown" (Ym (toN (ri (Yb (Bb [9,15] "pots") (da 0)))) [] (Ld 0) Gk Xr) (da 0)))))
def Nq:List D->M D:=hide (run 2 IP)
theorem zcr:ua ["self","pots"] ["self","pots"] (kc GV):=Zd
theorem C4(a:Txt K mg ca):Wf ⟨K,ca,tx K⟩ P w mg base 6 (ca 63) ["self","pots"] Nq:=
 xr a.Nq zcr λb=>
  (Lb (Wj rfl (lw a) (ga 0) (ae (nY a) b (Ka (ga 1))))
  (Lb (Wj rfl (Lz a) (ga 0) Ra)
  (Lb (Wj rfl (Pr a) (ga 0) (Su (x:="made") (z0:="0") (M':=[]) (ix:=[]) rfl ⟨rfl,rfl,rfl,rfl,rfl,rfl⟩ (zu (rn rfl (Hc (lw a) (ga 0)))) (λ_ _ _ _ _=>Hh (by show List.Nodup (("made"::"0"::[]):List Str);decide +kernel)) (λ_ _ _ _ _=>Bu) (λ_ _ _ _ _=>(Jk (Ew (c:=12) (ps:=["self","whole"]) ⟨_,a.fv,a.Hx,jL a⟩ rfl (b.mono (by decide)) rfl (Ka (ae (RF a) b (Ka (ga 0)))))))))
  (qi (Wj rfl (II a) (ga 0) (Su (x:="made") (z0:="0") (M':=[]) (ix:=[]) rfl ⟨rfl,rfl,rfl,rfl,rfl,rfl⟩ (zu (rn rfl (Hc (lw a) (ga 0)))) (λ_ _ _ _ _=>Hh (by show List.Nodup (("made"::"0"::[]):List Str);decide +kernel)) (λ_ _ _ _ _=>Bu) (λ_ _ _ _ _=>Fv)))))))
abbrev L5:Stmt:=top 110
def SM:Ev->M Fl:=
 (zb (Af 3 (Au (ja (Ga Va (Ga Va (da 0) (eC (.int 1))) (eC (.int 0))) (ja (Ga Va (Ga Va (da 0) (eC (.int 1))) (eC (.int 1))) Ba)))) (zb (Af 2 (jh uD (ja (da 2) (ja (Ga Va (da 3) (Ga Mu (eC (.int 1)) (da 1))) Ba)))) (zb (EA (Ga Ch (Ga Va (da 3) (da 1)) (da 2)) (da 3) (da 1)) (zb (EA (Ga Mu (Ga Va (da 3) (Ga Mu (eC (.int 1)) (da 1))) (da 2)) (da 3) (Ga Mu (eC (.int 1)) (da 1))) (pd (Ie (ja (Ga Ch (Ga Va (da 0) (eC (.int 0))) (eC (.int 1))) (ja (jh IF (ja (da 3) Ba)) (ja (Ie Ba) Ba)))))))))
def Xf:List D->M D:=hide λa=>Hb (run 4 SM a)
theorem sL:ua ["_law_one","_law_side","_law_by","_law_split"] ["_law_one","_law_side","_law_by"] (kc L5):=Zd
theorem oM(a:Txt K mg ca):zf ⟨K,ca,tx K⟩ P w mg base 1 "_law_new" ["_law_one","_law_side","_law_by"] Xf:=
 Fh a.Xf sL λb=>
  (Lb (kg sL.nd (ky (Pa (Cc (Cc (ga 0) Ra) Ra) (Ka (Cc (Cc (ga 0) Ra) Ra)))))
  (Lb (kg sL.nd (gn (G2 rfl) BU rfl a.Vy boot_min (Pa (ga 2) (Ka (Cc (ga 3) (rk Rw Qw Ra (ga 1)))))))
  (Lb (jG (Tl (Cc (ga 3) (ga 1)) (ga 2)) (ga 3) (ga 1))
  (Lb (jG (rk Rw Qw (Cc (ga 3) (rk Rw Qw Ra (ga 1))) (ga 2)) (ga 3) (rk Rw Qw Ra (ga 1)))
  (ud (cf (Pa (Tl (Cc (ga 0) Ra) Ra) (Pa (Du OX (n9 rfl) rfl a.Ai Ki (Ka (ga 3))) (Ka (cf Vl))))))))))
abbrev i5:Stmt:=ce (top 92) 6
def tQ:Ev->M Fl:=
 (zb (Yf (eT (Ga iB (da 1) (Yb (Bb [10] "accounts") (da 0)))) Pi Uf) (pd (Ga Tp (Yb (Bb [10] "accounts") (da 0)) (da 1))))
def eb:List D->M D:=hide λa=>Hb (run 2 tQ a)
theorem M1:ua ["self","pot"] ["self","pot"] (kc i5):=Zd
theorem zbi(a:Txt K mg ca):Wf ⟨K,ca,tx K⟩ P w mg base 1 (ca 32) ["self","pot"] eb:=
 nk a.eb M1 λb=>
  (Lb (ig (og (YP (kf b)) wQ (ga 1) (Hc (Dr a) (ga 0)) rfl) nj fg)
  (ud (av (kf b) (Hc (Dr a) (ga 0)) (ga 1) (λ_ _=>rfl))))
theorem cB(a:Txt K mg ca):Bh ⟨K,ca,tx K⟩ P w mg base 1 "account" ["self","pot"] [(10,eb)]:=(Sg a.Cb a.xk (zbi a) Fi)
abbrev E8:Stmt:=top 10
def KM:Ev->M Fl:=
 (pd (md 3 Jb [] (ja (da 0) (ja (eC (.int 0)) (ja (eC (.int 1)) Ba)))))
def xg:List D->M D:=hide λa=>Hb (run 1 KM a)
theorem j7:ua ["thing"] ["thing"] (kc E8):=Zd
theorem DT(a:Txt K mg ca):zf ⟨K,ca,tx K⟩ P w mg base 3 "is_side" ["thing"] xg:=
 Fh a.xg j7 λb=>
  (ud (ae (nu a) b (Pa (ga 0) (Pa Ra (Ka Ra)))))
abbrev CU:Stmt:=top 16
def IM:Ev->M Fl:=
 (pd (md 3 Jb [] (ja (da 0) (ja (eC (.int 0)) (ja (eC (.int 2)) Ba)))))
def rh:List D->M D:=hide λa=>Hb (run 1 IM a)
theorem jZ:ua ["thing"] ["thing"] (kc CU):=Zd
theorem UQ(a:Txt K mg ca):zf ⟨K,ca,tx K⟩ P w mg base 3 "is_pot" ["thing"] rh:=
 Fh a.rh jZ λb=>
  (ud (ae (nu a) b (Pa (ga 0) (Pa Ra (Ka (su (u:=.int 2 (a.Di).choose) rfl (a.Di).choose_spec ⟨_,rfl⟩))))))
abbrev F2:Stmt:=top 46
def OO:Ev->M Fl:=
 (pd (ki (Ga oEq (jh Zk (ja (da 0) Ba)) (eC (.int 4))) (ki (md 1 rh [] (ja (Ga Va (da 0) (eC (.int 1))) Ba)) (md 1 xg [] (ja (Ga Va (da 0) (eC (.int 2))) Ba)))))
def ie:List D->M D:=hide λa=>Hb (run 1 OO a)
theorem T0:ua ["thing"] ["thing"] (kc F2):=Zd
theorem ER(a:Txt K mg ca):zf ⟨K,ca,tx K⟩ P w mg base 4 "is_of_a_side" ["thing"] ie:=
 Fh a.ie T0 λb=>
  (ud (Ei (bn b (gn Oq (mr rfl) rfl a.sg Gb (Ka (ga 0))) Ra) (Ei (ae (UQ a) b (Ka (Cc (ga 0) Ra))) (am (ae (DT a) b (Ka (Cc (ga 0) Ra)))))))
abbrev CY:Stmt:=top 47
def uI:Ev->M Fl:=
 (zb (Yf (ap (ik (eT (Yb (Wp .tuple) (da 0)))) (ap (eT (Ga oEq (jh Zk (ja (da 0) Ba)) (eC (.int 0)))) (ik (eT (Yb (Wp .str) (Ga Va (da 0) (eC (.int 0)))))))) Pi Uf) (zb (Yf (eT (Ga oEq (Ga Va (da 0) (eC (.int 0))) (eC (.str "word")))) Pi Uf) (zb (Yf (eT (Ga oEq (Ga Va (da 0) (eC (.int 0))) (eC (.str "strike")))) (pd (ki (md 1 ie [] (ja (da 0) Ba)) (md 1 tf [] (ja (Ga Va (da 0) (eC (.int 3))) Ba)))) Uf) (zb (Yf (eT (Ga oEq (Ga Va (da 0) (eC (.int 0))) (eC (.str "agree")))) (pd (ki (md 1 ie [] (ja (da 0) Ba)) (md 1 je [] (ja (Ga Va (da 0) (eC (.int 3))) Ba)))) Uf) (pd (eC (.bl false)))))))
def ee:List D->M D:=hide λa=>Hb (run 1 uI a)
theorem zkx:ua ["thing"] ["thing"] (kc CY):=Zd
theorem YE(a:Txt K mg ca):zf ⟨K,ca,tx K⟩ P w mg base 5 "is_thing" ["thing"] ee:=
 Fh a.ee zkx λb=>
  (Lb (ig (L2.PW.pt (rq (il (Rj (Gw .tuple (ga 0) rfl a.Vc rfl a.Ai Ki))) (rq (og (wm (kf b)) uh (gn Oq (mr rfl) rfl a.sg Gb (Ka (ga 0))) Ra (ng _)) (Er (il (Rj (Gw .str (Cc (ga 0) Ra) rfl a.Vc rfl a.Uy boot_str))))))) nj fg)
  (Lb (ig (og (wm (kf b)) uh (Cc (ga 0) Ra) jf (ng _)) nj fg)
  (Lb (ig (og (wm (kf b)) uh (Cc (ga 0) Ra) jf (ng _)) (ud (Ei (ae (ER a) b (Ka (ga 0))) (am (ae (qP a) b (Ka (Cc (ga 0) Ra)))))) fg)
  (Lb (ig (og (wm (kf b)) uh (Cc (ga 0) Ra) jf (ng _)) (ud (Ei (ae (ER a) b (Ka (ga 0))) (am (ae (zF a) b (Ka (Cc (ga 0) Ra)))))) fg)
  (ud Zs)))))
abbrev zmr:Stmt:=top 49
def RS:Ev->M Fl:=
 (pd (ki (md 1 ee [] (ja (da 0) Ba)) (Ga oEq (Ga Va (da 0) (eC (.int 0))) (eC (.str "agree")))))
def Vf:List D->M D:=hide λa=>Hb (run 1 RS a)
theorem zkv:ua ["thing"] ["thing"] (kc zmr):=Zd
theorem vM(a:Txt K mg ca):zf ⟨K,ca,tx K⟩ P w mg base 6 "is_agree" ["thing"] Vf:=
 Fh a.Vf zkv λb=>
  (ud (Ei (ae (YE a) b (Ka (ga 0))) (am (bn b (Cc (ga 0) Ra) jf))))
abbrev zkp:Stmt:=top 50
def kR:Ev->M Fl:=
 (pd (ki (md 1 ee [] (ja (da 0) Ba)) (Ga oEq (Ga Va (da 0) (eC (.int 0))) (eC (.str "strike")))))
def sf:List D->M D:=hide λa=>Hb (run 1 kR a)
theorem V5:ua ["thing"] ["thing"] (kc zkp):=Zd
theorem qN(a:Txt K mg ca):zf ⟨K,ca,tx K⟩ P w mg base 6 "is_strike" ["thing"] sf:=
 Fh a.sf V5 λb=>
  (ud (Ei (ae (YE a) b (Ka (ga 0))) (am (bn b (Cc (ga 0) Ra) jf))))
abbrev j3:Stmt:=top 12
def CO:Ev->M Fl:=
 (pd (md 3 Jb [] (ja (da 0) (ja (eC (.int 0)) (ja (eC (.int 59)) Ba)))))
def eh:List D->M D:=hide λa=>Hb (run 1 CO a)
theorem SU:ua ["thing"] ["thing"] (kc j3):=Zd
theorem y3(a:Txt K mg ca):zf ⟨K,ca,tx K⟩ P w mg base 3 "is_word" ["thing"] eh:=
 Fh a.eh SU λb=>
  (ud (ae (nu a) b (Pa (ga 0) (Pa Ra (Ka (su (u:=.int 59 (a.Sl).choose) rfl (a.Sl).choose_spec ⟨_,rfl⟩))))))
abbrev BV:Stmt:=top 51
def aB:Ev->M Fl:=
 (zb (Yf (eT (Ga oEq (Ga Va (da 0) (eC (.int 0))) (eC (.str "offer")))) (pd (ki (Ga oEq (jh Zk (ja (da 0) Ba)) (eC (.int 3))) (md 1 Vf [] (ja (Ga Va (da 0) (eC (.int 2))) Ba)))) Uf) (zb (Yf (eT (Ga oEq (Ga Va (da 0) (eC (.int 0))) (eC (.str "accept")))) (pd (ki (Ga oEq (jh Zk (ja (da 0) Ba)) (eC (.int 4))) (ki (md 1 Vf [] (ja (Ga Va (da 0) (eC (.int 2))) Ba)) (md 1 sf [] (ja (Ga Va (da 0) (eC (.int 3))) Ba))))) Uf) (zb (Yf (eT (Ga oEq (Ga Va (da 0) (eC (.int 0))) (eC (.str "struck")))) (pd (ki (Ga oEq (jh Zk (ja (da 0) Ba)) (eC (.int 3))) (md 1 sf [] (ja (Ga Va (da 0) (eC (.int 2))) Ba)))) Uf) (zb (Yf (eT (Ga oEq (Ga Va (da 0) (eC (.int 0))) (eC (.str "ask")))) (pd (ki (Ga oEq (jh Zk (ja (da 0) Ba)) (eC (.int 4))) (md 1 je [] (ja (Ie (ja (eC (.int 0)) (ja (Ga Va (da 0) (eC (.int 2))) (ja (Ga Va (da 0) (eC (.int 3))) Ba)))) Ba)))) Uf) (zb (Yf (eT (Ga oEq (Ga Va (da 0) (eC (.int 0))) (eC (.str "word")))) (pd (ki (Ga oEq (jh Zk (ja (da 0) Ba)) (eC (.int 3))) (md 1 eh [] (ja (Ga Va (da 0) (eC (.int 2))) Ba)))) Uf) (pd (eC (.bl false))))))))
def Ec:List D->M D:=hide λa=>Hb (run 1 aB a)
theorem l8:ua ["letter"] ["letter"] (kc BV):=Zd
theorem E4(b:Txt K mg ca):zf ⟨K,ca,tx K⟩ P w mg base 7 "has_its_parts" ["letter"] Ec:=
 Fh b.Ec l8 λa=>
  (Lb (ig (og (wm (kf a)) uh (Cc (ga 0) Ra) jf (ng _)) (ud (Ei (bn a (gn Oq (mr rfl) rfl b.sg Gb (Ka (ga 0))) Ra) (am (ae (vM b) a (Ka (Cc (ga 0) Ra)))))) fg)
  (Lb (ig (og (wm (kf a)) uh (Cc (ga 0) Ra) jf (ng _)) (ud (Ei (bn a (gn Oq (mr rfl) rfl b.sg Gb (Ka (ga 0))) Ra) (Ei (ae (vM b) a (Ka (Cc (ga 0) Ra))) (am (ae (qN b) a (Ka (Cc (ga 0) Ra))))))) fg)
  (Lb (ig (og (wm (kf a)) uh (Cc (ga 0) Ra) jf (ng _)) (ud (Ei (bn a (gn Oq (mr rfl) rfl b.sg Gb (Ka (ga 0))) Ra) (am (ae (qN b) a (Ka (Cc (ga 0) Ra)))))) fg)
  (Lb (ig (og (wm (kf a)) uh (Cc (ga 0) Ra) jf (ng _)) (ud (Ei (bn a (gn Oq (mr rfl) rfl b.sg Gb (Ka (ga 0))) Ra) (am (ae (zF b) a (Ka (cf (Pa Ra (Pa (Cc (ga 0) Ra) (Ka (Cc (ga 0) Ra)))))))))) fg)
  (Lb (ig (og (wm (kf a)) uh (Cc (ga 0) Ra) jf (ng _)) (ud (Ei (bn a (gn Oq (mr rfl) rfl b.sg Gb (Ka (ga 0))) Ra) (am (ae (y3 b) a (Ka (Cc (ga 0) Ra)))))) fg)
  (ud Zs))))))
abbrev yU:Stmt:=top 52
def CP:Ev->M Fl:=
 (zb (Yf (ap (ik (eT (Yb (Wp .tuple) (da 0)))) (ap (eT (Ga oLt (jh Zk (ja (da 0) Ba)) (eC (.int 3)))) (ik (eT (Yb (Wp .str) (Ga Va (da 0) (eC (.int 0)))))))) Pi Uf) (pd (ki (md 1 rh [] (ja (Ga Va (da 0) (eC (.int 1))) Ba)) (md 1 Ec [] (ja (da 0) Ba)))))
def Kb:List D->M D:=hide λa=>Hb (run 1 CP a)
theorem zi3:ua ["thing"] ["thing"] (kc yU):=Zd
theorem DF(a:Txt K mg ca):zf ⟨K,ca,tx K⟩ P w mg base 8 "is_letter" ["thing"] Kb:=
 Fh a.Kb zi3 λb=>
  (Lb (ig (L2.PW.pt (rq (il (Rj (Gw .tuple (ga 0) rfl a.Vc rfl a.Ai Ki))) (rq (og eB UA (gn Oq (mr rfl) rfl a.sg Gb (Ka (ga 0))) Ra (ng _)) (Er (il (Rj (Gw .str (Cc (ga 0) Ra) rfl a.Vc rfl a.Uy boot_str))))))) nj fg)
  (ud (Ei (ae (UQ a) b (Ka (Cc (ga 0) Ra))) (am (ae (E4 a) b (Ka (ga 0)))))))
abbrev t1:Stmt:=ce (top 92) 12
def pG:Ev->M Fl:=
 (pd (ki (Ga qx (da 1) (Yb (Bb [10] "accounts") (da 0))) (Ga TC (Ga Tp (Yb (Bb [10,15] "claims") (da 0)) (da 1)) (eC (.gt ["held"])))))
def db:List D->M D:=hide λa=>Hb (run 2 pG a)
theorem A1:ua ["self","pot"] ["self","pot"] (kc t1):=Zd
theorem yW(a:Txt K mg ca):Wf ⟨K,ca,tx K⟩ P w mg base 1 (ca 38) ["self","pot"] db:=
 nk a.db A1 λb=>
  (ud (Ei (vx (oT (kf b)) nM (ga 1) (Hc (Dr a) (ga 0)) rfl) (am (vx (n8 rfl (kf b)) uh (av (kf b) (Hc (Pr a) (ga 0)) (ga 1) (λ_ _=>rfl)) (HN (ss:=["held"]) rfl a.Iv) (ng _)))))
theorem aK(a:Txt K mg ca):Bh ⟨K,ca,tx K⟩ P w mg base 1 "holds" ["self","pot"] [(10,db)]:=(Sg a.Cb a.Om (yW a) Fi)
abbrev U7:Stmt:=ce (top 56) 0
def jI:Ev->M Fl:=
 (pd (eC (.str "calm")))
def ec:List D->M D:=hide λa=>Hb (run 1 jI a)
theorem F3:ua ["self"] ["self"] (kc U7):=Zd
theorem R5(a:Txt K mg ca):Wf ⟨K,ca,tx K⟩ P w mg base 1 (ca 19) ["self"] ec:=
 nk a.ec F3 λb=>
  (ud jf)
abbrev w4:Stmt:=ce (top 57) 0
def eP:Ev->M Fl:=
 (pd (eC (.str "offered")))
def Nb:List D->M D:=hide λa=>Hb (run 1 eP a)
theorem K7:ua ["self"] ["self"] (kc w4):=Zd
theorem zdg(a:Txt K mg ca):Wf ⟨K,ca,tx K⟩ P w mg base 1 (ca 21) ["self"] Nb:=
 nk a.Nb K7 λb=>
  (ud jf)
abbrev B5:Stmt:=ce (top 58) 0
def mO:Ev->M Fl:=
 (pd (eC (.str "waiting")))
def Qb:List D->M D:=hide λa=>Hb (run 1 mO a)
theorem pY:ua ["self"] ["self"] (kc B5):=Zd
theorem O6(a:Txt K mg ca):Wf ⟨K,ca,tx K⟩ P w mg base 1 (ca 23) ["self"] Qb:=
 nk a.Qb pY λb=>
  (ud jf)
theorem BA(a:Txt K mg ca):Bh ⟨K,ca,tx K⟩ P w mg base 1 "word" ["self"] [(6,ec),(7,Nb),(8,Qb)]:=(Sg a.Tf a.fq (R5 a) (Sg a.Pd a.ym (zdg a) (Sg a.de a.Em (O6 a) Fi)))
abbrev M3:Stmt:=top 33
def jO:Ev->M Fl:=
 (pd (Ga Ch (jh nv (ja (Ga Va (da 0) (eC (.int 1))) Ba)) (jh nv (ja (Mg (Ym (toN (ri (Ga Va (da 0) (eC (.int 2))))) [] (Ld 0) Gk (Ga Va (da 0) (eC (.int 1))))) Ba))))
def Gg:List D->M D:=hide λa=>Hb (run 1 jO a)
theorem P0:ua ["one"] ["one"] (kc M3):=Zd
theorem lG(a:Txt K mg ca):zf ⟨K,ca,tx K⟩ P w mg base 1 "deals" ["one"] Gg:=
 Fh a.Gg P0 λb=>
  (ud (Tl (gn (PH rfl) (ZH rfl) rfl a.Tu ML (Ka (Cc (ga 0) Ra))) (gn (PH rfl) (ZH rfl) rfl a.Tu ML (Ka (Jk (Su (x:="tie") (z0:="0") (M':=[]) (ix:=[]) rfl ⟨rfl,rfl,rfl,rfl,rfl,rfl⟩ (zu (rn rfl (Cc (ga 0) Ra))) (λ_ _ _ _ _=>Hh (by show List.Nodup (("tie"::"0"::[]):List Str);decide +kernel)) (λ_ _ _ _ _=>Bu) (λ_ _ _ _ _=>(Cc (ga 0) Ra))))))))
abbrev rV:Stmt:=top 34
def CN:Ev->M Fl:=
 (pd (ki (md 1 je [] (ja (da 0) Ba)) (Ga oEq (md 1 Gg [] (ja (da 0) Ba)) (da 1))))
def yd:List D->M D:=hide λa=>Hb (run 2 CN a)
theorem YZ:ua ["thing","coin"] ["thing","coin"] (kc rV):=Zd
theorem OJ(a:Txt K mg ca):zf ⟨K,ca,tx K⟩ P w mg base 5 "is_stand_of" ["thing","coin"] yd:=
 Fh a.yd YZ λb=>
  (ud (Ei (ae (zF a) b (Ka (ga 0))) (am (bn b (ae (lG a) b (Ka (ga 0))) (ga 1)))))
abbrev R9:Stmt:=ce (top 55) 1
def WT:Ev->M Fl:=
 (pd (Ie (ja (eC (.str "agree")) (ja (Yb (Bb [5,6,7,8] "pot") (da 0)) (ja (da 1) (ja (da 2) Ba))))))
def wa:List D->M D:=hide λa=>Hb (run 3 WT a)
theorem rY:ua ["self","side","one"] ["self","side","one"] (kc R9):=Zd
theorem qB(a:Txt K mg ca):Wf ⟨K,ca,tx K⟩ P w mg base 1 (ca 17) ["self","side","one"] wa:=
 nk a.wa rY λb=>
  (ud (cf (Pa jf (Pa (Hc (Lq a) (ga 0)) (Pa (ga 1) (Ka (ga 2)))))))
theorem qZ(a:Txt K mg ca):Bh ⟨K,ca,tx K⟩ P w mg base 1 "agree_of" ["self","side","one"] [(5,wa),(6,wa),(7,wa),(8,wa)]:=(Sg a.vf a.Fj (qB a) (Sg a.Tf a.ji (qB a) (Sg a.Pd a.Zg (qB a) (Sg a.de a.Mj (qB a) Fi))))
abbrev zp5:Stmt:=top 60
def dQ:Ev->M Fl:=
 (zb (Yf (ap (eT (Ga Jh (Yb (Bb [5,6,7,8,13,14] "side") (da 0)) (eC (.int 0)))) (eT (Ga Jh (He [(6,ec),(7,Nb),(8,Qb)] 1 "word" (da 0) Ba) (eC (.str "calm"))))) Pi Uf) (zb (Af 3 (Ie (ja (Ga Ch (Ga Va (Yb (Bb [5,6,7,8] "mine") (da 0)) (eC (.int 0))) (eC (.int 1))) (ja (da 1) (ja (da 2) Ba))))) (zb (Yf (ik (eT (md 2 yd [] (ja (da 3) (ja (md 1 Gg [] (ja (Yb (Bb [5,6,7,8] "mine") (da 0)) Ba)) Ba))))) Pi Uf) (zb (Af 4 (Mg (lq 7 7 Pj (ja (Yb (Bb [5,6,7,8] "pot") (da 0)) (ja (Yb (Bb [5,6,7,8,13,14] "side") (da 0)) (ja (Yb (Bb [5,6,7,8] "mine") (da 0)) (ja (Yb (Bb [5,6,7,8] "grant") (da 0)) (ja (Gh (ja (Yb (Bb [5,6,7,8] "mine") (da 0)) (ja (da 3) Ba))) (ja (Yb (Bb [5,6,7,8] "strikes") (da 0)) Ba))))))))) (pd (Ie (ja (da 4) (ja (Ie (ja (eC (.str "offer")) (ja (Yb (Bb [5,6,7,8] "pot") (da 0)) (ja (He [(5,wa),(6,wa),(7,wa),(8,wa)] 3 "agree_of" (da 0) (ja (eC (.int 0)) (ja (da 3) Ba))) Ba)))) Ba))))))))
def fh:List D->M D:=hide λa=>Hb (run 5 dQ a)
theorem sJ:ua ["account","shares","ties","one","behind"] ["account","shares","ties"] (kc zp5):=Zd
theorem XU(a:Txt K mg ca):zf ⟨K,ca,tx K⟩ P w mg base 6 "offered" ["account","shares","ties"] fh:=
 Fh a.fh sJ λb=>
  (Lb (ig (L2.PW.pt (rq (og (qq (kf b)) uh (Hc (Xo a) (ga 0)) Ra (ng _)) (Er (og (qq (kf b)) uh (Zq (BA a) b (ga 0)) jf (ng _))))) nj fg)
  (Lb (kg sJ.nd (cf (Pa (Tl (Cc (Hc (Jo a) (ga 0)) Ra) Ra) (Pa (ga 1) (Ka (ga 2))))))
  (Lb (ig (il (Rj (ae (OJ a) b (Pa (ga 3) (Ka (ae (lG a) b (Ka (Hc (Jo a) (ga 0))))))))) nj fg)
  (Lb (kg sJ.nd (Jk (Ew (c:=7) (ps:=["self","pot","side","mine","grant","may","strikes"]) ⟨_,a.Ft,a.Vr,WC a⟩ rfl (b.mono (by decide)) rfl (Pa (Hc (Lq a) (ga 0)) (Pa (Hc (Xo a) (ga 0)) (Pa (Hc (Jo a) (ga 0)) (Pa (Hc (uC a) (ga 0)) (Pa (Oi (Pa (Hc (Jo a) (ga 0)) (Ka (ga 3)))) (Ka (Hc (My a) (ga 0)))))))))))
  (ud (cf (Pa (ga 4) (Ka (cf (Pa jf (Pa (Hc (Lq a) (ga 0)) (Ka (fmt (qZ a) b (ga 0) (Pa Ra (Ka (ga 3))))))))))))))))
abbrev S1:Stmt:=top 67
def iT:Ev->M Fl:=
 (zb (Af 3 (Ga Va (Ga Va (da 2) (eC (.int 1))) (Ga Va (da 1) (eC (.int 0))))) (zb (Af 4 Xr) (zb (aq (ri (Ga Va (da 2) (eC (.int 2)))) (Ld 5) Pi) (pd (Ie (ja (da 3) (ja (da 4) Ba)))))))
def Xe:List D->M D:=hide λa=>Hb (run 7 iT a)
theorem wG:ua ["view","pot","one","firm","lots","tie","lot"] ["view","pot","one"] (kc S1):=Zd
theorem A0(a:Txt K mg ca):zf ⟨K,ca,tx K⟩ P w mg base 1 "read_stand" ["view","pot","one"] Xe:=
 Fh a.Xe wG λb=>
  (Lb (kg wG.nd (Cc (Cc (ga 2) Ra) (Cc (ga 1) Ra)))
  (Lb (kg wG.nd Fv)
  (Lb (qt Zm rfl (rn rfl (Cc (ga 2) Ra)) (Hh wG.nd) nj)
  (ud (cf (Pa (ga 3) (Ka (ga 4))))))))
abbrev SZ:Stmt:=top 68
abbrev LH:Ev->M Fl:=(qk (Fy Jn (da 1) (ja (Mg (Ym (toN (ri (Ga Va (da 2) (eC (.int 1))))) [0,2] (Ld 0) Gk (md 3 Xe [] (ja (da 2) (ja (da 3) (ja (da 0) Ba)))))) Ba)))
def vR:Ev->M Fl:=
 (zb (Af 1 (Au Ba)) (zb (aq (ri (Yb (Bb [9,15] "pots") (da 0))) (Ld 2) LH) (pd (da 1))))
def bg:List D->M D:=hide λa=>Hb (run 3 vR a)
theorem MI:ua ["view","readings","pot"] ["view"] (kc SZ):=Zd
theorem e8(a:Txt K mg ca):zf ⟨K,ca,tx K⟩ P w mg base 2 "read_pots" ["view"] bg:=
 Fh a.bg MI λb=>
  (Lb (kg MI.nd (ky Vl))
  (Lb (qt Zm rfl (rn rfl (Hc (lw a) (ga 0))) (OH (i:=2) MI.nd rfl (Or.inr rfl)) (qi (Wk (CA Nd Qf Rf VB hD (ga 1) (Ka (Jk (Su (x:="one") (z0:="0") (M':=["view","pot"]) (ix:=[0,2]) rfl ⟨rfl,rfl,rfl,rfl,rfl,rfl⟩ (zu (rn rfl (Cc (ga 2) Ra))) (λ_ _ _ _ _=>Hh (by show List.Nodup (("one"::"0"::["view","pot"]):List Str);decide +kernel)) (λ_ _ _ _ _=>Bu) (λ_ _ _ _ _=>(ae (A0 a) b (Pa (ga 2) (Pa (ga 3) (Ka (ga 0)))))))))))))
  (ud (ga 1))))
abbrev zg0:Stmt:=top 69
abbrev yF:Ev->M Fl:=(qk (Fy Nw (da 3) (ja (Mg (Ym (toN (Rx (jh Zk (ja (da 2) Ba)))) [4] (Ld 0) Gk (Ga Ch (da 2) (Gh (ja (da 0) Ba))))) Ba)))
abbrev yK:Ev->M Fl:=(zb (Af 3 (Au Ba)) (zb (aq (ri (da 1)) (Ld 4) yF) (Af 1 (da 3))))
def cO:Ev->M Fl:=
 (zb (Af 1 (Gh (ja (Gh Ba) Ba))) (zb (aq (ri (da 0)) (Ld 2) yK) (pd (da 1))))
def Ce:List D->M D:=hide λa=>Hb (run 5 cO a)
theorem WA:ua ["readings","choices","stands","longer","chosen"] ["readings"] (kc zg0):=Zd
theorem lZ(a:Txt K mg ca):zf ⟨K,ca,tx K⟩ P w mg base 1 "all_choices" ["readings"] Ce:=
 Fh a.Ce WA λb=>
  (Lb (kg WA.nd (Oi (Ka (Oi Vl))))
  (Lb (qt Zm rfl (rn rfl (ga 0)) (Hh WA.nd) (Lb (kg WA.nd (ky Vl))
  (Lb (qt Zm rfl (rn rfl (ga 1)) (OH (i:=4) WA.nd rfl (Or.inr rfl)) (qi (Wk (CA Nd pp qp QT HR (ga 3) (Ka (Jk (Su (x:="place") (z0:="0") (M':=["chosen"]) (ix:=[4]) rfl ⟨rfl,rfl,rfl,rfl,rfl,rfl⟩ (zu (NS rfl a.Xs (gn Oq (mr rfl) rfl a.sg Gb (Ka (ga 2))))) (λ_ _ _ _ _=>Hh (by show List.Nodup (("place"::"0"::["chosen"]):List Str);decide +kernel)) (λ_ _ _ _ _=>Bu) (λ_ _ _ _ _=>(Tl (ga 2) (Oi (Ka (ga 0))))))))))))
  (qi (kg WA.nd (ga 3))))))
  (ud (ga 1))))
abbrev W2:Stmt:=top 71
abbrev mG:Ev->M Fl:=(Mp (wy (Ga Va (da 2) (eC (.int 1)))) (Gn 2 (Wh (Ld 3) (Wh (Ld 4) Co))) Pi)
def RO:Ev->M Fl:=
 (zb (Af 1 Xr) (zb (aq (ri (da 0)) (Ld 2) mG) (pd (da 1))))
def Me:List D->M D:=hide λa=>Hb (run 5 RO a)
theorem vC:ua ["reads","by_word","read","word","lot"] ["reads"] (kc W2):=Zd
theorem mW(a:Txt K mg ca):zf ⟨K,ca,tx K⟩ P w mg base 1 "lots_by_word" ["reads"] Me:=
 Fh a.Me vC λb=>
  (Lb (kg vC.nd Fv)
  (Lb (qt Zm rfl (rn rfl (ga 0)) (Hh vC.nd) (qi (uw Zm rfl (eJ (Cc (ga 2) Ra)) (sw rfl (Ap (Hh vC.nd) (Ap (Hh vC.nd) Aw))) nj)))
  (ud (ga 1))))
abbrev u7:Stmt:=top 76
def gM:Ev->M Fl:=
 (zb (Af 4 (jh nv (ja (Mg (Ym (toN (ri (da 0))) [] (Ld 0) Gk (Ga Va (da 0) (eC (.int 0))))) Ba))) (zb (Mp (wy (da 1)) (Gn 2 (Wh (Ld 5) (Wh (Ld 6) Co))) Pi) (pd (da 4))))
def gi:List D->M D:=hide λa=>Hb (run 7 gM a)
theorem ME:ua ["reads","by_word","fates","every","total","word","lots"] ["reads","by_word","fates","every"] (kc u7):=Zd
theorem zpp(a:Txt K mg ca):zf ⟨K,ca,tx K⟩ P w mg base 1 "sum_of" ["reads","by_word","fates","every"] gi:=
 Fh a.gi ME λb=>
  (Lb (kg ME.nd (gn (PH rfl) (ZH rfl) rfl a.Tu ML (Ka (Jk (Su (x:="read") (z0:="0") (M':=[]) (ix:=[]) rfl ⟨rfl,rfl,rfl,rfl,rfl,rfl⟩ (zu (rn rfl (ga 0))) (λ_ _ _ _ _=>Hh (by show List.Nodup (("read"::"0"::[]):List Str);decide +kernel)) (λ_ _ _ _ _=>Bu) (λ_ _ _ _ _=>(Cc (ga 0) Ra)))))))
  (Lb (uw Zm rfl (eJ (ga 1)) (sw rfl (Ap (Hh ME.nd) (Ap (Hh ME.nd) Aw))) nj)
  (ud (ga 4))))
abbrev UZ:Stmt:=top 77
def rT:Ev->M Fl:=
 (zb (Af 3 (md 1 Me [] (ja (da 0) Ba))) (zb (Af 4 Xr) (zb (Mp (wy (da 3)) (Gn 2 (Wh (Ld 5) (Wh (Ld 6) Co))) Pi) (pd (Ie (ja (md 4 gi [] (ja (da 0) (ja (da 3) (ja (da 4) (ja (da 2) Ba))))) (ja (da 1) (ja (da 4) Ba))))))))
def Be:List D->M D:=hide λa=>Hb (run 7 rT a)
theorem RB:ua ["reads","chosen","every","by_word","fates","word","lots"] ["reads","chosen","every"] (kc UZ):=Zd
theorem N0(a:Txt K mg ca):zf ⟨K,ca,tx K⟩ P w mg base 2 "least_paper" ["reads","chosen","every"] Be:=
 Fh a.Be RB λb=>
  (Lb (kg RB.nd (ae (mW a) b (Ka (ga 0))))
  (Lb (kg RB.nd Fv)
  (Lb (uw Zm rfl (eJ (ga 3)) (sw rfl (Ap (Hh RB.nd) (Ap (Hh RB.nd) Aw))) nj)
  (ud (cf (Pa (ae (zpp a) b (Pa (ga 0) (Pa (ga 3) (Pa (ga 4) (Ka (ga 2)))))) (Pa (ga 1) (Ka (ga 4)))))))))
abbrev yY:Stmt:=top 70
def MP:Ev->M Fl:=
 (pd (Mg (Ym (WF (da 0) (da 1)) [] (Gn 2 (Wh (Ld 0) (Wh (Ld 1) Co))) Gk (Ga Va (da 0) (da 1)))))
def Tc:List D->M D:=hide λa=>Hb (run 2 MP a)
theorem dW:ua ["readings","chosen"] ["readings","chosen"] (kc yY):=Zd
theorem gW(a:Txt K mg ca):zf ⟨K,ca,tx K⟩ P w mg base 1 "chosen_readings" ["readings","chosen"] Tc:=
 Fh a.Tc dW λb=>
  (ud (Jk (Su (x:="stands") (z0:="place") (M':=[]) (ix:=[]) rfl ⟨rfl,rfl,rfl,rfl,rfl,rfl⟩ (R0 rfl a.jD (ga 0) (ga 1)) (λ_ _ _ _ _=>sw rfl (Ap (Hh (by show List.Nodup (("stands"::"place"::[]):List Str);decide +kernel)) (Ap (Hh (by show List.Nodup (("stands"::"place"::[]):List Str);decide +kernel)) Aw))) (λ_ _ _ _ _=>Bu) (λ_ _ _ _ _=>(Cc (ga 0) (ga 1))))))
abbrev U2:Stmt:=top 78
def iR:Ev->M Fl:=
 (zb (Af 1 (md 1 bg [] (ja (da 0) Ba))) (zb (Af 2 (Mg (Ym (toN (ri (md 1 Ce [] (ja (da 1) Ba)))) [1,0] (Ld 0) Gk (md 3 Be [] (ja (md 2 Tc [] (ja (da 2) (ja (da 0) Ba))) (ja (da 0) (ja (Yb (Bb [9,10] "every") (da 3)) Ba))))))) (pd (mK [] (Ga Va (da 0) (eC (.int 0))) (ja (da 2) Ba)))))
def Cj:List D->M D:=hide λa=>Hb (run 3 iR a)
theorem AL:ua ["view","readings","papers"] ["view"] (kc U2):=Zd
theorem jV(a:Txt K mg ca):zf ⟨K,ca,tx K⟩ P w mg base 3 "paper" ["view"] Cj:=
 zf.hide (zf.Hb (BX a.Cj AL λ_ _ _ _ _ _ b=>
  (Lb (RP (i:=1) AL.nd rfl (Or.inr rfl) (ae (e8 a) b (Ka (ga 0))))
  (Lb (PQ (GO (i:=2) AL.nd rfl (Or.inl rfl) (x:="chosen") (z0:="0") (M':=["readings","view"]) (ix:=[1,0]) rfl ⟨rfl,rfl,rfl,rfl,rfl,rfl⟩ (zu (rn rfl (ae (lZ a) b (Ka (ga 1))))) (λ_ _ _ _ _=>Hh (by show List.Nodup (("chosen"::"0"::["readings","view"]):List Str);decide +kernel)) (λ_ _ _ _ _=>Bu) (λ_ _ _ _ _=>(ae (N0 a) b (Pa (ae (gW a) b (Pa (ga 2) (Ka (ga 0)))) (Pa (ga 0) (Ka (Hc (UF a) (ga 3)))))))))
  (ud (N9 (x:="told") (M':=[]) (ix:=[]) (t:=HE K) (k:=0) (b.mono (by decide)) ⟨rfl,rfl,rfl,rfl,rfl,rfl⟩ rfl ⟨(dM K),λd c=>a.JJ _ (dM K) d c,rfl,a.tb.hd _ (by decide),rfl,rfl,rfl,a.QY,a.tb.bb⟩ rfl a.Vy rfl rfl rfl (λ_ _ _ _ _=>rfl) (Ka (ga 2)) (λ_ _ _ _ _ b=>(Cc (ga 0) Ra))))))))
abbrev yd2:Stmt:=top 79
def OM:Ev->M Fl:=
 (pd (Ga Va (md 1 Cj [] (ja (da 0) Ba)) (eC (.int 0))))
def Nh:List D->M D:=hide λa=>Hb (run 1 OM a)
theorem M8:ua ["view"] ["view"] (kc yd2):=Zd
theorem dO(a:Txt K mg ca):zf ⟨K,ca,tx K⟩ P w mg base 4 "worth" ["view"] Nh:=
 Fh a.Nh M8 λb=>
  (ud (Cc (ae (jV a) b (Ka (ga 0))) Ra))
abbrev zkr:Stmt:=top 35
def fO:Ev->M Fl:=
 (zb (Yf (eT (Ga oEq (da 1) (eC (.int 0)))) (pd (Ie (ja (Ga Ch (Ga Va (da 0) (eC (.int 0))) (da 2)) (ja (Ga Va (da 0) (eC (.int 1))) Ba)))) Uf) (pd (Ie (ja (Ga Va (da 0) (eC (.int 0))) (ja (Ga Ch (Ga Va (da 0) (eC (.int 1))) (da 2)) Ba)))))
def dg:List D->M D:=hide λa=>Hb (run 3 fO a)
theorem D3:ua ["shares","side","amount"] ["shares","side","amount"] (kc zkr):=Zd
theorem zii(a:Txt K mg ca):zf ⟨K,ca,tx K⟩ P w mg base 1 "with_more" ["shares","side","amount"] dg:=
 Fh a.dg D3 λb=>
  (Lb (ig (og (wm (kf b)) uh (ga 1) Ra (ng _)) (ud (cf (Pa (Tl (Cc (ga 0) Ra) (ga 2)) (Ka (Cc (ga 0) Ra))))) fg)
  (ud (cf (Pa (Cc (ga 0) Ra) (Ka (Tl (Cc (ga 0) Ra) (ga 2)))))))
abbrev CZ:Stmt:=top 85
def vQ:Ev->M Fl:=
 (zb (Yf (eT (Ga oEq (Ga Va (da 1) (eC (.int 0))) (eC (.str "held")))) (pd (Yb (Bb [5,6,7,8] "may") (da 0))) Uf) (zb (Yf (eT (Ga oEq (Ga Va (da 1) (eC (.int 0))) (eC (.str "laid")))) (pd (Gh (ja (Ga Va (da 1) (eC (.int 2))) Ba))) Uf) (pd (Gh (ja (Ie (ja (eC (.int 0)) (ja (md 3 dg [] (ja (Ie (ja (eC (.int 0)) (ja (eC (.int 0)) Ba))) (ja (Ga Va (da 1) (eC (.int 1))) (ja (md 1 Gg [] (ja (Yb (Bb [5,6,7,8] "mine") (da 0)) Ba)) Ba)))) (ja (Ie Ba) Ba)))) Ba)))))
def Ae:List D->M D:=hide λa=>Hb (run 2 vQ a)
theorem n3:ua ["account","claim"] ["account","claim"] (kc CZ):=Zd
theorem lP(a:Txt K mg ca):zf ⟨K,ca,tx K⟩ P w mg base 2 "stands_told" ["account","claim"] Ae:=
 Fh a.Ae n3 λb=>
  (Lb (ig (og (wm (kf b)) uh (Cc (ga 1) Ra) jf (ng _)) (ud (Hc (fw a) (ga 0))) fg)
  (Lb (ig (og (wm (kf b)) uh (Cc (ga 1) Ra) jf (ng _)) (ud (Oi (Ka (Cc (ga 1) Ra)))) fg)
  (ud (Oi (Ka (cf (Pa Ra (Pa (ae (zii a) b (Pa (cf (Pa Ra (Ka Ra))) (Pa (Cc (ga 1) Ra) (Ka (ae (lG a) b (Ka (Hc (Jo a) (ga 0)))))))) (Ka (cf Vl))))))))))
abbrev T8:Stmt:=ce (top 63) 0
def GQ:Ev->M Fl:=
 (zb (lj [9,10] "every" (da 1) (da 0)) (zb (lj [9,10] "last_look" (da 2) (da 0)) (zb (lj [9,10] "known" (Mg (jh jq (ja (da 3) Ba))) (da 0)) (lj [9,15] "pots" (Mg (Ym (toN (ri (da 4))) [] (Ld 0) Gk (Ie (ja (Ga Va (da 0) (eC (.int 0))) (ja (Mg (jh jq (ja (Ga Va (da 0) (eC (.int 1))) Ba))) (ja (jh Ny (ja (Ga Va (da 0) (eC (.int 2))) Ba)) Ba)))))) (da 0)))))
def Yr:List D->M D:=hide (run 5 GQ)
theorem A3:ua ["self","every","look","words","pots"] ["self","every","look","words","pots"] (kc T8):=Zd
theorem ZW(a:Txt K mg ca):Wf ⟨K,ca,tx K⟩ P w mg base 1 (ca 25) ["self","every","look","words","pots"] Yr:=
 xr a.Yr A3 λb=>
  (Lb (Wj rfl (UF a) (ga 0) (ga 1))
  (Lb (Wj rfl (gB a) (ga 0) (ga 2))
  (Lb (Wj rfl (DG a) (ga 0) (Jk (Du By (Oy rfl) rfl a.oj xi (Ka (ga 3)))))
  (qi (Wj rfl (lw a) (ga 0) (Jk (Su (x:="pot") (z0:="0") (M':=[]) (ix:=[]) rfl ⟨rfl,rfl,rfl,rfl,rfl,rfl⟩ (zu (rn rfl (ga 4))) (λ_ _ _ _ _=>Hh (by show List.Nodup (("pot"::"0"::[]):List Str);decide +kernel)) (λ_ _ _ _ _=>Bu) (λ_ _ _ _ _=>(cf (Pa (Cc (ga 0) Ra) (Pa (Jk (Du By (Oy rfl) rfl a.oj xi (Ka (Cc (ga 0) Ra)))) (Ka (Du QH JS rfl a.Sr OD (Ka (Cc (ga 0) Ra)))))))))))))))
abbrev F5:Stmt:=ce (top 92) 3
abbrev xU:Ev->M Fl:=(Af 2 (Au Ba))
def lT:Ev->M Fl:=
 (pd (Mg (jh bw (ja (Yb (Bb [9,10] "known") (da 0)) Ba))))
def Mc:List D->M D:=hide λa=>Hb (run 1 lT a)
theorem x6:ua ["self"] ["self"] (kc F5):=Zd
theorem E2(a:Txt K mg ca):Wf ⟨K,ca,tx K⟩ P w mg base 1 (ca 29) ["self"] Mc:=
 nk a.Mc x6 λb=>
  (ud (Jk (gn (wT rfl) (lQ rfl) rfl a.fr L4.ZN (Ka (Hc (DG a) (ga 0))))))
theorem DQ(a:Txt K mg ca):Bh ⟨K,ca,tx K⟩ P w mg base 1 "words" ["self"] [(10,Mc)]:=(Sg a.Cb a.Am (E2 a) Fi)
abbrev zcp:Stmt:=ce (top 92) 7
abbrev HG:Ev->M Fl:=(qk (Fy Jn (da 2) (ja (Ie (ja (Yb (Bb [5,6,7,8,13,14] "side") (da 4)) (ja (md 2 Ae [] (ja (da 4) (ja (Ga Tp (Yb (Bb [10,15] "claims") (da 0)) (da 3)) Ba))) (ja (Ga Tp (Yb (Bb [10] "seen") (da 0)) (da 3)) Ba)))) Ba)))
abbrev qY:Ev->M Fl:=xU
def GN:Ev->M Fl:=
 (zb qY (zb (Uw (da 1) (Mp (Cy (da 1)) (Gn 2 (Wh (Ld 3) (Wh (Ld 4) Co))) HG)) (pd (Mg (lq 9 5 Yr (ja (Yb (Bb [9,10] "every") (da 0)) (ja (Yb (Bb [9,10] "last_look") (da 0)) (ja (He [(10,Mc)] 1 "words" (da 0) Ba) (ja (da 2) Ba)))))))))
def pc:List D->M D:=hide λa=>Hb (run 5 GN a)
theorem NG:ua ["self","accounts","pots","pot","account"] ["self","accounts"] (kc zcp):=Zd
theorem o0(a:Txt K mg ca):Wf ⟨K,ca,tx K⟩ P w mg base 3 (ca 33) ["self","accounts"] pc:=
 nk a.pc NG λb=>
  (Lb (kg NG.nd (ky Vl))
  (Lb (VC (uw Zm rfl (SF (ga 1)) (sw rfl (Ap (Hh NG.nd) (Ap (Hh NG.nd) Aw))) (qi (Wk (CA Nd Qf Rf VB hD (ga 2) (Ka (cf (Pa (Hc (Xo a) (ga 4)) (Pa (ae (lP a) b (Pa (ga 4) (Ka (av (kf b) (Hc (Pr a) (ga 0)) (ga 3) (λ_ _=>rfl))))) (Ka (av (kf b) (Hc (LG a) (ga 0)) (ga 3) (λ_ _=>rfl))))))))))))
  (ud (Jk (Ew (c:=9) (ps:=["self","every","look","words","pots"]) ⟨_,a.lz,a.Xx,ZW a⟩ rfl (b.mono (by decide)) rfl (Pa (Hc (UF a) (ga 0)) (Pa (Hc (gB a) (ga 0)) (Pa (Zq (DQ a) b (ga 0)) (Ka (ga 2))))))))))
theorem XM(a:Txt K mg ca):Bh ⟨K,ca,tx K⟩ P w mg base 3 "view_by" ["self","accounts"] [(10,pc)]:=(Sg a.Cb a.Kk (o0 a) Fi)
abbrev Q6:Stmt:=ce (top 92) 8
def sP:Ev->M Fl:=
 (pd (He [(10,pc)] 2 "view_by" (da 0) (ja (Yb (Bb [10] "accounts") (da 0)) Ba)))
def Yd:List D->M D:=hide λa=>Hb (run 1 sP a)
theorem jY:ua ["self"] ["self"] (kc Q6):=Zd
theorem U4(a:Txt K mg ca):Wf ⟨K,ca,tx K⟩ P w mg base 4 (ca 34) ["self"] Yd:=
 nk a.Yd jY λb=>
  (ud (fmt (XM a) b (ga 0) (Ka (Hc (Dr a) (ga 0)))))
theorem DY(a:Txt K mg ca):Bh ⟨K,ca,tx K⟩ P w mg base 4 "view" ["self"] [(10,Yd)]:=(Sg a.Cb a.io (U4 a) Fi)
abbrev iY:Stmt:=ce (top 92) 9
def OQ:Ev->M Fl:=
 (pd (md 1 Nh [] (ja (He [(10,Yd)] 1 "view" (da 0) Ba) Ba)))
def lc:List D->M D:=hide λa=>Hb (run 1 OQ a)
theorem VW:ua ["self"] ["self"] (kc iY):=Zd
theorem HY(a:Txt K mg ca):Wf ⟨K,ca,tx K⟩ P w mg base 5 (ca 35) ["self"] lc:=
 nk a.lc VW λb=>
  (ud (ae (zf.alias (dO a) a.tj) b (Ka (Zq (DY a) b (ga 0)))))
theorem wJ(a:Txt K mg ca):Bh ⟨K,ca,tx K⟩ P w mg base 5 "worth" ["self"] [(10,lc)]:=(Sg a.Cb a.Vm (HY a) Fi)
abbrev S7:Stmt:=ce (top 92) 11
def XN:Ev->M Fl:=
 (zb (Af 3 (jh aE (ja (Yb (Bb [10] "accounts") (da 0)) Ba))) (zb (Qs (da 1) (da 3) (Yb (Bb [5,6,7,8] "pot") (da 1))) (pd (Ga hO (md 1 Nh [] (ja (He [(10,pc)] 2 "view_by" (da 0) (ja (da 3) Ba)) Ba)) (Ga Mu (He [(10,lc)] 1 "worth" (da 0) Ba) (da 2))))))
def qc:List D->M D:=hide λa=>Hb (run 4 XN a)
theorem WS:ua ["self","account","allowance","accounts"] ["self","account","allowance"] (kc S7):=Zd
theorem j4(a:Txt K mg ca):Wf ⟨K,ca,tx K⟩ P w mg base 6 (ca 37) ["self","account","allowance"] qc:=
 nk a.qc WS λb=>
  (Lb (kg WS.nd (Du QH j9 rfl a.Sr OD (Ka (Hc (Dr a) (ga 0)))))
  (Lb (ou (kf b) (ga 1) (ga 3) (Hc (Lq a) (ga 1)))
  (ud (vx RX L1 (ae (zf.alias (dO a) a.tj) b (Ka (fmt (XM a) b (ga 0) (Ka (ga 3))))) (rk Rw Qw (Zq (wJ a) b (ga 0)) (ga 2)) (ng _)))))
theorem nS(a:Txt K mg ca):Bh ⟨K,ca,tx K⟩ P w mg base 6 "is_good" ["self","account","allowance"] [(10,qc)]:=(Sg a.Cb a.Nk (j4 a) Fi)
abbrev tW:Stmt:=ce (top 92) 16
abbrev FM:Ev->M Fl:=(ZK (Af 2 (md 3 fh [] (ja (Ga Tp (Yb (Bb [10] "accounts") (da 0)) (Ga Va (da 1) (eC (.int 1)))) (ja (Ga Va (da 1) (eC (.int 2))) (ja (Ga Va (da 1) (eC (.int 3))) Ba))))) [])
abbrev VR:Ev->M Fl:=(Yf (ik (eT (He [(10,qc)] 3 "is_good" (da 0) (ja (Ga Va (da 2) (eC (.int 0))) (ja (eC (.int 0)) Ba))))) Pi Uf)
abbrev UR:Ev->M Fl:=(Qs (Ga Va (da 2) (eC (.int 0))) (Yb (Bb [10] "accounts") (da 0)) (Ga Va (da 1) (eC (.int 1))))
abbrev VQ:Ev->M Fl:=(pd (Gh (ja (Ga Va (da 2) (eC (.int 1))) Ba)))
def EM:Ev->M Fl:=
 (zb FM (zb VR (zb UR VQ)))
def Ic:List D->M D:=hide (run 3 EM)
theorem DN:ua ["self","letter","step"] ["self","letter"] (kc tW):=Zd
theorem AY(a:Txt K mg ca):Wf ⟨K,ca,tx K⟩ P w mg base 7 (ca 42) ["self","letter"] Ic:=
 xr a.Ic DN λb=>
  (Lb (B3 rfl rfl (λ_ _ c=>(qi (kg DN.nd (ae (XU a) b (Pa (av (kf b) (Hc (Dr a) (ga 0)) (Cc (ga 1) Ra) (λ_ _=>rfl)) (Pa (Cc (ga 1) Ra) (Ka (Cc (ga 1) Ra)))))))) .nil)
  (Lb (ig (il (Rj (fmt (nS a) b (ga 0) (Pa (Cc (ga 2) Ra) (Ka Ra))))) nj fg)
  (Lb (ou (kf b) (Cc (ga 2) Ra) (Hc (Dr a) (ga 0)) (Cc (ga 1) Ra))
  (ud (Oi (Ka (Cc (ga 2) Ra)))))))
theorem L9(a:Txt K mg ca):Bh ⟨K,ca,tx K⟩ P w mg base 7 "take_ask" ["self","letter"] [(10,Ic)]:=(Sg a.Cb a.Xj (AY a) Fi)
theorem iM(a:Txt K mg ca):Bh ⟨K,ca,tx K⟩ P w mg base 1 "agree_of" ["self","side","one"] [(6,wa)]:=(Sg a.Tf a.ji (qB a) Fi)
abbrev U8:Stmt:=top 54
def kS:Ev->M Fl:=
 (pd (ki (md 2 yd [] (ja (da 0) (ja (md 1 Gg [] (ja (da 1) Ba)) Ba))) (Ga oEq (Ga Va (da 0) (eC (.int 0))) (Ga Ch (Ga Va (da 1) (eC (.int 0))) (eC (.int 1))))))
def Le:List D->M D:=hide λa=>Hb (run 2 kS a)
theorem y8:ua ["thing","one"] ["thing","one"] (kc U8):=Zd
theorem aW(a:Txt K mg ca):zf ⟨K,ca,tx K⟩ P w mg base 6 "is_following" ["thing","one"] Le:=
 Fh a.Le y8 λb=>
  (ud (Ei (ae (OJ a) b (Pa (ga 0) (Ka (ae (lG a) b (Ka (ga 1)))))) (am (bn b (Cc (ga 0) Ra) (Tl (Cc (ga 1) Ra) Ra)))))
abbrev cY:Stmt:=ce (top 55) 2
def sQ:Ev->M Fl:=
 (pd (Ie (ja (eC (.str "strike")) (ja (Yb (Bb [5,6,7,8] "pot") (da 0)) (ja (da 1) (ja (Ga Va (da 2) (eC (.int 0))) Ba))))))
def na:List D->M D:=hide λa=>Hb (run 3 sQ a)
theorem zY:ua ["self","side","one"] ["self","side","one"] (kc cY):=Zd
theorem Tz(a:Txt K mg ca):Wf ⟨K,ca,tx K⟩ P w mg base 1 (ca 18) ["self","side","one"] na:=
 nk a.na zY λb=>
  (ud (cf (Pa jf (Pa (Hc (Lq a) (ga 0)) (Pa (ga 1) (Ka (Cc (ga 2) Ra)))))))
theorem tV(a:Txt K mg ca):Bh ⟨K,ca,tx K⟩ P w mg base 1 "strike_of" ["self","side","one"] [(6,na)]:=(Sg a.Tf a.Qh (Tz a) Fi)
abbrev zil:Stmt:=ce (top 56) 1
def lN:Ev->M Fl:=
 (zb (Yf (ap (eT (Ga Jh (Yb (Bb [5,6,7,8,13,14] "side") (da 0)) (eC (.int 1)))) (ap (ik (eT (md 1 Kb [] (ja (da 1) Ba)))) (eT (Ga Jh (Ga Va (da 1) (eC (.int 0))) (eC (.str "offer")))))) Pi Uf) (zb (Af 2 (Ga Va (Ga Va (da 1) (eC (.int 2))) (eC (.int 3)))) (zb (Af 3 (He [(6,wa)] 3 "agree_of" (da 0) (ja (eC (.int 0)) (ja (da 2) Ba)))) (zb (Yf (ap (eT (Ga Jh (da 1) (Ie (ja (eC (.str "offer")) (ja (Yb (Bb [5,6,7,8] "pot") (da 0)) (ja (da 3) Ba)))))) (ik (eT (md 2 Le [] (ja (da 2) (ja (Yb (Bb [5,6,7,8] "mine") (da 0)) Ba)))))) Pi Uf) (zb (Af 4 (Mg (lq 8 7 Pj (ja (Yb (Bb [5,6,7,8] "pot") (da 0)) (ja (Yb (Bb [5,6,7,8,13,14] "side") (da 0)) (ja (da 2) (ja (da 3) (ja (Gh (ja (Yb (Bb [5,6,7,8] "mine") (da 0)) (ja (da 2) Ba))) (ja (Yb (Bb [5,6,7,8] "strikes") (da 0)) Ba))))))))) (pd (Ie (ja (da 4) (ja (Ie (ja (eC (.str "accept")) (ja (Yb (Bb [5,6,7,8] "pot") (da 0)) (ja (He [(6,wa)] 3 "agree_of" (da 0) (ja (eC (.int 1)) (ja (da 2) Ba))) (ja (He [(6,na)] 3 "strike_of" (da 0) (ja (eC (.int 1)) (ja (Yb (Bb [5,6,7,8] "mine") (da 0)) Ba))) Ba))))) Ba)))))))))
def Wd:List D->M D:=hide λa=>Hb (run 5 lN a)
theorem nG:ua ["self","letter","one","agree","behind"] ["self","letter"] (kc zil):=Zd
theorem M2(a:Txt K mg ca):Wf ⟨K,ca,tx K⟩ P w mg base 9 (ca 20) ["self","letter"] Wd:=
 nk a.Wd nG λb=>
  (Lb (ig (L2.PW.pt (rq (og (qq (kf b)) uh (Hc (Xo a) (ga 0)) Ra (ng _)) (rq (il (Rj (ae (DF a) b (Ka (ga 1))))) (Er (og (qq (kf b)) uh (Cc (ga 1) Ra) jf (ng _)))))) nj fg)
  (Lb (kg nG.nd (Cc (Cc (ga 1) Ra) Ra))
  (Lb (kg nG.nd (fmt (iM a) b (ga 0) (Pa Ra (Ka (ga 2)))))
  (Lb (ig (L2.PW.pt (rq (og (qq (kf b)) uh (ga 1) (cf (Pa jf (Pa (Hc (Lq a) (ga 0)) (Ka (ga 3))))) (ng _)) (Er (il (Rj (ae (aW a) b (Pa (ga 2) (Ka (Hc (Jo a) (ga 0)))))))))) nj fg)
  (Lb (kg nG.nd (Jk (Ew (c:=8) (ps:=["self","pot","side","mine","grant","may","strikes"]) ⟨_,a.Nt,a.Tr,WC a⟩ rfl (b.mono (by decide)) rfl (Pa (Hc (Lq a) (ga 0)) (Pa (Hc (Xo a) (ga 0)) (Pa (ga 2) (Pa (ga 3) (Pa (Oi (Pa (Hc (Jo a) (ga 0)) (Ka (ga 2)))) (Ka (Hc (My a) (ga 0)))))))))))
  (ud (cf (Pa (ga 4) (Ka (cf (Pa jf (Pa (Hc (Lq a) (ga 0)) (Pa (fmt (iM a) b (ga 0) (Pa Ra (Ka (ga 2)))) (Ka (fmt (tV a) b (ga 0) (Pa Ra (Ka (Hc (Jo a) (ga 0)))))))))))))))))))
theorem K5(a:Txt K mg ca):Bh ⟨K,ca,tx K⟩ P w mg base 1 "agree_of" ["self","side","one"] [(7,wa)]:=(Sg a.Pd a.Zg (qB a) Fi)
theorem gQ(a:Txt K mg ca):Bh ⟨K,ca,tx K⟩ P w mg base 1 "strike_of" ["self","side","one"] [(7,na)]:=(Sg a.Pd a.Lg (Tz a) Fi)
abbrev zdq:Stmt:=ce (top 57) 1
def xO:Ev->M Fl:=
 (zb (Af 2 (Ga Va (Yb (Bb [5,6,7,8] "may") (da 0)) (eC (.int 1)))) (zb (Af 3 (He [(7,wa)] 3 "agree_of" (da 0) (ja (eC (.int 1)) (ja (da 2) Ba)))) (zb (Yf (ap (ik (eT (md 1 Kb [] (ja (da 1) Ba)))) (eT (Ga Jh (da 1) (Ie (ja (eC (.str "accept")) (ja (Yb (Bb [5,6,7,8] "pot") (da 0)) (ja (da 3) (ja (He [(7,na)] 3 "strike_of" (da 0) (ja (eC (.int 1)) (ja (Yb (Bb [5,6,7,8] "mine") (da 0)) Ba))) Ba)))))))) Pi Uf) (zb (Af 4 (Mg (lq 6 7 Pj (ja (Yb (Bb [5,6,7,8] "pot") (da 0)) (ja (Yb (Bb [5,6,7,8,13,14] "side") (da 0)) (ja (da 2) (ja (da 3) (ja (Gh (ja (da 2) Ba)) (ja (Ga Ch (Yb (Bb [5,6,7,8] "strikes") (da 0)) (Gh (ja (Ga Va (Yb (Bb [5,6,7,8] "mine") (da 0)) (eC (.int 0))) Ba))) Ba))))))))) (pd (Ie (ja (da 4) (ja (Ie (ja (eC (.str "struck")) (ja (Yb (Bb [5,6,7,8] "pot") (da 0)) (ja (He [(7,na)] 3 "strike_of" (da 0) (ja (eC (.int 0)) (ja (Yb (Bb [5,6,7,8] "mine") (da 0)) Ba))) Ba)))) Ba))))))))
def Nc:List D->M D:=hide λa=>Hb (run 5 xO a)
theorem mE:ua ["self","letter","one","agree","behind"] ["self","letter"] (kc zdq):=Zd
theorem Q2(a:Txt K mg ca):Wf ⟨K,ca,tx K⟩ P w mg base 9 (ca 22) ["self","letter"] Nc:=
 nk a.Nc mE λb=>
  (Lb (kg mE.nd (Cc (Hc (fw a) (ga 0)) Ra))
  (Lb (kg mE.nd (fmt (K5 a) b (ga 0) (Pa Ra (Ka (ga 2)))))
  (Lb (ig (L2.PW.pt (rq (il (Rj (ae (DF a) b (Ka (ga 1))))) (Er (og (qq (kf b)) uh (ga 1) (cf (Pa jf (Pa (Hc (Lq a) (ga 0)) (Pa (ga 3) (Ka (fmt (gQ a) b (ga 0) (Pa Ra (Ka (Hc (Jo a) (ga 0)))))))))) (ng _))))) nj fg)
  (Lb (kg mE.nd (Jk (Ew (c:=6) (ps:=["self","pot","side","mine","grant","may","strikes"]) ⟨_,a.Jr,a.Lp,WC a⟩ rfl (b.mono (by decide)) rfl (Pa (Hc (Lq a) (ga 0)) (Pa (Hc (Xo a) (ga 0)) (Pa (ga 2) (Pa (ga 3) (Pa (Oi (Ka (ga 2))) (Ka (Tl (Hc (My a) (ga 0)) (Oi (Ka (Cc (Hc (Jo a) (ga 0)) Ra)))))))))))))
  (ud (cf (Pa (ga 4) (Ka (cf (Pa jf (Pa (Hc (Lq a) (ga 0)) (Ka (fmt (gQ a) b (ga 0) (Pa Ra (Ka (Hc (Jo a) (ga 0)))))))))))))))))
theorem U3(a:Txt K mg ca):Bh ⟨K,ca,tx K⟩ P w mg base 1 "strike_of" ["self","side","one"] [(8,na)]:=(Sg a.de a.Kg (Tz a) Fi)
abbrev JX:Stmt:=ce (top 58) 1
def UN:Ev->M Fl:=
 (zb (Af 2 (Ga Va (Yb (Bb [5,6,7,8] "may") (da 0)) (eC (.int 0)))) (zb (Yf (ap (ik (eT (md 1 Kb [] (ja (da 1) Ba)))) (eT (Ga Jh (da 1) (Ie (ja (eC (.str "struck")) (ja (Yb (Bb [5,6,7,8] "pot") (da 0)) (ja (He [(8,na)] 3 "strike_of" (da 0) (ja (eC (.int 0)) (ja (da 2) Ba))) Ba))))))) Pi Uf) (zb (Af 3 (Mg (lq 6 7 Pj (ja (Yb (Bb [5,6,7,8] "pot") (da 0)) (ja (Yb (Bb [5,6,7,8,13,14] "side") (da 0)) (ja (Yb (Bb [5,6,7,8] "mine") (da 0)) (ja (Yb (Bb [5,6,7,8] "grant") (da 0)) (ja (Gh (ja (Yb (Bb [5,6,7,8] "mine") (da 0)) Ba)) (ja (Ga Ch (Yb (Bb [5,6,7,8] "strikes") (da 0)) (Gh (ja (Ga Va (da 2) (eC (.int 0))) Ba))) Ba))))))))) (pd (Ie (ja (da 3) (ja (eC .Vb) Ba)))))))
def Oc:List D->M D:=hide λa=>Hb (run 4 UN a)
theorem rH:ua ["self","letter","old","behind"] ["self","letter"] (kc JX):=Zd
theorem EX(a:Txt K mg ca):Wf ⟨K,ca,tx K⟩ P w mg base 9 (ca 24) ["self","letter"] Oc:=
 nk a.Oc rH λb=>
  (Lb (kg rH.nd (Cc (Hc (fw a) (ga 0)) Ra))
  (Lb (ig (L2.PW.pt (rq (il (Rj (ae (DF a) b (Ka (ga 1))))) (Er (og (qq (kf b)) uh (ga 1) (cf (Pa jf (Pa (Hc (Lq a) (ga 0)) (Ka (fmt (U3 a) b (ga 0) (Pa Ra (Ka (ga 2)))))))) (ng _))))) nj fg)
  (Lb (kg rH.nd (Jk (Ew (c:=6) (ps:=["self","pot","side","mine","grant","may","strikes"]) ⟨_,a.Jr,a.Lp,WC a⟩ rfl (b.mono (by decide)) rfl (Pa (Hc (Lq a) (ga 0)) (Pa (Hc (Xo a) (ga 0)) (Pa (Hc (Jo a) (ga 0)) (Pa (Hc (uC a) (ga 0)) (Pa (Oi (Ka (Hc (Jo a) (ga 0)))) (Ka (Tl (Hc (My a) (ga 0)) (Oi (Ka (Cc (ga 2) Ra)))))))))))))
  (ud (cf (Pa (ga 3) (Ka rC)))))))
theorem f9(a:Txt K mg ca):Bh ⟨K,ca,tx K⟩ P w mg base 9 "taken" ["self","letter"] [(6,Wd),(7,Nc),(8,Oc)]:=(Sg a.Tf a.Yo (M2 a) (Sg a.Pd a.Hl (Q2 a) (Sg a.de a.xl (EX a) Fi)))
abbrev i9:Stmt:=ce (top 92) 17
def WP:Ev->M Fl:=
 (zb (Yf (ap (eT (Ga Jh (Ga Va (da 1) (eC (.int 0))) (eC (.str "offer")))) (eT (Ga iB (Ga Va (da 1) (eC (.int 1))) (Yb (Bb [10] "asked") (da 0))))) (pd (eC (.bl false))) Uf) Pi)
def gc:List D->M D:=hide λa=>Hb (run 2 WP a)
theorem SY:ua ["self","letter"] ["self","letter"] (kc i9):=Zd
theorem zaa(a:Txt K mg ca):Wf ⟨K,ca,tx K⟩ P w mg base 1 (ca 43) ["self","letter"] gc:=
 nk a.gc SY λb=>
  (Lb (ig (L2.PW.pt (rq (og (qq (kf b)) uh (Cc (ga 1) Ra) jf (ng _)) (Er (og (YP (kf b)) wQ (Cc (ga 1) Ra) (Hc (YJ a) (ga 0)) rfl)))) (ud Zs) fg)
  nj)
theorem F7(a:Txt K mg ca):Bh ⟨K,ca,tx K⟩ P w mg base 1 "is_as_asked" ["self","letter"] [(10,gc)]:=(Sg a.Cb a.Ui (zaa a) Fi)
abbrev O1:Stmt:=ce (top 92) 18
abbrev YQ:Ev->M Fl:=(Af 2 (Ga Va (da 1) (eC (.int 1))))
abbrev rM:Ev->M Fl:=(Af 3 (He [(6,Wd),(7,Nc),(8,Oc)] 2 "taken" (Ga Tp (Yb (Bb [10] "accounts") (da 0)) (da 2)) (ja (da 1) Ba)))
abbrev eS:Ev->M Fl:=(Yf (eT (Ga (zC [(8,6),(6,8),(6,7)]) (Ga Va (da 3) (eC (.int 0))) (Ga Tp (Yb (Bb [10] "accounts") (da 0)) (da 2)))) Pi Uf)
abbrev nT:Ev->M Fl:=(Af 4 (He [(10,gc)] 2 "is_as_asked" (da 0) (ja (da 1) Ba)))
abbrev AO:Ev->M Fl:=(Af 5 (Nz (eT (da 4)) (Ga Va (Ga Tp (Yb (Bb [10] "asked") (da 0)) (da 2)) (eC (.int 0))) (eC (.int 0))))
abbrev cR:Ev->M Fl:=(Yf (ik (eT (He [(10,qc)] 3 "is_good" (da 0) (ja (Ga Va (da 3) (eC (.int 0))) (ja (da 5) Ba))))) Pi Uf)
abbrev HP:Ev->M Fl:=(Qs (Ga Va (da 3) (eC (.int 0))) (Yb (Bb [10] "accounts") (da 0)) (da 2))
abbrev zT:Ev->M Fl:=(Yf (eT (da 4)) Pi Uf)
abbrev AQ:Ev->M Fl:=(pd (Nz (eT (Ga Dz (Ga Va (da 3) (eC (.int 1))) (eC .Vb))) (Gh Ba) (Gh (ja (Ga Va (da 3) (eC (.int 1))) Ba))))
def mN:Ev->M Fl:=
 (zb YQ (zb rM (zb eS (zb nT (zb AO (zb cR (zb HP (zb zT AQ))))))))
def ic:List D->M D:=hide (run 6 mN)
theorem xD:ua ["self","letter","pot","step","as_asked","allowance"] ["self","letter"] (kc O1):=Zd
theorem C3(a:Txt K mg ca):Wf ⟨K,ca,tx K⟩ P w mg base 10 (ca 44) ["self","letter"] ic:=
 xr a.ic xD λb=>
  (Lb (kg xD.nd (Cc (ga 1) Ra))
  (Lb (kg xD.nd (fmt (f9 a) b (av (kf b) (Hc (Dr a) (ga 0)) (ga 2) (λ_ _=>rfl)) (Ka (ga 1))))
  (Lb (ig (og (sX (kf b)) (O3 (K:=K) (GH a.Rl a.oo a.Qm a.rm (GH a.oo a.Rl a.xm a.tm (GH a.oo a.Mq a.Km a.om FY)))) (Cc (ga 3) Ra) (av (kf b) (Hc (Dr a) (ga 0)) (ga 2) (λ_ _=>rfl)) rfl) nj fg)
  (Lb (kg xD.nd (fmt (F7 a) b (ga 0) (Ka (ga 1))))
  (Lb (kg xD.nd (ZG (Rj (ga 4)) (Cc (av (kf b) (Hc (YJ a) (ga 0)) (ga 2) (λ_ _=>rfl)) Ra) Ra))
  (Lb (ig (il (Rj (fmt (nS a) b (ga 0) (Pa (Cc (ga 3) Ra) (Ka (ga 5)))))) nj fg)
  (Lb (ou (kf b) (Cc (ga 3) Ra) (Hc (Dr a) (ga 0)) (ga 2))
  (Lb (ig (Rj (ga 4)) nj fg)
  (ud (ZG (og SI nK (Cc (ga 3) Ra) rC (ng _)) (Oi Vl) (Oi (Ka (Cc (ga 3) Ra)))))))))))))
theorem zes(a:Txt K mg ca):Bh ⟨K,ca,tx K⟩ P w mg base 10 "take_step" ["self","letter"] [(10,ic)]:=(Sg a.Cb a.Ej (C3 a) Fi)
abbrev zgx:Stmt:=ce (top 92) 15
def kC:Ev->M Fl:=
 (zb (Yf (ik (eT (md 1 Kb [] (ja (da 1) Ba)))) Pi Uf) (zb (Yf (eT (Ga oEq (Ga Va (da 1) (eC (.int 0))) (eC (.str "word")))) (zb (qk (He [(10,Ab)] 2 "learn" (da 0) (ja (Gh (ja (Ga Va (da 1) (eC (.int 2))) Ba)) Ba))) (pd (Gh Ba))) Uf) (zb (Yf (ik (eT (He [(10,db)] 2 "holds" (da 0) (ja (Ga Va (da 1) (eC (.int 1))) Ba)))) (pd (Gh Ba)) Uf) (zb (Yf (eT (Ga oEq (Ga Va (da 1) (eC (.int 0))) (eC (.str "ask")))) (pd (He [(10,Ic)] 2 "take_ask" (da 0) (ja (da 1) Ba))) Uf) (pd (He [(10,ic)] 2 "take_step" (da 0) (ja (da 1) Ba)))))))
def La:List D->M D:=hide (run 2 kC)
theorem pX:ua ["self","letter"] ["self","letter"] (kc zgx):=Zd
theorem ZY(b:Txt K mg ca):Wf ⟨K,ca,tx K⟩ P w mg base 11 (ca 41) ["self","letter"] La:=
 xr b.La pX λa=>
  (Lb (ig (il (Rj (ae (DF b) a (Ka (ga 1))))) nj fg)
  (Lb (ig (og (wm (kf a)) uh (Cc (ga 1) Ra) jf (ng _)) (Lb (Wk (fmt (RI b) a (ga 0) (Ka (Oi (Ka (Cc (ga 1) Ra))))))
  (ud (Oi Vl))) fg)
  (Lb (ig (il (Rj (fmt (aK b) a (ga 0) (Ka (Cc (ga 1) Ra))))) (ud (Oi Vl)) fg)
  (Lb (ig (og (wm (kf a)) uh (Cc (ga 1) Ra) jf (ng _)) (ud (fmt (L9 b) a (ga 0) (Ka (ga 1)))) fg)
  (ud (fmt (zes b) a (ga 0) (Ka (ga 1))))))))
theorem AF(a:Txt K mg ca):Bh ⟨K,ca,tx K⟩ P w mg base 11 "take" ["self","letter"] [(10,La)]:=(Sg a.Cb a.ro (ZY a) Fi)
abbrev G5:Stmt:=top 109
def bN:Ev->M Fl:=
 (zb (Yf (eT (Ga oEq (He [(6,ec),(7,Nb),(8,Qb)] 1 "word" (da 0) Ba) (eC (.str "offered")))) (pd (Ie (ja (eC (.str "accept")) (ja (eC (.int 0)) (ja (Ie (ja (eC (.str "agree")) (ja (eC (.int 0)) (ja (eC (.int 1)) (ja (Ga Va (Yb (Bb [5,6,7,8] "may") (da 0)) (eC (.int 1))) Ba))))) (ja (Ie (ja (eC (.str "strike")) (ja (eC (.int 0)) (ja (eC (.int 1)) (ja (Ga Va (Yb (Bb [5,6,7,8] "mine") (da 0)) (eC (.int 0))) Ba))))) Ba)))))) Uf) (zb (Yf (eT (Ga oEq (He [(6,ec),(7,Nb),(8,Qb)] 1 "word" (da 0) Ba) (eC (.str "waiting")))) (pd (Ie (ja (eC (.str "struck")) (ja (eC (.int 0)) (ja (Ie (ja (eC (.str "strike")) (ja (eC (.int 0)) (ja (eC (.int 0)) (ja (Ga Va (Ga Va (Yb (Bb [5,6,7,8] "may") (da 0)) (eC (.int 0))) (eC (.int 0))) Ba))))) Ba))))) Uf) (zb (Yf (eT (Ga oEq (Yb (Bb [5,6,7,8,13,14] "side") (da 0)) (eC (.int 0)))) (pd (Ie (ja (eC (.str "ask")) (ja (eC (.int 0)) (ja (Ga Va (da 1) (eC (.int 1))) (ja (Ga Va (da 1) (eC (.int 2))) Ba)))))) Uf) (pd (Ie (ja (eC (.str "offer")) (ja (eC (.int 0)) (ja (Ie (ja (eC (.str "agree")) (ja (eC (.int 0)) (ja (eC (.int 0)) (ja (da 1) Ba))))) Ba))))))))
def Bd:List D->M D:=hide λa=>Hb (run 2 bN a)
theorem zd5:ua ["_law_account","_law_new_here"] ["_law_account","_law_new_here"] (kc G5):=Zd
theorem EH(a:Txt K mg ca):zf ⟨K,ca,tx K⟩ P w mg base 2 "_law_fitting" ["_law_account","_law_new_here"] Bd:=
 Fh a.Bd zd5 λb=>
  (Lb (ig (og (wm (kf b)) uh (Zq (BA a) b (ga 0)) jf (ng _)) (ud (cf (Pa jf (Pa Ra (Pa (cf (Pa jf (Pa Ra (Pa Ra (Ka (Cc (Hc (fw a) (ga 0)) Ra)))))) (Ka (cf (Pa jf (Pa Ra (Pa Ra (Ka (Cc (Hc (Jo a) (ga 0)) Ra)))))))))))) fg)
  (Lb (ig (og (wm (kf b)) uh (Zq (BA a) b (ga 0)) jf (ng _)) (ud (cf (Pa jf (Pa Ra (Ka (cf (Pa jf (Pa Ra (Pa Ra (Ka (Cc (Cc (Hc (fw a) (ga 0)) Ra) Ra))))))))))) fg)
  (Lb (ig (og (wm (kf b)) uh (Hc (Xo a) (ga 0)) Ra (ng _)) (ud (cf (Pa jf (Pa Ra (Pa (Cc (ga 1) Ra) (Ka (Cc (ga 1) Ra))))))) fg)
  (ud (cf (Pa jf (Pa Ra (Ka (cf (Pa jf (Pa Ra (Pa Ra (Ka (ga 1))))))))))))))
abbrev sZ:Stmt:=ce (top 92) 13
def XH:Ev->M Fl:=
 (zb (Yf (ik (eT (He [(10,db)] 2 "holds" (da 0) (ja (Ga Va (da 1) (eC (.int 1))) Ba)))) (pd (Ie (ja (eC (.bl false)) (ja (Gh Ba) Ba)))) Uf) (zb (Yf (eT (Ga oEq (Ga Va (da 1) (eC (.int 0))) (eC (.str "finish")))) (zb (Qs (eC (.bl true)) (Yb (Bb [10] "finishing") (da 0)) (Ga Va (da 1) (eC (.int 1)))) (pd (Ie (ja (eC (.bl true)) (ja (Gh Ba) Ba))))) Uf) Pi))
def Gc:List D->M D:=hide (run 4 XH)
theorem xW:ua ["self","wish","account","one"] ["self","wish"] (kc sZ):=Zd
theorem aY(a:Txt K mg ca):Wf ⟨K,ca,tx K⟩ P w mg base 2 (ca 39) ["self","wish"] Gc:=
 xr a.Gc xW λb=>
  (Lb (ig (il (Rj (fmt (aK a) b (ga 0) (Ka (Cc (ga 1) Ra))))) (ud (cf (Pa Zs (Ka (Oi Vl))))) fg)
  (Lb (ig (og (wm (kf b)) uh (Cc (ga 1) Ra) jf (ng _)) (Lb (ou (kf b) Zs (Hc (yI a) (ga 0)) (Cc (ga 1) Ra))
  (ud (cf (Pa Zs (Ka (Oi Vl)))))) fg)
  nj))
theorem aM(a:Txt K mg ca):Bh ⟨K,ca,tx K⟩ P w mg base 2 "wish" ["self","wish"] [(10,Gc)]:=(Sg a.Cb a.Vn (aY a) Fi)
abbrev Y4:Stmt:=ce (top 106) 2
def mT:Ev->M Fl:=
 (pd (Yb (Bb [13,15] "day") (da 0)))
def ze:List D->M D:=hide λa=>Hb (run 1 mT a)
theorem MW:ua ["self"] ["self"] (kc Y4):=Zd
theorem zgj(a:Txt K mg ca):Wf ⟨K,ca,tx K⟩ P w mg base 1 (ca 65) ["self"] ze:=
 nk a.ze MW λb=>
  (ud (Hc (Lz a) (ga 0)))
theorem M7(a:Txt K mg ca):Bh ⟨K,ca,tx K⟩ P w mg base 1 "today" ["self"] [(15,ze)]:=(Sg a.Ue a.Wo (zgj a) Fi)
abbrev V9:Stmt:=ce (top 106) 1
def wP:Ev->M Fl:=
 (Yf (ik (eT (md 3 Jb [] (ja (da 1) (ja (eC (.int 0)) (ja (Ga Mu (jh Zk (ja (Yb (Bb [9,15] "pots") (da 0)) Ba)) (eC (.int 1))) Ba)))))) Pi Uf)
def Db:List D->M D:=hide λa=>Hb (run 2 wP a)
theorem kZ:ua ["self","pot"] ["self","pot"] (kc V9):=Zd
theorem W1(a:Txt K mg ca):Wf ⟨K,ca,tx K⟩ P w mg base 3 (ca 64) ["self","pot"] Db:=
 nk a.Db kZ λb=>
  (qi (ig (il (Rj (ae (nu a) b (Pa (ga 1) (Pa Ra (Ka (rk Rw Qw (gn Oq (mr rfl) rfl a.sg Gb (Ka (Hc (lw a) (ga 0)))) Ra))))))) nj fg))
theorem NE(a:Txt K mg ca):Bh ⟨K,ca,tx K⟩ P w mg base 3 "check_pot" ["self","pot"] [(15,Db)]:=(Sg a.Ue a.wk (W1 a) Fi)
abbrev WX:Stmt:=ce (top 95) 0
def aR:Ev->M Fl:=
 (pd (Ie (ja (eC (.str "held")) Ba)))
def Jd:List D->M D:=hide λa=>Hb (run 1 aR a)
theorem yV:ua ["self"] ["self"] (kc WX):=Zd
theorem zh9(a:Txt K mg ca):Wf ⟨K,ca,tx K⟩ P w mg base 1 (ca 51) ["self"] Jd:=
 nk a.Jd yV λb=>
  (ud (cf (Ka jf)))
theorem RH(a:Txt K mg ca):Yk ⟨K,ca,tx K⟩ [13] "stand":=(Rg a.Th a.Vo Bo)
abbrev KY:Stmt:=ce (top 96) 1
def AN:Ev->M Fl:=
 (pd (Ie (ja (eC (.str "laid")) (ja (Yb (Bb [5,6,7,8,13,14] "side") (da 0)) (ja (Yb (Bb [13] "stand") (da 0)) (ja (Yb (Bb [13,15] "day") (da 0)) Ba))))))
def Dd:List D->M D:=hide λa=>Hb (run 1 AN a)
theorem t4:ua ["self"] ["self"] (kc KY):=Zd
theorem P7(a:Txt K mg ca):Wf ⟨K,ca,tx K⟩ P w mg base 1 (ca 55) ["self"] Dd:=
 nk a.Dd t4 λb=>
  (ud (cf (Pa jf (Pa (Hc (Xo a) (ga 0)) (Pa (Hc (RH a) (ga 0)) (Ka (Hc (Lz a) (ga 0))))))))
abbrev zin:Stmt:=ce (top 97) 1
abbrev X1:Ev->M Fl:=(qk (He [(15,Db)] 2 "check_pot" (da 0) (ja (da 1) Ba)))
def lM:Ev->M Fl:=
 (pd (Ie (ja (eC (.str "taken")) (ja (Yb (Bb [5,6,7,8,13,14] "side") (da 0)) Ba))))
def Xc:List D->M D:=hide λa=>Hb (run 1 lM a)
theorem k7:ua ["self"] ["self"] (kc zin):=Zd
theorem UX(a:Txt K mg ca):Wf ⟨K,ca,tx K⟩ P w mg base 1 (ca 60) ["self"] Xc:=
 nk a.Xc k7 λb=>
  (ud (cf (Pa jf (Ka (Hc (Xo a) (ga 0))))))
theorem F6(a:Txt K mg ca):Bh ⟨K,ca,tx K⟩ P w mg base 1 "told" ["self"] [(12,Jd),(13,Dd),(14,Xc)]:=(Sg a.Ts a.Up (zh9 a) (Sg a.Th a.Vp (P7 a) (Sg a.Cn a.Ro (UX a) Fi)))
abbrev qW:Stmt:=ce (top 106) 8
abbrev b1_:Ev->M Fl:=X1
def zQ:Ev->M Fl:=
 (zb b1_ (pd (He [(12,Jd),(13,Dd),(14,Xc)] 1 "told" (Ga Va (Yb (Bb [10,15] "claims") (da 0)) (da 1)) Ba)))
def Kc:List D->M D:=hide λa=>Hb (run 2 zQ a)
theorem dY:ua ["self","pot"] ["self","pot"] (kc qW):=Zd
theorem U9(a:Txt K mg ca):Wf ⟨K,ca,tx K⟩ P w mg base 4 (ca 71) ["self","pot"] Kc:=
 nk a.Kc dY λb=>
  (Lb (Wk (fmt (NE a) b (ga 0) (Ka (ga 1))))
  (ud (Zq (F6 a) b (Cc (Hc (Pr a) (ga 0)) (ga 1)))))
theorem BL(a:Txt K mg ca):Bh ⟨K,ca,tx K⟩ P w mg base 4 "told" ["self","pot"] [(15,Kc)]:=(Sg a.Ue a.Zp (U9 a) Fi)
abbrev o9:Stmt:=ce (top 106) 9
def xP:Ev->M Fl:=
 (zb (qk (He [(15,Db)] 2 "check_pot" (da 0) (ja (da 1) Ba))) (pd (jh Ny (ja (Ga Va (Yb (Bb [15] "shown") (da 0)) (da 1)) Ba))))
def Pc:List D->M D:=hide λa=>Hb (run 2 xP a)
theorem CV:ua ["self","pot"] ["self","pot"] (kc o9):=Zd
theorem E5(a:Txt K mg ca):Wf ⟨K,ca,tx K⟩ P w mg base 4 (ca 72) ["self","pot"] Pc:=
 nk a.Pc CV λb=>
  (Lb (Wk (fmt (NE a) b (ga 0) (Ka (ga 1))))
  (ud (Du QH JS rfl a.Sr OD (Ka (Cc (Hc (II a) (ga 0)) (ga 1))))))
theorem o6(a:Txt K mg ca):Bh ⟨K,ca,tx K⟩ P w mg base 4 "shown_for" ["self","pot"] [(15,Pc)]:=(Sg a.Ue a.vk (E5 a) Fi)
abbrev IZ:Stmt:=ce (top 106) 13
abbrev Iz:Ev->M Fl:=(qk (TK kA (da 1) (ja (da 2) Ba)))
def SO:Ev->M Fl:=
 (zb (Af 1 Xr) (zb (aq (ri (Yb (Bb [15] "shown") (da 0))) (Ld 2) Iz) (pd (Mg (jh bw (ja (da 1) Ba))))))
def Qc:List D->M D:=hide λa=>Hb (run 3 SO a)
theorem rK:ua ["self","words","shown"] ["self"] (kc IZ):=Zd
theorem eW(a:Txt K mg ca):Wf ⟨K,ca,tx K⟩ P w mg base 1 (ca 76) ["self"] Qc:=
 nk a.Qc rK λb=>
  (Lb (kg rK.nd Fv)
  (Lb (qt Zm rfl (rn rfl (Hc (II a) (ga 0))) (Hh rK.nd) (qi (Wk (KZ pi lp PySem.F.type_dict_update j6 PZ (ga 1) (Ka (ga 2))))))
  (ud (Jk (gn (wT rfl) (lQ rfl) rfl a.fr L4.ZN (Ka (ga 1)))))))
theorem zev(a:Txt K mg ca):Bh ⟨K,ca,tx K⟩ P w mg base 1 "all_shown" ["self"] [(15,Qc)]:=(Sg a.Ue a.Pk (eW a) Fi)
abbrev V7:Stmt:=ce (top 106) 14
def mM:Ev->M Fl:=
 (pd (Mg (jh jq (ja (Yb (Bb [9,15] "pots") (da 0)) Ba))))
def Uc:List D->M D:=hide λa=>Hb (run 1 mM a)
theorem E9:ua ["self"] ["self"] (kc V7):=Zd
theorem aV(a:Txt K mg ca):Wf ⟨K,ca,tx K⟩ P w mg base 1 (ca 77) ["self"] Uc:=
 nk a.Uc E9 λb=>
  (ud (Jk (Du By (Oy rfl) rfl a.oj xi (Ka (Hc (lw a) (ga 0))))))
theorem F9(a:Txt K mg ca):Bh ⟨K,ca,tx K⟩ P w mg base 1 "made_of" ["self"] [(15,Uc)]:=(Sg a.Ue a.qm (aV a) Fi)
abbrev r8:Stmt:=top 87
def uJ:Ev->M Fl:=
 (pd (ki (Ga oEq (Ga Va (da 1) (eC (.int 0))) (eC (.str "laid"))) (ki (Ga Jh (Ga Va (da 1) (eC (.int 1))) (Yb (Bb [5,6,7,8,13,14] "side") (da 0))) (Ga (Qx false) (Ga Va (Ga Va (da 1) (eC (.int 2))) (eC (.int 0))) (Yb (Bb [5,6,7,8] "strikes") (da 0))))))
def Fc:List D->M D:=hide λa=>Hb (run 2 uJ a)
theorem vU:ua ["account","claim"] ["account","claim"] (kc r8):=Zd
theorem ze4(a:Txt K mg ca):zf ⟨K,ca,tx K⟩ P w mg base 1 "is_given_up" ["account","claim"] Fc:=
 Fh a.Fc vU λb=>
  (ud (Ei (bn b (Cc (ga 1) Ra) jf) (Ei (vx (qq (kf b)) uh (Cc (ga 1) Ra) (Hc (Xo a) (ga 0)) (ng _)) (am (vx (cX rfl (kf b)) uh (Cc (Cc (ga 1) Ra) Ra) (Hc (My a) (ga 0)) rfl)))))
abbrev U5:Stmt:=top 105
def SN:Ev->M Fl:=
 (Yf (ik (eT (md 1 xg [] (ja (da 0) Ba)))) Pi Uf)
def We:List D->M D:=hide λa=>Hb (run 1 SN a)
theorem o7:ua ["side"] ["side"] (kc U5):=Zd
theorem GS(a:Txt K mg ca):zf ⟨K,ca,tx K⟩ P w mg base 4 "check_side" ["side"] We:=
 Fh a.We o7 λb=>
  (qi (ig (il (Rj (ae (DT a) b (Ka (ga 0))))) nj fg))
abbrev y9:Stmt:=top 17
def PR:Ev->M Fl:=
 (pd (Ga Mu (eC (.int 1)) (da 0)))
def Ve:List D->M D:=hide λa=>Hb (run 1 PR a)
theorem B8:ua ["side"] ["side"] (kc y9):=Zd
theorem fR(a:Txt K mg ca):zf ⟨K,ca,tx K⟩ P w mg base 1 "other_side" ["side"] Ve:=
 Fh a.Ve B8 λb=>
  (ud (rk Rw Qw Ra (ga 0)))
theorem ON(a:Txt K mg ca):Yk ⟨K,ca,tx K⟩ [13] "wait":=(Rg a.Th a.bq Bo)
abbrev mY:Stmt:=ce (top 96) 2
def OT:Ev->M Fl:=
 (pd (Ga oLt (da 1) (Ga Ch (Yb (Bb [13,15] "day") (da 0)) (Yb (Bb [13] "wait") (da 0)))))
def Vd:List D->M D:=hide λa=>Hb (run 2 OT a)
theorem F1:ua ["self","day"] ["self","day"] (kc mY):=Zd
theorem ZX(a:Txt K mg ca):Wf ⟨K,ca,tx K⟩ P w mg base 1 (ca 56) ["self","day"] Vd:=
 nk a.Vd F1 λb=>
  (ud (vx eB UA (ga 1) (Tl (Hc (Lz a) (ga 0)) (Hc (ON a) (ga 0))) (ng _)))
theorem i8(a:Txt K mg ca):Bh ⟨K,ca,tx K⟩ P w mg base 1 "waits" ["self","day"] [(13,Vd)]:=(Sg a.Th a.Po (ZX a) Fi)
abbrev k9:Stmt:=ce (top 96) 4
def FP:Ev->M Fl:=
 (zb (Yf (ap (eT (Ga Jh (da 2) (md 1 Ve [] (ja (Yb (Bb [5,6,7,8,13,14] "side") (da 0)) Ba)))) (ik (eT (He [(13,Vd)] 2 "waits" (da 0) (ja (da 3) Ba))))) Pi Uf) (pd (ki (md 1 ee [] (ja (da 4) Ba)) (Ga oEq (da 4) (Ie (ja (eC (.str "strike")) (ja (da 1) (ja (Yb (Bb [5,6,7,8,13,14] "side") (da 0)) (ja (Ga Va (Yb (Bb [13] "stand") (da 0)) (eC (.int 0))) Ba)))))))))
def wc:List D->M D:=hide λa=>Hb (run 5 FP a)
theorem y0:ua ["self","pot","side","day","thing"] ["self","pot","side","day","thing"] (kc k9):=Zd
theorem aZ(a:Txt K mg ca):Wf ⟨K,ca,tx K⟩ P w mg base 6 (ca 58) ["self","pot","side","day","thing"] wc:=
 nk a.wc y0 λb=>
  (Lb (ig (L2.PW.pt (rq (og (qq (kf b)) uh (ga 2) (ae (fR a) b (Ka (Hc (Xo a) (ga 0)))) (ng _)) (Er (il (Rj (fmt (i8 a) b (ga 0) (Ka (ga 3)))))))) nj fg)
  (ud (Ei (ae (YE a) b (Ka (ga 4))) (am (bn b (ga 4) (cf (Pa jf (Pa (ga 1) (Pa (Hc (Xo a) (ga 0)) (Ka (Cc (Hc (RH a) (ga 0)) Ra)))))))))))
theorem j5(a:Txt K mg ca):Bh ⟨K,ca,tx K⟩ P w mg base 6 "may_strike" ["self","pot","side","day","thing"] [(13,wc)]:=(Sg a.Th a.fk (aZ a) Fi)
abbrev Q9:Stmt:=ce (top 97) 0
abbrev WV:Ev->M Fl:=(qk (md 1 We [] (ja (da 2) Ba)))
def bP:Ev->M Fl:=
 (zb (qk (md 2 fo [] (ja (da 0) (ja (da 1) Ba)))) (lj [5,6,7,8,13,14] "side" (da 2) (da 0)))
def Wr:List D->M D:=hide (run 3 bP)
theorem zb0:ua ["self","whole","side"] ["self","whole","side"] (kc Q9):=Zd
theorem M9(a:Txt K mg ca):Wf ⟨K,ca,tx K⟩ P w mg base 3 (ca 59) ["self","whole","side"] Wr:=
 xr a.Wr zb0 λb=>
  (Lb (Wk (kQ (c:=11) ⟨a.Ys,a.Rh,_,_,a.Oh,a.Sh,a.Mh,jL a⟩ rfl (b.mono (by decide)) rfl (Pa (ga 0) (Ka (ga 1)))))
  (qi (Wj rfl (Xo a) (ga 0) (ga 2))))
abbrev WW:Stmt:=ce (top 106) 7
abbrev bK:Ev->M Fl:=(pd (da 2))
abbrev wR:Ev->M Fl:=WV
abbrev JT:Ev->M Fl:=(Yf (ik (eT (He [(13,wc)] 5 "may_strike" (Ga Va (Yb (Bb [10,15] "claims") (da 0)) (da 1)) (ja (da 1) (ja (da 2) (ja (Yb (Bb [13,15] "day") (da 0)) (ja (da 3) Ba))))))) Pi Uf)
abbrev dR:Ev->M Fl:=(EA (Mg (lq 14 3 Wr (ja (md 1 ge [] (ja (Ga Va (Yb (Bb [9,15] "pots") (da 0)) (da 1)) Ba)) (ja (da 2) Ba)))) (Yb (Bb [10,15] "claims") (da 0)) (da 1))
def MQ:Ev->M Fl:=
 (zb (qk (He [(15,Db)] 2 "check_pot" (da 0) (ja (da 1) Ba))) (zb wR (zb JT dR)))
def Xd:List D->M D:=hide (run 4 MQ)
theorem FU:ua ["self","pot","side","thing"] ["self","pot","side","thing"] (kc WW):=Zd
theorem B1(a:Txt K mg ca):Wf ⟨K,ca,tx K⟩ P w mg base 7 (ca 70) ["self","pot","side","thing"] Xd:=
 xr a.Xd FU λb=>
  (Lb (Wk (fmt (NE a) b (ga 0) (Ka (ga 1))))
  (Lb (Wk (ae (GS a) b (Ka (ga 2))))
  (Lb (ig (il (Rj (fmt (j5 a) b (Cc (Hc (Pr a) (ga 0)) (ga 1)) (Pa (ga 1) (Pa (ga 2) (Pa (Hc (Lz a) (ga 0)) (Ka (ga 3)))))))) nj fg)
  (qi (jG (Jk (Ew (c:=14) (ps:=["self","whole","side"]) ⟨_,a.Mx,a.jv,M9 a⟩ rfl (b.mono (by decide)) rfl (Pa (ae (RF a) b (Ka (Cc (Hc (lw a) (ga 0)) (ga 1)))) (Ka (ga 2))))) (Hc (Pr a) (ga 0)) (ga 1))))))
theorem gX(a:Txt K mg ca):Bh ⟨K,ca,tx K⟩ P w mg base 7 "strike" ["self","pot","side","thing"] [(15,Xd)]:=(Sg a.Ue a.Pn (B1 a) Fi)
theorem NV(a:Txt K mg ca):Bh ⟨K,ca,tx K⟩ P w mg base 1 "strike_of" ["self","side","one"] [(5,na),(6,na),(7,na),(8,na)]:=(Sg a.vf a.gj (Tz a) (Sg a.Tf a.Qh (Tz a) (Sg a.Pd a.Lg (Tz a) (Sg a.de a.Kg (Tz a) Fi))))
abbrev JV:Stmt:=ce (top 92) 20
abbrev YB:Ev->M Fl:=(zb (Af 6 (Ga Tp (Yb (Bb [10,15] "claims") (da 0)) (da 4))) (Yf (lB (eT (md 2 Fc [] (ja (da 5) (ja (da 6) Ba)))) (eT (Ga oLt (Yb (Bb [9,10] "last_look") (da 0)) (Ga Ch (Ga Va (da 6) (eC (.int 3))) (Ga Va (da 3) (da 4)))))) (zb (qk (He [(15,Xd)] 4 "strike" (da 1) (ja (da 4) (ja (Yb (Bb [5,6,7,8,13,14] "side") (da 5)) (ja (He [(5,na),(6,na),(7,na),(8,na)] 3 "strike_of" (da 5) (ja (Ga Va (da 6) (eC (.int 1))) (ja (Ga Va (da 6) (eC (.int 2))) Ba))) Ba))))) (zb (Qs (Ie (ja (eC (.str "taken")) (ja (Yb (Bb [5,6,7,8,13,14] "side") (da 5)) Ba))) (Yb (Bb [10,15] "claims") (da 0)) (da 4)) (qk (Fy Jn (da 2) (ja (Ie (ja (eC (.str "strike")) (ja (da 4) Ba))) Ba))))) Uf))
abbrev NC:Ev->M Fl:=(Af 3 (Mg (Ym (toN (ri (He [(15,Uc)] 1 "made_of" (da 1) Ba))) [] (Ld 0) Gk (Ga Va (da 0) (eC (.int 4))))))
abbrev oJ:Ev->M Fl:=bK
def LI:Ev->M Fl:=
 (zb (Af 2 (Au Ba)) (zb NC (zb (Uw (Yb (Bb [10] "accounts") (da 0)) (Mp (Cy (Yb (Bb [10] "accounts") (da 0))) (Gn 2 (Wh (Ld 4) (Wh (Ld 5) Co))) YB)) oJ)))
def Fb:List D->M D:=hide (run 7 LI)
theorem MA:ua ["self","book","deeds","waits","pot","account","claim"] ["self","book"] (kc JV):=Zd
theorem vY(a:Txt K mg ca):Wf ⟨K,ca,tx K⟩ P w mg base 8 (ca 46) ["self","book"] Fb:=
 xr a.Fb MA λb=>
  (Lb (kg MA.nd (ky Vl))
  (Lb (PQ (GO (i:=3) MA.nd rfl (Or.inl rfl) (x:="made") (z0:="0") (M':=[]) (ix:=[]) rfl ⟨rfl,rfl,rfl,rfl,rfl,rfl⟩ (zu (rn rfl (Zq (F9 a) b (ga 1)))) (λ_ _ _ _ _=>Hh (by show List.Nodup (("made"::"0"::[]):List Str);decide +kernel)) (λ_ _ _ _ _=>Bu) (λ_ _ _ _ _=>(Cc (ga 0) Ra))))
  (Lb (VC (uw Zm rfl (SF (Hc (Dr a) (ga 0))) (sw rfl (Ap (Hh MA.nd) (Ap (Hh MA.nd) Aw))) (Lb (kg MA.nd (av (kf b) (Hc (Pr a) (ga 0)) (ga 4) (λ_ _=>rfl)))
  (qi (ig (L2.PW.pt (jF (Rj (ae (ze4 a) b (Pa (ga 5) (Ka (ga 6))))) (qG (og eB UA (Hc (gB a) (ga 0)) (Tl (Cc (ga 6) Ra) (Cc (ga 3) (ga 4))) (ng _))))) (Lb (Wk (fmt (gX a) b (ga 1) (Pa (ga 4) (Pa (Hc (Xo a) (ga 5)) (Ka (fmt (NV a) b (ga 5) (Pa (Cc (ga 6) Ra) (Ka (Cc (ga 6) Ra)))))))))
  (Lb (ou (kf b) (cf (Pa jf (Ka (Hc (Xo a) (ga 5))))) (Hc (Pr a) (ga 0)) (ga 4))
  (qi (Wk (CA Nd Qf Rf VB hD (ga 2) (Ka (cf (Pa jf (Ka (ga 4)))))))))) fg)))))
  (ud (ga 2)))))
theorem zc8(a:Txt K mg ca):Bh ⟨K,ca,tx K⟩ P w mg base 8 "strike_all" ["self","book"] [(10,Fb)]:=(Sg a.Cb a.fj (vY a) Fi)
abbrev i6:Stmt:=top 86
abbrev IE:Ev->M Fl:=(qk (Fy Nw (da 2) (ja (Mg (Ym (toN (ri (Ga Va (da 3) (eC (.int 2))))) [0] (Ld 0) (eT (Ga Jh (Ga Va (da 0) (eC (.int 0))) (Yb (Bb [5,6,7,8,13,14] "side") (da 2)))) (da 0))) Ba)))
def pP:Ev->M Fl:=
 (zb (Af 2 (Au Ba)) (zb (aq (ri (md 2 Ae [] (ja (da 0) (ja (da 1) Ba)))) (Ld 3) IE) (pd (da 2))))
def gh:List D->M D:=hide λa=>Hb (run 4 pP a)
theorem kJ:ua ["account","claim","ties","one"] ["account","claim"] (kc i6):=Zd
theorem P9(a:Txt K mg ca):zf ⟨K,ca,tx K⟩ P w mg base 3 "ties_to" ["account","claim"] gh:=
 Fh a.gh kJ λb=>
  (Lb (kg kJ.nd (ky Vl))
  (Lb (qt Zm rfl (rn rfl (ae (lP a) b (Pa (ga 0) (Ka (ga 1))))) (Hh kJ.nd) (qi (Wk (CA Nd pp qp QT HR (ga 2) (Ka (Jk (Su (x:="tie") (z0:="0") (M':=["account"]) (ix:=[0]) rfl ⟨rfl,rfl,rfl,rfl,rfl,rfl⟩ (zu (rn rfl (Cc (ga 3) Ra))) (λ_ _ _ _ _=>Hh (by show List.Nodup (("tie"::"0"::["account"]):List Str);decide +kernel)) (λ_ _ _ _ _=>z7 (og (qq (kf b)) uh (Cc (ga 0) Ra) (Hc (Xo a) (ga 2)) (ng _))) (λ_ _ _ _ _=>(ga 0)))))))))
  (ud (ga 2))))
abbrev NU:Stmt:=ce (top 92) 22
abbrev GK:Ev->M Fl:=(aq (ri (md 2 gh [] (ja (da 4) (ja (Ga Tp (Yb (Bb [10,15] "claims") (da 0)) (da 3)) Ba)))) (Ld 5) Pi)
def NR:Ev->M Fl:=
 (zb (Af 2 (Au Ba)) (zb (Uw (Yb (Bb [10] "accounts") (da 0)) (Mp (Cy (Yb (Bb [10] "accounts") (da 0))) (Gn 2 (Wh (Ld 3) (Wh (Ld 4) Co))) GK)) (pd (da 2))))
def Jc:List D->M D:=hide λa=>Hb (run 6 NR a)
theorem pD:ua ["self","book","deeds","pot","account","tie"] ["self","book"] (kc NU):=Zd
theorem V6(a:Txt K mg ca):Wf ⟨K,ca,tx K⟩ P w mg base 4 (ca 48) ["self","book"] Jc:=
 nk a.Jc pD λb=>
  (Lb (kg pD.nd (ky Vl))
  (Lb (VC (uw Zm rfl (SF (Hc (Dr a) (ga 0))) (sw rfl (Ap (Hh pD.nd) (Ap (Hh pD.nd) Aw))) (qi (qt Zm rfl (rn rfl (ae (P9 a) b (Pa (ga 4) (Ka (av (kf b) (Hc (Pr a) (ga 0)) (ga 3) (λ_ _=>rfl)))))) (Hh pD.nd) nj))))
  (ud (ga 2))))
theorem zgi(a:Txt K mg ca):Bh ⟨K,ca,tx K⟩ P w mg base 4 "show_all" ["self","book"] [(10,Jc)]:=(Sg a.Cb a.ck (V6 a) Fi)
abbrev t6:Stmt:=top 104
def TN:Ev->M Fl:=
 (pd (ki (md 1 ee [] (ja (da 3) Ba)) (Ga oEq (da 3) (Ie (ja (eC (.str "agree")) (ja (da 0) (ja (md 1 Ve [] (ja (da 1) Ba)) (ja (da 2) Ba))))))))
def eg:List D->M D:=hide λa=>Hb (run 4 TN a)
theorem O0:ua ["pot","side","stand","agreement"] ["pot","side","stand","agreement"] (kc t6):=Zd
theorem ZU(a:Txt K mg ca):zf ⟨K,ca,tx K⟩ P w mg base 6 "is_agreed" ["pot","side","stand","agreement"] eg:=
 Fh a.eg O0 λb=>
  (ud (Ei (ae (YE a) b (Ka (ga 3))) (am (bn b (ga 3) (cf (Pa jf (Pa (ga 0) (Pa (ae (fR a) b (Ka (ga 1))) (Ka (ga 2))))))))))
abbrev LX:Stmt:=ce (top 106) 5
abbrev IT:Ev->M Fl:=(Af 5 (Ga Va (Yb (Bb [9,15] "pots") (da 0)) (da 1)))
def AR:Ev->M Fl:=
 (zb (Yf (ik (eT (Yb (wB (ZA [(6,false),(7,false),(8,false),(9,false),(10,false),(12,true),(13,false),(14,false),(15,false)])) (Ga Va (Yb (Bb [10,15] "claims") (da 0)) (da 1))))) Pi Uf) (zb IT (pd (BK (Ga oEq (da 3) (md 2 Ci [] (ja (Ga Va (da 5) (eC (.int 2))) (ja (Ga Va (da 5) (eC (.int 3))) Ba)))) (md 4 eg [] (ja (da 1) (ja (da 2) (ja (da 3) (ja (da 4) Ba)))))))))
def Gd:List D->M D:=hide λa=>Hb (run 6 AR a)
theorem KO:ua ["self","pot","side","stand","agreement","made"] ["self","pot","side","stand","agreement"] (kc LX):=Zd
theorem N3(a:Txt K mg ca):Wf ⟨K,ca,tx K⟩ P w mg base 7 (ca 68) ["self","pot","side","stand","agreement"] Gd:=
 nk a.Gd KO λb=>
  (Lb (ig (il (Rj (n6 (l:=[(6,false),(7,false),(8,false),(9,false),(10,false),(12,true),(13,false),(14,false),(15,false)]) rfl (Cc (Hc (Pr a) (ga 0)) (ga 1)) rfl a.Vc rfl (by decide) a.fv (ux a.gx a.Jp (ux a.Zr a.Pm (ux a.Ur a.vm (ux a.Vx a.Op (ux a.Dt a.Wn (ux a.Ax a.iq (ux a.Ix a.Pp (ux a.wv a.To (ux a.Gx a.Rp JW)))))))))))) nj fg)
  (Lb (kg KO.nd (Cc (Hc (lw a) (ga 0)) (ga 1)))
  (ud (M4 (bn b (ga 3) (ae (NN a) b (Pa (Cc (ga 5) Ra) (Ka (Cc (ga 5) Ra))))) (am (ae (ZU a) b (Pa (ga 1) (Pa (ga 2) (Pa (ga 3) (Ka (ga 4)))))))))))
theorem Y5(a:Txt K mg ca):Bh ⟨K,ca,tx K⟩ P w mg base 7 "may_lie" ["self","pot","side","stand","agreement"] [(15,Gd)]:=(Sg a.Ue a.Gm (N3 a) Fi)
abbrev A2:Stmt:=ce (top 96) 0
def RQ:Ev->M Fl:=
 (zb (qk (md 2 fo [] (ja (da 0) (ja (da 1) Ba)))) (zb (lj [5,6,7,8,13,14] "side" (da 2) (da 0)) (zb (lj [13] "stand" (da 3) (da 0)) (zb (lj [13,15] "day" (da 4) (da 0)) (lj [13] "wait" (da 5) (da 0))))))
def ms:List D->M D:=hide (run 6 RQ)
theorem G4:ua ["self","whole","side","stand","day","wait"] ["self","whole","side","stand","day","wait"] (kc A2):=Zd
theorem OU(a:Txt K mg ca):Wf ⟨K,ca,tx K⟩ P w mg base 3 (ca 54) ["self","whole","side","stand","day","wait"] ms:=
 xr a.ms G4 λb=>
  (Lb (Wk (kQ (c:=11) ⟨a.Ys,a.Rh,_,_,a.Oh,a.Sh,a.Mh,jL a⟩ rfl (b.mono (by decide)) rfl (Pa (ga 0) (Ka (ga 1)))))
  (Lb (Wj rfl (Xo a) (ga 0) (ga 2))
  (Lb (Wj rfl (RH a) (ga 0) (ga 3))
  (Lb (Wj rfl (Lz a) (ga 0) (ga 4))
  (qi (Wj rfl (ON a) (ga 0) (ga 5)))))))
abbrev wz:Stmt:=ce (top 106) 6
abbrev aT:Ev->M Fl:=(Yf (ik (eT (md 2 yd [] (ja (da 3) (ja (md 1 ge [] (ja (da 5) Ba)) Ba))))) Pi Uf)
abbrev YM:Ev->M Fl:=(Yf (ik (eT (He [(15,Gd)] 5 "may_lie" (da 0) (ja (da 1) (ja (da 2) (ja (da 3) (ja (da 4) Ba))))))) Pi Uf)
abbrev nP:Ev->M Fl:=(EA (Mg (lq 13 6 ms (ja (md 1 ge [] (ja (da 5) Ba)) (ja (da 2) (ja (da 3) (ja (Yb (Bb [13,15] "day") (da 0)) (ja (Ga Va (da 5) (eC (.int 4))) Ba))))))) (Yb (Bb [10,15] "claims") (da 0)) (da 1))
def eR:Ev->M Fl:=
 (zb (qk (He [(15,Db)] 2 "check_pot" (da 0) (ja (da 1) Ba))) (zb (qk (md 1 We [] (ja (da 2) Ba))) (zb (Af 5 (Ga Va (Yb (Bb [9,15] "pots") (da 0)) (da 1))) (zb aT (zb YM nP)))))
def qd:List D->M D:=hide (run 6 eR)
theorem XO:ua ["self","pot","side","stand","agreement","made"] ["self","pot","side","stand","agreement"] (kc wz):=Zd
theorem w9(t:Addr)(kV b f:Value)(d:Option Addr)(a ct:Value)(s:aa)(o:Bc)(n:Nat)(us:List Value)(h1:s.heap.get? t=some o)(e:o.data=.seq ([pb]:List Value).toArray n) :
  ((us++[]).length=(["self","pot","side","stand","agreement"]:List Str).length->xf s (W.fnOf "lay" "Book.lay" (Yn wz) (Yi wz) (kc wz) (.ref t) kV b f d a ct) ⟨us,[]⟩ ((["self","pot","side","stand","agreement"]:List Str).zip (us++[])))/\
  ((us++[pb]).length=(["self","pot","side","stand","agreement"]:List Str).length->xf s (W.fnOf "lay" "Book.lay" (Yn wz) (Yi wz) (kc wz) (.ref t) kV b f d a ct) ⟨us,[]⟩ ((["self","pot","side","stand","agreement"]:List Str).zip (us++[pb]))):=
 ⟨λc=>match us,(show us.length=5 by simpa using c)with|[_,_,_,_,_],_=>Ke rfl h1 e rfl rfl,λc=>match us,(show us.length=4 by simpa using c)with|[_,_,_,_],_=>Ke rfl h1 e rfl rfl⟩
theorem RJ(a:Txt K mg ca):ot ⟨K,ca,tx K⟩ P w mg base 8 (ca 69) ["self","pot","side","stand","agreement"] [pb] qd:=
 ot.hide (LM a.qd XO λ_ _ _ _ _ _ b=>
  (Lb (Wk (fmt (NE a) b (ga 0) (Ka (ga 1))))
  (Lb (Wk (ae (GS a) b (Ka (ga 2))))
  (Lb (kg XO.nd (Cc (Hc (lw a) (ga 0)) (ga 1)))
  (Lb (ig (il (Rj (ae (OJ a) b (Pa (ga 3) (Ka (ae (RF a) b (Ka (ga 5)))))))) nj fg)
  (Lb (ig (il (Rj (fmt (Y5 a) b (ga 0) (Pa (ga 1) (Pa (ga 2) (Pa (ga 3) (Ka (ga 4)))))))) nj fg)
  (qi (jG (Jk (Ew (c:=13) (ps:=["self","whole","side","stand","day","wait"]) ⟨_,a.Uz,a.zx,OU a⟩ rfl (b.mono (by decide)) rfl (Pa (ae (RF a) b (Ka (ga 5))) (Pa (ga 2) (Pa (ga 3) (Pa (Hc (Lz a) (ga 0)) (Ka (Cc (ga 5) Ra)))))))) (Hc (Pr a) (ga 0)) (ga 1)))))))))
abbrev zco:Stmt:=ce (top 92) 23
abbrev ZC:Ev->M Fl:=(Yf (lB (eT (Ga qx (da 3) (Yb (Bb [10] "finishing") (da 0)))) (eT (He [(10,db)] 2 "holds" (da 0) (ja (da 3) Ba)))) (zb (qk (He [(15,qd)] 5 "lay" (da 1) (ja (da 3) (ja (Yb (Bb [5,6,7,8,13,14] "side") (da 4)) (ja (Yb (Bb [5,6,7,8] "mine") (da 4)) (ja (Yb (Bb [5,6,7,8] "grant") (da 4)) Ba)))))) (zb (Qs (Ie (ja (eC (.str "laid")) (ja (Yb (Bb [5,6,7,8,13,14] "side") (da 4)) (ja (Yb (Bb [5,6,7,8] "mine") (da 4)) (ja (Yb (Bb [9,10] "last_look") (da 0)) Ba))))) (Yb (Bb [10,15] "claims") (da 0)) (da 3)) (qk (Fy Jn (da 2) (ja (Ie (ja (eC (.str "lay")) (ja (da 3) Ba))) Ba))))) Uf)
def DH:Ev->M Fl:=
 (zb (Af 2 (Au Ba)) (zb (Uw (Yb (Bb [10] "accounts") (da 0)) (Mp (Cy (Yb (Bb [10] "accounts") (da 0))) (Gn 2 (Wh (Ld 3) (Wh (Ld 4) Co))) ZC)) (pd (da 2))))
def Zb:List D->M D:=hide (run 5 DH)
theorem UE:ua ["self","book","deeds","pot","account"] ["self","book"] (kc zco):=Zd
theorem FX(a:Txt K mg ca):Wf ⟨K,ca,tx K⟩ P w mg base 9 (ca 49) ["self","book"] Zb:=
 xr a.Zb UE λb=>
  (Lb (kg UE.nd (ky Vl))
  (Lb (VC (uw Zm rfl (SF (Hc (Dr a) (ga 0))) (sw rfl (Ap (Hh UE.nd) (Ap (Hh UE.nd) Aw))) (qi (ig (L2.PW.pt (jF (og (oT (kf b)) nM (ga 3) (Hc (yI a) (ga 0)) rfl) (qG (Rj (fmt (aK a) b (ga 0) (Ka (ga 3))))))) (Lb (Wk (bR (k:=8) (c:=15) (ps:=["self","pot","side","stand","agreement"]) rfl (ga 1) a.Ue a.pj (RJ a) (b.mono (by decide)) (Pa (ga 3) (Pa (Hc (Xo a) (ga 4)) (Pa (Hc (Jo a) (ga 4)) (Ka (Hc (uC a) (ga 4))))))))
  (Lb (ou (kf b) (cf (Pa jf (Pa (Hc (Xo a) (ga 4)) (Pa (Hc (Jo a) (ga 4)) (Ka (Hc (gB a) (ga 0))))))) (Hc (Pr a) (ga 0)) (ga 3))
  (qi (Wk (CA Nd Qf Rf VB hD (ga 2) (Ka (cf (Pa jf (Ka (ga 3)))))))))) fg))))
  (ud (ga 2))))
theorem zh4(a:Txt K mg ca):Bh ⟨K,ca,tx K⟩ P w mg base 9 "lay_all" ["self","book"] [(10,Zb)]:=(Sg a.Cb a.Hk (FX a) Fi)
abbrev EZ:Stmt:=ce (top 92) 19
abbrev gK:Ev->M Fl:=(zb (Qs (He [(15,Kc)] 2 "told" (da 1) (ja (da 2) Ba)) (Yb (Bb [10,15] "claims") (da 0)) (da 2)) (Qs (He [(15,Pc)] 2 "shown_for" (da 1) (ja (da 2) Ba)) (Yb (Bb [10] "seen") (da 0)) (da 2)))
abbrev dE:Ev->M Fl:=(lj [9,10] "last_look" (He [(15,ze)] 1 "today" (da 1) Ba) (da 0))
abbrev CH:Ev->M Fl:=(qk (He [(10,Ab)] 2 "learn" (da 0) (ja (He [(15,Qc)] 1 "all_shown" (da 1) Ba) Ba)))
abbrev aJ:Ev->M Fl:=(pd (Ga Ch (Ga Ch (He [(10,Fb)] 2 "strike_all" (da 0) (ja (da 1) Ba)) (He [(10,Jc)] 2 "show_all" (da 0) (ja (da 1) Ba))) (He [(10,Zb)] 2 "lay_all" (da 0) (ja (da 1) Ba))))
def ZM:Ev->M Fl:=
 (zb dE (zb (Uw (Yb (Bb [10] "accounts") (da 0)) (Mp (XF (Yb (Bb [10] "accounts") (da 0))) (Ld 2) gK)) (zb CH aJ)))
def Wa:List D->M D:=hide (run 3 ZM)
theorem nQ:ua ["self","book","pot"] ["self","book"] (kc EZ):=Zd
theorem NZ(a:Txt K mg ca):Wf ⟨K,ca,tx K⟩ P w mg base 10 (ca 45) ["self","book"] Wa:=
 xr a.Wa nQ λb=>
  (Lb (Wj rfl (gB a) (ga 0) (Zq (M7 a) b (ga 1)))
  (Lb (VC (uw Zm rfl (SV (Hc (Dr a) (ga 0))) (Hh nQ.nd) (Lb (ou (kf b) (fmt (BL a) b (ga 1) (Ka (ga 2))) (Hc (Pr a) (ga 0)) (ga 2))
  (qi (ou (kf b) (fmt (o6 a) b (ga 1) (Ka (ga 2))) (Hc (LG a) (ga 0)) (ga 2))))))
  (Lb (Wk (fmt (RI a) b (ga 0) (Ka (Zq (zev a) b (ga 1)))))
  (ud (Tl (Tl (fmt (zc8 a) b (ga 0) (Ka (ga 1))) (fmt (zgi a) b (ga 0) (Ka (ga 1)))) (fmt (zh4 a) b (ga 0) (Ka (ga 1))))))))
theorem AC(a:Txt K mg ca):Bh ⟨K,ca,tx K⟩ P w mg base 10 "look" ["self","book"] [(10,Wa)]:=(Sg a.Cb a.bo (NZ a) Fi)
abbrev S3:Stmt:=ce (top 92) 5
def zS:Ev->M Fl:=
 (pd (Yb (Bb [10] "gave") (da 0)))
def Fd:List D->M D:=hide λa=>Hb (run 1 zS a)
theorem Q0:ua ["self"] ["self"] (kc S3):=Zd
theorem JY(a:Txt K mg ca):Wf ⟨K,ca,tx K⟩ P w mg base 1 (ca 31) ["self"] Fd:=
 nk a.Fd Q0 λb=>
  (ud (Hc (sO a) (ga 0)))
theorem FV(a:Txt K mg ca):Bh ⟨K,ca,tx K⟩ P w mg base 1 "given" ["self"] [(10,Fd)]:=(Sg a.Cb a.Bm (JY a) Fi)
abbrev m9:Stmt:=top 111
def fM:Ev->M Fl:=
 (zb (Af 1 (He [(10,eb)] 2 "account" (da 0) (ja (eC (.int 0)) Ba))) (zb (Af 2 (Ie (ja (Yb (Bb [5,6,7,8] "mine") (da 1)) (ja (Yb (Bb [5,6,7,8] "grant") (da 1)) (ja (Mg (jh jq (ja (Yb (Bb [5,6,7,8] "may") (da 1)) Ba))) (ja (Mg (jh jq (ja (Yb (Bb [5,6,7,8] "strikes") (da 1)) Ba))) (ja (He [(6,ec),(7,Nb),(8,Qb)] 1 "word" (da 1) Ba) Ba))))))) (pd (Ie (ja (da 2) (ja (He [(10,lc)] 1 "worth" (da 0) Ba) (ja (He [(10,Fd)] 1 "given" (da 0) Ba) Ba)))))))
def uf:List D->M D:=hide λa=>Hb (run 3 fM a)
theorem vH:ua ["_law_keeper","_law_account","_law_state"] ["_law_keeper"] (kc m9):=Zd
theorem BR(a:Txt K mg ca):zf ⟨K,ca,tx K⟩ P w mg base 6 "_law_seen" ["_law_keeper"] uf:=
 Fh a.uf vH λb=>
  (Lb (kg vH.nd (fmt (cB a) b (ga 0) (Ka Ra)))
  (Lb (kg vH.nd (cf (Pa (Hc (Jo a) (ga 1)) (Pa (Hc (uC a) (ga 1)) (Pa (Jk (Du By (Oy rfl) rfl a.oj xi (Ka (Hc (fw a) (ga 1))))) (Pa (Jk (Du By (Oy rfl) rfl a.oj xi (Ka (Hc (My a) (ga 1))))) (Ka (Zq (BA a) b (ga 1)))))))))
  (ud (cf (Pa (ga 2) (Pa (Zq (wJ a) b (ga 0)) (Ka (Zq (FV a) b (ga 0)))))))))
abbrev f6:Stmt:=top 112
abbrev sA:Ev->M Fl:=(Yf (eT (Ga Jh (He [(10,La)] 2 "take" (da 0) (ja (da 6) Ba)) (Gh Ba))) (pd (eC (.bl false))) Uf)
abbrev sB:Ev->M Fl:=(Yf (eT (Ga Jh (He [(10,Gc)] 2 "wish" (da 0) (ja (da 8) Ba)) (Ie (ja (eC (.bl false)) (ja (Gh Ba) Ba))))) (pd (eC (.bl false))) Uf)
abbrev XG:Ev->M Fl:=(Af 4 (md 1 uf [] (ja (da 0) Ba)))
abbrev VJ:Ev->M Fl:=(Af 5 (Gh (ja (da 2) (ja (Ie (ja (eC (.str "offer")) (ja (eC (.int 0)) (ja (Ie (ja (eC (.str "agree")) (ja (eC (.int 0)) (ja (eC (.int 0)) (ja (da 1) Ba))))) Ba)))) (ja (Ie (ja (eC (.str "ask")) (ja (eC (.int 0)) (ja (Ga Va (da 1) (eC (.int 1))) (ja (Ga Va (da 1) (eC (.int 2))) Ba))))) Ba)))))
abbrev DI:Ev->M Fl:=(Af 5 (Ga Ch (da 5) (Gh (ja (Ie (ja (eC (.str "struck")) (ja (eC (.int 0)) (ja (Ie (ja (eC (.str "strike")) (ja (eC (.int 0)) (ja (eC (.int 0)) (ja (da 3) Ba))))) Ba)))) (ja (Ie (ja (eC (.str "word")) (ja (eC (.int 0)) (ja (eC (.int 7)) Ba)))) Ba)))))
abbrev iI:Ev->M Fl:=(aq (ri (da 5)) (Ld 6) sA)
abbrev WH:Ev->M Fl:=(Af 7 (Gh (ja (Ie (ja (eC (.str "give")) (ja (eC (.int 0)) (ja (eC (.int 1)) Ba)))) (ja (Ie (ja (eC (.str "pay")) (ja (eC (.int 0)) (ja (eC (.int 1)) (ja (eC (.int 5)) (ja (eC (.int 9)) Ba)))))) (ja (Ie (ja (eC (.str "pass")) (ja (eC (.int 0)) (ja (eC (.int 1)) (ja (eC (.int 5)) (ja (eC (.int 0)) Ba)))))) Ba)))))
abbrev BH:Ev->M Fl:=(aq (ri (Ga Ch (da 7) (Gh (ja (Ie (ja (eC (.str "settle")) (ja (eC (.int 0)) (ja (eC (.int 5)) Ba)))) (ja (Ie (ja (eC (.str "drop")) (ja (eC (.int 0)) (ja (eC (.int 5)) Ba)))) (ja (Ie (ja (eC (.str "finish")) (ja (eC (.int 0)) Ba))) Ba)))))) (Ld 8) sB)
abbrev FL:Ev->M Fl:=(pd (ki (Ga oEq (md 1 uf [] (ja (da 0) Ba)) (da 4)) (Ga (Cz false) (eC (.int 7)) (He [(10,Mc)] 1 "words" (da 0) Ba))))
def kM:Ev->M Fl:=
 (zb XG (zb VJ (zb DI (zb iI (zb WH (zb BH FL))))))
def Se:List D->M D:=hide (run 9 kM)
theorem fA:ua ["_law_keeper","_law_new_here","_law_letter","_law_number","_law_before","_law_letters","_law_one","_law_wishes","_law_wish"] ["_law_keeper","_law_new_here","_law_letter","_law_number"] (kc f6):=Zd
theorem gL(b:Txt K mg ca):zf ⟨K,ca,tx K⟩ P w mg base 12 "_law_shut" ["_law_keeper","_law_new_here","_law_letter","_law_number"] Se:=
 zf.hide (kK b.Se fA λ_ _ _ _ _ _ _ a=>
  (Lb (kg fA.nd (ae (BR b) a (Ka (ga 0))))
  (Lb (kg fA.nd (Oi (Pa (ga 2) (Pa (cf (Pa jf (Pa Ra (Ka (cf (Pa jf (Pa Ra (Pa Ra (Ka (ga 1)))))))))) (Ka (cf (Pa jf (Pa Ra (Pa (Cc (ga 1) Ra) (Ka (Cc (ga 1) Ra)))))))))))
  (Lb (kg fA.nd (Tl (ga 5) (Oi (Pa (cf (Pa jf (Pa Ra (Ka (cf (Pa jf (Pa Ra (Pa Ra (Ka (ga 3)))))))))) (Ka (cf (Pa jf (Pa Ra (Ka Ra)))))))))
  (Lb (qt Zm rfl (rn rfl (ga 5)) (Hh fA.nd) (qi (ig (og (qq (kf a)) uh (fmt (AF b) a (ga 0) (Ka (ga 6))) (Oi Vl) (ng _)) (ud Zs) fg)))
  (Lb (kg fA.nd (Oi (Pa (cf (Pa jf (Pa Ra (Ka Ra)))) (Pa (cf (Pa jf (Pa Ra (Pa Ra (Pa Ra (Ka Ra)))))) (Ka (cf (Pa jf (Pa Ra (Pa Ra (Pa Ra (Ka Ra)))))))))))
  (Lb (qt Zm rfl (rn rfl (Tl (ga 7) (Oi (Pa (cf (Pa jf (Pa Ra (Ka Ra)))) (Pa (cf (Pa jf (Pa Ra (Ka Ra)))) (Ka (cf (Pa jf (Ka Ra))))))))) (Hh fA.nd) (qi (ig (og (qq (kf a)) uh (fmt (aM b) a (ga 0) (Ka (ga 8))) (cf (Pa Zs (Ka (Oi Vl)))) (ng _)) (ud Zs) fg)))
  (ud (Ei (bn a (ae (BR b) a (Ka (ga 0))) (ga 4)) (am (vx yT (rN rfl false) Ra (Zq (DQ b) a (ga 0)) rfl)))))))))))
abbrev zio:Stmt:=top 113
abbrev oO:Ev->M Fl:=(qk (He [(15,λa=>qd (a++[.Vb]))] 4 "lay" (da 1) (ja (eC (.int 0)) (ja (Ga Mu (eC (.int 1)) (da 2)) (ja (Ie (ja (eC (.int 0)) (ja (da 3) (ja (Ie Ba) Ba)))) Ba)))))
abbrev xT:Ev->M Fl:=(Yf (ap (eT (Ga Jh (He [(10,Wa)] 2 "look" (da 0) (ja (da 1) Ba)) (Gh (ja (Ie (ja (eC (.str "strike")) (ja (eC (.int 0)) Ba))) Ba)))) (eT (Ga Jh (He [(15,Kc)] 2 "told" (da 1) (ja (eC (.int 0)) Ba)) (Ie (ja (eC (.str "taken")) (ja (da 2) Ba)))))) (pd (eC (.bl false))) Uf)
abbrev EO:Ev->M Fl:=(pd (Ga oEq (He [(10,lc)] 1 "worth" (da 0) Ba) (Ga Ch (Ga Va (da 3) (eC (.int 0))) (Ga Va (da 3) (eC (.int 1))))))
def OP:Ev->M Fl:=
 (zb oO (zb xT EO))
def Df:List D->M D:=hide (run 4 OP)
theorem O9:ua ["_law_keeper","_law_book","_law_side","_law_coins"] ["_law_keeper","_law_book","_law_side","_law_coins"] (kc zio):=Zd
theorem v5(a:Txt K mg ca):zf ⟨K,ca,tx K⟩ P w mg base 11 "_law_taken" ["_law_keeper","_law_book","_law_side","_law_coins"] Df:=
 zf.hide (kK a.Df O9 λ_ _ _ _ _ _ _ b=>
  (Lb (Wk (B2 (n:=4) (dds:=[.Vb]) (dvs:=[.Vb]) (k:=8) (c:=15) (ps:=["self","pot","side","stand","agreement"]) rfl (ga 1) a.Ue a.pj (RJ a) nI uL rfl (b.mono (by decide)) (Pa Ra (Pa (rk Rw Qw Ra (ga 2)) (Ka (cf (Pa Ra (Pa (ga 3) (Ka (cf Vl))))))))))
  (Lb (ig (L2.PW.pt (rq (og (qq (kf b)) uh (fmt (AC a) b (ga 0) (Ka (ga 1))) (Oi (Ka (cf (Pa jf (Ka Ra))))) (ng _)) (Er (og (qq (kf b)) uh (fmt (BL a) b (ga 1) (Ka Ra)) (cf (Pa jf (Ka (ga 2)))) (ng _))))) (ud Zs) fg)
  (ud (bn b (Zq (wJ a) b (ga 0)) (Tl (Cc (ga 3) Ra) (Cc (ga 3) Ra)))))))
abbrev VZ:Stmt:=top 114
abbrev rE:Ev->M Fl:=(Af 8 (md 3 Xf [] (ja (Yb (Bb [5,6,7,8] "mine") (He [(10,eb)] 2 "account" (da 5) (ja (eC (.int 0)) Ba))) (ja (da 2) (ja (Ga lr (md 2 Pb [] (ja (da 0) (ja (Ga Ch (eC (.int 3)) (da 7)) Ba))) (Ga qw (eC (.int 10)) (eC (.int 12)))) Ba)))))
abbrev OE:Ev->M Fl:=(qk (He [(10,La)] 2 "take" (da 5) (ja (md 2 Bd [] (ja (He [(10,eb)] 2 "account" (da 5) (ja (eC (.int 0)) Ba)) (ja (da 8) Ba))) Ba)))
abbrev YA:Ev->M Fl:=(Yf (ap (eT (Ga oLt (da 7) (Ga Mu (Ga lr (Ga Fw (da 1) (eC (.int 2))) (eC (.int 4))) (eC (.int 1))))) (eT (Ga BF (Ga lr (Ga Fw (da 1) (eC (.int 8))) (eC (.int 3))) (eC (.int 0))))) (qk (He [(10,La)] 2 "take" (da 5) (ja (md 2 Bd [] (ja (He [(10,eb)] 2 "account" (da 5) (ja (eC (.int 0)) Ba)) (ja (da 8) Ba))) Ba))) Uf)
abbrev u1:Ev->M Fl:=(Af 1 (md 2 Pb [] (ja (da 0) (ja (eC (.int 0)) Ba))))
abbrev u2:Ev->M Fl:=(Af 2 (Ga lr (da 1) (eC (.int 2))))
abbrev u3:Ev->M Fl:=(Af 3 (Ie (ja (Ga Ch (eC (.int 1)) (Ga lr (md 2 Pb [] (ja (da 0) (ja (eC (.int 1)) Ba))) (Ga qw (eC (.int 10)) (eC (.int 12))))) (ja (Ga Ch (eC (.int 1)) (Ga lr (md 2 Pb [] (ja (da 0) (ja (eC (.int 2)) Ba))) (Ga qw (eC (.int 10)) (eC (.int 12))))) Ba))))
abbrev u4:Ev->M Fl:=(Af 4 (Ga Va (Gh (ja (Ga Ch (Ga Ch (Ie (ja (eC (.int 1)) (ja (eC (.int 2)) Ba))) (da 3)) (Ie (ja (eC (.int 20)) Ba))) (ja (Ga Ch (Ga Ch (Ie (ja (eC (.int 2)) (ja (eC (.int 1)) Ba))) (da 3)) (Ie (ja (eC (.int 20)) Ba))) Ba))) (da 2)))
abbrev u5:Ev->M Fl:=(Af 5 (lq 10 5 Wq (kB [.Vb] (ja (eC (.int 1)) (ja (eC (.int 5)) (ja (Gh (ja (da 4) Ba)) Ba))))))
abbrev u6:Ev->M Fl:=(Af 6 (lq 15 2 Nq (ja (Gh (ja (da 4) Ba)) Ba)))
abbrev u8:Ev->M Fl:=(Af 9 (He [(10,eb)] 2 "account" (da 5) (ja (eC (.int 0)) Ba)))
abbrev u9:Ev->M Fl:=(Af 8 (md 3 Xf [] (ja (Ga Va (Yb (Bb [5,6,7,8] "may") (da 9)) (Yb TH (eC (.int 1)))) (ja (da 2) (ja (Ga lr (md 2 Pb [] (ja (da 0) (ja (eC (.int 7)) Ba))) (Ga qw (eC (.int 10)) (eC (.int 12)))) Ba)))))
abbrev SG:Ev->M Fl:=(Af 10 (md 2 Bd [] (ja (da 9) (ja (da 8) Ba))))
abbrev bE:Ev->M Fl:=(Af 11 (Ga lr (Ga Fw (da 1) (eC (.int 24))) (eC (.int 4))))
abbrev GF:Ev->M Fl:=(Af 12 (Ga Va (Yb (Bb [5,6,7,8] "mine") (da 9)) (eC (.int 0))))
abbrev IA:Ev->M Fl:=(Yf (eT (Ga oEq (da 11) (eC (.int 0)))) (zb (Yf (ap (eT (Ga Jh (He [(10,Gc)] 2 "wish" (da 5) (ja (Ie (ja (eC (.str "finish")) (ja (eC (.int 0)) Ba))) Ba)) (Ie (ja (eC (.bl true)) (ja (Gh Ba) Ba))))) (eT (Ga Jh (He [(10,Wa)] 2 "look" (da 5) (ja (da 6) Ba)) (Gh (ja (Ie (ja (eC (.str "lay")) (ja (eC (.int 0)) Ba))) Ba))))) (pd (eC (.bl false))) Uf) (pd (ki (Ga oEq (He [(15,Kc)] 2 "told" (da 6) (ja (eC (.int 0)) Ba)) (Ie (ja (eC (.str "laid")) (ja (da 2) (ja (Yb (Bb [5,6,7,8] "mine") (da 9)) (ja (eC (.int 0)) Ba)))))) (md 4 Se [] (ja (da 5) (ja (da 8) (ja (da 10) (ja (da 12) Ba)))))))) Uf)
abbrev mB:Ev->M Fl:=(Yf (eT (Ga oEq (da 11) (eC (.int 2)))) (qk (He [(10,Wa)] 2 "look" (da 5) (ja (da 6) Ba))) Uf)
abbrev nB:Ev->M Fl:=(Yf (lB (eT (Ga oEq (da 11) (eC (.int 3)))) (eT (Ga Jh (Yb (Bb [5,6,7,8] "strikes") (da 9)) (Gh Ba)))) (zb (Yf (ap (ik (eT (md 4 Df [] (ja (da 5) (ja (da 6) (ja (da 2) (ja (da 3) Ba))))))) (ik (eT (md 4 Se [] (ja (da 5) (ja (da 8) (ja (da 10) (ja (da 12) Ba)))))))) (pd (eC (.bl false))) Uf) (pd (Ga oEq (He [(10,Wa)] 2 "look" (da 5) (ja (da 6) Ba)) (Gh Ba)))) Uf)
abbrev fF:Ev->M Fl:=(Af 13 (Ga Va (Yb (Bb [5,6,7,8] "may") (da 9)) (Ga lr (Ga Fw (da 1) (eC (.int 96))) (jh Zk (ja (Yb (Bb [5,6,7,8] "may") (da 9)) Ba)))))
abbrev RG:Ev->M Fl:=(qk (He [(15,qd)] 5 "lay" (da 6) (ja (eC (.int 0)) (ja (Ga Mu (eC (.int 1)) (da 2)) (ja (da 13) (ja (Ie (ja (eC (.str "agree")) (ja (eC (.int 0)) (ja (da 2) (ja (da 13) Ba))))) Ba))))))
abbrev yB:Ev->M Fl:=(Yf (ap (eT (Ga oEq (da 11) (eC (.int 1)))) (eT (Ga oEq (da 11) (eC (.int 3))))) (pd (ki (Ga oEq (He [(10,Wa)] 2 "look" (da 5) (ja (da 6) Ba)) (Gh Ba)) (md 4 Se [] (ja (da 5) (ja (da 8) (ja (da 10) (ja (da 12) Ba))))))) Uf)
abbrev cC:Ev->M Fl:=(Af 14 (Mg (QB [.inr "calm",.inr "offered",.inr "waiting"] (ja (Ga Va (Gh (ja (eC (.str "offered")) (ja (eC (.str "waiting")) Ba))) (da 2)) (ja (eC (.str "calm")) (ja (eC (.str "calm")) Ba))))))
abbrev QC:Ev->M Fl:=(qk (He [(10,La)] 2 "take" (da 5) (ja (da 10) Ba)))
abbrev qF:Ev->M Fl:=(pd (Ga oEq (He [(6,ec),(7,Nb),(8,Qb)] 1 "word" (He [(10,eb)] 2 "account" (da 5) (ja (eC (.int 0)) Ba)) Ba) (Ga Tp (da 14) (He [(6,ec),(7,Nb),(8,Qb)] 1 "word" (da 9) Ba))))
def GT:Ev->M Fl:=
 (zb u1 (zb u2 (zb u3 (zb u4 (zb u5 (zb u6 (zb (aq (Rx (Ga lr (Ga Fw (da 1) (eC (.int 2))) (eC (.int 4)))) (Ld 7) (zb rE (zb OE YA))) (zb u8 (zb u9 (zb SG (zb bE (zb GF (zb IA (zb mB (zb nB (zb fF (zb RG (zb yB (zb cC (zb QC qF))))))))))))))))))))
def Cp:List D->M D:=run 15 GT
theorem Br:ua ["_law_script","_law_cell","_law_side","_law_coins","_law_pot","_law_keeper","_law_book","_law_k","_law_new_here","_law_account","_law_letter","_law_way","_law_number","_law_one","_law_states"] ["_law_script"] (kc VZ):=Zd
theorem sY(a:Txt K mg ca):zI ⟨K,ca,tx K⟩ P w mg 13 "law" ["_law_script"] Cp:=
 P6 a.Cp Br λ_ _ _ _ _ _ _ _ b=>
  (Lb (kg Br.nd (ae (EC a) b (Pa (ga 0) (Ka Ra))))
  (Lb (kg Br.nd (rk Vw Ow (ga 1) Ra))
  (Lb (kg Br.nd (cf (Pa (Tl Ra (rk Vw Ow (ae (EC a) b (Pa (ga 0) (Ka Ra))) (rk QG mF Ra Ra))) (Ka (Tl Ra (rk Vw Ow (ae (EC a) b (Pa (ga 0) (Ka Ra))) (rk QG mF Ra Ra)))))))
  (Lb (kg Br.nd (Cc (Oi (Pa (Tl (Tl (cf (Pa Ra (Ka Ra))) (ga 3)) (cf (Ka Ra))) (Ka (Tl (Tl (cf (Pa Ra (Ka Ra))) (ga 3)) (cf (Ka Ra)))))) (ga 2)))
  (Lb (kg Br.nd (fZ (c:=10) (ps:=["self","hand","every","pots","words"]) a.Qu a.Rt (w8 a) (.inr rfl) nI uL rfl (b.mono (by decide)) rfl (Pa Ra (Pa Ra (Ka (Oi (Ka (ga 4))))))))
  (Lb (kg Br.nd (Ew (c:=15) (ps:=["self","pots"]) ⟨_,a.tz,a.Fx,C4 a⟩ rfl (b.mono (by decide)) rfl (Ka (Oi (Ka (ga 4))))))
  (Lb (qt Zm rfl (NS rfl a.Xs (rk Vw Ow (rk dD pC (ga 1) Ra) Ra)) (Hh Br.nd) (Lb (kg Br.nd (ae (oM a) b (Pa (Hc (Jo a) (fmt (cB a) b (ga 5) (Ka Ra))) (Pa (ga 2) (Ka (rk Vw Ow (ae (EC a) b (Pa (ga 0) (Ka (Tl Ra (ga 7))))) (rk QG mF Ra Ra)))))))
  (Lb (Wk (fmt (AF a) b (ga 5) (Ka (ae (EH a) b (Pa (fmt (cB a) b (ga 5) (Ka Ra)) (Ka (ga 8)))))))
  (qi (ig (L2.PW.pt (rq (og eB UA (ga 7) (rk Rw Qw (rk Vw Ow (rk dD pC (ga 1) Ra) Ra) Ra) (ng _)) (Er (og qK IH (rk Vw Ow (rk dD pC (ga 1) Ra) Ra) Ra (ng _))))) (qi (Wk (fmt (AF a) b (ga 5) (Ka (ae (EH a) b (Pa (fmt (cB a) b (ga 5) (Ka Ra)) (Ka (ga 8)))))))) fg)))))
  (Lb (kg Br.nd (fmt (cB a) b (ga 5) (Ka Ra)))
  (Lb (kg Br.nd (ae (oM a) b (Pa (Cc (Hc (fw a) (ga 9)) (GU ym3 HV Ra)) (Pa (ga 2) (Ka (rk Vw Ow (ae (EC a) b (Pa (ga 0) (Ka Ra))) (rk QG mF Ra Ra)))))))
  (Lb (kg Br.nd (ae (EH a) b (Pa (ga 9) (Ka (ga 8)))))
  (Lb (kg Br.nd (rk Vw Ow (rk dD pC (ga 1) Ra) Ra))
  (Lb (kg Br.nd (Cc (Hc (Jo a) (ga 9)) Ra))
  (Lb (ig (og (wm (kf b)) uh (ga 11) Ra (ng _)) (Lb (ig (L2.PW.pt (rq (og (qq (kf b)) uh (fmt (aM a) b (ga 5) (Ka (cf (Pa jf (Ka Ra))))) (cf (Pa Zs (Ka (Oi Vl)))) (ng _)) (Er (og (qq (kf b)) uh (fmt (AC a) b (ga 5) (Ka (ga 6))) (Oi (Ka (cf (Pa jf (Ka Ra))))) (ng _))))) (ud Zs) fg)
  (ud (Ei (bn b (fmt (BL a) b (ga 6) (Ka Ra)) (cf (Pa jf (Pa (ga 2) (Pa (Hc (Jo a) (ga 9)) (Ka Ra)))))) (am (ae (gL a) b (Pa (ga 5) (Pa (ga 8) (Pa (ga 10) (Ka (ga 12)))))))))) fg)
  (Lb (ig (og (wm (kf b)) uh (ga 11) Ra (ng _)) (qi (Wk (fmt (AC a) b (ga 5) (Ka (ga 6))))) fg)
  (Lb (ig (L2.PW.pt (jF (og (wm (kf b)) uh (ga 11) Ra (ng _)) (qG (og (qq (kf b)) uh (Hc (My a) (ga 9)) (Oi Vl) (ng _))))) (Lb (ig (L2.PW.pt (rq (il (Rj (ae (v5 a) b (Pa (ga 5) (Pa (ga 6) (Pa (ga 2) (Ka (ga 3)))))))) (Er (il (Rj (ae (gL a) b (Pa (ga 5) (Pa (ga 8) (Pa (ga 10) (Ka (ga 12))))))))))) (ud Zs) fg)
  (ud (bn b (fmt (AC a) b (ga 5) (Ka (ga 6))) (Oi Vl)))) fg)
  (Lb (kg Br.nd (Cc (Hc (fw a) (ga 9)) (rk Vw Ow (rk dD pC (ga 1) Ra) (gn Oq (mr rfl) rfl a.sg Gb (Ka (Hc (fw a) (ga 9)))))))
  (Lb (Wk (bR (k:=8) (c:=15) (ps:=["self","pot","side","stand","agreement"]) rfl (ga 6) a.Ue a.pj (RJ a) (b.mono (by decide)) (Pa Ra (Pa (rk Rw Qw Ra (ga 2)) (Pa (ga 13) (Ka (cf (Pa jf (Pa Ra (Pa (ga 2) (Ka (ga 13))))))))))))
  (Lb (ig (L2.PW.pt (rq (og (wm (kf b)) uh (ga 11) Ra (ng _)) (Er (og (wm (kf b)) uh (ga 11) Ra (ng _))))) (ud (Ei (bn b (fmt (AC a) b (ga 5) (Ka (ga 6))) (Oi Vl)) (am (ae (gL a) b (Pa (ga 5) (Pa (ga 8) (Pa (ga 10) (Ka (ga 12))))))))) fg)
  (Lb (kg Br.nd (Jk (m7 (yw.cons (kk:=.inr "calm") jf (Cc (Oi (Pa jf (Ka jf))) (ga 2)) (yw.cons (kk:=.inr "offered") jf jf (yw.cons (kk:=.inr "waiting") jf jf yw.nil))) rfl rfl (List.cons_ne_nil _ _) (At rfl))))
  (Lb (Wk (fmt (AF a) b (ga 5) (Ka (ga 10))))
  (ud (bn b (Zq (BA a) b (fmt (cB a) b (ga 5) (Ka Ra))) (av (kf b) (ga 14) (Zq (BA a) b (ga 9)) (λ_ _=>rfl))))))))))))))))))))))))
end
end K47
namespace K47
open PySem L2 L4
set_option maxHeartbeats 4000000
section
variable{α:Type}{xs:List α}{σ:qb}{fi:Ev->M Bool}{fe:Ev->M D}{tg:D->Ev->Option Ev}{nx:NX}{ug:Ev}
theorem jM(O:Option D->Prop)(v a:α->D)(b:α->Option D)(p:α->Bool)(y:α->D)(hn:∀ i j,i<=xs.length->nx i (σ++j)=some ((xs[i]?).map v))(ht:∀ x o c,O c->tg (v x) (o::c::ug)=some (some (a x)::b x::ug)/\O (b x))
  (step:∀ x∈xs,∀ j,fi (some (a x)::b x::ug) (σ++j)=.ok (p x) (σ++j)/\(p x=true->fe (some (a x)::b x::ug) (σ++j)=.ok (y x) (σ++j))) (s:xs.length<=1000) :
  ∀ (k i:Nat) (o c:Option D) (ys:List D),O c->xs.length<k+i->i<=xs.length->ys.length<=i->
   Gj nx σ.length tg fi fe k i (o::c::ug) (σ++[.lst ys])=.ok () (σ++[.lst (ys++((xs.drop i).filter p).map y)]):=by
 intro k;induction k with
 |zero=>intro i o c ys _ h1 l;omega
 |succ k m=>
  intro i o c ys q h1 l hy;unfold Gj;rw[hn i _ l];cases e:xs[i]? with
  |none=>
   have g:xs.length<=i:=jc.mp e;rw[Hr g];simp
  |some d=>
   obtain⟨g,h⟩:=ra.mp e;have hd:xs.drop i=d::xs.drop (i+1):=by rw[<-h];exact ci g
   obtain⟨s1,s2⟩:=step d (by rw[<-h];exact yn g) [.lst ys];obtain⟨r,n⟩:=ht d o c q;simp only[ah,r];rw[zo,dB s1,Od];by_cases f:p d=true
   ·rw[f,ia rfl,zo,dB (s2 f),Od,zo,sG (by omega),Od,m (i+1) _ _ (ys++[y d]) n (by omega) (by omega) (by simp;omega),hd,Ri,ia f];simp
   ·rw[qa f,m (i+1) _ _ ys n (by omega) (by omega) (by omega),hd,Ri,qa f]
end
theorem Gy{σ:qb}{xs:List D}(h:lg xs=true):Eg σ (.ok (.ref σ.length) (σ++[.lst xs]))=.ok (.lst xs) σ:=by
 have:=mR (σ:=σ) (j:=[]) (j':=[]) h;simpa using this
theorem sR{c:Type}{xs:List c}{src:Ev->M Src}{s:Src}{ix:List Nat}{fi:Ev->M Bool}{fe:Ev->M D}{ρ:Ev}{σ:qb}(v y:c->D)(p:c->Bool)(f:src ρ σ=.ok s σ)(hn:∀ i j,s.nx i (σ++j)=some ((xs[i]?).map v))(e:xs.length<=1000)
  (step:∀ x∈xs,∀ j,fi (some (v x)::none::(ix.map λi=>(ρ[i]?).getD none)) (σ++j)=.ok (p x) (σ++j)/\(p x=true->fe (some (v x)::none::(ix.map λi=>(ρ[i]?).getD none)) (σ++j)=.ok (y x) (σ++j))) (hc:∀ x∈xs,p x=true->cl (y x)=true) :
  Mg (Ym (toN src) ix (Ld 0) fi fe) ρ σ=.ok (.lst ((xs.filter p).map y)) σ:=by
 show Eg σ (Wc (Wc (src ρ) DL) (eF (Ld 0) fi fe (zv ix ρ)) σ)=_;rw[zo,zo,f,Od];show Eg σ (Wc (Gj s.nx σ.length (Ld 0) fi fe 1001 0 (none::none::(ix.map λi=>(ρ[i]?).getD none))) _ (σ++[.lst []]))=_;rw[zo,jM (λo=>o=none) v v (λ_=>none) p y (λi j _=>hn i j) (λx o k h=>by subst h;exact⟨rfl,rfl⟩) step e 1001 0 none none [] rfl (by omega) (by omega) (by simp),Od];refine Eq.trans (Ad (Eg σ) ?_) (Gy (xs:=(xs.filter p).map y) (Sz λd hd=>by obtain⟨x,g,rfl⟩:=Ge.mp hd;obtain⟨a,b⟩:=Go.mp g;exact hc x a b));simp
theorem Zy{a:Type}{xs:List a}{src:Ev->M Src}{s:Src}{ix:List Nat}{fe:Ev->M D}{ρ:Ev}{σ:qb}(v y:a->D)(c:src ρ σ=.ok s σ)(hn:∀ i j,s.nx i (σ++j)=some ((xs[i]?).map v))(b:xs.length<=1000)
  (step:∀ x∈xs,∀ j,fe (some (v x)::none::(ix.map λi=>(ρ[i]?).getD none)) (σ++j)=.ok (y x) (σ++j)) (hc:∀ x∈xs,cl (y x)=true) :
  Mg (Ym (toN src) ix (Ld 0) Gk fe) ρ σ=.ok (.lst (xs.map y)) σ:=by
 have:=sR (p:=λ_=>true) v y (ix:=ix) (fi:=Gk) c hn b (λd hd j=>⟨rfl,λ_=>step d hd j⟩) (λd hd _=>hc d hd);rw[show List.filter (λ_=>true) xs=xs from fu.mpr λ_ _=>rfl]at this;exact this
theorem lcP{e:Type}{xs:List e}{src:Ev->M NX}{nx:NX}{ix:List Nat}{fe:Ev->M D}{ρ:Ev}{σ:qb}(a b y:e->D)(g:src ρ σ=.ok nx σ)(hn:∀ i j,i<=xs.length->nx i (σ++j)=some ((xs[i]?).map λx=>.tup [a x,b x]))(f:xs.length<=1000)
  (step:∀ x∈xs,∀ j,fe (some (a x)::some (b x)::(ix.map λi=>(ρ[i]?).getD none)) (σ++j)=.ok (y x) (σ++j)) (hc:∀ x∈xs,cl (y x)=true) :
  Mg (Ym src ix (Gn 2 (Wh (Ld 0) (Wh (Ld 1) Co))) Gk fe) ρ σ=.ok (.lst (xs.map y)) σ:=by
 show Eg σ (Wc (src ρ) (eF _ Gk fe (zv ix ρ)) σ)=_;rw[zo,g,Od];show Eg σ (Wc (Gj nx σ.length _ Gk fe 1001 0 (none::none::(ix.map λi=>(ρ[i]?).getD none))) _ (σ++[.lst []]))=_;rw[zo,jM (λ_=>True) (λx=>.tup [a x,b x]) a (λx=>some (b x)) (λ_=>true) y hn (λx o h _=>⟨rfl,trivial⟩) (λx c j=>⟨rfl,λ_=>step x c j⟩) f 1001 0 none none [] trivial (by omega) (by omega) (by simp),Od];refine Eq.trans (Ad (Eg σ) ?_) (Gy (xs:=xs.map y) (Sz λd hd=>by obtain⟨x,c,rfl⟩:=Ge.mp hd;exact hc x c));have fe:List.filter (λ_=>true) xs=xs:=fu.mpr λ_ _=>rfl;simp[fe]
def Sc:D->Bool
 | .int _=>true
 | .Vb=>true
 | .bl _=>true
 | .str _=>true
 |_=>false
def bd(d:D)(a b:Int):Bool:=match d with
 | .int i=>decide (a<=i) && decide (i<=b)
 |_=>false
theorem m4(x:Str)(σ:qb):Wp .int (.str x) σ=.ok (.bl false) σ:=nr rfl
theorem IW{d:D}(h:Sc d=true)(σ:qb):Bg [d] σ=.ok (.bl (match d with | .int _=>true|_=>false)) σ:=by
 unfold Bg EQ;cases d with
 |int i=>simp
 |Vb=>simp
 |bl b=>simp
 |str x=>simp[m4]
 |_=>cases h
theorem ygh{d:D}(h:Sc d=true)(a b:Int)(σ:qb):Jb [d,.int a,.int b] σ=.ok (.bl (bd d a b)) σ:=by
 have w:=λσ=>IW h σ;unfold Jb MS;cases d with
 |int i=>cases c:decide (a<=i)<;>simp[bd,c,w]
 |Vb=>simp[bd,w]
 |bl b=>simp[bd,w]
 |str x=>simp[bd,w]
 |_=>cases h
theorem cN(a b c d e:D)(r:List D)(σ:qb):Va (.tup (a::b::c::d::e::r)) (.int 4) σ=.ok e σ:=fC (show yl _ ((4:Nat):Int)=_ from Ps rfl)
@[simp] theorem yhc(f:Ev->M D)(b a:PF)(ρ:Ev)(σ:qb):YK f b a ρ σ=(f ρ σ).bind (eL (cA b ρ) (cA a ρ)):=nr rfl
@[simp] theorem yei(b a:M (Option Int))(x:D)(σ:qb):eL b a x σ=(b σ).bind (eK x a):=nr rfl
@[simp] theorem yej(x:D)(a:M (Option Int))(b:Option Int)(σ:qb):eK x a b σ=(a σ).bind (yE x b):=nr rfl
@[simp] theorem zyq(ρ:Ev)(σ:qb):cA none ρ σ=.ok none σ:=nr rfl
@[simp] theorem zyr(f:Ev->M D)(ρ:Ev)(σ:qb):cA (some f) ρ σ=(f ρ σ).bind mL:=nr rfl
@[simp] theorem ycu(i:Int)(σ:qb):mL (.int i) σ=.ok (some i) σ:=nr rfl
@[simp] theorem ypv(a:D)(r:List D)(σ:qb):Va (.lst (a::r)) (.int 0) σ=.ok a σ:=jB (show yl _ ((0:Nat):Int)=_ from Ps rfl)
@[simp] theorem ypw(a b:D)(r:List D)(σ:qb):Va (.lst (a::b::r)) (.int 1) σ=.ok b σ:=jB (show yl _ ((1:Nat):Int)=_ from Ps rfl)
theorem iD{nx:NX}{tg:D->Ev->Option Ev}{a:Ev->M Fl}{k i:Nat}{ρ ρ1:Ev}{σ:qb}{d:D}(h:nx i σ=some (some d))(ht:tg d ρ=some ρ1):yp nx tg a (k+1) i ρ σ=(a ρ1 σ).bind (dw (yp nx tg a k (i+1))):=by
 rw[yp];simp only[h,ht];rfl
theorem xB{nx:NX}{tg:D->Ev->Option Ev}{a:Ev->M Fl}{k i:Nat}{ρ:Ev}{σ:qb}(h:nx i σ=some none):yp nx tg a (k+1) i ρ σ=.ok (.nx ρ) σ:=by
 rw[yp];simp only[h]
@[simp] theorem G9(f:Ev->M D)(ρ:Ev)(σ:qb):kG f ρ σ=(f ρ σ).bind Kz:=nr rfl
@[simp] theorem Sw(src:Ev->M NX)(tg:D->Ev->Option Ev)(a:Ev->M Fl)(ρ:Ev)(σ:qb):Mp src tg a ρ σ=Uq ρ (FF tg a ρ) (src ρ σ):=ft ..
theorem YU{xs:List D}{x:D}{σ:qb}(a:Yj σ x=some xs)(h:lg xs=true):Eg σ (jq [x] σ)=.ok (.lst xs) σ:=by
 have e:jq [x] σ=.ok (.ref σ.length) (σ++[.lst xs]):=by unfold jq;simp only[a];rfl
 rw[e];have:=mR (σ:=σ) (j:=[]) (j':=[]) h;simpa using this
theorem tX:cl (.Ma [] [])=true:=by simp[cl]
section
variable{σ:qb}{x:D}{xs:List D}
theorem KP(h:Fg σ x=some xs):Kz x σ=.ok (uv x) σ:=by unfold Kz;rw[h]
theorem GM{i:Nat}{d:D}(h:Fg σ x=some xs)(a:xs[i]?=some d):uv x i σ=some (some (.tup [.int i,d])):=by unfold uv;rw[h];simp only[a]
theorem gR(h:Fg σ x=some xs):uv x xs.length σ=some none:=by unfold uv;rw[h];simp
end
theorem Xy{xs:List D}(h:lg xs=true)(σ:qb):Eg σ (jq [.lst xs] σ)=.ok (.lst xs) σ:=YU (x:=.lst xs) (lY xs) h
theorem lE{a:Type}(xs:List a)(v:a->D)(i:Nat):(xs.map v)[i]?=(xs[i]?).map v:=Eb ..
theorem bt{i a b:Int}(h:a<=i/\i<=b)(σ:qb):Jb [.int i,.int a,.int b] σ=.ok (.bl true) σ:=by
 rw[ygh (d:=.int i) rfl];simp[bd,h]
theorem TM{s:Int}(h:s=0\/s=1)(σ:qb):xg [.int s] σ=.ok (.bl true) σ:=by
 have b:=bt (i:=s) (a:=0) (b:=1) (by omega) σ;unfold xg KM;simp[b]
theorem VN{s:Int}(h:0<=s/\s<=1000000)(σ:qb):tf [.int s] σ=.ok (.bl true) σ:=by
 have b:=bt h σ;unfold tf CT;simp[b]
theorem rP(σ:qb):rh [.int 0] σ=.ok (.bl true) σ:=by
 have b:=bt (i:=0) (a:=0) (b:=2) (by omega) σ;unfold rh IM;simp[b]
theorem vO(s:Int)(σ:qb):Ve [.int s] σ=.ok (.int (1 - s)) σ:=by
 unfold Ve PR;simp
abbrev Kv:=List (Key × D)
structure Sn where
 (n a b:Int)
noncomputable def Sn.D(s:Sn):L4.D:=.tup [.int s.n,.tup [.int s.a,.int s.b],.tup []]
structure Sn.Ok(W:Int)(s:Sn):Prop where
 n:0<=s.n/\s.n<=100
 a:0<=s.a/\s.a<=2000000000000
 b:0<=s.b/\s.b<=2000000000000
 w:s.a+s.b=W
noncomputable def ow(q:Int)(s:Sn):Int:=if q=0 then s.a else s.b
theorem on(s:Sn):cl s.D=true:=by unfold Sn.D;simp
theorem Hz(ss:List Sn):lg (ss.map Sn.D)=true:=Sz λd hd=>by obtain⟨s,_,rfl⟩:=Ge.mp hd;exact on s
theorem s0(s:Sn)(σ:qb):Va s.D (.int 0) σ=.ok (.int s.n) σ:=by unfold Sn.D;simp
theorem s1(s:Sn)(σ:qb):Va s.D (.int 1) σ=.ok (.tup [.int s.a,.int s.b]) σ:=by unfold Sn.D;simp
theorem s2(s:Sn)(σ:qb):Va s.D (.int 2) σ=.ok (.tup []) σ:=by unfold Sn.D;simp
theorem wZ(σ:qb):Ag [.tup []] σ=.ok (.bl true) σ:=by
 have a:=Zy (src:=ri (da 0)) (s:=.seq []) (ix:=[]) (xs:=([]:List D)) (fe:=xG) (ρ:=[some (.tup [])]) (σ:=σ) (λd=>d) (λd=>d) (by simp) (λi _=>rfl) (by simp) (λd hd j=>by cases hd) (λd hd=>by cases hd);have a:Mg _ _ σ=.ok (.lst []) σ:=a;have b:tE [.lst []] σ=.ok (.bl true) σ:=nr rfl;have s1:vB (.lst []) σ=.ok (.int 0) σ:=zU (σ:=σ) (l:=[]) (by simp);unfold Ag tM;simp[a,b,s1,-zw]
theorem iG{W:Int}{s:Sn}(h:s.Ok W)(σ:qb):je [s.D] σ=.ok (.bl true) σ:=by
 have h1:=VN (s:=s.n) (by have:=h.n;omega) σ;have c:Ef [.tup [.int s.a,.int s.b]] σ=.ok (.bl true) σ:=by
  have w:=bt h.a σ;have d:=bt h.b σ;unfold Ef yQ;simp[w,d]
 have h3:=wZ σ;unfold Sn.D je GR;simp[h1,c,h3]
def cS(u v:Int):Sn:=⟨0,u,v⟩
theorem BQ{u v:Int}(c:0<=u/\u<=1000000000000)(d:0<=v/\v<=1000000000000)(σ:qb):Ci [.int u,.int v] σ=.ok (cS u v).D σ:=by
 have a:je [(cS u v).D] σ=.ok (.bl true) σ:=iG (W:=u+v) ⟨by show (0:Int)<=0/\(0:Int)<=100;omega,by show 0<=u/\u<=_;omega,by show 0<=v/\v<=_;omega,rfl⟩ σ;have e:D.tup [.int 0,.tup [.int u,.int v],.tup []]=(cS u v).D:=rfl;have hc:=on (cS u v);have b:Aj [.int 0,.tup [.int u,.int v],.Vb] σ=.ok (cS u v).D σ:=by
  unfold Aj xM;generalize (cS u v).D=S at *;simp[e,a,hc]
 unfold Ci RT;generalize (cS u v).D=S at *;simp[b,hc]
theorem yke(a b:Int)(σ:qb):nv [.tup [.int a,.int b]] σ=.ok (.int (a+b)) σ:=by
 simp[nv,Qt]
theorem ZF(s:Sn)(σ:qb):Gg [s.D] σ=.ok (.int (s.a+s.b)) σ:=by
 have e:=λσ=>s2 s σ;have c:=λσ=>s1 s σ;have l:=Zy (s:=.seq []) (ix:=[]) (fe:=Ga Va (da 0) (eC (.int 1))) (xs:=([]:List D)) (ρ:=[some s.D]) (σ:=σ) (src:=ri (Ga Va (da 0) (eC (.int 2)))) (λd=>d) (λd=>d) (by
  generalize s.D=S at *;simp[e]) (λi _=>rfl) (by simp) (λd hd j=>by cases hd) (λd hd=>by cases hd)
 have l:Mg _ _ σ=.ok (.lst []) σ:=l;have o:nv [.lst []] σ=.ok (.int 0) σ:=by simp[nv,Qt]
 unfold Gg jO;generalize s.D=S at *;simp[c,l,yke,o,-zw]
theorem wK{W:Int}{s:Sn}(h:s.Ok W)(σ:qb):yd [s.D,.int W] σ=.ok (.bl true) σ:=by
 have h1:=iG h σ;have a:=ZF s σ;rw[h.w]at a;unfold yd CN;generalize s.D=S at *;simp[h1,a]
theorem NM{σ:qb}{ys zs:List D}(h:ys.length+zs.length<=1000):Nw (.ref σ.length) [.lst zs] (σ++[.lst ys])=.ok .Vb (σ++[.lst (ys++zs)]):=by
 have e:Fg (σ++[Ob.lst ys]) (.lst zs)=some zs:=rfl;unfold Nw;simp only[SC,e];rw[ia (show _<=Wi from h),nE]
abbrev jx{a:Type}(ss:List a):Prop:=(∃ s,ss=[s])\/∃ s t,ss=[s,t]
theorem jx.le{a:Type}{ss:List a}(h:jx ss):ss.length<=2:=by rcases h with⟨s,rfl⟩|⟨s,t,rfl⟩<;>simp
theorem jx.map{a b:Type}{ss:List a}(h:jx ss)(f:a->b):jx (ss.map f):=by
 rcases h with⟨s,rfl⟩|⟨s,t,rfl⟩
 ·exact .inl ⟨_,rfl⟩
 ·exact .inr ⟨_,_,rfl⟩
theorem mZ{i j:Nat}{ρ:Ev}{σ:qb}{xs ys:List D}(h1:da i ρ σ=.ok (.lst xs) σ)(c:da j ρ σ=.ok (.lst ys) σ):WF (da i) (da j) ρ σ=.ok (RK (.lst xs) (.lst ys)) σ:=by
 have a:Fg σ (.lst xs)=some xs:=rfl;have b:Fg σ (.lst ys)=some ys:=rfl;unfold WF;rw[zo,h1,Od];unfold BM;rw[zo,c,Od];unfold sK;simp only[a,b]
def Bw{a:Type}(key:a->Int):List a->a->a
 |[],b=>b
 |x::xs,b=>if key x<key b then Bw key xs x else Bw key xs b
theorem SH{c:Type}{f:c->D}{key:c->Int}{fe:Ev->M D}{ug:Ev}{σ:qb}:∀ (xs:List c) (b:c),(∀ x∈xs,fe (some (f x)::ug) σ=.ok (.int (key x)) σ)->Kw fe ug (xs.map f) (f b) (key b) σ=.ok (f (Bw key xs b)) σ
 |[],b,_=>rfl
 |x::xs,b,h=>by
  have h1:=h x Xb;have d:=λy hy=>h y (nb _ hy);rw[Sa];unfold Kw Bw;rw[zo,dB h1,Od];dsimp only;by_cases a:key x<key b
  ·rw[ia a,ia a];exact SH xs x d
  ·rw[qa a,qa a];exact SH xs b d
theorem i4{a:Type}{f:a->D}{key:a->Int}{fe:Ev->M D}{ug:Ev}{σ:qb}{xs:List a}{x:a}(h:∀ y∈x::xs,fe (some (f y)::ug) σ=.ok (.int (key y)) σ):Mz fe ug [.lst ((x::xs).map f)] σ=.ok (f (Bw key xs x)) σ:=by
 rw[Sa];unfold Mz;dsimp only;rw[zo,dB (h x Xb),Od];exact SH xs x λy hy=>h y (nb _ hy)
@[simp] theorem zrr(ix:List Nat)(fe:Ev->M D)(fs:Ev->M (List D))(ρ:Ev)(σ:qb):mK ix fe fs ρ σ=(fs ρ σ).bind (Mz fe (ix.map λi=>(ρ[i]?).getD none)):=nr rfl
@[simp] theorem uR(ρ:Ev)(σ:qb):Xr ρ σ=.ok (.ref σ.length) (σ++[.Ma []]):=nr rfl
@[simp] theorem zn2(o:D->List D->M D)(f:Ev->M D)(fs:Ev->M (List D))(ρ:Ev)(σ:qb):TK o f fs ρ σ=(f ρ σ).bind (IC o (fs ρ)):=nr rfl
@[simp] theorem zvw(f a fi:Ev->M D)(ρ:Ev)(σ:qb):Qs f a fi ρ σ=Uq ρ (XJ ρ a fi) (f ρ σ):=ft ..
@[simp] theorem zv6(a fi:Ev->M D)(d:D)(ρ:Ev)(σ:qb):XJ ρ a fi d σ=Uq ρ (VH ρ fi d) (a ρ σ):=ft ..
@[simp] theorem zv7(fi:Ev->M D)(d x:D)(ρ:Ev)(σ:qb):VH ρ fi d x σ=Uq ρ (zr ρ d x) (fi ρ σ):=ft ..
theorem Wx{ρ:Ev}{σ:qb}{d:D}{n:Nat}{w:Int}{kvs:List (Key × D)}(h:σ[n]?=some (.Ma kvs))(a:kvs.length<1000):zr ρ d (.ref n) (.int w) σ=.ok (.nx ρ) (σ.set n (.Ma (Wz kvs (.inl w) d))):=by
 unfold zr;simp only[Kt,h];rw[ia (show kvs.length<Wi from a)]
theorem Z5{σ:qb}:Eg σ (.ok (.ref σ.length) (σ++[.Ma []]))=.ok (.Ma [] []) σ:=by
 have e:(σ++[Ob.Ma []])[σ.length]?=some (.Ma []):=by simp
 unfold Eg;dsimp only;rw[ia (by simp)];have:fz σ.length (σ++[Ob.Ma []]) 6 (.ref σ.length)=some (.Ma [] []):=by
  unfold fz;rw[qa (by simp[cl])];dsimp only;rw[qa (Md _),e];rfl
 rw[this]
def qh(q:Int)(ss:List Sn):D:=.tup [.int q,.lst (ss.map Sn.D),.Ma [] []]
def Kr(K:List D)(P:List D):D:=.obj 9 ["every","last_look","known","pots"] [.int 5,.int 0,.lst K,.lst P]
theorem sF(q:Int)(ss:List Sn):cl (qh q ss)=true:=by unfold qh;simp[cl,Hz]
theorem DR{K P:List D}(h:lg K=true)(a:lg P=true):cl (Kr K P)=true:=by unfold Kr;simp[cl,h,a]
def Mf(q:Int)(s:Sn):D:=.tup [.int (ow q s),.Ma [] []]
theorem dG(q:Int)(s:Sn):cl (Mf q s)=true:=by unfold Mf;simp[cl]
theorem jW(q:Int)(ss:List Sn):lg (ss.map (Mf q))=true:=Sz λd hd=>by obtain⟨s,_,rfl⟩:=Ge.mp hd;exact dG q s
def RL(q:Int)(ss:List Sn):D:=.lst [.lst (ss.map (Mf q))]
section
variable{q:Int}(hq:q=0\/q=1){ss:List Sn}(hs:jx ss)(V:D)(σ:qb)
include hq
theorem N1(P:List Sn)(s:Sn):Xe [V,qh q P,s.D] σ=.ok (Mf q s) σ:=by
 have c:∀ σ,Va (qh q P) (.int 0) σ=.ok (.int q) σ:=λσ=>by unfold qh;simp
 have d:=λσ=>s1 s σ;have f:=λσ=>s2 s σ;have g:∀ σ,Va (.tup [.int s.a,.int s.b]) (.int q) σ=.ok (.int (ow q s)) σ:=λσ=>by
  rcases hq with rfl|rfl<;>simp[ow]
 have fz:Eg σ (.ok (.tup [.int (ow q s),.ref σ.length]) (σ++[.Ma []]))=.ok (Mf q s) σ:=by
  have e:(σ++[Ob.Ma []])[σ.length]?=some (.Ma []):=by simp
  unfold Eg;dsimp only;rw[ia (by simp)];have:fz σ.length (σ++[.Ma []]) 6 (.tup [.int (ow q s),.ref σ.length])=some (Mf q s):=by
   simp[fz,xq,cl,lg,e,Mf]
  rw[this]
 unfold Xe iT;generalize Mf q s=R,s.D=S,qh q P=h at *;simp[c,d,f,g,fz]
include hs
theorem yX(K:List D):bg [Kr K [qh q ss]] σ=.ok (RL q ss) σ:=by
 have b:∀ σ,Bb [9,15] "pots" (Kr K [qh q ss]) σ=.ok (.lst [qh q ss]) σ:=λσ=>Kj (Bl rfl) rfl rfl;have l:Mg (Ym (toN (ri (Ga Va (da 2) (eC (.int 1))))) [0,2] (Ld 0) Gk (md 3 Xe [] (ja (da 2) (ja (da 3) (ja (da 0) Ba))))) [some (Kr K [qh q ss]),some (.ref σ.length),some (qh q ss)] (σ++[.lst []])=.ok (.lst (ss.map (Mf q))) (σ++[.lst []]):=by
  refine Zy (s:=.seq (ss.map Sn.D)) (ix:=[0,2]) Sn.D _ (by unfold qh;simp) (λi _=>Ad some (lE ss _ i)) (by have:=hs.le;omega) (λs _ j=>?_) (λs _=>dG _ _);have r:=N1 hq (Kr K [qh q ss]) (σ++[.lst []]++j) ss s;generalize σ++[Ob.lst []]++j=Y,s.D=g,qh q ss=h,Kr K [qh q ss]=V,Mf q s=R at *;simp[r]
 have a:=sG (σ:=σ) (xs:=[]) (d:=.lst (ss.map (Mf q))) (by simp);have e:∀ m,Jw Jn m (.ref σ.length) (σ++[.lst []])=(m (σ++[.lst []])).bind (Jn (.ref σ.length)):=λm=>DD (xs:=[]) (by unfold Fg Ih;simp);have fz:Eg σ (.ok (.ref σ.length) (σ++[.lst ([]++[.lst (ss.map (Mf q))])]))=.ok (RL q ss) σ:=Gy (by simp only[iy,lg,cl,jW];rfl);have c:Lk (Ld 2) LH [qh q ss] [some (Kr K [qh q ss]),some (.ref σ.length),none] (σ++[.lst []])=.ok (.nx [some (Kr K [qh q ss]),some (.ref σ.length),some (qh q ss)]) (σ++[.lst ([]++[.lst (ss.map (Mf q))])]):=by
  rw[jr];simp only[Ya,Za];unfold LH;generalize qh q ss=P,Kr K [qh q ss]=V,σ++[Ob.lst []]=Y,σ++[Ob.lst ([]++[.lst (ss.map (Mf q))])]=Z at *;simp[e,l,a,-zw]
 unfold bg vR;generalize qh q ss=P,Kr K [qh q ss]=V,σ++[Ob.lst ([]++[.lst (ss.map (Mf q))])]=Z,RL q ss=f at *;simp[b,c,fz]
omit hq
abbrev Sx:=Sn × Nat
def cD(p:Sx):D:=.lst [.int p.2]
theorem HU:Ce [RL q ss] σ=.ok (.lst (ss.zipIdx.map cD)) σ:=by
 have u:=hs.le;have e:∀ (i:Nat) τ,Ch (.lst []) (.lst [.int i]) τ=.ok (.lst [.int i]) τ:=λi τ=>by rw[YC (by unfold Wi;simp)];rfl
 have h:∀ τ,Zk [.lst (ss.map (Mf q))] τ=.ok (.int ss.length) τ:=λτ=>by simp
 have l:∀ (R C c:Option D) (τ:qb),Mg (Ym (toN (Rx (jh Zk (ja (da 2) Ba)))) [4] (Ld 0) Gk (Ga Ch (da 2) (Gh (ja (da 0) Ba)))) [R,C,some (.lst (ss.map (Mf q))),c,some (.lst [])] τ=.ok (.lst (ss.zipIdx.map cD)) τ:=λR C c τ=>by
  have n:Vz (.int ss.length) τ=.ok (.seq ((List.range ss.length).map λ(i:Nat)=>.int i)) τ:=by
   rw[qS (by omega) (by omega)];rfl
  have o:Rx (jh Zk (ja (da 2) Ba)) [R,C,some (.lst (ss.map (Mf q))),c,some (.lst [])] τ=.ok (.seq ((List.range ss.length).map λ(i:Nat)=>.int i)) τ:=by
   generalize ss.map (Mf q)=b at *;simp[h,n]
  have:=Zy (ix:=[4]) (xs:=List.range ss.length) (fe:=Ga Ch (da 2) (Gh (ja (da 0) Ba))) (λ(i:Nat)=>.int i) (λ(i:Nat)=>.lst [.int i]) o (λi _=>Ad some (lE (List.range ss.length) _ i)) (by simp;omega) (λi _ j=>by
   have:=e i (τ++j);simp[this]) (λi _=>by simp)
  rw[this];rcases hs with⟨s,rfl⟩|⟨s,t,rfl⟩<;>rfl
 have ex:=NM (σ:=σ) (ys:=[]) (zs:=ss.zipIdx.map cD) (by simp;omega);have k:∀ m,Jw Nw m (.ref σ.length) (σ++[.lst []])=(m (σ++[.lst []])).bind (Nw (.ref σ.length)):=λm=>DD (xs:=[]) (by unfold Fg Ih;simp);rw[iy]at ex;have fz:Eg σ (.ok (.ref σ.length) (σ++[.lst (ss.zipIdx.map cD)]))=.ok (.lst (ss.zipIdx.map cD)) σ:=Gy (Sz λd hd=>by obtain⟨p,_,rfl⟩:=Ge.mp hd;unfold cD;simp);have r:∀ R C,yF [R,C,some (.lst (ss.map (Mf q))),some (.ref σ.length),some (.lst [])] (σ++[.lst []])=.ok (.nx [R,C,some (.lst (ss.map (Mf q))),some (.ref σ.length),some (.lst [])]) (σ++[.lst (ss.zipIdx.map cD)]):=λR C=>by
  unfold yF;generalize ss.map (Mf q)=b,ss.zipIdx.map cD=a at *;generalize σ++[Ob.lst []]=Y,σ++[Ob.lst a]=Z at *;simp[k,l,ex,-zw]
 have g:∀ R C,Lk (Ld 4) yF [.lst []] [R,C,some (.lst (ss.map (Mf q))),some (.ref σ.length),none] (σ++[.lst []])=.ok (.nx [R,C,some (.lst (ss.map (Mf q))),some (.ref σ.length),some (.lst [])]) (σ++[.lst (ss.zipIdx.map cD)]):=λR C=>by
  rw[jr];simp only[Ya,Za];rw[r,Od,um,Hw]
 have f:∀ R,Lk (Ld 2) yK [.lst (ss.map (Mf q))] [R,some (.lst [.lst []]),none,none,none] σ=.ok (.nx [R,some (.ref σ.length),some (.lst (ss.map (Mf q))),some (.ref σ.length),some (.lst [])]) (σ++[.lst (ss.zipIdx.map cD)]):=λR=>by
  rw[jr];simp only[Ya,Za];unfold yK;generalize σ++[Ob.lst (ss.zipIdx.map cD)]=Z,ss.map (Mf q)=b at *;simp[g]
 unfold Ce cO RL;generalize ss.map (Mf q)=b,ss.zipIdx.map cD=a at *;generalize σ++[Ob.lst a]=Z at *;simp[f,fz]
omit hs
theorem PX{p:Sx}(b:ss[p.2]?=some p.1):Tc [RL q ss,cD p] σ=.ok (.lst [Mf q p.1]) σ:=by
 have hc:cl (.lst [Mf q p.1])=true:=by simp[cl,dG]
 have c:∀ σ,Va (.lst (ss.map (Mf q))) (.int p.2) σ=.ok (Mf q p.1) σ:=λσ=>jB (Ps (by rw[Eb,b];rfl));have l:=lcP (xs:=[p]) (ix:=[]) (fe:=Ga Va (da 0) (da 1)) (ρ:=[some (RL q ss),some (cD p)]) (λ_=>.lst (ss.map (Mf q))) (λx=>.int x.2) (λx=>Mf q x.1) (mZ (i:=0) (j:=1) (σ:=σ) (xs:=[.lst (ss.map (Mf q))]) (ys:=[.int p.2]) rfl rfl) (λi j h=>by
  match i,h with
  |0,_=>rfl
  |1,_=>rfl) (by simp) (λx a j=>by
  have a:x=p:=by simpa using a
  subst a;have:=c (σ++j);generalize ss.map (Mf q)=d at *;simp[this]) (λx _=>dG _ _)
 have l:Mg _ _ σ=.ok (.lst [Mf q p.1]) σ:=l;unfold Tc MP;generalize D.lst [Mf q p.1]=e,cD p=C,RL q ss=R at *;simp[l,hc,-zw]
end
theorem LJ{f:Ev->M D}{ρ:Ev}{σ:qb}{tg:D->Ev->Option Ev}{a:Ev->M Fl}(h:f ρ σ=.ok (.Ma [] []) σ):Mp (wy f) tg a ρ σ=.ok (.nx ρ) σ:=by
 have:wy f ρ σ=.ok (Us []) σ:=by
  show Wc (f ρ) qH σ=_;rw[zo,h,Od];rfl
 rw[Sw,this,cq];exact xB (by unfold Us;simp)
def yo(q:Int)(p:Sx):D:=.tup [.int (ow q p.1),cD p,.Ma [] []]
theorem LN(q:Int)(p:Sx):cl (yo q p)=true:=by unfold yo cD;simp[cl]
theorem RY(q:Int)(p:Sx)(e:Int)(σ:qb):Be [.lst [Mf q p.1],cD p,.int e] σ=.ok (yo q p) σ:=by
 have k:∀ σ,Va (Mf q p.1) (.int 1) σ=.ok (.Ma [] []) σ:=λσ=>by unfold Mf;simp
 have h:∀ σ,Va (Mf q p.1) (.int 0) σ=.ok (.int (ow q p.1)) σ:=λσ=>by unfold Mf;simp
 have g:∀ σ,Me [.lst [Mf q p.1]] σ=.ok (.Ma [] []) σ:=λσ=>by
  have f:∀ c d τ,mG [some (.lst [Mf q p.1]),some (.ref σ.length),some (Mf q p.1),c,d] τ=.ok (.nx [some (.lst [Mf q p.1]),some (.ref σ.length),some (Mf q p.1),c,d]) τ:=λc d τ=>by
   unfold mG;generalize Mf q p.1=R at *;exact LJ (by simp[k])
  have a:Lk (Ld 2) mG [Mf q p.1] [some (.lst [Mf q p.1]),some (.ref σ.length),none,none,none] (σ++[.Ma []])=.ok (.nx [some (.lst [Mf q p.1]),some (.ref σ.length),some (Mf q p.1),none,none]) (σ++[.Ma []]):=by
   rw[jr];simp only[Ya,Za];rw[f,Od,um,Hw]
  have fz:=Z5 (σ:=σ);unfold Me RO;generalize Mf q p.1=R at *;simp[a,fz,-Sw]
 have m:∀ F σ,gi [.lst [Mf q p.1],.Ma [] [],F,.int e] σ=.ok (.int (ow q p.1)) σ:=λF σ=>by
  have l:=Zy (src:=ri (da 0)) (ρ:=[some (.lst [Mf q p.1]),some (.Ma [] []),some F,some (.int e),none,none,none]) (σ:=σ) (s:=.seq [Mf q p.1]) (ix:=[]) (xs:=[p.1]) (fe:=Ga Va (da 0) (eC (.int 0))) (Mf q) (λs=>.int (ow q s)) (by simp) (λi _=>Ad some (lE [p.1] _ i)) (by simp) (λs b j=>by
   have b:s=p.1:=by simpa using b
   subst b;have:=h (σ++j);generalize Mf q p.1=R at *;simp[this]) (λ_ _=>rfl)
  have l:Mg _ _ σ=.ok (.lst [.int (ow q p.1)]) σ:=l;have s1:nv [.lst [.int (ow q p.1)]] σ=.ok (.int (ow q p.1)) σ:=by simp[nv,Qt]
  have a:Mp (wy (da 1)) (Gn 2 (Wh (Ld 5) (Wh (Ld 6) Co))) Pi [some (.lst [Mf q p.1]),some (.Ma [] []),some F,some (.int e),some (.int (ow q p.1)),none,none] σ=.ok (.nx [some (.lst [Mf q p.1]),some (.Ma [] []),some F,some (.int e),some (.int (ow q p.1)),none,none]) σ:=LJ rfl;unfold gi gM;generalize Mf q p.1=R at *;simp[l,s1,a,-zw,-Sw]
 have a:Mp (wy (da 3)) (Gn 2 (Wh (Ld 5) (Wh (Ld 6) Co))) Pi [some (.lst [Mf q p.1]),some (cD p),some (.int e),some (.Ma [] []),some (.ref σ.length),none,none] (σ++[.Ma []])=.ok (.nx [some (.lst [Mf q p.1]),some (cD p),some (.int e),some (.Ma [] []),some (.ref σ.length),none,none]) (σ++[.Ma []]):=LJ rfl;have fz:Eg σ (.ok (.tup [.int (ow q p.1),cD p,.ref σ.length]) (σ++[.Ma []]))=.ok (yo q p) σ:=by
  have e:(σ++[Ob.Ma []])[σ.length]?=some (.Ma []):=by simp
  unfold Eg;dsimp only;rw[ia (by simp)];have:fz σ.length (σ++[.Ma []]) 6 (.tup [.int (ow q p.1),cD p,.ref σ.length])=some (yo q p):=by
   simp[fz,xq,cl,lg,e,yo,cD]
  rw[this]
 unfold Be rT;generalize Mf q p.1=R,cD p=C,yo q p=n at *;simp[g,a,m,fz,-Sw]
def gw(q:Int)(ss:List Sn):Sx:=match ss.zipIdx with
 |[]=>(⟨0,0,0⟩,0)
 |p::a=>Bw (λp=>ow q p.1) a p
def Dx(q:Int)(ss:List Sn):Int:=ow q (gw q ss).1
section
variable{q:Int}(hq:q=0\/q=1){ss:List Sn}(hs:jx ss)
include hq hs
theorem W7(K:List D)(σ:qb):Nh [Kr K [qh q ss]] σ=.ok (.int (Dx q ss)) σ:=by
 have m:=λσ=>yX hq hs σ K;have c:=λσ=>HU (q:=q) hs σ;have g:∀ σ,Bb [9,10] "every" (Kr K [qh q ss]) σ=.ok (.int 5) σ:=λσ=>Kj (Bl rfl) rfl rfl;generalize Kr K [qh q ss]=V at *;have b:∀ σ,Mg (Ym (toN (ri (md 1 Ce [] (ja (da 1) Ba)))) [1,0] (Ld 0) Gk (md 3 Be [] (ja (md 2 Tc [] (ja (da 2) (ja (da 0) Ba))) (ja (da 0) (ja (Yb (Bb [9,10] "every") (da 3)) Ba))))) [some V,some (RL q ss),none] σ=.ok (.lst (ss.zipIdx.map (yo q))) σ:=λσ=>by
  refine Zy (s:=.seq (ss.zipIdx.map cD)) (ix:=[1,0]) cD (yo q) ?_ (λi _=>Ad some (lE _ _ i)) (by have:=hs.le;simp;omega) (λp a j=>?_) (λp _=>LN q p)
  ·generalize ss.zipIdx.map cD=C,RL q ss=R at *;simp[c]
  ·have e:=λσ=>PX (q:=q) σ (List.mem_zipIdx_iff_getElem?.mp a);have k:=λσ=>RY q p 5 σ;generalize σ++j=Y,Mf q p.1=n,cD p=C,yo q p=P,RL q ss=R at *;simp[e,k,g]
 have d:∀ σ,Mz (Ga Va (da 0) (eC (.int 0))) [] [.lst (ss.zipIdx.map (yo q))] σ=.ok (yo q (gw q ss)) σ:=λσ=>by
  obtain⟨p,ps,a⟩:∃ p ps,ss.zipIdx=p::ps:=by rcases hs with⟨s,rfl⟩|⟨s,t,rfl⟩<;>exact⟨_,_,rfl⟩
  rw[show gw q ss=Bw (λp=>ow q p.1) ps p by unfold gw;rw[a],a];refine i4 (f:=yo q) (key:=λp=>ow q p.1) λy _=>?_;have:∀ σ,Va (yo q y) (.int 0) σ=.ok (.int (ow q y.1)) σ:=λσ=>by unfold yo;simp
  generalize yo q y=P at *;simp[this]
 have hc:=LN q (gw q ss);have h:∀ σ,Va (yo q (gw q ss)) (.int 0) σ=.ok (.int (Dx q ss)) σ:=λσ=>by unfold yo Dx;simp
 have l:∀ σ,Cj [V] σ=.ok (yo q (gw q ss)) σ:=λσ=>by
  have b:=b σ;have d:=d σ;unfold Cj iR;generalize yo q (gw q ss)=BD,ss.zipIdx.map (yo q)=P,RL q ss=R at *;simp[m,b,d,hc,-zw]
 unfold Nh OM;generalize yo q (gw q ss)=P at *;simp[l,h]
omit hq hs
theorem NH(q:Int)(s:Sn):Dx q [s]=ow q s:=rfl
theorem HQ(q:Int)(s t:Sn):Dx q [s,t]=if ow q t<ow q s then ow q t else ow q s:=by
 unfold Dx gw;show ow q (Bw _ [(t,1)] (s,0)).1=_;unfold Bw Bw;by_cases h:ow q t<ow q s
 ·rw[ia h,ia h]
 ·rw[qa h,qa h]
end
structure Ac where
 q:Int
 c:Nat
 m:Sn
 G:D
 y:List Sn
 L:List D
def Ac.D(a:Ac):L4.D:=.obj a.c ["pot","side","mine","grant","may","strikes"] [.int 0,.int a.q,a.m.D,a.G,.lst (a.y.map Sn.D),.lst a.L]
structure Ac.Ok(a:Ac):Prop where
 q:a.q=0\/a.q=1
 c:[5,6,7,8].contains a.c=true
 c2:[5,6,7,8,13,14].contains a.c=true
 g:cl a.G=true
 l:lg a.L=true
 y:jx a.y
theorem N6(c:Nat)(fn:List D->M D)(a b d e f g:D)(σ:qb):Wl c 7 fn [a,b,d,e,f,g] σ=kx σ.length (fn [.ref σ.length,a,b,d,e,f,g] (σ++[.ins c []])):=TB rfl
section
variable{a:Ac}(h:a.Ok)(σ:qb)
include h
theorem Iw:Hj σ a.D=some (a.c,([("pot",.int 0),("side",.int a.q),("mine",a.m.D),("grant",a.G),("may",.lst (a.y.map Sn.D)),("strikes",.lst a.L)]:List (Str × D))):=Bl rfl
theorem xy:Bb [5,6,7,8] "pot" a.D σ=.ok (.int 0) σ:=Kj (Iw h σ) h.c rfl
theorem Kx:Bb [5,6,7,8,13,14] "side" a.D σ=.ok (.int a.q) σ:=Kj (Iw h σ) h.c2 rfl
theorem Zu:Bb [5,6,7,8] "mine" a.D σ=.ok a.m.D σ:=Kj (Iw h σ) h.c rfl
theorem oE:Bb [5,6,7,8] "grant" a.D σ=.ok a.G σ:=Kj (Iw h σ) h.c rfl
theorem mz:Bb [5,6,7,8] "may" a.D σ=.ok (.lst (a.y.map Sn.D)) σ:=Kj (Iw h σ) h.c rfl
theorem sy:Bb [5,6,7,8] "strikes" a.D σ=.ok (.lst a.L) σ:=Kj (Iw h σ) h.c rfl
theorem pB:cl a.D=true:=by unfold Ac.D;simp[cl,on,Hz,h.g,h.l]
theorem jC:Eg σ (Wl a.c 7 Pj [.int 0,.int a.q,a.m.D,a.G,.lst (a.y.map Sn.D),.lst a.L] σ)=.ok a.D σ:=by
 have hy:=Hz a.y;have hm:=on a.m;have hg:=h.g;have n:=h.l;have hc:=h.c;have j:=h.c2;unfold Ac.D;generalize a.q=b,a.c=c,a.m.D=m,a.G=g,a.L=z,a.y.map Sn.D=y at *;have e:=λ(f:Str) (v:D) (fs:List (Str × D)) (k:fs.length<1000)=>VA (ρ:=[some (.ref σ.length),some (.int 0),some (.int b),some m,some g,some (.lst y),some (.lst z)]) (σ:=σ) (cs:=[5,6,7,8]) (f:=f) (d:=v) (c:=c) (fs:=fs) hc k;have o:=λ(f:Str) (v:D) (fs:List (Str × D)) (k:fs.length<1000)=>VA (ρ:=[some (.ref σ.length),some (.int 0),some (.int b),some m,some g,some (.lst y),some (.lst z)]) (σ:=σ) (cs:=[5,6,7,8,13,14]) (f:=f) (d:=v) (c:=c) (fs:=fs) j k;have t:∀ p:D,rj "pot" p []=([("pot",p)]:List (Str × D)):=λ_=>rfl;have u:∀ p s:D,rj "side" s [("pot",p)]=([("pot",p),("side",s)]:List (Str × D)):=λ_ _=>rfl;have w:∀ p s:D,rj "mine" m [("pot",p),("side",s)]=([("pot",p),("side",s),("mine",m)]:List (Str × D)):=λ_ _=>rfl;have x:∀ p s:D,rj "grant" g [("pot",p),("side",s),("mine",m)]=([("pot",p),("side",s),("mine",m),("grant",g)]:List (Str × D)):=λ_ _=>rfl;have p4:∀ p s:D,rj "may" (.lst y) [("pot",p),("side",s),("mine",m),("grant",g)]=([("pot",p),("side",s),("mine",m),("grant",g),("may",.lst y)]:List (Str × D)):=λ_ _=>rfl;have A:∀ p s:D,rj "strikes" (.lst z) [("pot",p),("side",s),("mine",m),("grant",g),("may",.lst y)]=([("pot",p),("side",s),("mine",m),("grant",g),("may",.lst y),("strikes",.lst z)]:List (Str × D)):=λ_ _=>rfl;have r:=λσ=>Xy hy σ;have fz:=λσ=>Xy n σ;have i:Pj [.ref σ.length,.int 0,.int b,m,g,.lst y,.lst z] (σ++[.ins c []])=.ok .Vb (σ++[.ins c [("pot",.int 0),("side",.int b),("mine",m),("grant",g),("may",.lst y),("strikes",.lst z)]]):=by
  unfold Pj kP;simp[e,o,t,u,w,x,p4,A,r,fz]
 rw[N6,i,pz,GD (by simp[hm,hg,hy,n])];rfl
end
def calm(q:Int)(m:Sn)(G:D)(L:List D):Ac:=⟨q,6,m,G,[m],L⟩
def dk(q:Int)(m o:Sn)(G:D)(L:List D):Ac:=⟨q,7,m,G,[m,o],L⟩
def mn(q:Int)(o m:Sn)(G:D)(L:List D):Ac:=⟨q,8,m,G,[o,m],L⟩
inductive Cm where
 |hg|ht
 |laid (s:Int) (x:Sn)
 |taken (s:Int)
def Cm.D:Cm->L4.D
 | .hg=>.gt ["held"]
 | .ht=>.tup [.str "held"]
 | .laid s x=>.tup [.str "laid",.int s,x.D,.int 0]
 | .taken s=>.tup [.str "taken",.int s]
noncomputable def Cm.held:Cm->Bool
 | .hg=>true
 | .ht=>true
 |_=>false
noncomputable def Ht(s W:Int):Sn:=⟨0,if s=0 then W else 0,if s=0 then 0 else W⟩
def ln(a:Ac):Cm->List Sn
 | .hg=>a.y
 | .ht=>a.y
 | .laid _ x=>[x]
 | .taken s=>[Ht s (a.m.a+a.m.b)]
theorem rZ{a:Ac}(b:a.Ok)(C:Cm):jx (ln a C):=by
 cases C with
 |hg=>exact b.y
 |ht=>exact b.y
 |laid s x=>exact .inl ⟨_,rfl⟩
 |taken s=>exact .inl ⟨_,rfl⟩
theorem XT{a:Ac}(d:a.Ok)(C:Cm)(j:∀ s,C=.taken s->s=0\/s=1)(σ:qb):Ae [a.D,C.D] σ=.ok (.lst ((ln a C).map Sn.D)) σ:=by
 have m:=λσ=>mz d σ;have l:=λσ=>Zu d σ;have f:((("laid" : Str) == ("held" : Str)))=false:=by decide
 have g:((("taken" : Str) == ("held" : Str)))=false:=by decide
 have h:((("taken" : Str) == ("laid" : Str)))=false:=by decide
 have hc:=Hz a.y;unfold Ae vQ;cases C with
 |hg=>
  have k:∀ σ,Va (.gt ["held"]) (.int 0) σ=.ok (.str "held") σ:=λσ=>nr rfl;unfold Cm.D ln;generalize a.y.map Sn.D=Y,a.D=A at *;simp[k,m,hc]
 |ht=>
  unfold Cm.D ln;generalize a.y.map Sn.D=Y,a.D=A at *;simp[m,hc]
 |laid s x=>
  have c:=on x;unfold Cm.D ln;simp only[Sa,wg];generalize x.D=X,a.D=A at *;simp[f,c]
 |taken s=>
  have i:=λσ=>ZF a.m σ;have n:∀ σ,dg [.tup [.int 0,.int 0],.int s,.int (a.m.a+a.m.b)] σ=.ok (.tup [.int (Ht s (a.m.a+a.m.b)).a,.int (Ht s (a.m.a+a.m.b)).b]) σ:=λσ=>by
   unfold dg fO Ht;rcases j s rfl with rfl|rfl<;>simp
  have e:D.tup [.int 0,.tup [.int (Ht s (a.m.a+a.m.b)).a,.int (Ht s (a.m.a+a.m.b)).b],.tup []]=(Ht s (a.m.a+a.m.b)).D:=rfl;have c:=on (Ht s (a.m.a+a.m.b));unfold Cm.D ln;simp only[Sa,wg];generalize a.m.D=o,a.D=A,(Ht s (a.m.a+a.m.b)).b=q,(Ht s (a.m.a+a.m.b)).a=p,(Ht s (a.m.a+a.m.b)).D=X at *;simp[g,h,l,i,n,e,c]
def Ss:List (Str × D):=[("hand",.int 1),("every",.int 5),("last_look",.int 0),("gave",.int 0),("known",.ref 1),("accounts",.ref 2),("claims",.ref 3),("seen",.ref 4),("asked",.ref 5),("finishing",.ref 6)]
def Na(q u v:Int):D:=.tup [.int (if q=0 then 1 else 2),.int (if q=0 then 2 else 1),.int u,.int v,.int 20]
def mu(P:D):List (Str × D):=[("pots",.lst [P]),("day",.int 0),("claims",.ref 8),("shown",.ref 9)]
def kw(k:Bool):Kv:=if k then [(.inl 7,.bl true)]else []
def gv(k:Bool):List D:=if k then [.int 7]else []
theorem zB(k:Bool):lg (gv k)=true:=by cases k<;>rfl
def fi(f:Bool):Kv:=if f then [(.inl 0,.bl true)]else []
def yq:Kv:=[(.inl 0,.Ma [] [])]
abbrev AV(a:Ac):Kv:=[(.inl 0,a.D)]
def S(k:Bool)(A:Kv)(C:Cm)(f:Bool)(P B:D)(J:qb):qb:=.ins 10 Ss::.Ma (kw k)::.Ma A::.Ma [(.inl 0,C.D)]::.Ma yq::.Ma []::.Ma (fi f)::.ins 15 (mu P)::.lst [B]::.lst [.ref 10]::.Ma []::J
structure Vs(k:Bool)(C:Cm)(σ:qb):Prop where
 h0:σ[0]?=some (.ins 10 Ss)
 h1:σ[1]?=some (.Ma (kw k))
 h3:σ[3]?=some (.Ma [(.inl 0,C.D)])
 h4:σ[4]?=some (.Ma yq)
theorem cr(k:Bool)(A:Kv)(C:Cm)(f:Bool)(P B:D)(J:qb):Vs k C (S k A C f P B J):=⟨rfl,rfl,rfl,rfl⟩
theorem uz{σ j:qb}{k:Nat}{o:Ob}(h:σ[k]?=some o):(σ++j)[k]?=some o:=by
 rw[xb (ra.mp h).1,h]
theorem Vs.app{k:Bool}{C:Cm}{σ:qb}(h:Vs k C σ)(j:qb):Vs k C (σ++j):=⟨uz h.h0,uz h.h1,uz h.h3,uz h.h4⟩
theorem oF{σ:qb}{k r:Nat}{o x:Ob}(n:r≠k)(h:σ[k]?=some o):(σ.set r x)[k]?=some o:=by
 rw[Uj n,h]
theorem Vs.set{k:Bool}{C:Cm}{σ:qb}(h:Vs k C σ){r:Nat}(a:r=2\/6<r)(x:Ob):Vs k C (σ.set r x):=⟨oF (by omega) h.h0,oF (by omega) h.h1,oF (by omega) h.h3,oF (by omega) h.h4⟩
theorem g6{σ:qb}(h:σ[0]?=some (.ins 10 Ss)):Hj σ (.ref 0)=some (10,Ss):=by unfold Hj;simp[h]
section
variable{k:Bool}{C:Cm}{σ:qb}(h:Vs k C σ)
include h
theorem cw:Hj σ (.ref 0)=some (10,Ss):=g6 h.h0
theorem zto:Bb [9,10] "every" (.ref 0) σ=.ok (.int 5) σ:=Kj (cw h) rfl rfl
theorem mJ:Bb [9,10] "last_look" (.ref 0) σ=.ok (.int 0) σ:=Kj (cw h) rfl rfl
theorem nN:Bb [9,10] "known" (.ref 0) σ=.ok (.ref 1) σ:=Kj (cw h) rfl rfl
theorem RW:Bb [10] "gave" (.ref 0) σ=.ok (.int 0) σ:=Kj (cw h) rfl rfl
theorem ay:Bb [10] "accounts" (.ref 0) σ=.ok (.ref 2) σ:=Kj (cw h) rfl rfl
theorem jw:Bb [10,15] "claims" (.ref 0) σ=.ok (.ref 3) σ:=Kj (cw h) rfl rfl
theorem zP:Bb [10] "seen" (.ref 0) σ=.ok (.ref 4) σ:=Kj (cw h) rfl rfl
theorem A7:Bb [10] "asked" (.ref 0) σ=.ok (.ref 5) σ:=Kj (cw h) rfl rfl
theorem iL:Bb [10] "finishing" (.ref 0) σ=.ok (.ref 6) σ:=Kj (cw h) rfl rfl
theorem jk{m:Str}(n:Nat)(fn:List D->M D)(fs:M (List D))(hm:Ss.lookup m=none):Ak [(10,fn)] n m fs (.ref 0) σ=(fs σ).bind (si n fn (.ref 0)):=Dn (cw h) rfl hm
theorem Jz:Tp (.ref 3) (.int 0) σ=.ok C.D σ:=by
 unfold Tp al;simp only[Kt,h.h3];rfl
theorem MY:Tp (.ref 4) (.int 0) σ=.ok (.Ma [] []) σ:=by
 unfold Tp al;simp only[Kt,h.h4];rfl
theorem ZS:Mc [.ref 0] σ=.ok (.lst (gv k)) σ:=by
 have a:=nN h;have o:bw [.ref 1] σ=.ok (.ref σ.length) (σ++[.lst (gv k)]):=by
  have l:Fg σ (.ref 1)=none:=by unfold Fg Ih;simp[h.h1]
  have d:al σ (.ref 1)=some (kw k):=by unfold al;simp[h.h1]
  unfold bw;simp only[l];unfold ZB;simp only[d];cases k with
  |false=>
   simp only[show sx (kw false)=some []from rfl,show Vt []=[]from(Gz []).eq_nil];rfl
  |true=>
   simp only[show sx (kw true)=some [7]from rfl,show Vt [7]=[7]from(Gz [7]).eq_singleton];rfl
 have b:Eg σ (bw [.ref 1] σ)=.ok (.lst (gv k)) σ:=by rw[o];exact Gy (zB k)
 have hc:=zB k;unfold Mc lT;generalize gv k=KD at *;simp[a,b,hc]
end
theorem CL{σ:qb}{n:Nat}{xs:List D}(h:Ih σ n=some xs)(j:qb):Ih (σ++j) n=some xs:=by
 have e:=OS h;unfold Ih;rw[uz e]
theorem dI{f:Ev->M D}{src:Ev->M NX}{nx:NX}{n:Nat}{ρ c:Ev}{σ b σ2:qb}{A A':Kv}{tg:D->Ev->Option Ev}{a:Ev->M Fl}(h:f ρ σ=.ok (.ref n) σ)(g:σ[n]?=some (.Ma A))(e:src ρ σ=.ok nx b)(i:yp nx tg a 1001 0 ρ b=.ok (.nx c) σ2)(d:σ2[n]?=some (.ub A')):Uw f (Mp src tg a) ρ σ=.ok (.nx c) (σ2.set n (.Ma A')):=by
 show eG yL (f ρ) (Mp src tg a ρ) σ=_;unfold eG;rw[h];dsimp only;rw[g];dsimp only;rw[Sw,e,cq];show bC yL _ (yp nx tg a 1001 0 ρ b)=_;rw[i];unfold bC;simp only[d];rfl
theorem wS{f:Ev->M D}{n:Nat}{ρ:Ev}{σ:qb}{A:Kv}(a:f ρ σ=.ok (.ref n) σ)(g:σ[n]?=some (.Ma A)):Cy f ρ σ=.ok (Us A) (σ.set n (.ub A)):=by
 show Wc (f ρ) eE σ=_;rw[zo,a,Od];unfold eE;simp only[g]
theorem ZT{σ:qb}{r:Nat}{o:Ob}(h:σ[r]?=some o):σ.set r o=σ:=by
 obtain⟨h1,a⟩:=ra.mp h;rw[<-a];exact List.set_getElem_self h1
theorem SS(c:Nat)(fn:List D->M D)(a b d e:D)(σ:qb):Wl c 5 fn [a,b,d,e] σ=kx σ.length (fn [.ref σ.length,a,b,d,e] (σ++[.ins c []])):=TB rfl
theorem V3(σ:qb)(K:List D)(t:lg K=true){n:Nat}{q:Int}{ss:List Sn}(k:Ih σ n=some [qh q ss]):Yr [.ref σ.length,.int 5,.int 0,.lst K,.ref n] (σ++[.ins 9 []])=.ok .Vb (σ++[.ins 9 [("every",.int 5),("last_look",.int 0),("known",.lst K),("pots",.lst [qh q ss])]]):=by
 have E:=λ(g:List Nat) (r:g.contains 9=true) (f:Str) (w:D) (fs:List (Str × D)) (u:fs.length<1000)=>VA (ρ:=[some (.ref σ.length),some (.int 5),some (.int 0),some (.lst K),some (.ref n)]) (σ:=σ) (cs:=g) (f:=f) (d:=w) (c:=9) (fs:=fs) r u;have o:∀ fs,Eg (σ++[.ins 9 fs]) (jq [.lst K] (σ++[.ins 9 fs]))=.ok (.lst K) (σ++[.ins 9 fs]):=λfs=>Xy t _;have x:∀ fs,Mg (Ym (toN (ri (da 4))) [] (Ld 0) Gk (Ie (ja (Ga Va (da 0) (eC (.int 0))) (ja (Mg (jh jq (ja (Ga Va (da 0) (eC (.int 1))) Ba))) (ja (jh Ny (ja (Ga Va (da 0) (eC (.int 2))) Ba)) Ba))))) [some (.ref σ.length),some (.int 5),some (.int 0),some (.lst K),some (.ref n)] (σ++[.ins 9 fs])=.ok (.lst [qh q ss]) (σ++[.ins 9 fs]):=λfs=>by
  have s1:gA (.ref n) (σ++[.ins 9 fs])=.ok (.Sq n) (σ++[.ins 9 fs]):=by
   show (match Ih (σ++[.ins 9 fs]) n with|some _=>_|none=>_)=_;rw[CL k]
  have:=Zy (ix:=[]) (src:=ri (da 4)) (s:=.Sq n) (xs:=[qh q ss]) (ρ:=[some (.ref σ.length),some (.int 5),some (.int 0),some (.lst K),some (.ref n)]) (σ:=σ++[.ins 9 fs]) (fe:=Ie (ja (Ga Va (da 0) (eC (.int 0))) (ja (Mg (jh jq (ja (Ga Va (da 0) (eC (.int 1))) Ba))) (ja (jh Ny (ja (Ga Va (da 0) (eC (.int 2))) Ba)) Ba)))) (λd=>d) (λd=>d) (by simp[s1]) (λi j=>by
    show (Ih (σ++[.ins 9 fs]++j) n).map _=_;rw[CL (CL k _)];cases h:[qh q ss][i]?<;>simp[h]) (by simp)
   (λv e j=>by
    have e:v=qh q ss:=by simpa using e
    subst e;have m:=λσ=>Xy (Hz ss) σ;have l:∀ τ,Ny [.Ma [] []] τ=.ok (.Ma [] []) τ:=λτ=>nr rfl;unfold qh;generalize ss.map Sn.D=B at *;simp[m,l]) (λv e=>by
    have e:v=qh q ss:=by simpa using e
    subst e;exact sF ..)
  exact this
 have y:rj "every" (.int 5) ([]:List (Str × D))=([("every",.int 5)]:List (Str × D)):=rfl;have z:∀ a b:D,rj "last_look" b ([("every",a)]:List (Str × D))=([("every",a),("last_look",b)]:List (Str × D)):=λ_ _=>rfl;have A:∀ a b c:D,rj "known" c ([("every",a),("last_look",b)]:List (Str × D))=([("every",a),("last_look",b),("known",c)]:List (Str × D)):=λ_ _ _=>rfl;have p4:∀ a b c d:D,rj "pots" d ([("every",a),("last_look",b),("known",c)]:List (Str × D))=([("every",a),("last_look",b),("known",c),("pots",d)]:List (Str × D)):=λ_ _ _ _=>rfl;have p:∀ ρ σ,Mg (jh jq (ja (da 3) Ba)) ρ σ=Eg σ (jh jq (ja (da 3) Ba) ρ σ):=λ_ _=>rfl;unfold Yr GQ;generalize qh q ss=PS at *;simp[E,y,z,A,p4,o,x,p,-zw]
abbrev Jv(C:Cm):Prop:=∀ s,C=.taken s->s=0\/s=1
theorem IN(A:Kv)(σ:qb):Us A A.length σ=some none:=by unfold Us;simp
def wu(k:Bool)(a:Ac)(C:Cm):D:=Kr (gv k) [qh a.q (ln a C)]
section
variable{k:Bool}{C:Cm}(hC:Jv C){a:Ac}(ha:a.Ok)
include ha hC
theorem YN{σ:qb}(h:Vs k C σ){r:Nat}(hg:σ[r]?=some (.Ma (AV a)))(x:r=2\/6<r):pc [.ref 0,.ref r] σ=.ok (wu k a C) σ:=by
 have b:=(ra.mp hg).1;have y:=h.set x (.ub (AV a));have g:(σ.set r (.ub (AV a))).length=σ.length:=fy;have I:HG [some (.ref 0),some (.ref r),some (.ref σ.length),some (.int 0),some a.D] (σ.set r (.ub (AV a))++[Ob.lst []])=.ok (.nx [some (.ref 0),some (.ref r),some (.ref σ.length),some (.int 0),some a.D]) (σ.set r (.ub (AV a))++[Ob.lst ([]++[qh a.q (ln a C)])]):=by
  have i:=sG (σ:=σ.set r (.ub (AV a))) (xs:=[]) (d:=qh a.q (ln a C)) (by simp);rw[g]at i;have A:∀ m,Jw Jn m (.ref σ.length) (σ.set r (.ub (AV a))++[Ob.lst []])=(m (σ.set r (.ub (AV a))++[Ob.lst []])).bind (Jn (.ref σ.length)):=λm=>DD (xs:=[]) (by rw[<-g];unfold Fg Ih;simp);have v:=y.app [.lst []];have s:=jw v;have c2:=zP v;have t:=Jz v;have u:=MY v;have G:=λσ=>XT ha C hC σ;have F:=λσ=>Kx ha σ;have H:D.tup [.int a.q,.lst ((ln a C).map Sn.D),.Ma [] []]=qh a.q (ln a C):=rfl;unfold HG;generalize D.lst ((ln a C).map Sn.D)=L,C.D=K,a.D=J,σ.set r (.ub (AV a))++[Ob.lst []]=Y,σ.set r (.ub (AV a))++[Ob.lst ([]++[qh a.q (ln a C)])]=Z at *;simp[s,c2,t,u,G,F,A,H,i]
 have hb:∀ o p,yp (Us (AV a)) (Gn 2 (Wh (Ld 3) (Wh (Ld 4) Co))) HG 1001 0 [some (.ref 0),some (.ref r),some (.ref σ.length),o,p] ((σ++[Ob.lst []]).set r (.ub (AV a)))=.ok (.nx [some (.ref 0),some (.ref r),some (.ref σ.length),some (.int 0),some a.D]) (σ.set r (.ub (AV a))++[Ob.lst [qh a.q (ln a C)]]):=λo p=>by
  rw[Bt _ _ b];rw[iD (d:=.tup [.int 0,a.D]) rfl (ρ1:=[some (.ref 0),some (.ref r),some (.ref σ.length),some (.int 0),some a.D]) rfl,I,Od,um];exact xB (k:=999) (IN (AV a) _)
 have c:=uz (j:=[.lst []]) hg;have l:=dI (f:=da 1) (src:=Cy (da 1)) (ρ:=[some (.ref 0),some (.ref r),some (.ref σ.length),none,none]) (σ:=σ++[.lst []]) (n:=r) (by simp) c (wS (by simp) c) (hb none none) (A':=AV a) (uz (by rw[Zi b]));rw[Bt _ _ (by rw[g];exact b),List.set_set,ZT hg]at l;have e:=h.app [.lst [qh a.q (ln a C)]];have wd:=ZS e;have E:=λfs=>jk e (m:="words") 1 Mc fs rfl;have w:=zto e;have z:=mJ e;have hc:cl (wu k a C)=true:=DR (zB k) (by simp[sF]);have B:Eg (σ++[.lst [qh a.q (ln a C)]]) (Wl 9 5 Yr [.int 5,.int 0,.lst (gv k),.ref σ.length] (σ++[.lst [qh a.q (ln a C)]]))=.ok (wu k a C) (σ++[.lst [qh a.q (ln a C)]]):=by
  rw[SS,V3 _ (gv k) (zB k) (n:=σ.length) (q:=a.q) (ss:=ln a C) (by unfold Ih;simp),pz,GD (by simp[sF,zB])];rfl
 have fz:Eg σ (.ok (wu k a C) (σ++[.lst [qh a.q (ln a C)]]))=.ok (wu k a C) σ:=uE hc;unfold pc GN;generalize σ++[Ob.lst [qh a.q (ln a C)]]=M,wu k a C=V at *;simp[-Sw,l,w,z,wd,E,B,fz]
end
def W(a:Ac)(C:Cm):Int:=Dx a.q (ln a C)
theorem xR{k:Bool}{a:Ac}(b:a.Ok)(C:Cm)(σ:qb):Nh [wu k a C] σ=.ok (.int (W a C)) σ:=W7 b.q (rZ b C) (gv k) σ
abbrev SA(k:Bool)(a:Ac)(C:Cm)(f:Bool)(P B:D)(J:qb):qb:=S k (AV a) C f P B J
section
variable{k:Bool}{C:Cm}(hC:Jv C){a:Ac}(ha:a.Ok){f:Bool}{P B:D}{J:qb}
include ha hC
theorem CI:lc [.ref 0] (SA k a C f P B J)=.ok (.int (W a C)) (SA k a C f P B J):=by
 have b:=cr k (AV a) C f P B J;have v:=YN hC ha b (r:=2) rfl (.inl rfl);have c:=ay b;have w:=λh=>xR (k:=k) ha C h;have d:=λfs=>jk b (m:="view_by") 2 pc fs rfl;have e:=λfs=>jk b (m:="view") 1 Yd fs rfl;have hc:cl (wu k a C)=true:=DR (zB k) (by simp[sF]);have g:Yd [.ref 0] (SA k a C f P B J)=.ok (wu k a C) (SA k a C f P B J):=by
  unfold Yd sP;unfold SA at *;generalize S k (AV a) C f P B J=Y,wu k a C=V at *;simp[d,c,v,hc]
 unfold lc OQ;unfold SA at *;generalize S k (AV a) C f P B J=Y,wu k a C=V at *;simp[e,g,w]
theorem nO{x:Ac}(c:x.Ok)(b:W a C<=W x C):qc [.ref 0,x.D,.int 0] (SA k a C f P B J)=.ok (.bl true) (SA k a C f P B J):=by
 have h:=cr k (AV a) C f P B J;have i:=ay h;have j:aE [.ref 2] (SA k a C f P B J)=.ok (.ref (SA k a C f P B J).length) (SA k a C f P B J++[.Ma (AV a)]):=rfl;have q:∀ e,zr e x.D (.ref (SA k a C f P B J).length) (.int 0) (SA k a C f P B J++[.Ma (AV a)])=.ok (.nx e) (SA k a C f P B J++[.Ma (AV x)]):=λe=>by
  rw[Wx (kvs:=AV a) (by simp) (by simp),show Wz (AV a) (.inl 0) x.D=AV x from rfl,nE]
 have pt:=λg=>xy c g;have d:=h.app [.Ma (AV x)];have v:=YN hC c d (r:=(SA k a C f P B J).length) (by simp) (.inr (by show 6<J.length+11;omega));have w:=λg=>xR (k:=k) c C g;have kw:=CI (k:=k) hC ha (f:=f) (P:=P) (B:=B) (J:=J++[.Ma (AV x)]);rw[show SA k a C f P B (J++[.Ma (AV x)])=SA k a C f P B J++[.Ma (AV x)]from rfl]at kw;have o:=λfs=>jk d (m:="view_by") 2 pc fs rfl;have p:=λfs=>jk d (m:="worth") 1 lc fs rfl;have fz:∀ t,Eg (SA k a C f P B J) (.ok (.bl t) (SA k a C f P B J++[.Ma (AV x)]))=.ok (.bl t) (SA k a C f P B J):=λt=>uE (by simp);have y:decide (W x C ≥ W a C - 0)=true:=bj (by omega);unfold qc XN;unfold SA at *;generalize n:S k (AV a) C f P B J++[.Ma (AV x)]=u at *;generalize l:S k (AV a) C f P B J++[.Ma (AV a)]=s at *;generalize x.D=BD,wu k x C=V,S k (AV a) C f P B J=Y at *;simp[i,j,q,pt,v,w,kw,o,p,fz,b]
end
theorem pJ(C:Cm)(σ:qb):TC C.D (.gt ["held"]) σ=.ok (.bl C.held) σ:=by
 have h1:¬ ("laid" : Str) = "held":=by decide
 have a:¬ ("taken" : Str) = "held":=by decide
 cases C<;>unfold TC<;>simp[Cm.D,Cm.held,uB,Zo,ij,kd,qo,Sj,h1,a]
section
variable{k:Bool}{C:Cm}{a:Ac}{f:Bool}{P B:D}{J:qb}
theorem qD:db [.ref 0,.int 0] (SA k a C f P B J)=.ok (.bl C.held) (SA k a C f P B J):=by
 have b:=cr k (AV a) C f P B J;have d:=ay b;have c:=jw b;have h:=Jz b;have i:qx (.int 0) (.ref 2) (SA k a C f P B J)=.ok (.bl true) (SA k a C f P B J):=nr rfl;have q:=λe=>pJ C e;unfold db pG;unfold SA at *;generalize C.D=g,S k (AV a) C f P B J=Y at *;simp[d,c,h,i,q]
theorem JH:Tp (.ref 2) (.int 0) (SA k a C f P B J)=.ok a.D (SA k a C f P B J):=nr rfl
theorem MC(c:a.Ok):eb [.ref 0,.int 0] (SA k a C f P B J)=.ok a.D (SA k a C f P B J):=by
 have e:=cr k (AV a) C f P B J;have d:=ay e;have i:iB (.int 0) (.ref 2) (SA k a C f P B J)=.ok (.bl false) (SA k a C f P B J):=nr rfl;have h:=JH (k:=k) (C:=C) (a:=a) (f:=f) (P:=P) (B:=B) (J:=J);have b:=pB c;unfold eb tQ;unfold SA at *;generalize a.D=A,S k (AV a) C f P B J=Y at *;simp[d,i,h,b]
theorem zs9:Fd [.ref 0] (SA k a C f P B J)=.ok (.int 0) (SA k a C f P B J):=by
 have b:=RW (cr k (AV a) C f P B J);unfold Fd zS;unfold SA at *;generalize S k (AV a) C f P B J=Y at *;simp[b]
theorem ET(x:Ac)(ρ:Ev):zr ρ x.D (.ref 2) (.int 0) (SA k a C f P B J)=.ok (.nx ρ) (SA k x C f P B J):=by
 rw[Wx (kvs:=AV a) rfl (by simp)];rfl
end
def Jf(s:Int)(X:D):D:=.tup [.str "agree",.int 0,.int s,X]
def jj(s n:Int):D:=.tup [.str "strike",.int 0,.int s,.int n]
def Eh(s:Sn):D:=.tup [.str "offer",.int 0,Jf 0 s.D]
def kj(n:Int):D:=.tup [.str "struck",.int 0,jj 0 n]
def Jm(m s:Sn):D:=.tup [.str "accept",.int 0,Jf 1 s.D,jj 1 m.n]
def sj(s:Sn):D:=.tup [.str "ask",.int 0,.tup [.int s.a,.int s.b],.tup []]
def Pq:D:=.tup [.str "word",.int 0,.int 7]
theorem rW(q:Int)(s:Sn):pl 8 (Jf q s.D)=true:=by simp[pl,Jf,Sn.D]
theorem vZ(s:Sn):pl 8 (Eh s)=true:=by simp[pl,Eh,Jf,Sn.D]
theorem f7(m s:Sn):pl 8 (Jm m s)=true:=by simp[pl,Jm,Jf,jj,Sn.D]
theorem EU(n:Int):pl 8 (kj n)=true:=by simp[pl,kj,jj]
theorem Tw{s:Int}{X:D}(h:cl X=true):cl (Jf s X)=true:=by unfold Jf;simp[cl,h]
theorem xN(s:Sn):cl (Eh s)=true:=by unfold Eh;simp[cl,lg,Tw (on s)]
theorem uO(n:Int):cl (kj n)=true:=by unfold kj jj;simp[cl,lg]
theorem XR(m s:Sn):cl (Jm m s)=true:=by unfold Jm jj;simp[cl,lg,Tw (on s)]
theorem JU(s:Sn):cl (sj s)=true:=by unfold sj;simp[cl,lg]
section
variable(σ:qb)
theorem ZO{q:Int}(hq:q=0\/q=1)(k X:D):ie [.tup [k,.int 0,.int q,X]] σ=.ok (.bl true) σ:=by
 have a:=TM hq σ;have h3:=rP σ;unfold ie OO;simp[a,h3]
theorem cP{q W:Int}(hq:q=0\/q=1){s:Sn}(h:s.Ok W):ee [Jf q s.D] σ=.ok (.bl true) σ:=by
 have h1:=iG h σ;have h4:=λX=>ZO σ hq (.str "agree") X;have a:(("agree" : Str) == "word")=false:=by decide
 have b:(("agree" : Str) == "strike")=false:=by decide
 unfold Jf ee uI;generalize s.D=X at *;simp[h1,h4,a,b]
theorem mP{q W:Int}(hq:q=0\/q=1){s:Sn}(h:s.Ok W):Vf [Jf q s.D] σ=.ok (.bl true) σ:=by
 have t:=cP σ hq h;have i:Va (Jf q s.D) (.int 0) σ=.ok (.str "agree") σ:=by unfold Jf;simp
 unfold Vf RS;generalize Jf q s.D=X at *;simp[t,i]
theorem JN{q n:Int}(hq:q=0\/q=1)(h:0<=n/\n<=1000000):ee [jj q n] σ=.ok (.bl true) σ:=by
 have h1:=VN h σ;have h4:=λX=>ZO σ hq (.str "strike") X;have a:(("strike" : Str) == "word")=false:=by decide
 unfold jj ee uI;simp[h1,h4,a]
theorem UT{q n:Int}(hq:q=0\/q=1)(h:0<=n/\n<=1000000):sf [jj q n] σ=.ok (.bl true) σ:=by
 have t:=JN σ hq h;have i:Va (jj q n) (.int 0) σ=.ok (.str "strike") σ:=by unfold jj;simp
 unfold sf kR;generalize jj q n=X at *;simp[t,i]
theorem yD{k:Str}{x:D}{r:List D}(e:r.length<=3)(h:Ec [.tup (.str k::.int 0::x::r)] σ=.ok (.bl true) σ):Kb [.tup (.str k::.int 0::x::r)] σ=.ok (.bl true) σ:=by
 have h3:=rP σ;have a:Va (.tup (.str k::.int 0::x::r)) (.int 0) σ=.ok (.str k) σ:=by simp
 have b:Va (.tup (.str k::.int 0::x::r)) (.int 1) σ=.ok (.int 0) σ:=by simp
 have d:Zk [.tup (.str k::.int 0::x::r)] σ=.ok (.int ((r.length:Int)+3)) σ:=by
  have:=zuu (σ:=σ) (.str k::.int 0::x::r);simp only[Rb]at this;rw[this];congr 2
 have c:Wp .tuple (.tup (.str k::.int 0::x::r)) σ=.ok (.bl true) σ:=by simp
 have lt:decide ((r.length:Int)+3<3)=false:=pe (by omega);unfold Kb CP;generalize D.tup (.str k::.int 0::x::r)=X at *;simp[h,h3,a,b,d,c,lt]
theorem eH{W:Int}{s:Sn}(h:s.Ok W):Kb [Eh s] σ=.ok (.bl true) σ:=by
 have a:=mP σ (.inl (rfl:(0:Int)=0)) h;refine yD σ (by simp) ?_;unfold Ec aB;generalize Jf 0 s.D=X at *;simp[a]
theorem kL{W:Int}{m s:Sn}(h:s.Ok W)(hm:0<=m.n/\m.n<=1000000):Kb [Jm m s] σ=.ok (.bl true) σ:=by
 have a:=mP σ (.inr (rfl:(1:Int)=1)) h;have b:=UT σ (.inr (rfl:(1:Int)=1)) hm;have c:(("accept" : Str) == "offer")=false:=by decide
 refine yD σ (by simp) ?_;unfold Ec aB;generalize jj 1 m.n=Y,Jf 1 s.D=X at *;simp[a,b,c]
theorem gG{n:Int}(h:0<=n/\n<=1000000):Kb [kj n] σ=.ok (.bl true) σ:=by
 have b:=UT σ (.inl (rfl:(0:Int)=0)) h;have a:(("struck" : Str) == "offer")=false:=by decide
 have c:(("struck" : Str) == "accept")=false:=by decide
 refine yD σ (by simp) ?_;unfold Ec aB;generalize jj 0 n=Y at *;simp[b,a,c]
theorem dL{W:Int}{s:Sn}(h:s.Ok W):Kb [sj s] σ=.ok (.bl true) σ:=by
 have a:je [.tup [.int 0,.tup [.int s.a,.int s.b],.tup []]] σ=.ok (.bl true) σ:=iG (s:=⟨0,s.a,s.b⟩) (W:=W) ⟨by show (0:Int)<=0/\(0:Int)<=100;omega,h.a,h.b,h.w⟩ σ;have c:(("ask" : Str) == "offer")=false:=by decide
 have d:(("ask" : Str) == "accept")=false:=by decide
 have e:(("ask" : Str) == "struck")=false:=by decide
 refine yD σ (by simp) ?_;unfold Ec aB;simp[a,c,d,e]
theorem QV:Kb [Pq] σ=.ok (.bl true) σ:=by
 have a:eh [.int 7] σ=.ok (.bl true) σ:=by
  have b:=bt (i:=7) (a:=0) (b:=59) (by omega) σ;unfold eh CO;simp[b]
 have c:(("word" : Str) == "offer")=false:=by decide
 have d:(("word" : Str) == "accept")=false:=by decide
 have e:(("word" : Str) == "struck")=false:=by decide
 have f:(("word" : Str) == "ask")=false:=by decide
 refine yD σ (by simp) ?_;unfold Ec aB;simp[a,c,d,e,f]
end
theorem x9{W:Int}{s m:Sn}(h:s.Ok W)(hm:m.Ok W)(hn:s.n=m.n+1)(σ:qb):Le [s.D,m.D] σ=.ok (.bl true) σ:=by
 have h1:=wK h σ;have a:=ZF m σ;rw[hm.w]at a;have b:=s0 s σ;have c:=s0 m σ;have hb:(s.n == m.n+1)=true:=by simp[hn]
 unfold Le kS;generalize m.D=Y,s.D=X at *;simp[h1,a,b,c,hb]
section
variable{a:Ac}(ha:a.Ok)
include ha
theorem uG(s:Int){X:D}(b:cl X=true)(σ:qb):wa [a.D,.int s,X] σ=.ok (Jf s X) σ:=by
 have p:=λσ=>xy ha σ;unfold wa WT Jf;generalize a.D=A at *;simp[p,b]
theorem kD(s:Int)(m:Sn)(σ:qb):na [a.D,.int s,m.D] σ=.ok (jj s m.n) σ:=by
 have p:=λσ=>xy ha σ;have b:=λσ=>s0 m σ;unfold na sQ jj;generalize m.D=M,a.D=A at *;simp[p,b]
end
section
variable{q:Int}(hq:q=0\/q=1)
include hq
theorem xu(m:Sn){G:D}{L:List D}(hg:cl G=true)(a:lg L=true):(calm q m G L).Ok:=⟨hq,rfl,rfl,hg,a,.inl ⟨m,rfl⟩⟩
theorem eD(m o:Sn){G:D}{L:List D}(hg:cl G=true)(a:lg L=true):(dk q m o G L).Ok:=⟨hq,rfl,rfl,hg,a,.inr ⟨m,o,rfl⟩⟩
theorem dC(o m:Sn){G:D}{L:List D}(hg:cl G=true)(a:lg L=true):(mn q o m G L).Ok:=⟨hq,rfl,rfl,hg,a,.inr ⟨o,m,rfl⟩⟩
end
section
variable{m s:Sn}{W:Int}(hm:m.Ok W)(hs:s.Ok W)(hn:s.n=m.n+1){G:D}{L:List D}(hg:cl G=true)(hl:lg L=true)(hLk:L.length<=100)
include hm hs hn hg hl
theorem K0(σ:qb):Wd [(calm 1 m G L).D,Eh s] σ=.ok (.tup [(mn 1 m s (Jf 0 s.D) L).D,Jm m s]) σ:=by
 have h1:(1:Int)=0\/(1:Int)=1:=.inr rfl;have a:=xu h1 m hg hl;have c:=dC h1 m s (Tw (s:=0) (on s)) hl;have le:=λσ=>eH σ hs;have f:∀ σ,Bb [5,6,7,8,13,14] "side" (calm 1 m G L).D σ=.ok (.int 1) σ:=λσ=>Kx a σ;have g:∀ σ,Bb [5,6,7,8] "pot" (calm 1 m G L).D σ=.ok (.int 0) σ:=λσ=>xy a σ;have k:∀ σ,Va (Eh s) (.int 0) σ=.ok (.str "offer") σ:=λσ=>by unfold Eh;simp
 have l:∀ σ,Va (Eh s) (.int 2) σ=.ok (Jf 0 s.D) σ:=λσ=>by unfold Eh;simp
 have o:∀ σ,Va (Jf 0 s.D) (.int 3) σ=.ok s.D σ:=λσ=>by unfold Jf;simp
 have e:∀ σ,wa [(calm 1 m G L).D,.int 0,s.D] σ=.ok (Jf 0 s.D) σ:=λσ=>uG a 0 (on s) σ;have b:∀ σ,wa [(calm 1 m G L).D,.int 1,s.D] σ=.ok (Jf 1 s.D) σ:=λσ=>uG a 1 (on s) σ;have t:∀ σ,na [(calm 1 m G L).D,.int 1,m.D] σ=.ok (jj 1 m.n) σ:=λσ=>kD a 1 m σ;have ns:∀ σ,Jh (.str "offer") (.str "offer") σ=.ok (.bl false) σ:=λσ=>Rs (by simp[pl]);have r:∀ fs σ,Ak [(6,wa)] 3 "agree_of" fs (calm 1 m G L).D σ=(fs σ).bind (si 3 wa (calm 1 m G L).D):=λfs σ=>Dn (Bl rfl) rfl rfl;have q:∀ fs σ,Ak [(6,na)] 3 "strike_of" fs (calm 1 m G L).D σ=(fs σ).bind (si 3 na (calm 1 m G L).D):=λfs σ=>Dn (Bl rfl) rfl rfl;have ne:∀ σ,Jh (Eh s) (.tup [.str "offer",.int 0,Jf 0 s.D]) σ=.ok (.bl false) σ:=λσ=>Rs (x:=Eh s) (vZ s);have j:=λσ=>x9 hs hm hn σ;have p:∀ σ,Eg σ (Wl 8 7 Pj [.int 0,.int 1,s.D,Jf 0 s.D,.lst [m.D,s.D],.lst L] σ)=.ok (mn 1 m s (Jf 0 s.D) L).D σ:=λσ=>jC c σ;have h:∀ σ,Bb [5,6,7,8] "mine" (calm 1 m G L).D σ=.ok m.D σ:=λσ=>Zu a σ;have i:∀ σ,Bb [5,6,7,8] "strikes" (calm 1 m G L).D σ=.ok (.lst L) σ:=λσ=>sy a σ;have hc:cl (.tup [(mn 1 m s (Jf 0 s.D) L).D,Jm m s])=true:=by simp[cl,lg,pB c,XR]
 unfold Jm at hc ⊢;unfold Wd lN;generalize s.D=w,m.D=v,jj 1 m.n=y,Jf 1 s.D=d,Jf 0 s.D=u,Eh s=O,(calm 1 m G L).D=CD,(mn 1 m s (Jf 0 s.D) L).D=z at *;simp[le,f,g,h,i,k,l,o,e,b,t,r,q,ne,ns,j,p,hc]
theorem T5(σ:qb):fh [(calm 0 m G L).D,.tup [.int s.a,.int s.b],.tup []] σ=.ok (.tup [(dk 0 m s G L).D,Eh s]) σ:=by
 have h0:(0:Int)=0\/(0:Int)=1:=.inl rfl;have c:=xu h0 m hg hl;have d:=eD h0 m s hg hl;have h:∀ σ,Bb [5,6,7,8,13,14] "side" (calm 0 m G L).D σ=.ok (.int 0) σ:=λσ=>Kx c σ;have i:∀ σ,Bb [5,6,7,8] "pot" (calm 0 m G L).D σ=.ok (.int 0) σ:=λσ=>xy c σ;have j:∀ σ,Bb [5,6,7,8] "mine" (calm 0 m G L).D σ=.ok m.D σ:=λσ=>Zu c σ;have k:∀ σ,Bb [5,6,7,8] "strikes" (calm 0 m G L).D σ=.ok (.lst L) σ:=λσ=>sy c σ;have l:∀ σ,Bb [5,6,7,8] "grant" (calm 0 m G L).D σ=.ok G σ:=λσ=>oE c σ;have o:=λσ=>s0 m σ;have g:∀ σ,Gg [m.D] σ=.ok (.int W) σ:=λσ=>by rw[<-hm.w];exact ZF _ σ
 have y:∀ σ,yd [s.D,.int W] σ=.ok (.bl true) σ:=λσ=>by exact wK hs σ
 have v:D.tup [.int (m.n+1),.tup [.int s.a,.int s.b],.tup []]=s.D:=by rw[<-hn];rfl
 have t:∀ σ,Jh (.int 0) (.int 0) σ=.ok (.bl false) σ:=λσ=>Rs (by simp[pl]);have u:∀ σ,Jh (.str "calm") (.str "calm") σ=.ok (.bl false) σ:=λσ=>Rs (by simp[pl]);have f:∀ x σ,ec [x] σ=.ok (.str "calm") σ:=λx σ=>by unfold ec jI;simp
 have r:∀ fs σ,Ak [(6,ec),(7,Nb),(8,Qb)] 1 "word" fs (calm 0 m G L).D σ=(fs σ).bind (si 1 ec (calm 0 m G L).D):=λfs σ=>Dn (Bl rfl) rfl rfl;have e:∀ σ,wa [(calm 0 m G L).D,.int 0,s.D] σ=.ok (Jf 0 s.D) σ:=λσ=>uG c 0 (on s) σ;have q:∀ fs σ,Ak [(5,wa),(6,wa),(7,wa),(8,wa)] 3 "agree_of" fs (calm 0 m G L).D σ=(fs σ).bind (si 3 wa (calm 0 m G L).D):=λfs σ=>Dn (Bl rfl) rfl rfl;have p:∀ σ,Eg σ (Wl 7 7 Pj [.int 0,.int 0,m.D,G,.lst [m.D,s.D],.lst L] σ)=.ok (dk 0 m s G L).D σ:=λσ=>jC d σ;have of:D.tup [.str "offer",.int 0,Jf 0 s.D]=Eh s:=rfl;have hc:cl (.tup [(dk 0 m s G L).D,Eh s])=true:=by simp[cl,lg,pB d,xN]
 unfold fh dQ;generalize s.D=C,m.D=B,D.tup [.int s.a,.int s.b]=z,Jf 0 s.D=A,Eh s=O,(calm 0 m G L).D=CD,(dk 0 m s G L).D=E at *;simp[h,i,j,k,l,o,g,y,v,t,u,f,r,e,q,p,of,hc]
omit hn
include hLk
theorem w5(σ:qb):Nc [(dk 0 m s G L).D,Jm m s] σ=.ok (.tup [(calm 0 s (Jf 1 s.D) (L++[.int m.n])).D,kj m.n]) σ:=by
 have h0:(0:Int)=0\/(0:Int)=1:=.inl rfl;have a:=eD h0 m s hg hl;have b:lg (L++[.int m.n])=true:=by rw[JG,hl];rfl
 have d:=xu h0 s (Tw (s:=1) (on s)) b;have le:=λσ=>kL (m:=m) σ hs (by have:=hm.n;omega);have h:∀ σ,Bb [5,6,7,8,13,14] "side" (dk 0 m s G L).D σ=.ok (.int 0) σ:=λσ=>Kx a σ;have i:∀ σ,Bb [5,6,7,8] "pot" (dk 0 m s G L).D σ=.ok (.int 0) σ:=λσ=>xy a σ;have j:∀ σ,Bb [5,6,7,8] "mine" (dk 0 m s G L).D σ=.ok m.D σ:=λσ=>Zu a σ;have k:∀ σ,Bb [5,6,7,8] "strikes" (dk 0 m s G L).D σ=.ok (.lst L) σ:=λσ=>sy a σ;have l:∀ σ,Bb [5,6,7,8] "may" (dk 0 m s G L).D σ=.ok (.lst [m.D,s.D]) σ:=λσ=>mz a σ;have g:∀ σ,wa [(dk 0 m s G L).D,.int 1,s.D] σ=.ok (Jf 1 s.D) σ:=λσ=>uG a 1 (on s) σ;have t:∀ σ,na [(dk 0 m s G L).D,.int 1,m.D] σ=.ok (jj 1 m.n) σ:=λσ=>kD a 1 m σ;have c:∀ σ,na [(dk 0 m s G L).D,.int 0,m.D] σ=.ok (jj 0 m.n) σ:=λσ=>kD a 0 m σ;have o:=λσ=>s0 m σ;have r:∀ fs σ,Ak [(7,wa)] 3 "agree_of" fs (dk 0 m s G L).D σ=(fs σ).bind (si 3 wa (dk 0 m s G L).D):=λfs σ=>Dn (Bl rfl) rfl rfl;have q:∀ fs σ,Ak [(7,na)] 3 "strike_of" fs (dk 0 m s G L).D σ=(fs σ).bind (si 3 na (dk 0 m s G L).D):=λfs σ=>Dn (Bl rfl) rfl rfl;have ne:∀ σ,Jh (Jm m s) (.tup [.str "accept",.int 0,Jf 1 s.D,jj 1 m.n]) σ=.ok (.bl false) σ:=λσ=>Rs (x:=Jm m s) (f7 m s);have f:∀ σ,Ch (.lst L) (.lst [.int m.n]) σ=.ok (.lst (L++[.int m.n])) σ:=λσ=>YC (by unfold Wi;simp;omega);have p:∀ σ,Eg σ (Wl 6 7 Pj [.int 0,.int 0,s.D,Jf 1 s.D,.lst [s.D],.lst (L++[.int m.n])] σ)=.ok (calm 0 s (Jf 1 s.D) (L++[.int m.n])).D σ:=λσ=>jC d σ;have u:D.tup [.str "struck",.int 0,jj 0 m.n]=kj m.n:=rfl;have hc:cl (.tup [(calm 0 s (Jf 1 s.D) (L++[.int m.n])).D,kj m.n])=true:=by simp[cl,lg,pB d,uO]
 unfold Nc xO;generalize L++[.int m.n]=w,s.D=A,m.D=y,jj 0 m.n=e,jj 1 m.n=B,Jf 1 s.D=v,kj m.n=z,Jm m s=O,(dk 0 m s G L).D=CD,(calm 0 s (Jf 1 s.D) (L++[.int m.n])).D=C at *;simp[le,h,i,j,k,l,g,t,c,o,r,q,ne,f,p,u,hc]
omit hs
theorem gZ(σ:qb):Oc [(mn 1 m s G L).D,kj m.n] σ=.ok (.tup [(calm 1 s G (L++[.int m.n])).D,.Vb]) σ:=by
 have h1:(1:Int)=0\/(1:Int)=1:=.inr rfl;have a:=dC h1 m s hg hl;have b:lg (L++[.int m.n])=true:=by rw[JG,hl];rfl
 have c:=xu h1 s hg b;have le:=λσ=>gG σ (n:=m.n) (by have:=hm.n;omega);have e:∀ σ,Bb [5,6,7,8,13,14] "side" (mn 1 m s G L).D σ=.ok (.int 1) σ:=λσ=>Kx a σ;have f:∀ σ,Bb [5,6,7,8] "pot" (mn 1 m s G L).D σ=.ok (.int 0) σ:=λσ=>xy a σ;have g:∀ σ,Bb [5,6,7,8] "mine" (mn 1 m s G L).D σ=.ok s.D σ:=λσ=>Zu a σ;have h:∀ σ,Bb [5,6,7,8] "strikes" (mn 1 m s G L).D σ=.ok (.lst L) σ:=λσ=>sy a σ;have i:∀ σ,Bb [5,6,7,8] "may" (mn 1 m s G L).D σ=.ok (.lst [m.D,s.D]) σ:=λσ=>mz a σ;have j:∀ σ,Bb [5,6,7,8] "grant" (mn 1 m s G L).D σ=.ok G σ:=λσ=>oE a σ;have k:=λσ=>s0 m σ;have p:∀ σ,na [(mn 1 m s G L).D,.int 0,m.D] σ=.ok (jj 0 m.n) σ:=λσ=>kD a 0 m σ;have o:∀ fs σ,Ak [(8,na)] 3 "strike_of" fs (mn 1 m s G L).D σ=(fs σ).bind (si 3 na (mn 1 m s G L).D):=λfs σ=>Dn (Bl rfl) rfl rfl;have ne:∀ σ,Jh (kj m.n) (.tup [.str "struck",.int 0,jj 0 m.n]) σ=.ok (.bl false) σ:=λσ=>Rs (x:=kj m.n) (EU ..);have d:∀ σ,Ch (.lst L) (.lst [.int m.n]) σ=.ok (.lst (L++[.int m.n])) σ:=λσ=>YC (by unfold Wi;simp;omega);have l:∀ σ,Eg σ (Wl 6 7 Pj [.int 0,.int 1,s.D,G,.lst [s.D],.lst (L++[.int m.n])] σ)=.ok (calm 1 s G (L++[.int m.n])).D σ:=λσ=>jC c σ;have hc:cl (.tup [(calm 1 s G (L++[.int m.n])).D,.Vb])=true:=by simp[cl,lg,pB c]
 unfold Oc UN;generalize L++[.int m.n]=q,s.D=t,m.D=r,jj 0 m.n=u,kj m.n=O,(mn 1 m s G L).D=CD,(calm 1 s G (L++[.int m.n])).D=v at *;simp[le,e,f,g,h,i,j,k,p,o,ne,d,l,hc]
end
theorem yhi{a b:Ac}(d:a.Ok)(hb:b.Ok)(h:(a.c,b.c)∈[(8,6),(6,8),(6,7)])(σ:qb):zC [(8,6),(6,8),(6,7)] a.D b.D σ=.ok (.bl false) σ:=by
 unfold zC;rw[Iw d,Iw hb];dsimp only;rw[ia h]
section
variable{k:Bool}{C:Cm}{a:Ac}{f:Bool}{P B:D}{J:qb}
theorem ynp{X:D}{n:Str}(d:∀ σ,Va X (.int 0) σ=.ok (.str n) σ)(e:∀ σ,Va X (.int 1) σ=.ok (.int 0) σ):gc [.ref 0,X] (SA k a C f P B J)=.ok (.bl false) (SA k a C f P B J):=by
 have g:=A7 (cr k (AV a) C f P B J);have h:iB (.int 0) (.ref 5) (SA k a C f P B J)=.ok (.bl true) (SA k a C f P B J):=nr rfl;have ns:∀ σ,Jh (.str n) (.str "offer") σ=.ok (.bl (!(n == "offer"))) σ:=λσ=>aA (b:=(n == "offer")) (by simp[ij,kd,qo,Sj]);unfold gc WP;unfold SA at *;generalize (n == ("offer" : Str))=c,S k (AV a) C f P B J=Y at *;cases c<;>simp[d,e,g,h,ns]
theorem EK{X d:D}{n:Str}{σ':qb}(e:C.held=true)(g:∀ σ,Kb [X] σ=.ok (.bl true) σ)(h:∀ σ,Va X (.int 0) σ=.ok (.str n) σ)(i:∀ σ,Va X (.int 1) σ=.ok (.int 0) σ)(kw:(n == ("word" : Str))=false)(j:(n == ("ask" : Str))=false)
  (p:ic [.ref 0,X] (SA k a C f P B J)=.ok d σ'):La [.ref 0,X] (SA k a C f P B J)=.ok d σ':=by
 have c:=cr k (AV a) C f P B J;have b:=qD (k:=k) (C:=C) (a:=a) (f:=f) (P:=P) (B:=B) (J:=J);rw[e]at b;have l:=λfs=>jk c (m:="holds") 2 db fs rfl;have o:=λfs=>jk c (m:="take_step") 2 ic fs rfl;unfold La kC;unfold SA at *;generalize S k (AV a) C f P B J=Y at *;simp[g,h,i,kw,j,b,l,o,p]
theorem Y6{X:D}{n:Str}(c:C.held=false)(d:∀ σ,Kb [X] σ=.ok (.bl true) σ)(e:∀ σ,Va X (.int 0) σ=.ok (.str n) σ)(g:∀ σ,Va X (.int 1) σ=.ok (.int 0) σ)(kw:(n == ("word" : Str))=false):La [.ref 0,X] (SA k a C f P B J)=.ok (.lst []) (SA k a C f P B J):=by
 have i:=cr k (AV a) C f P B J;have b:=qD (k:=k) (C:=C) (a:=a) (f:=f) (P:=P) (B:=B) (J:=J);rw[c]at b;have h:=λfs=>jk i (m:="holds") 2 db fs rfl;unfold La kC;unfold SA at *;generalize S k (AV a) C f P B J=Y at *;simp[d,e,g,kw,b,h]
theorem x3:La [.ref 0,Pq] (SA k a C f P B J)=.ok (.lst []) (SA true a C f P B J):=by
 have e:=cr k (AV a) C f P B J;have h:=λσ=>QV σ;have i:∀ σ,Va Pq (.int 0) σ=.ok (.str "word") σ:=λσ=>by unfold Pq;simp
 have j:∀ σ,Va Pq (.int 2) σ=.ok (.int 7) σ:=λσ=>by unfold Pq;simp
 have o:=λfs=>jk e (m:="learn") 2 Ab fs rfl;have le:Ab [.ref 0,.lst [.int 7]] (SA k a C f P B J)=.ok .Vb (SA true a C f P B J):=by
  have l:=nN e;have p:∀ c,zr c (.bl true) (.ref 1) (.int 7) (SA k a C f P B J)=.ok (.nx c) (SA true a C f P B J):=λc=>by
   rw[Wx (kvs:=kw k) rfl (by cases k<;>simp[kw])];cases k<;>rfl
  have n:∀ b g,Lk (Ld 2) OI [.int 7] [some (.ref 0),b,g] (SA k a C f P B J)=.ok (.nx [some (.ref 0),b,some (.int 7)]) (SA true a C f P B J):=λb g=>by
   rw[jr];simp only[Ya,Za];unfold OI;unfold SA at *;generalize S k (AV a) C f P B J=Y,S true (AV a) C f P B J=d at *;simp[l,p]
  unfold Ab bH;generalize SA k a C f P B J=Y,SA true a C f P B J=d at *;simp[n]
 unfold La kC;unfold SA at *;generalize Pq=X,S k (AV a) C f P B J=Y,S true (AV a) C f P B J=d at *;simp[h,i,j,o,le]
theorem yft{X:D}(c:C.held=false)(d:∀ σ,Va X (.int 1) σ=.ok (.int 0) σ):Gc [.ref 0,X] (SA k a C f P B J)=.ok (.tup [.bl false,.lst []]) (SA k a C f P B J):=by
 have g:=cr k (AV a) C f P B J;have b:=qD (k:=k) (C:=C) (a:=a) (f:=f) (P:=P) (B:=B) (J:=J);rw[c]at b;have e:=λfs=>jk g (m:="holds") 2 db fs rfl;unfold Gc XH;unfold SA at *;generalize S k (AV a) C f P B J=Y at *;simp[d,b,e]
theorem G6(e:C.held=true):Gc [.ref 0,.tup [.str "finish",.int 0]] (SA k a C false P B J)=.ok (.tup [.bl true,.lst []]) (SA k a C true P B J):=by
 have d:=cr k (AV a) C false P B J;have c:=qD (k:=k) (C:=C) (a:=a) (f:=false) (P:=P) (B:=B) (J:=J);rw[e]at c;have h:=λfs=>jk d (m:="holds") 2 db fs rfl;have g:=iL d;have i:∀ b,zr b (.bl true) (.ref 6) (.int 0) (SA k a C false P B J)=.ok (.nx b) (SA k a C true P B J):=λb=>by
  rw[Wx (kvs:=[]) rfl (by simp)];rfl
 unfold Gc XH;unfold SA at *;generalize S k (AV a) C false P B J=Y,S k (AV a) C true P B J=j at *;simp[c,h,g,i]
variable(hK:Jv C)(hC:C.held=true){x:Ac}(ha:a.Ok)(hx:x.Ok)
include ha hx hK hC
theorem BJ{X R:D}{n:Str}{rb:Bool}{fn:List D->M D}(o:∀ σ,Va X (.int 0) σ=.ok (.str n) σ)(g:∀ σ,Va X (.int 1) σ=.ok (.int 0) σ)(q:∀ fs σ,Ak [(6,Wd),(7,Nc),(8,Oc)] 2 "taken" fs a.D σ=(fs σ).bind (si 2 fn a.D))(tk:∀ σ,fn [a.D,X] σ=.ok (.tup [x.D,R]) σ)(b:(x.c,a.c)∈[(8,6),(6,8),(6,7)])(s:∀ σ,Dz R .Vb σ=.ok (.bl rb) σ)(h:W a C<=W x C):∃ d,ic [.ref 0,X] (SA k a C f P B J)=.ok d (SA k x C f P B J):=by
 have e:=cr k (AV a) C f P B J;have p:=ay e;have j:=JH (k:=k) (C:=C) (a:=a) (f:=f) (P:=P) (B:=B) (J:=J);have i:=λσ=>yhi hx ha b σ;have l:=nO (k:=k) (f:=f) (P:=P) (B:=B) (J:=J) hK ha hx h;have hq:=ynp (k:=k) (C:=C) (a:=a) (f:=f) (P:=P) (B:=B) (J:=J) o g;have mg:=λfs=>jk e (m:="is_good") 3 qc fs rfl;have r:=λfs=>jk e (m:="is_as_asked") 2 gc fs rfl;have sa:=λt=>ET (k:=k) (C:=C) (a:=a) (f:=f) (P:=P) (B:=B) (J:=J) x t;refine⟨.lst (if rb then []else [R]),?_⟩;unfold ic mN YQ rM eS nT AO cR HP zT AQ;unfold SA at *;generalize a.D=u,x.D=v,S k (AV a) C f P B J=Y,S k (AV x) C f P B J=w at *;cases rb<;>simp[p,j,g,q,tk,i,l,mg,r,hq,sa,s]
end
section
variable{k:Bool}{C:Cm}(hK:Jv C)(hC:C.held=true){f:Bool}{P B:D}{J:qb}{m s:Sn}{T:Int}(hm:m.Ok T)(hs:s.Ok T)(hn:s.n=m.n+1){G:D}{L:List D}(hg:cl G=true)(hl:lg L=true)(hLk:L.length<=100)
include hK hC hm hs hn hg hl
theorem zwt(h:W (calm 1 m G L) C<=W (mn 1 m s (Jf 0 s.D) L) C):∃ d,La [.ref 0,Eh s] (SA k (calm 1 m G L) C f P B J)=.ok d (SA k (mn 1 m s (Jf 0 s.D) L) C f P B J):=by
 have c:=xu (q:=1) (.inr rfl) m hg hl;have e:=dC (q:=1) (.inr rfl) m s (Tw (s:=0) (on s)) hl;have a:∀ σ,Va (Eh s) (.int 0) σ=.ok (.str "offer") σ:=λσ=>by unfold Eh;simp
 have b:∀ σ,Va (Eh s) (.int 1) σ=.ok (.int 0) σ:=λσ=>by unfold Eh;simp
 obtain⟨d,g⟩:=BJ (k:=k) (f:=f) (P:=P) (B:=B) (J:=J) hK hC c e a b (fn:=Wd) (λfs σ=>Dn (Bl rfl) rfl rfl) (λσ=>K0 hm hs hn hg hl σ) (by simp[mn,calm]) (rb:=false) (λσ=>rfl) h;exact⟨d,EK hC (λσ=>eH σ hs) a b (by decide) (by decide) g⟩
theorem zws(h:W (calm 0 m G L) C<=W (dk 0 m s G L) C):∃ d,La [.ref 0,sj s] (SA k (calm 0 m G L) C f P B J)=.ok d (SA k (dk 0 m s G L) C f P B J):=by
 have o:=xu (q:=0) (.inl rfl) m hg hl;have p:=eD (q:=0) (.inl rfl) m s hg hl;have c:=cr k (AV (calm 0 m G L)) C f P B J;have r:∀ σ,Va (sj s) (.int 0) σ=.ok (.str "ask") σ:=λσ=>by unfold sj;simp
 have g:∀ σ,Va (sj s) (.int 1) σ=.ok (.int 0) σ:=λσ=>by unfold sj;simp
 have t:∀ σ,Va (sj s) (.int 2) σ=.ok (.tup [.int s.a,.int s.b]) σ:=λσ=>by unfold sj;simp
 have u:∀ σ,Va (sj s) (.int 3) σ=.ok (.tup []) σ:=λσ=>by unfold sj;simp
 have v:=ay c;have l:=JH (k:=k) (C:=C) (a:=calm 0 m G L) (f:=f) (P:=P) (B:=B) (J:=J);have of:=λσ=>T5 hm hs hn hg hl σ;have n:=nO (k:=k) (f:=f) (P:=P) (B:=B) (J:=J) hK o p h;have mg:=λfs=>jk c (m:="is_good") 3 qc fs rfl;have sa:=λz=>ET (k:=k) (C:=C) (a:=calm 0 m G L) (f:=f) (P:=P) (B:=B) (J:=J) (dk 0 m s G L) z;have y:Ic [.ref 0,sj s] (SA k (calm 0 m G L) C f P B J)=.ok (.lst [Eh s]) (SA k (dk 0 m s G L) C f P B J):=by
  unfold Ic EM FM VR UR VQ;unfold SA at *;generalize D.tup [.int s.a,.int s.b]=A,Eh s=F,sj s=i,(calm 0 m G L).D=E,(dk 0 m s G L).D=H,S k (AV (calm 0 m G L)) C f P B J=Y,S k (AV (dk 0 m s G L)) C f P B J=j at *;simp[v,l,g,t,u,of,n,mg,sa]
 have le:=λσ=>dL σ hs;have e:=qD (k:=k) (C:=C) (a:=calm 0 m G L) (f:=f) (P:=P) (B:=B) (J:=J);rw[hC]at e;have w:=λfs=>jk c (m:="holds") 2 db fs rfl;have x:=λfs=>jk c (m:="take_ask") 2 Ic fs rfl;have kw:(("ask" : Str) == "word")=false:=by decide
 refine⟨.lst [Eh s],?_⟩;unfold La kC;unfold SA at *;generalize sj s=i,S k (AV (calm 0 m G L)) C f P B J=Y,S k (AV (dk 0 m s G L)) C f P B J=j at *;simp[le,r,g,kw,e,w,x,y]
omit hn
include hLk
theorem zwr(h:W (dk 0 m s G L) C<=W (calm 0 s (Jf 1 s.D) (L++[.int m.n])) C):∃ d,La [.ref 0,Jm m s] (SA k (dk 0 m s G L) C f P B J)=.ok d (SA k (calm 0 s (Jf 1 s.D) (L++[.int m.n])) C f P B J):=by
 have e:=eD (q:=0) (.inl rfl) m s hg hl;have a:lg (L++[.int m.n])=true:=by rw[JG,hl];rfl
 have g:=xu (q:=0) (.inl rfl) s (Tw (s:=1) (on s)) a;have b:∀ σ,Va (Jm m s) (.int 0) σ=.ok (.str "accept") σ:=λσ=>by unfold Jm;simp
 have c:∀ σ,Va (Jm m s) (.int 1) σ=.ok (.int 0) σ:=λσ=>by unfold Jm;simp
 obtain⟨d,i⟩:=BJ (k:=k) (f:=f) (P:=P) (B:=B) (J:=J) hK hC e g b c (fn:=Nc) (λfs σ=>Dn (Bl rfl) rfl rfl) (λσ=>w5 hm hs hg hl hLk σ) (by simp[dk,calm]) (rb:=false) (λσ=>rfl) h;exact⟨d,EK hC (λσ=>kL (m:=m) σ hs (by have:=hm.n;omega)) b c (by decide) (by decide) i⟩
omit hs
theorem AW(h:W (mn 1 m s G L) C<=W (calm 1 s G (L++[.int m.n])) C):∃ d,La [.ref 0,kj m.n] (SA k (mn 1 m s G L) C f P B J)=.ok d (SA k (calm 1 s G (L++[.int m.n])) C f P B J):=by
 have e:=dC (q:=1) (.inr rfl) m s hg hl;have a:lg (L++[.int m.n])=true:=by rw[JG,hl];rfl
 have g:=xu (q:=1) (.inr rfl) s hg a;have b:∀ σ,Va (kj m.n) (.int 0) σ=.ok (.str "struck") σ:=λσ=>by unfold kj;simp
 have c:∀ σ,Va (kj m.n) (.int 1) σ=.ok (.int 0) σ:=λσ=>by unfold kj;simp
 obtain⟨d,i⟩:=BJ (k:=k) (f:=f) (P:=P) (B:=B) (J:=J) hK hC e g b c (fn:=Oc) (λfs σ=>Dn (Bl rfl) rfl rfl) (λσ=>gZ hm hg hl hLk σ) (by simp[mn,calm]) (rb:=true) (λσ=>rfl) h;exact⟨d,EK hC (λσ=>gG σ (n:=m.n) (by have:=hm.n;omega)) b c (by decide) (by decide) i⟩
end
def S2(k:Bool)(o:Ob)(C:Cm)(f:Bool)(P B:D)(J:qb):qb:=.ins 10 Ss::.Ma (kw k)::o::.Ma [(.inl 0,C.D)]::.Ma yq::.Ma []::.Ma (fi f)::.ins 15 (mu P)::.lst [B]::.lst [.ref 10]::.Ma []::J
theorem jt(k:Bool)(o:Ob)(C:Cm)(f:Bool)(P B:D)(J:qb):Vs k C (S2 k o C f P B J):=⟨rfl,rfl,rfl,rfl⟩
inductive Bk where
 |held
 |laid (s:Int) (x:Sn)
 |taken (s:Int)
def Bk.D(T:Int):Bk->L4.D
 | .held=>.obj 12 ["whole"] [.int T]
 | .laid s x=>.obj 13 ["whole","side","stand","day","wait"] [.int T,.int s,x.D,.int 0,.int 20]
 | .taken s=>.obj 14 ["whole","side"] [.int T,.int s]
def lm:Bk->Cm
 | .held=>.ht
 | .laid s x=>.laid s x
 | .taken s=>.taken s
theorem KG{σ:qb}{n:Nat}{xs:List D}{i:Int}{d:D}(h:Ih σ n=some xs)(a:yl xs i=some d):Va (.ref n) (.int i) σ=.ok d σ:=by simp[Va,Yj,h,a]
section
variable{k:Bool}{o:Ob}{C:Cm}{f:Bool}{P B:D}{J:qb}
theorem BG:Bb [9,15] "pots" (.ref 7) (S2 k o C f P B J)=.ok (.lst [P]) (S2 k o C f P B J):=Kj (show Hj _ _=some (15,mu P)from rfl) rfl rfl
theorem pH:Bb [13,15] "day" (.ref 7) (S2 k o C f P B J)=.ok (.int 0) (S2 k o C f P B J):=Kj (show Hj _ _=some (15,mu P)from rfl) rfl rfl
theorem NI:Bb [10,15] "claims" (.ref 7) (S2 k o C f P B J)=.ok (.ref 8) (S2 k o C f P B J):=Kj (show Hj _ _=some (15,mu P)from rfl) rfl rfl
theorem jN:Bb [15] "shown" (.ref 7) (S2 k o C f P B J)=.ok (.ref 9) (S2 k o C f P B J):=Kj (show Hj _ _=some (15,mu P)from rfl) rfl rfl
theorem Wt{m:Str}(n:Nat)(fn:List D->M D)(fs:M (List D))(hm:(mu P).lookup m=none):Ak [(15,fn)] n m fs (.ref 7) (S2 k o C f P B J)=(fs (S2 k o C f P B J)).bind (si n fn (.ref 7)):=Dn (show Hj _ _=some (15,mu P)from rfl) rfl hm
theorem sH:Va (.ref 8) (.int 0) (S2 k o C f P B J)=.ok B (S2 k o C f P B J):=KG (xs:=[B]) rfl (show yl _ ((0:Nat):Int)=_ from Ps rfl)
theorem yix:Va (.ref 9) (.int 0) (S2 k o C f P B J)=.ok (.ref 10) (S2 k o C f P B J):=KG (xs:=[.ref 10]) rfl (show yl _ ((0:Nat):Int)=_ from Ps rfl)
theorem LP(X:D)(ρ:Ev):ly ρ X (.ref 8) (.int 0) (S2 k o C f P B J)=.ok (.nx ρ) (S2 k o C f P X J):=nr rfl
theorem gF:Db [.ref 7,.int 0] (S2 k o C f P B J)=.ok .Vb (S2 k o C f P B J):=by
 have p:=BG (k:=k) (o:=o) (C:=C) (f:=f) (P:=P) (B:=B) (J:=J);have b:=λc=>bt (i:=0) (a:=0) (b:=0) (by omega) c;unfold Db wP;generalize S2 k o C f P B J=Y at *;simp[p,b]
theorem vW:ze [.ref 7] (S2 k o C f P B J)=.ok (.int 0) (S2 k o C f P B J):=by
 have p:=pH (k:=k) (o:=o) (C:=C) (f:=f) (P:=P) (B:=B) (J:=J);unfold ze mT;generalize S2 k o C f P B J=Y at *;simp[p]
theorem T3(a:cl P=true):Uc [.ref 7] (S2 k o C f P B J)=.ok (.lst [P]) (S2 k o C f P B J):=by
 have p:=BG (k:=k) (o:=o) (C:=C) (f:=f) (P:=P) (B:=B) (J:=J);have fz:=λb=>Xy (xs:=[P]) (by simp[a]) b;unfold Uc mM;generalize S2 k o C f P B J=Y at *;simp[p,fz,a]
theorem cV:Pc [.ref 7,.int 0] (S2 k o C f P B J)=.ok (.Ma [] []) (S2 k o C f P B J):=by
 have b:=gF (k:=k) (o:=o) (C:=C) (f:=f) (P:=P) (B:=B) (J:=J);have d:=λfs=>Wt (k:=k) (o:=o) (C:=C) (f:=f) (P:=P) (B:=B) (J:=J) (m:="check_pot") 2 Db fs rfl;have p:=jN (k:=k) (o:=o) (C:=C) (f:=f) (P:=P) (B:=B) (J:=J);have g:=yix (k:=k) (o:=o) (C:=C) (f:=f) (P:=P) (B:=B) (J:=J);have c:Ny [.ref 10] (S2 k o C f P B J)=.ok (.Ma [] []) (S2 k o C f P B J):=nr rfl;have a:cl (.Ma [] [])=true:=tX;unfold Pc xP;generalize S2 k o C f P B J=Y at *;simp[b,d,p,g,c,a]
theorem DZ:Qc [.ref 7] (S2 k o C f P B J)=.ok (.lst []) (S2 k o C f P B J):=by
 have p:=λJ=>jN (k:=k) (o:=o) (C:=C) (f:=f) (P:=P) (B:=B) (J:=J);have q:Iz [some (.ref 7),some (.ref (S2 k o C f P B J).length),some (.ref 10)] (S2 k o C f P B (J++[.Ma []]))=.ok (.nx [some (.ref 7),some (.ref (S2 k o C f P B J).length),some (.ref 10)]) (S2 k o C f P B (J++[.Ma []])):=by
  have b:(S2 k o C f P B (J++[.Ma []]))[(S2 k o C f P B J).length]?=some (.Ma []):=by
   rw[show S2 k o C f P B (J++[.Ma []])=S2 k o C f P B J++[.Ma []]from rfl];simp
  have h1:∀ fs,IC kA fs (.ref (S2 k o C f P B J).length) (S2 k o C f P B (J++[.Ma []]))=(fs (S2 k o C f P B (J++[.Ma []]))).bind (kA (.ref (S2 k o C f P B J).length)):=λfs=>by
   have:al (S2 k o C f P B (J++[.Ma []])) (.ref (S2 k o C f P B J).length)=some []:=by unfold al;simp[b]
   unfold IC;rw[this];rfl
  have r:kA (.ref (S2 k o C f P B J).length) [.ref 10] (S2 k o C f P B (J++[.Ma []]))=.ok .Vb (S2 k o C f P B (J++[.Ma []])):=by
   have c:al (S2 k o C f P B (J++[.Ma []])) (.ref 10)=some []:=rfl;have ne:apart (S2 k o C f P B J).length (.ref 10)=true:=by
    have:(S2 k o C f P B J).length≠10:=by show J.length+11≠10;omega
    simp[apart,this];try omega
   unfold kA;simp only[b,c,ne];rw[ia (by simp[Wi])];rw[show Zz [] []=([]:List (Key × D))from rfl,ZT b]
  unfold Iz;generalize S2 k o C f P B (J++[.Ma []])=Y at *;simp[h1,r]
 have i:∀ e,Pw (Ld 2) Iz 9 1001 0 [some (.ref 7),some (.ref (S2 k o C f P B J).length),e] (S2 k o C f P B (J++[.Ma []]))=.ok (.nx [some (.ref 7),some (.ref (S2 k o C f P B J).length),some (.ref 10)]) (S2 k o C f P B (J++[.Ma []])):=λe=>by
  rw[Pw];show (Iz [some (.ref 7),some (.ref (S2 k o C f P B J).length),some (.ref 10)] (S2 k o C f P B (J++[.Ma []]))).bind _=_;rw[q,Od,um,Pw];rfl
 have n:gA (.ref 9) (S2 k o C f P B (J++[.Ma []]))=.ok (.Sq 9) (S2 k o C f P B (J++[.Ma []])):=nr rfl;have g:∀ ρ,GG (Ld 2) Iz ρ (.Sq 9)=Pw (Ld 2) Iz 9 1001 0 ρ:=λ_=>rfl;have j:=p (J++[.Ma []]);have m:Eg (S2 k o C f P B (J++[.Ma []])) (bw [.ref (S2 k o C f P B J).length] (S2 k o C f P B (J++[.Ma []])))=.ok (.lst []) (S2 k o C f P B (J++[.Ma []])):=by
  have b:(S2 k o C f P B (J++[.Ma []]))[(S2 k o C f P B J).length]?=some (.Ma []):=by
   rw[show S2 k o C f P B (J++[.Ma []])=S2 k o C f P B J++[.Ma []]from rfl];simp
  have l:Fg (S2 k o C f P B (J++[.Ma []])) (.ref (S2 k o C f P B J).length)=none:=by unfold Fg Ih;simp[b]
  have d:al (S2 k o C f P B (J++[.Ma []])) (.ref (S2 k o C f P B J).length)=some []:=by unfold al;simp[b]
  have o:bw [.ref (S2 k o C f P B J).length] (S2 k o C f P B (J++[.Ma []]))=.ok (.ref (S2 k o C f P B (J++[.Ma []])).length) (S2 k o C f P B (J++[.Ma []])++[.lst []]):=by
   unfold bw;simp only[l];unfold ZB;simp only[d,show sx []=some []from rfl,show Vt []=[]from(Gz []).eq_nil];rfl
  rw[o];exact Gy rfl
 have fz:Eg (S2 k o C f P B J) (.ok (.lst []) (S2 k o C f P B (J++[.Ma []])))=.ok (.lst []) (S2 k o C f P B J):=uE (σ:=S2 k o C f P B J) (a:=.Ma []) (d:=.lst []) rfl;have h:S2 k o C f P B J++[.Ma []]=S2 k o C f P B (J++[.Ma []]):=rfl;unfold Qc SO;generalize S2 k o C f P B J=Y,S2 k o C f P B (J++[.Ma []])=s at *;simp[h,j,n,g,i,m,fz]
theorem pL(T:Int)(b:Bk):Kc [.ref 7,.int 0] (S2 k o C f P (b.D T) J)=.ok (lm b).D (S2 k o C f P (b.D T) J):=by
 have a:=gF (k:=k) (o:=o) (C:=C) (f:=f) (P:=P) (B:=b.D T) (J:=J);have d:=λfs=>Wt (k:=k) (o:=o) (C:=C) (f:=f) (P:=P) (B:=b.D T) (J:=J) (m:="check_pot") 2 Db fs rfl;have p:=NI (k:=k) (o:=o) (C:=C) (f:=f) (P:=P) (B:=b.D T) (J:=J);have g:=sH (k:=k) (o:=o) (C:=C) (f:=f) (P:=P) (B:=b.D T) (J:=J);unfold Kc zQ;generalize S2 k o C f P (b.D T) J=Y at *;cases b with
 |held=>
  have m:∀ fs σ,Ak [(12,Jd),(13,Dd),(14,Xc)] 1 "told" fs (Bk.held.D T) σ=(fs σ).bind (si 1 Jd (Bk.held.D T)):=λfs σ=>Dn (Bl rfl) rfl rfl;have t:∀ σ,Jd [Bk.held.D T] σ=.ok (.tup [.str "held"]) σ:=λσ=>by unfold Jd aR;simp
  show _=Out.ok (D.tup [.str "held"]) Y;generalize Bk.held.D T=BD at *;simp[a,d,p,g,m,t]
 |laid s x=>
  have m:∀ fs σ,Ak [(12,Jd),(13,Dd),(14,Xc)] 1 "told" fs ((Bk.laid s x).D T) σ=(fs σ).bind (si 1 Dd ((Bk.laid s x).D T)):=λfs σ=>Dn (Bl rfl) rfl rfl;have c:∀ σ,Bb [5,6,7,8,13,14] "side" ((Bk.laid s x).D T) σ=.ok (.int s) σ:=λσ=>Kj (Bl rfl) rfl rfl;have h:∀ σ,Bb [13] "stand" ((Bk.laid s x).D T) σ=.ok x.D σ:=λσ=>Kj (Bl rfl) rfl rfl;have i:∀ σ,Bb [13,15] "day" ((Bk.laid s x).D T) σ=.ok (.int 0) σ:=λσ=>Kj (Bl rfl) rfl rfl;have hc:=on x;have t:∀ σ,Dd [(Bk.laid s x).D T] σ=.ok (.tup [.str "laid",.int s,x.D,.int 0]) σ:=λσ=>by
   unfold Dd AN;generalize x.D=e,(Bk.laid s x).D T=BD at *;simp[c,h,i,hc]
  show _=Out.ok (D.tup [.str "laid",.int s,x.D,.int 0]) Y;generalize x.D=e,(Bk.laid s x).D T=BD at *;simp[a,d,p,g,m,t,hc]
 |taken s=>
  have m:∀ fs σ,Ak [(12,Jd),(13,Dd),(14,Xc)] 1 "told" fs ((Bk.taken s).D T) σ=(fs σ).bind (si 1 Xc ((Bk.taken s).D T)):=λfs σ=>Dn (Bl rfl) rfl rfl;have c:∀ σ,Bb [5,6,7,8,13,14] "side" ((Bk.taken s).D T) σ=.ok (.int s) σ:=λσ=>Kj (Bl rfl) rfl rfl;have t:∀ σ,Xc [(Bk.taken s).D T] σ=.ok (.tup [.str "taken",.int s]) σ:=λσ=>by
   unfold Xc lM;generalize (Bk.taken s).D T=BD at *;simp[c]
  show _=Out.ok (D.tup [.str "taken",.int s]) Y;generalize (Bk.taken s).D T=BD at *;simp[a,d,p,g,m,t]
end
theorem aw(q u v:Int)(σ:qb):Va (Na q u v) (.int 2) σ=.ok (.int u) σ/\Va (Na q u v) (.int 3) σ=.ok (.int v) σ/\Va (Na q u v) (.int 4) σ=.ok (.int 20) σ:=⟨by unfold Na;simp,by unfold Na;simp,cN ..⟩
theorem vD(q u v:Int):cl (Na q u v)=true:=by unfold Na;simp
theorem nJ(q u v:Int)(σ:qb):ge [Na q u v] σ=.ok (.int (u+v)) σ:=by
 obtain⟨a,h3,_⟩:=aw q u v σ;unfold ge aP;generalize Na q u v=P at *;simp[a,h3]
theorem KN{s:Int}(h:s=0\/s=1)(σ:qb):We [.int s] σ=.ok .Vb σ:=by
 have b:=TM h σ;unfold We SN;simp[b]
theorem wH{c:Nat}(hc:[11,12,13,14].contains c=true)(T:Int)(σ:qb):fo [.ref σ.length,.int T] (σ++[.ins c []])=.ok .Vb (σ++[.ins c [("whole",.int T)]]):=by
 have e:=VA (ρ:=[some (.ref σ.length),some (.int T)]) (σ:=σ) (cs:=[11,12,13,14]) (f:="whole") (d:=.int T) (c:=c) (fs:=[]) hc (by simp);have p:rj "whole" (.int T) []=([("whole",.int T)]:List (Str × D)):=rfl;unfold fo oR;simp[e,p]
theorem YY(T:Int)(σ:qb):Eg σ (Wl 12 2 fo [.int T] σ)=.ok (Bk.held.D T) σ:=by
 rw[rF,wH rfl,pz,GD (by simp)];rfl
theorem uV(T s:Int)(x:Sn)(σ:qb):Eg σ (Wl 13 6 ms [.int T,.int s,x.D,.int 0,.int 20] σ)=.ok ((Bk.laid s x).D T) σ:=by
 have cp:=wH (c:=13) rfl T σ;have k:=on x;have E:=λ(g:List Nat) (h:g.contains 13=true) (f:Str) (w:D) (fs:List (Str × D)) (j:fs.length<1000)=>VA (ρ:=[some (.ref σ.length),some (.int T),some (.int s),some x.D,some (.int 0),some (.int 20)]) (σ:=σ) (cs:=g) (f:=f) (d:=w) (c:=13) (fs:=fs) h j;have l:∀ a b:D,rj "side" b ([("whole",a)]:List (Str × D))=([("whole",a),("side",b)]:List (Str × D)):=λ_ _=>rfl;have m:∀ a b c:D,rj "stand" c ([("whole",a),("side",b)]:List (Str × D))=([("whole",a),("side",b),("stand",c)]:List (Str × D)):=λ_ _ _=>rfl;have n:∀ a b c d:D,rj "day" d ([("whole",a),("side",b),("stand",c)]:List (Str × D))=([("whole",a),("side",b),("stand",c),("day",d)]:List (Str × D)):=λ_ _ _ _=>rfl;have p4:∀ a b c d e:D,rj "wait" e ([("whole",a),("side",b),("stand",c),("day",d)]:List (Str × D))=([("whole",a),("side",b),("stand",c),("day",d),("wait",e)]:List (Str × D)):=λ_ _ _ _ _=>rfl;have i:ms [.ref σ.length,.int T,.int s,x.D,.int 0,.int 20] (σ++[.ins 13 []])=.ok .Vb (σ++[.ins 13 [("whole",.int T),("side",.int s),("stand",x.D),("day",.int 0),("wait",.int 20)]]):=by
  unfold ms RQ;generalize x.D=X at *;simp[cp,E,l,m,n,p4]
 rw[QS,i,pz,GD (by simp[k])];rfl
theorem SX(T s:Int)(σ:qb):Eg σ (Wl 14 3 Wr [.int T,.int s] σ)=.ok ((Bk.taken s).D T) σ:=by
 have cp:=wH (c:=14) rfl T σ;have E:=λ(e:List Nat) (g:e.contains 14=true) (f:Str) (w:D) (fs:List (Str × D)) (h:fs.length<1000)=>VA (ρ:=[some (.ref σ.length),some (.int T),some (.int s)]) (σ:=σ) (cs:=e) (f:=f) (d:=w) (c:=14) (fs:=fs) g h;have j:∀ a b:D,rj "side" b ([("whole",a)]:List (Str × D))=([("whole",a),("side",b)]:List (Str × D)):=λ_ _=>rfl;have i:Wr [.ref σ.length,.int T,.int s] (σ++[.ins 14 []])=.ok .Vb (σ++[.ins 14 [("whole",.int T),("side",.int s)]]):=by
  unfold Wr bP;simp[cp,E,j]
 rw[fP,i,pz,GD (by simp)];rfl
theorem EW(x y:Sn):∃ b,∀ σ,oEq x.D y.D σ=.ok (.bl b) σ:=⟨_,λσ=>vG (by unfold Sn.D;simp[ij,kd,qo,Zo,Sj];rfl)⟩
section
variable{k:Bool}{o:Ob}{C:Cm}{f:Bool}{J:qb}{q u v s:Int}{x:Sn}(hs:s=0\/s=1)(hx:x.Ok (u+v))(hu:0<=u/\u<=1000000000000)(hv:0<=v/\v<=1000000000000)
include hs hx hu hv
theorem ZJ{G:D}(hG:x=cS u v\/G=Jf (1 - s) x.D):qd [.ref 7,.int 0,.int s,x.D,G] (S2 k o C f (Na q u v) (Bk.held.D (u+v)) J)=.ok .Vb (S2 k o C f (Na q u v) ((Bk.laid s x).D (u+v)) J):=by
 have n:=gF (k:=k) (o:=o) (C:=C) (f:=f) (P:=Na q u v) (B:=Bk.held.D (u+v)) (J:=J);have y:=λfs=>Wt (k:=k) (o:=o) (C:=C) (f:=f) (P:=Na q u v) (B:=Bk.held.D (u+v)) (J:=J) (m:="check_pot") 2 Db fs rfl;have A:=λfs=>Wt (k:=k) (o:=o) (C:=C) (f:=f) (P:=Na q u v) (B:=Bk.held.D (u+v)) (J:=J) (m:="may_lie") 5 Gd fs rfl;have p:=NI (k:=k) (o:=o) (C:=C) (f:=f) (P:=Na q u v) (B:=Bk.held.D (u+v)) (J:=J);have c:=BG (k:=k) (o:=o) (C:=C) (f:=f) (P:=Na q u v) (B:=Bk.held.D (u+v)) (J:=J);have H:=pH (k:=k) (o:=o) (C:=C) (f:=f) (P:=Na q u v) (B:=Bk.held.D (u+v)) (J:=J);have g:=sH (k:=k) (o:=o) (C:=C) (f:=f) (P:=Na q u v) (B:=Bk.held.D (u+v)) (J:=J);have K:=λN=>LP (k:=k) (o:=o) (C:=C) (f:=f) (P:=Na q u v) (B:=Bk.held.D (u+v)) (J:=J) ((Bk.laid s x).D (u+v)) N;have e:=λσ=>(aw q u v σ).1;have h:=λσ=>(aw q u v σ).2.1;have w:=λσ=>(aw q u v σ).2.2;have M:=λσ=>nJ q u v σ;have I:=λσ=>KN hs σ;have L:=λσ=>wK hx σ;have z:=λσ=>uV (u+v) s x σ;have i:∀ σ,wB (ZA [(6,false),(7,false),(8,false),(9,false),(10,false),(12,true),(13,false),(14,false),(15,false)]) (Bk.held.D (u+v)) σ=.ok (.bl true) σ:=λσ=>Z8 (Bl rfl) rfl;have fi:=λσ=>BQ hu hv σ;have E:Gd [.ref 7,.int 0,.int s,x.D,G] (S2 k o C f (Na q u v) (Bk.held.D (u+v)) J)=.ok (.bl true) (S2 k o C f (Na q u v) (Bk.held.D (u+v)) J):=by
  unfold Gd AR IT;rcases hG with rfl|rfl
  ·have a:∀ σ,oEq (cS u v).D (cS u v).D σ=.ok (.bl true) σ:=λσ=>Dy (by simp[pl,Sn.D]);generalize (cS u v).D=X,Na q u v=d,Bk.held.D (u+v)=BD,S2 k o C f (Na q u v) (Bk.held.D (u+v)) J=Y at *;simp[p,g,i,c,e,h,fi,a]
  ·obtain⟨b,a⟩:=EW x (cS u v);have l:∀ σ,eg [.int 0,.int s,x.D,Jf (1 - s) x.D] σ=.ok (.bl true) σ:=λσ=>by
    have t:=cP σ (q:=1 - s) (by omega) hx;have F:=vO s σ;have r:∀ σ,oEq (Jf (1 - s) x.D) (.tup [.str "agree",.int 0,.int (1 - s),x.D]) σ=.ok (.bl true) σ:=λσ=>Dy (x:=Jf (1 - s) x.D) (rW _ _);unfold eg TN;generalize x.D=X,Jf (1 - s) x.D=j at *;simp[t,F,r]
   generalize (cS u v).D=Q,x.D=X,Jf (1 - s) x.D=j,Na q u v=d,Bk.held.D (u+v)=BD,S2 k o C f (Na q u v) (Bk.held.D (u+v)) J=Y at *;cases b<;>simp[p,g,i,c,e,h,fi,a,l]
 unfold qd eR aT YM nP;generalize x.D=X,Na q u v=d,(Bk.laid s x).D (u+v)=O,S2 k o C f (Na q u v) (Bk.held.D (u+v)) J=Y,S2 k o C f (Na q u v) ((Bk.laid s x).D (u+v)) J=R at *;simp[n,y,A,E,p,c,H,w,M,I,L,z,K,-L4.QS]
omit hu hv
theorem X2(hn:0<=x.n/\x.n<=1000000):Xd [.ref 7,.int 0,.int s,jj (1 - s) x.n] (S2 k o C f (Na q u v) ((Bk.laid (1 - s) x).D (u+v)) J)=.ok .Vb (S2 k o C f (Na q u v) ((Bk.taken s).D (u+v)) J):=by
 have i:=gF (k:=k) (o:=o) (C:=C) (f:=f) (P:=Na q u v) (B:=(Bk.laid (1 - s) x).D (u+v)) (J:=J);have A:=λfs=>Wt (k:=k) (o:=o) (C:=C) (f:=f) (P:=Na q u v) (B:=(Bk.laid (1 - s) x).D (u+v)) (J:=J) (m:="check_pot") 2 Db fs rfl;have p:=NI (k:=k) (o:=o) (C:=C) (f:=f) (P:=Na q u v) (B:=(Bk.laid (1 - s) x).D (u+v)) (J:=J);have K:=BG (k:=k) (o:=o) (C:=C) (f:=f) (P:=Na q u v) (B:=(Bk.laid (1 - s) x).D (u+v)) (J:=J);have I:=pH (k:=k) (o:=o) (C:=C) (f:=f) (P:=Na q u v) (B:=(Bk.laid (1 - s) x).D (u+v)) (J:=J);have g:=sH (k:=k) (o:=o) (C:=C) (f:=f) (P:=Na q u v) (B:=(Bk.laid (1 - s) x).D (u+v)) (J:=J);have N:=λS=>LP (k:=k) (o:=o) (C:=C) (f:=f) (P:=Na q u v) (B:=(Bk.laid (1 - s) x).D (u+v)) (J:=J) ((Bk.taken s).D (u+v)) S;have Q:=λσ=>nJ q u v σ;have L:=λσ=>KN hs σ;have E:=λσ=>SX (u+v) s σ;have m:∀ fs σ,Ak [(13,wc)] 5 "may_strike" fs ((Bk.laid (1 - s) x).D (u+v)) σ=(fs σ).bind (si 5 wc ((Bk.laid (1 - s) x).D (u+v))):=λfs σ=>Dn (Bl rfl) rfl rfl;have z:∀ (fn:List D->M D) (x a b c d:D) σ,si 5 fn x [a,b,c,d] σ=fn [x,a,b,c,d] σ:=λfn x a b c d σ=>iw rfl;have G:∀ σ,wc [(Bk.laid (1 - s) x).D (u+v),.int 0,.int s,.int 0,jj (1 - s) x.n] σ=.ok (.bl true) σ:=λσ=>by
  have r:∀ σ,Bb [5,6,7,8,13,14] "side" ((Bk.laid (1 - s) x).D (u+v)) σ=.ok (.int (1 - s)) σ:=λσ=>Kj (Bl rfl) rfl rfl;have t:∀ σ,Bb [13] "stand" ((Bk.laid (1 - s) x).D (u+v)) σ=.ok x.D σ:=λσ=>Kj (Bl rfl) rfl rfl;have w:∀ σ,Bb [13,15] "day" ((Bk.laid (1 - s) x).D (u+v)) σ=.ok (.int 0) σ:=λσ=>Kj (Bl rfl) rfl rfl;have y:∀ σ,Bb [13] "wait" ((Bk.laid (1 - s) x).D (u+v)) σ=.ok (.int 20) σ:=λσ=>Kj (Bl rfl) rfl rfl;have F:∀ fs σ,Ak [(13,Vd)] 2 "waits" fs ((Bk.laid (1 - s) x).D (u+v)) σ=(fs σ).bind (si 2 Vd ((Bk.laid (1 - s) x).D (u+v))):=λfs σ=>Dn (Bl rfl) rfl rfl;have R:∀ σ,Vd [(Bk.laid (1 - s) x).D (u+v),.int 0] σ=.ok (.bl true) σ:=λσ=>by
   unfold Vd OT;generalize (Bk.laid (1 - s) x).D (u+v)=e at *;simp[w,y]
  have H:=λσ=>vO (1 - s) σ;have ne:∀ σ,Jh (.int s) (.int (1 - (1 - s))) σ=.ok (.bl false) σ:=λσ=>by
   rw[show 1 - (1 - s)=s by omega];exact Rs (by simp[pl])
  have O:=λσ=>JN σ (q:=1 - s) (by omega) hn;have l:=λσ=>s0 x σ;have j:∀ σ,oEq (jj (1 - s) x.n) (.tup [.str "strike",.int 0,.int (1 - s),.int x.n]) σ=.ok (.bl true) σ:=λσ=>Dy (x:=jj (1 - s) x.n) (by simp[pl,jj]);unfold wc FP;generalize x.D=V,jj (1 - s) x.n=h,(Bk.laid (1 - s) x).D (u+v)=e at *;simp[r,t,F,R,H,ne,O,l,j]
 unfold Xd MQ wR JT dR;generalize jj (1 - s) x.n=h,Na q u v=T,(Bk.laid (1 - s) x).D (u+v)=e,(Bk.taken s).D (u+v)=U,S2 k o C f (Na q u v) ((Bk.laid (1 - s) x).D (u+v)) J=Y,S2 k o C f (Na q u v) ((Bk.taken s).D (u+v)) J=W at *;simp[i,A,p,K,I,g,Q,L,E,m,z,G,N,-L4.fP]
end
theorem vN(k:Bool)(o:Ob)(C:Cm)(f:Bool)(P B:D)(J:qb):Bb [10] "accounts" (.ref 0) (S2 k o C f P B J)=.ok (.ref 2) (S2 k o C f P B J):=ay (jt ..)
section
variable{k k':Bool}{a:Ac}{C C':Cm}{f f':Bool}{P B B':D}{J J':qb}{tg:D->Ev->Option Ev}{body:Ev->M Fl}{r:Ev}{ρ1 ρ2:Ev}
theorem KC(ht:tg (.tup [.int 0,a.D]) (some (.ref 0)::r)=some ρ1)(hb:body ρ1 (S2 k (.ub (AV a)) C f P B J)=.ok (.nx ρ2) (S2 k' (.ub (AV a)) C' f' P B' J')):Uw (Yb (Bb [10] "accounts") (da 0)) (Mp (Cy (Yb (Bb [10] "accounts") (da 0))) tg body) (some (.ref 0)::r) (S2 k (.Ma (AV a)) C f P B J)=.ok (.nx ρ2) (S2 k' (.Ma (AV a)) C' f' P B' J'):=by
 have b:Yb (Bb [10] "accounts") (da 0) (some (.ref 0)::r) (S2 k (.Ma (AV a)) C f P B J)=.ok (.ref 2) (S2 k (.Ma (AV a)) C f P B J):=by
  have:=vN k (.Ma (AV a)) C f P B J;generalize S2 k (.Ma (AV a)) C f P B J=Y at *;simp[this]
 refine(dI (A:=AV a) (A':=AV a) (σ2:=S2 k' (.ub (AV a)) C' f' P B' J') b rfl (wS b rfl) ?_ rfl).trans rfl;show yp (Us (AV a)) tg body (1000+1) 0 _ (S2 k (.ub (AV a)) C f P B J)=_;rw[iD (d:=.tup [.int 0,a.D]) rfl ht,hb,Od,um];exact xB (k:=999) (IN (AV a) _)
theorem K3(ht:tg (.int 0) (some (.ref 0)::r)=some ρ1)(hb:body ρ1 (S2 k (.ub (AV a)) C f P B J)=.ok (.nx ρ2) (S2 k' (.ub (AV a)) C' f' P B' J')):Uw (Yb (Bb [10] "accounts") (da 0)) (Mp (XF (Yb (Bb [10] "accounts") (da 0))) tg body) (some (.ref 0)::r) (S2 k (.Ma (AV a)) C f P B J)=.ok (.nx ρ2) (S2 k' (.Ma (AV a)) C' f' P B' J'):=by
 have b:Yb (Bb [10] "accounts") (da 0) (some (.ref 0)::r) (S2 k (.Ma (AV a)) C f P B J)=.ok (.ref 2) (S2 k (.Ma (AV a)) C f P B J):=by
  have:=vN k (.Ma (AV a)) C f P B J;generalize S2 k (.Ma (AV a)) C f P B J=Y at *;simp[this]
 have c:XF (Yb (Bb [10] "accounts") (da 0)) (some (.ref 0)::r) (S2 k (.Ma (AV a)) C f P B J)=.ok (OA (AV a)) (S2 k (.ub (AV a)) C f P B J):=by
  show Wc _ aL _=_;rw[zo,b,Od];rfl
 refine(dI (A:=AV a) (A':=AV a) (σ2:=S2 k' (.ub (AV a)) C' f' P B' J') b rfl c ?_ rfl).trans rfl;show yp (OA (AV a)) tg body (1000+1) 0 _ (S2 k (.ub (AV a)) C f P B J)=_;rw[iD (d:=.int 0) rfl ht,hb,Od,um];exact xB (k:=999) rfl
end
theorem ZI{k:Bool}{o:Ob}{C:Cm}{f:Bool}{P B:D}{J:qb}(X:Cm)(ρ:Ev):zr ρ X.D (.ref 3) (.int 0) (S2 k o C f P B J)=.ok (.nx ρ) (S2 k o X f P B J):=by
 rw[Wx (kvs:=[(.inl 0,C.D)]) rfl (by simp)];rfl
theorem K9{k:Bool}{o:Ob}{C:Cm}{f:Bool}{P B:D}{J:qb}(ρ:Ev):zr ρ (.Ma [] []) (.ref 4) (.int 0) (S2 k o C f P B J)=.ok (.nx ρ) (S2 k o C f P B J):=by
 rw[Wx (kvs:=yq) rfl (by simp[yq])];rfl
section
variable{k:Bool}{a:Ac}(ha:a.Ok){C:Cm}{f:Bool}{P B:D}{J:qb}
include ha
theorem RZ(o:Jv C)(σ:qb):gh [a.D,C.D] σ=.ok (.lst []) σ:=by
 have t:=λσ=>XT ha C o σ;have tb:∀ (s:Sn) (b:Option D),IE [some a.D,some C.D,some (.ref σ.length),some s.D] (σ++[.lst []])=.ok (.nx [some a.D,some C.D,some (.ref σ.length),some s.D]) (σ++[.lst []]):=λs b=>by
  have q:=λσ=>s2 s σ;have l:=sR (src:=ri (Ga Va (da 3) (eC (.int 2)))) (ρ:=[some a.D,some C.D,some (.ref σ.length),some s.D]) (σ:=σ++[.lst []]) (s:=.seq []) (ix:=[0]) (xs:=([]:List D)) (fi:=eT (Ga Jh (Ga Va (da 0) (eC (.int 0))) (Yb (Bb [5,6,7,8,13,14] "side") (da 2)))) (fe:=da 0) (λd=>d) (λd=>d) (λ_=>true) (by
   generalize s.D=n,C.D=k,a.D=g at *;simp[q]) (λi _=>rfl) (by simp) (λd hd j=>by cases hd) (λd hd=>by cases hd)
  have l:Mg _ _ (σ++[.lst []])=.ok (.lst []) (σ++[.lst []]):=l;have ex:=NM (σ:=σ) (ys:=[]) (zs:=[]) (by simp);have r:∀ m,Jw Nw m (.ref σ.length) (σ++[.lst []])=(m (σ++[.lst []])).bind (Nw (.ref σ.length)):=λm=>DD (xs:=[]) (by unfold Fg Ih;simp);rw[mf]at ex;unfold IE;generalize s.D=n,C.D=k,a.D=g,σ++[Ob.lst []]=Y at *;simp[r,l,ex,-zw]
 have f:∀ (c:List Sn) (b:Option D),∃ e,Lk (Ld 3) IE (c.map Sn.D) [some a.D,some C.D,some (.ref σ.length),b] (σ++[.lst []])=.ok (.nx [some a.D,some C.D,some (.ref σ.length),e]) (σ++[.lst []]):=λc=>by
  induction c with
  |nil=>intro b;exact⟨b,by simp⟩
  |cons s c p=>
   intro b;obtain⟨e,h⟩:=p (some s.D);refine⟨e,?_⟩;rw[Sa,jr];simp only[Ya,Za];rw[tb s b,Od,um,h]
 obtain⟨e,f⟩:=f (ln a C) none;have fz:Eg σ (.ok (.ref σ.length) (σ++[.lst []]))=.ok (.lst []) σ:=Gy rfl;unfold gh pP;generalize (ln a C).map Sn.D=u,C.D=k,a.D=g at *;simp[t,f,fz]
theorem xX(c:Jv C):Jc [.ref 0,.ref 7] (S2 k (.Ma (AV a)) C f P B J)=.ok (.lst []) (S2 k (.Ma (AV a)) C f P B J):=by
 have h:=λσ=>RZ ha c σ;have e:=jw (jt k (.ub (AV a)) C f P B (J++[.lst []]));have b:=Jz (jt k (.ub (AV a)) C f P B (J++[.lst []]));have hb:GK [some (.ref 0),some (.ref 7),some (.ref (S2 k (.Ma (AV a)) C f P B J).length),some (.int 0),some a.D,none] (S2 k (.ub (AV a)) C f P B (J++[.lst []]))=.ok (.nx [some (.ref 0),some (.ref 7),some (.ref (S2 k (.Ma (AV a)) C f P B J).length),some (.int 0),some a.D,none]) (S2 k (.ub (AV a)) C f P B (J++[.lst []])):=by
  unfold GK;generalize C.D=j,a.D=i,S2 k (.ub (AV a)) C f P B (J++[.lst []])=Y at *;simp[e,b,h]
 have g:=KC (tg:=Gn 2 (Wh (Ld 3) (Wh (Ld 4) Co))) (r:=[some (.ref 7),some (.ref (S2 k (.Ma (AV a)) C f P B J).length),none,none,none]) rfl hb;have fz:Eg (S2 k (.Ma (AV a)) C f P B J) (.ok (.ref (S2 k (.Ma (AV a)) C f P B J).length) (S2 k (.Ma (AV a)) C f P B (J++[.lst []])))=.ok (.lst []) (S2 k (.Ma (AV a)) C f P B J):=Gy (σ:=S2 k (.Ma (AV a)) C f P B J) (xs:=[]) rfl;have d:S2 k (.Ma (AV a)) C f P B J++[.lst []]=S2 k (.Ma (AV a)) C f P B (J++[.lst []]):=rfl;unfold Jc NR;generalize S2 k (.Ma (AV a)) C f P B J=Y,S2 k (.Ma (AV a)) C f P B (J++[.lst []])=l at *;simp[d,g,fz,-Sw]
theorem rO(b:cl P=true)(h4:∀ σ,Va P (.int 4) σ=.ok (.int 20) σ)(n:D):NC [some (.ref 0),some (.ref 7),some n,none,none,none,none] (S2 k (.Ma (AV a)) C f P B J)=.ok (.nx [some (.ref 0),some (.ref 7),some n,some (.lst [.int 20]),none,none,none]) (S2 k (.Ma (AV a)) C f P B J):=by
 have c:=T3 (k:=k) (o:=.Ma (AV a)) (C:=C) (f:=f) (B:=B) (J:=J) b;have e:=λfs=>Wt (k:=k) (o:=.Ma (AV a)) (C:=C) (f:=f) (P:=P) (B:=B) (J:=J) (m:="made_of") 1 Uc fs rfl;have l:=Zy (src:=ri (He [(15,Uc)] 1 "made_of" (da 1) Ba)) (ρ:=[some (.ref 0),some (.ref 7),some n,none,none,none,none]) (σ:=S2 k (.Ma (AV a)) C f P B J) (s:=.seq [P]) (ix:=[]) (xs:=[P]) (fe:=Ga Va (da 0) (eC (.int 4))) (λd=>d) (λ_=>.int 20) (by
  generalize S2 k (.Ma (AV a)) C f P B J=Y at *;simp[c,e]) (λi _=>by show some [P][i]?=_;cases h:[P][i]?<;>rfl) (by simp) (λd hd j=>by
  have hd:d=P:=by simpa using hd
  subst hd;simp[h4]) (λ_ _=>rfl)
 have l:Mg _ _ (S2 k (.Ma (AV a)) C f P B J)=.ok (.lst [.int 20]) (S2 k (.Ma (AV a)) C f P B J):=l;unfold NC;generalize S2 k (.Ma (AV a)) C f P B J=Y at *;simp[l,-zw]
theorem gT(d:cl P=true)(h4:∀ σ,Va P (.int 4) σ=.ok (.int 20) σ)(c:∀ σ,Fc [a.D,C.D] σ=.ok (.bl false) σ):Fb [.ref 0,.ref 7] (S2 k (.Ma (AV a)) C f P B J)=.ok (.ref (S2 k (.Ma (AV a)) C f P B J).length) (S2 k (.Ma (AV a)) C f P B (J++[.lst []])):=by
 have g:=jw (jt k (.ub (AV a)) C f P B (J++[.lst []]));have b:=Jz (jt k (.ub (AV a)) C f P B (J++[.lst []]));have i:=rO (k:=k) ha (C:=C) (f:=f) (B:=B) (J:=J++[.lst []]) d h4 (.ref (S2 k (.Ma (AV a)) C f P B J).length);have hb:YB [some (.ref 0),some (.ref 7),some (.ref (S2 k (.Ma (AV a)) C f P B J).length),some (.lst [.int 20]),some (.int 0),some a.D,none] (S2 k (.ub (AV a)) C f P B (J++[.lst []]))=.ok (.nx [some (.ref 0),some (.ref 7),some (.ref (S2 k (.Ma (AV a)) C f P B J).length),some (.lst [.int 20]),some (.int 0),some a.D,some C.D]) (S2 k (.ub (AV a)) C f P B (J++[.lst []])):=by
  unfold YB;generalize C.D=l,a.D=j,S2 k (.ub (AV a)) C f P B (J++[.lst []])=Y at *;simp[g,b,c]
 have h:=KC (tg:=Gn 2 (Wh (Ld 4) (Wh (Ld 5) Co))) (r:=[some (.ref 7),some (.ref (S2 k (.Ma (AV a)) C f P B J).length),some (.lst [.int 20]),none,none,none]) rfl hb;have e:S2 k (.Ma (AV a)) C f P B J++[.lst []]=S2 k (.Ma (AV a)) C f P B (J++[.lst []]):=rfl;unfold Fb LI oJ bK;generalize S2 k (.Ma (AV a)) C f P B J=Y,S2 k (.Ma (AV a)) C f P B (J++[.lst []])=m,NC=R2 at *;simp[e,i,h,-Sw]
theorem uN(h:(f && C.held)=false):Zb [.ref 0,.ref 7] (S2 k (.Ma (AV a)) C f P B J)=.ok (.ref (S2 k (.Ma (AV a)) C f P B J).length) (S2 k (.Ma (AV a)) C f P B (J++[.lst []])):=by
 have b:=jt k (.ub (AV a)) C f P B (J++[.lst []]);have d:=iL b;have fi:qx (.int 0) (.ref 6) (S2 k (.ub (AV a)) C f P B (J++[.lst []]))=.ok (.bl f) (S2 k (.ub (AV a)) C f P B (J++[.lst []])):=by cases f<;>exact nr rfl
 have l:=λfs=>jk b (m:="holds") 2 db fs rfl;have g:db [.ref 0,.int 0] (S2 k (.ub (AV a)) C f P B (J++[.lst []]))=.ok (.bl C.held) (S2 k (.ub (AV a)) C f P B (J++[.lst []])):=by
  have j:=ay b;have c:=jw b;have h:=Jz b;have i:qx (.int 0) (.ref 2) (S2 k (.ub (AV a)) C f P B (J++[.lst []]))=.ok (.bl true) (S2 k (.ub (AV a)) C f P B (J++[.lst []])):=nr rfl;have q:=λo=>pJ C o;unfold db pG;generalize C.D=s,S2 k (.ub (AV a)) C f P B (J++[.lst []])=Y at *;simp[j,c,h,i,q]
 have hb:ZC [some (.ref 0),some (.ref 7),some (.ref (S2 k (.Ma (AV a)) C f P B J).length),some (.int 0),some a.D] (S2 k (.ub (AV a)) C f P B (J++[.lst []]))=.ok (.nx [some (.ref 0),some (.ref 7),some (.ref (S2 k (.Ma (AV a)) C f P B J).length),some (.int 0),some a.D]) (S2 k (.ub (AV a)) C f P B (J++[.lst []])):=by
  unfold ZC;generalize C.held=H,a.D=p,S2 k (.ub (AV a)) C f P B (J++[.lst []])=Y at *;cases f
  ·simp[d,fi]
  ·have h:H=false:=by simpa using h
   subst h;simp[d,fi,l,g]
 have n:=KC (tg:=Gn 2 (Wh (Ld 3) (Wh (Ld 4) Co))) (r:=[some (.ref 7),some (.ref (S2 k (.Ma (AV a)) C f P B J).length),none,none]) rfl hb;have e:S2 k (.Ma (AV a)) C f P B J++[.lst []]=S2 k (.Ma (AV a)) C f P B (J++[.lst []]):=rfl;unfold Zb DH;generalize S2 k (.Ma (AV a)) C f P B J=Y,S2 k (.Ma (AV a)) C f P B (J++[.lst []])=t at *;simp[e,n,-Sw]
end
theorem YS{k:Bool}{o:Ob}{C:Cm}{f:Bool}{P B:D}{J:qb}{n:Nat}(hn:n=J.length+11)(d:D):Jn (.ref n) [d] (S2 k o C f P B (J++[.lst []]))=.ok .Vb (S2 k o C f P B (J++[.lst [d]]))/\∀ m,Jw Jn m (.ref n) (S2 k o C f P B (J++[.lst []]))=(m (S2 k o C f P B (J++[.lst []]))).bind (Jn (.ref n)):=by
 have b:(S2 k o C f P B J).length=n:=by rw[hn];rfl
 have a:=sG (σ:=S2 k o C f P B J) (xs:=[]) (d:=d) (by simp);rw[b]at a;refine⟨a,λm=>DD (xs:=[]) ?_⟩;rw[show S2 k o C f P B (J++[.lst []])=S2 k o C f P B J++[.lst []]from rfl,<-b];unfold Fg Ih;simp
section
variable{k:Bool}{a:Ac}(ha:a.Ok){C:Cm}{f:Bool}{J:qb}{q u v:Int}(hu:0<=u/\u<=1000000000000)(hv:0<=v/\v<=1000000000000)
include ha
theorem PY{x:Sn}(i:x.Ok (u+v))(t:∀ σ,Fc [a.D,(Cm.laid (1 - a.q) x).D] σ=.ok (.bl true) σ):Fb [.ref 0,.ref 7] (S2 k (.Ma (AV a)) (.laid (1 - a.q) x) f (Na q u v) ((Bk.laid (1 - a.q) x).D (u+v)) J)=.ok (.ref (J.length+11)) (S2 k (.Ma (AV a)) (.taken a.q) f (Na q u v) ((Bk.taken a.q).D (u+v)) (J++[.lst [.tup [.str "strike",.int 0]]])):=by
 have g:=jt k (.ub (AV a)) (.laid (1 - a.q) x) f (Na q u v) ((Bk.laid (1 - a.q) x).D (u+v)) (J++[.lst []]);have L:=jt k (.ub (AV a)) (.laid (1 - a.q) x) f (Na q u v) ((Bk.taken a.q).D (u+v)) (J++[.lst []]);have y:=jw g;have e:=jw L;have z:=mJ g;have s:=Jz g;have l:∀ σ,Va (Cm.laid (1 - a.q) x).D (.int 1) σ=.ok (.int (1 - a.q)) σ:=λσ=>by unfold Cm.D;simp
 have c2:∀ σ,Va (Cm.laid (1 - a.q) x).D (.int 2) σ=.ok x.D σ:=λσ=>by unfold Cm.D;simp
 have p:∀ σ,Va (Cm.laid (1 - a.q) x).D (.int 3) σ=.ok (.int 0) σ:=λσ=>by unfold Cm.D;simp
 have H:=λσ=>Kx ha σ;have I:=λσ=>kD ha (1 - a.q) x σ;have F:∀ fs σ,Ak [(5,na),(6,na),(7,na),(8,na)] 3 "strike_of" fs a.D σ=(fs σ).bind (si 3 na a.D):=λfs σ=>Dn (Iw ha σ) (by
  have w:a.c=5\/a.c=6\/a.c=7\/a.c=8:=by have:=ha.c;simpa [List.contains_iff_mem]using this
  rcases w with h|h|h|h<;>rw[h]<;>rfl) rfl
 have G:=X2 (k:=k) (o:=.ub (AV a)) (C:=.laid (1 - a.q) x) (f:=f) (J:=J++[.lst []]) (q:=q) ha.q i (by have:=i.n;omega);have mb:=λfs=>Wt (k:=k) (o:=.ub (AV a)) (C:=.laid (1 - a.q) x) (f:=f) (P:=Na q u v) (B:=(Bk.laid (1 - a.q) x).D (u+v)) (J:=J++[.lst []]) (m:="strike") 4 Xd fs rfl;have A:∀ (fn:List D->M D) (x a b c:D) σ,si 4 fn x [a,b,c] σ=fn [x,a,b,c] σ:=λfn x a b c σ=>iw rfl;have sc:=λd=>ZI (k:=k) (o:=.ub (AV a)) (C:=.laid (1 - a.q) x) (f:=f) (P:=Na q u v) (B:=(Bk.taken a.q).D (u+v)) (J:=J++[.lst []]) (.taken a.q) d;have sc:∀ d,zr d (.tup [.str "taken",.int a.q]) (.ref 3) (.int 0) _=_:=sc;obtain⟨j,E⟩:=YS (k:=k) (o:=.ub (AV a)) (C:=.taken a.q) (f:=f) (P:=Na q u v) (B:=(Bk.taken a.q).D (u+v)) (J:=J) (n:=J.length+11) rfl (.tup [.str "strike",.int 0]);have N:=rO (k:=k) ha (C:=.laid (1 - a.q) x) (f:=f) (B:=(Bk.laid (1 - a.q) x).D (u+v)) (J:=J++[.lst []]) (vD q u v) (λσ=>(aw q u v σ).2.2) (.ref (J.length+11));have hb:YB [some (.ref 0),some (.ref 7),some (.ref (J.length+11)),some (.lst [.int 20]),some (.int 0),some a.D,none] (S2 k (.ub (AV a)) (.laid (1 - a.q) x) f (Na q u v) ((Bk.laid (1 - a.q) x).D (u+v)) (J++[.lst []]))=.ok (.nx [some (.ref 0),some (.ref 7),some (.ref (J.length+11)),some (.lst [.int 20]),some (.int 0),some a.D,some (Cm.laid (1 - a.q) x).D]) (S2 k (.ub (AV a)) (.taken a.q) f (Na q u v) ((Bk.taken a.q).D (u+v)) (J++[.lst [.tup [.str "strike",.int 0]]])):=by
  unfold YB;generalize x.D=S,a.D=O,jj (1 - a.q) x.n=R,(Cm.laid (1 - a.q) x).D=Q,S2 k (.ub (AV a)) (.laid (1 - a.q) x) f (Na q u v) ((Bk.laid (1 - a.q) x).D (u+v)) (J++[.lst []])=Y,S2 k (.ub (AV a)) (.laid (1 - a.q) x) f (Na q u v) ((Bk.taken a.q).D (u+v)) (J++[.lst []])=T,S2 k (.ub (AV a)) (.taken a.q) f (Na q u v) ((Bk.taken a.q).D (u+v)) (J++[.lst []])=U,S2 k (.ub (AV a)) (.taken a.q) f (Na q u v) ((Bk.taken a.q).D (u+v)) (J++[.lst [.tup [.str "strike",.int 0]]])=V at *;simp[y,e,z,s,t,l,c2,p,H,I,F,G,mb,A,sc,j,E]
 have K:=KC (tg:=Gn 2 (Wh (Ld 4) (Wh (Ld 5) Co))) (r:=[some (.ref 7),some (.ref (J.length+11)),some (.lst [.int 20]),none,none,none]) rfl hb;have ls:∀ d:Ev,Af 2 (Au Ba) d (S2 k (.Ma (AV a)) (.laid (1 - a.q) x) f (Na q u v) ((Bk.laid (1 - a.q) x).D (u+v)) J)=.ok (.nx (d.set 2 (some (.ref (J.length+11))))) (S2 k (.Ma (AV a)) (.laid (1 - a.q) x) f (Na q u v) ((Bk.laid (1 - a.q) x).D (u+v)) (J++[.lst []])):=λd=>rfl;unfold Fb LI oJ bK;rw[yr,Qz];show Cr (zb _ _ [some (.ref 0),some (.ref 7),none,none,none,none,none] _)=_;rw[yg,ls,Od,Pg];show Cr (zb NC _ [some (.ref 0),some (.ref 7),some (.ref (J.length+11)),none,none,none,none] _)=_;rw[yg,N,Od,Pg,yg,K,Od,Pg];rfl
include hu hv
theorem L6(hm:a.m.Ok (u+v))(hG:a.m=cS u v\/a.G=Jf (1 - a.q) a.m.D)(s:C.held=true):Zb [.ref 0,.ref 7] (S2 k (.Ma (AV a)) C true (Na q u v) (Bk.held.D (u+v)) J)=.ok (.ref (J.length+11)) (S2 k (.Ma (AV a)) (.laid a.q a.m) true (Na q u v) ((Bk.laid a.q a.m).D (u+v)) (J++[.lst [.tup [.str "lay",.int 0]]])):=by
 have g:=jt k (.ub (AV a)) C true (Na q u v) (Bk.held.D (u+v)) (J++[.lst []]);have j:=jt k (.ub (AV a)) C true (Na q u v) ((Bk.laid a.q a.m).D (u+v)) (J++[.lst []]);have y:=iL g;have fi:qx (.int 0) (.ref 6) (S2 k (.ub (AV a)) C true (Na q u v) (Bk.held.D (u+v)) (J++[.lst []]))=.ok (.bl true) (S2 k (.ub (AV a)) C true (Na q u v) (Bk.held.D (u+v)) (J++[.lst []])):=nr rfl;have I:=λfs=>jk g (m:="holds") 2 db fs rfl;have t:db [.ref 0,.int 0] (S2 k (.ub (AV a)) C true (Na q u v) (Bk.held.D (u+v)) (J++[.lst []]))=.ok (.bl true) (S2 k (.ub (AV a)) C true (Na q u v) (Bk.held.D (u+v)) (J++[.lst []])):=by
  have z:=ay g;have c:=jw g;have h:=Jz g;have i:qx (.int 0) (.ref 2) (S2 k (.ub (AV a)) C true (Na q u v) (Bk.held.D (u+v)) (J++[.lst []]))=.ok (.bl true) (S2 k (.ub (AV a)) C true (Na q u v) (Bk.held.D (u+v)) (J++[.lst []])):=nr rfl;have q:=λσ=>pJ C σ;rw[s]at q;unfold db pG;generalize C.D=Q,S2 k (.ub (AV a)) C true (Na _ u v) (Bk.held.D (u+v)) (J++[.lst []])=Y at *;simp[z,c,h,i,q]
 have w:=jw j;have A:=mJ j;have L:=λσ=>Kx ha σ;have K:=λσ=>Zu ha σ;have p:=λσ=>oE ha σ;have E:=ZJ (k:=k) (o:=.ub (AV a)) (C:=C) (f:=true) (J:=J++[.lst []]) (q:=q) ha.q hm hu hv hG;have mb:=λfs=>Wt (k:=k) (o:=.ub (AV a)) (C:=C) (f:=true) (P:=Na q u v) (B:=Bk.held.D (u+v)) (J:=J++[.lst []]) (m:="lay") 5 qd fs rfl;have F:∀ (fn:List D->M D) (x a b c d:D) σ,si 5 fn x [a,b,c,d] σ=fn [x,a,b,c,d] σ:=λfn x a b c d σ=>iw rfl;have sc:=λe=>ZI (k:=k) (o:=.ub (AV a)) (C:=C) (f:=true) (P:=Na q u v) (B:=(Bk.laid a.q a.m).D (u+v)) (J:=J++[.lst []]) (.laid a.q a.m) e;have sc:∀ e,zr e (.tup [.str "laid",.int a.q,a.m.D,.int 0]) (.ref 3) (.int 0) _=_:=sc;obtain⟨l,H⟩:=YS (k:=k) (o:=.ub (AV a)) (C:=.laid a.q a.m) (f:=true) (P:=Na q u v) (B:=(Bk.laid a.q a.m).D (u+v)) (J:=J) (n:=J.length+11) rfl (.tup [.str "lay",.int 0]);have hb:ZC [some (.ref 0),some (.ref 7),some (.ref (J.length+11)),some (.int 0),some a.D] (S2 k (.ub (AV a)) C true (Na q u v) (Bk.held.D (u+v)) (J++[.lst []]))=.ok (.nx [some (.ref 0),some (.ref 7),some (.ref (J.length+11)),some (.int 0),some a.D]) (S2 k (.ub (AV a)) (.laid a.q a.m) true (Na q u v) ((Bk.laid a.q a.m).D (u+v)) (J++[.lst [.tup [.str "lay",.int 0]]])):=by
  unfold ZC;generalize a.m.D=R,a.D=O,S2 k (.ub (AV a)) C true (Na q u v) (Bk.held.D (u+v)) (J++[.lst []])=Y,S2 k (.ub (AV a)) C true (Na q u v) ((Bk.laid a.q a.m).D (u+v)) (J++[.lst []])=S,S2 k (.ub (AV a)) (.laid a.q a.m) true (Na q u v) ((Bk.laid a.q a.m).D (u+v)) (J++[.lst []])=T,S2 k (.ub (AV a)) (.laid a.q a.m) true (Na q u v) ((Bk.laid a.q a.m).D (u+v)) (J++[.lst [.tup [.str "lay",.int 0]]])=U at *;simp[y,fi,I,t,w,A,L,K,p,E,mb,F,sc,l,H]
 have N:=KC (tg:=Gn 2 (Wh (Ld 3) (Wh (Ld 4) Co))) (r:=[some (.ref 7),some (.ref (J.length+11)),none,none]) rfl hb;have ls:∀ e:Ev,Af 2 (Au Ba) e (S2 k (.Ma (AV a)) C true (Na q u v) (Bk.held.D (u+v)) J)=.ok (.nx (e.set 2 (some (.ref (J.length+11))))) (S2 k (.Ma (AV a)) C true (Na q u v) (Bk.held.D (u+v)) (J++[.lst []])):=λe=>rfl;unfold Zb DH;rw[yr,Qz];show Cr (zb _ _ [some (.ref 0),some (.ref 7),none,none,none] _)=_;rw[yg,ls,Od,Pg];show Cr (zb _ _ [some (.ref 0),some (.ref 7),some (.ref (J.length+11)),none,none] _)=_;rw[yg,N,Od,Pg];rfl
end
theorem TQ{x y:D}{n:Nat}{xs ys:List D}{σ:qb}(a:Fg σ x=some xs)(hy:Fg σ y=some ys)(h:xs.length+ys.length<=100)(hn:x=.ref n\/y=.ref n):Ch x y σ=.ok (.lst (xs++ys)) σ:=by
 have e:Ch x y σ=jz x y σ:=by
  rcases hn with rfl|rfl
  ·cases y<;>first|rfl|cases hy
  ·cases x<;>first|rfl|cases a
 rw[e];unfold jz;rw[a,hy];dsimp only;rw[ia (by unfold Wi;omega)]
theorem tK{k:Bool}{a:Ac}(y:a.Ok){C c g:Cm}{f:Bool}{P d e:D}{J:qb}{T:Int}{b:Bk}{d1 d2:List D}(h1:Jv c)(V:d1.length<=9)(W:d2.length<=9)(O:Fb [.ref 0,.ref 7] (S2 k (.Ma (AV a)) (lm b) f P (b.D T) J)=.ok (.ref (J.length+11)) (S2 k (.Ma (AV a)) c f P d (J++[.lst d1])))(E:Zb [.ref 0,.ref 7] (S2 k (.Ma (AV a)) c f P d (J++[.lst d1]))=.ok (.ref (J.length+12)) (S2 k (.Ma (AV a)) g f P e (J++[.lst d1]++[.lst d2]))):Wa [.ref 0,.ref 7] (S2 k (.Ma (AV a)) C f P (b.D T) J)=.ok (.lst (d1++d2)) (S2 k (.Ma (AV a)) g f P e (J++[.lst d1]++[.lst d2])):=by
 have Q:=vW (k:=k) (o:=.Ma (AV a)) (C:=C) (f:=f) (P:=P) (B:=b.D T) (J:=J);have i:=λfs=>Wt (k:=k) (o:=.Ma (AV a)) (C:=C) (f:=f) (P:=P) (B:=b.D T) (J:=J) (m:="today") 1 ze fs rfl;have M:∀ h,tu h [9,10] "last_look" (.int 0) (.ref 0) (S2 k (.Ma (AV a)) C f P (b.D T) J)=.ok (.nx h) (S2 k (.Ma (AV a)) C f P (b.D T) J):=λh=>nr rfl;have hb:gK [some (.ref 0),some (.ref 7),some (.int 0)] (S2 k (.ub (AV a)) C f P (b.D T) J)=.ok (.nx [some (.ref 0),some (.ref 7),some (.int 0)]) (S2 k (.ub (AV a)) (lm b) f P (b.D T) J):=by
  have tb:=pL (k:=k) (o:=.ub (AV a)) (C:=C) (f:=f) (P:=P) (J:=J) T b;have i:=λfs=>Wt (k:=k) (o:=.ub (AV a)) (C:=C) (f:=f) (P:=P) (B:=b.D T) (J:=J) (m:="told") 2 Kc fs rfl;have F:=λfs=>Wt (k:=k) (o:=.ub (AV a)) (C:=lm b) (f:=f) (P:=P) (B:=b.D T) (J:=J) (m:="shown_for") 2 Pc fs rfl;have j:=cV (k:=k) (o:=.ub (AV a)) (C:=lm b) (f:=f) (P:=P) (B:=b.D T) (J:=J);have z:=jw (jt k (.ub (AV a)) C f P (b.D T) J);have A:=zP (jt k (.ub (AV a)) (lm b) f P (b.D T) J);have sc:=λh=>ZI (k:=k) (o:=.ub (AV a)) (C:=C) (f:=f) (P:=P) (B:=b.D T) (J:=J) (lm b) h;have N:=λh=>K9 (k:=k) (o:=.ub (AV a)) (C:=lm b) (f:=f) (P:=P) (B:=b.D T) (J:=J) h;unfold gK;generalize (lm b).D=S,S2 k (.ub (AV a)) C f P (b.D T) J=Y,S2 k (.ub (AV a)) (lm b) f P (b.D T) J=p at *;simp[tb,i,F,j,z,A,sc,N]
 have R:=K3 (tg:=Ld 2) (r:=[some (.ref 7),none]) rfl hb;have l:=jt k (.Ma (AV a)) (lm b) f P (b.D T) J;have n:=jt k (.Ma (AV a)) c f P d (J++[.lst d1]);have t:=DZ (k:=k) (o:=.Ma (AV a)) (C:=lm b) (f:=f) (P:=P) (B:=b.D T) (J:=J);have G:=λfs=>Wt (k:=k) (o:=.Ma (AV a)) (C:=lm b) (f:=f) (P:=P) (B:=b.D T) (J:=J) (m:="all_shown") 1 Qc fs rfl;have I:=λfs=>jk l (m:="learn") 2 Ab fs rfl;have le:∀ σ,Ab [.ref 0,.lst []] σ=.ok .Vb σ:=λσ=>by
  unfold Ab bH;simp
 have K:=λfs=>jk l (m:="strike_all") 2 Fb fs rfl;have H:=λfs=>jk n (m:="show_all") 2 Jc fs rfl;have L:=λfs=>jk n (m:="lay_all") 2 Zb fs rfl;have j:=xX (k:=k) y (C:=c) (f:=f) (P:=P) (B:=d) (J:=J++[.lst d1]) h1;have x:Fg (S2 k (.Ma (AV a)) c f P d (J++[.lst d1])) (.ref (J.length+11))=some d1:=by
  rw[show S2 k (.Ma (AV a)) c f P d (J++[.lst d1])=S2 k (.Ma (AV a)) c f P d J++[.lst d1]from rfl,show J.length+11=(S2 k (.Ma (AV a)) c f P d J).length from rfl];unfold Fg Ih;simp
 have g2:Fg (S2 k (.Ma (AV a)) g f P e (J++[.lst d1]++[.lst d2])) (.ref (J.length+12))=some d2:=by
  rw[show S2 k (.Ma (AV a)) g f P e (J++[.lst d1]++[.lst d2])=S2 k (.Ma (AV a)) g f P e (J++[.lst d1])++[.lst d2]from rfl,show J.length+12=(S2 k (.Ma (AV a)) g f P e (J++[.lst d1])).length by show _=(J++[Ob.lst d1]).length+11;simp];unfold Fg Ih;simp
 have q:Ch (.ref (J.length+11)) (.lst []) (S2 k (.Ma (AV a)) c f P d (J++[.lst d1]))=.ok (.lst d1) (S2 k (.Ma (AV a)) c f P d (J++[.lst d1])):=by
  rw[TQ x (ys:=[]) rfl (by simp;omega) (.inl rfl),mf]
 have s:Ch (.lst d1) (.ref (J.length+12)) (S2 k (.Ma (AV a)) g f P e (J++[.lst d1]++[.lst d2]))=.ok (.lst (d1++d2)) (S2 k (.Ma (AV a)) g f P e (J++[.lst d1]++[.lst d2])):=TQ rfl g2 (by omega) (.inr rfl);have u:dE [some (.ref 0),some (.ref 7),none] (S2 k (.Ma (AV a)) C f P (b.D T) J)=.ok (.nx [some (.ref 0),some (.ref 7),none]) (S2 k (.Ma (AV a)) C f P (b.D T) J):=by
  unfold dE;generalize S2 k (.Ma (AV a)) C f P (b.D T) J=Y at *;simp[Q,i,M]
 have v:CH [some (.ref 0),some (.ref 7),some (.int 0)] (S2 k (.Ma (AV a)) (lm b) f P (b.D T) J)=.ok (.nx [some (.ref 0),some (.ref 7),some (.int 0)]) (S2 k (.Ma (AV a)) (lm b) f P (b.D T) J):=by
  unfold CH;generalize S2 k (.Ma (AV a)) (lm b) f P (b.D T) J=Y at *;simp[I,G,t,le]
 have w:aJ [some (.ref 0),some (.ref 7),some (.int 0)] (S2 k (.Ma (AV a)) (lm b) f P (b.D T) J)=.ok (.rt (.lst (d1++d2))) (S2 k (.Ma (AV a)) g f P e (J++[.lst d1]++[.lst d2])):=by
  unfold aJ;generalize S2 k (.Ma (AV a)) (lm b) f P (b.D T) J=Y,S2 k (.Ma (AV a)) c f P d (J++[.lst d1])=p,S2 k (.Ma (AV a)) g f P e (J++[.lst d1]++[.lst d2])=U at *;simp[K,H,L,O,j,E,q,s]
 unfold Wa ZM;rw[yr,Qz];show Cr (zb dE _ [some (.ref 0),some (.ref 7),none] _)=_;rw[yg,u,Od,Pg,yg,R,Od,Pg,yg,v,Od,Pg,w,XI]
def Ls(n:Nat):List D:=(List.range n).map λ(i:Nat)=>.int i
theorem W6(n:Nat):Ls n++[.int n]=Ls (n+1):=by unfold Ls;rw[List.range_succ,List.map_append];rfl
theorem ny(n:Nat):lg (Ls n)=true:=Sz λd hd=>by obtain⟨i,_,rfl⟩:=Ge.mp hd;rfl
theorem sN{n:Nat}(hn:n<=3){m:Int}(σ:qb):((n:Int)<=m->Qx false (.int m) (.lst (Ls n)) σ=.ok (.bl false) σ)/\(0<n->Qx false (.int 0) (.lst (Ls n)) σ=.ok (.bl true) σ):=by
 have e:∀ (m:Int) (xs:List Int),Nx σ (.int m) (xs.map D.int)=some (xs.map λx=>decide (x=m)):=λm xs=>by
  induction xs with
  |nil=>rfl
  |cons x xs c=>
   rw[Sa,Sa,Nx,c];have:ij σ 7 (.int x) (.int m)=some (decide (x=m)):=by
    simp[ij,kd,qo,Sj];by_cases h:x=m<;>simp[h]
   rw[this]
 have g:∀ (m:Int) (xs:List Int),Qx false (.int m) (.lst (xs.map D.int)) σ=.ok (.bl (xs.any λx=>decide (x=m))) σ:=λm xs=>by
  have:Yj σ (.lst (xs.map D.int))=some (xs.map D.int):=rfl;unfold Qx;simp only[this,e];simp[List.any_map,Function.comp_def]
 have hL:Ls n=((List.range n).map λ(i:Nat)=>(i:Int)).map D.int:=by unfold Ls;rw[HB];rfl
 rw[hL];constructor
 ·intro h;rw[g];congr 2;rw[Mv];intro x b;obtain⟨i,a,rfl⟩:=Ge.mp b;have:=Dp.mp a;simp;omega
 ·intro h;rw[g];congr 2;rw[xn];exact⟨0,Ge.mpr ⟨0,Dp.mpr h,rfl⟩,by simp⟩
def wd(c:Nat):Str:=if c=6 then "calm" else if c=7 then "offered" else "waiting"
theorem cG{a:Ac}(b:a.Ok)(h:a.c=6\/a.c=7\/a.c=8):∃ fn,(∀ fs σ,Ak [(6,ec),(7,Nb),(8,Qb)] 1 "word" fs a.D σ=(fs σ).bind (si 1 fn a.D))/\∀ x σ,fn [x] σ=.ok (.str (wd a.c)) σ:=by
 have i:=λσ=>Iw b σ;rcases h with h|h|h
 ·exact⟨ec,λfs σ=>Dn (i σ) (by rw[h];rfl) rfl,λx σ=>by rw[h];unfold ec jI;simp[wd]⟩
 ·exact⟨Nb,λfs σ=>Dn (i σ) (by rw[h];rfl) rfl,λx σ=>by rw[h];unfold Nb eP;simp[wd]⟩
 ·exact⟨Qb,λfs σ=>Dn (i σ) (by rw[h];rfl) rfl,λx σ=>by rw[h];unfold Qb mO;simp[wd]⟩
structure St(q u v:Int)(j:Nat)(a:Ac):Prop where
 ok:a.Ok
 hq:a.q=q
 hL:a.L=Ls j
 hj:j<=3
 hm:a.m.Ok (u+v)
 hG:a.m=cS u v\/a.G=Jf (1 - q) a.m.D
 hy:∀ x∈a.y,x.Ok (u+v)/\(j:Int)<=x.n
 hc:a.c=6\/a.c=7\/a.c=8
 hg:a.G=.Vb\/∃ q x,a.G=Jf q (Sn.D x)
theorem ZR{a:Ac}(c:a.Ok){x:Sn}{r:Bool}(f:∀ σ,Qx false (.int x.n) (.lst a.L) σ=.ok (.bl r) σ)(σ:qb):Fc [a.D,(Cm.laid (1 - a.q) x).D] σ=.ok (.bl r) σ:=by
 have d:∀ σ,Va (Cm.laid (1 - a.q) x).D (.int 0) σ=.ok (.str "laid") σ:=λσ=>by unfold Cm.D;simp
 have e:∀ σ,Va (Cm.laid (1 - a.q) x).D (.int 1) σ=.ok (.int (1 - a.q)) σ:=λσ=>by unfold Cm.D;simp
 have c2:∀ σ,Va (Cm.laid (1 - a.q) x).D (.int 2) σ=.ok x.D σ:=λσ=>by unfold Cm.D;simp
 have g:=λσ=>s0 x σ;have h:=λσ=>Kx c σ;have i:=λσ=>sy c σ;have ne:∀ σ,Jh (.int (1 - a.q)) (.int a.q) σ=.ok (.bl true) σ:=λσ=>aA (b:=false) (by
  have:¬ (1 - a.q=a.q):=by have:=c.q;omega
  simp[ij,kd,qo,Sj,this])
 unfold Fc uJ;generalize D.lst a.L=l,x.D=m,a.D=j,(Cm.laid (1 - a.q) x).D=k at *;simp[d,e,c2,g,h,i,ne,f]
theorem zH{a:Ac}(C:Cm)(d:C=.ht\/∃ s,C=.taken s)(σ:qb):Fc [a.D,C.D] σ=.ok (.bl false) σ:=by
 have b:(("held" : Str) == "laid")=false:=by decide
 have c:(("taken" : Str) == "laid")=false:=by decide
 unfold Fc uJ;generalize a.D=e at *;rcases d with rfl|⟨s,rfl⟩<;>simp[Cm.D,b,c]
def Cv(a:Ac)(C:Cm):D:=.tup [.tup [a.m.D,a.G,.lst (a.y.map Sn.D),.lst a.L,.str (wd a.c)],.int (W a C),.int 0]
theorem IV{q u v:Int}{j:Nat}{a:Ac}(h:St q u v j a)(C:Cm):pl 8 (Cv a C)=true:=by
 have h1:∀ s:Sn,pl 5 s.D=true:=λs=>by simp[pl,Sn.D]
 have b:pl 6 a.G=true:=by
  rcases h.hg with hg|⟨q,x,hg⟩<;>rw[hg]<;>simp[pl,Jf,Sn.D]
 have h3:(a.y.map Sn.D).all (pl 5)=true:=by
  rw[dm,Ub];intro s _;exact h1 s
 have h4:(Ls j).all (pl 5)=true:=by
  unfold Ls;rw[dm,Ub];intro s _;rfl
 have c:pl 6 a.m.D=true:=by simp[pl,Sn.D]
 unfold Cv;rw[h.hL];simp only[pl,qf,List.all_nil,b,h3,h4,c,Bool.and_true]
section
variable{k:Bool}{a:Ac}{C:Cm}(hC:Jv C){f:Bool}{P B:D}{J:qb}{q u v:Int}{j:Nat}(h:St q u v j a)
include h hC
theorem bM:uf [.ref 0] (SA k a C f P B J)=.ok (Cv a C) (SA k a C f P B J):=by
 have i:=h.ok;have j:=cr k (AV a) C f P B J;have n:=MC (k:=k) (C:=C) (f:=f) (P:=P) (B:=B) (J:=J) i;have t:=λfs=>jk j (m:="account") 2 eb fs rfl;have kw:=CI (k:=k) hC i (f:=f) (P:=P) (B:=B) (J:=J);have u:=λfs=>jk j (m:="worth") 1 lc fs rfl;have s:=zs9 (k:=k) (C:=C) (a:=a) (f:=f) (P:=P) (B:=B) (J:=J);have mg:=λfs=>jk j (m:="given") 1 Fd fs rfl;have o:=λσ=>Zu i σ;have p:=λσ=>oE i σ;have q:=λσ=>mz i σ;have r:=λσ=>sy i σ;have z:=λσ=>Xy (Hz a.y) σ;have A:=λσ=>Xy i.l σ;obtain⟨fn,w,x⟩:=cG i h.hc;have hc:cl (Cv a C)=true:=by unfold Cv;simp[cl,on,Hz,i.g,i.l]
 have v:∀ a b c d e:D,∀ σ,vw [a,b,c,d,e] σ=.ok (.tup [a,b,c,d,e]) σ:=λ_ _ _ _ _ σ=>rfl;unfold Cv at hc ⊢;unfold uf fM;unfold SA at *;generalize a.G=F,a.L=H,a.y.map Sn.D=K,a.m.D=I,a.D=E,S k (AV a) C f P B J=Y at *;simp[n,t,kw,u,s,mg,o,p,q,r,z,A,w,x,hc,v]
variable(hH:C.held=false)
include hH
theorem lI{m:Sn}(hm:m.Ok (u+v)){X:D}{n:Str}(hl:∀ σ,Kb [X] σ=.ok (.bl true) σ)(i0:∀ σ,Va X (.int 0) σ=.ok (.str n) σ)(i1:∀ σ,Va X (.int 1) σ=.ok (.int 0) σ)(kn:(n == ("word" : Str))=false){N:Int}(hN:0<=N/\N<=1000000):Se [.ref 0,m.D,X,.int N] (SA k a C f P B J)=.ok (.bl true) (SA true a C f P B J):=by
 have se:=bM (k:=k) hC h (f:=f) (P:=P) (B:=B) (J:=J);have H:=bM (k:=true) hC h (f:=f) (P:=P) (B:=B) (J:=J);have es:∀ σ,oEq (Cv a C) (Cv a C) σ=.ok (.bl true) σ:=λσ=>Dy (IV h C);have L:=cr k (AV a) C f P B J;have K:=cr true (AV a) C f P B J;have j1:=λσ=>s1 m σ;have j2:=λσ=>s2 m σ;have ne:∀ σ,Jh (.lst []) (.lst []) σ=.ok (.bl false) σ:=λσ=>Rs (by simp[pl]);have nf:∀ σ,Jh (.tup [.bl false,.lst []]) (.tup [.bl false,.lst []]) σ=.ok (.bl false) σ:=λσ=>Rs (by simp[pl]);have E:∀ {Z:D} {z:Str} (_:∀ σ,Kb [Z] σ=.ok (.bl true) σ) (_:∀ σ,Va Z (.int 0) σ=.ok (.str z) σ) (_:∀ σ,Va Z (.int 1) σ=.ok (.int 0) σ) (_:(z == ("word" : Str))=false) (p q r i j s x:Option D),sA [some (.ref 0),p,q,r,i,j,some Z,s,x] (SA k a C f P B J)=.ok (.nx [some (.ref 0),p,q,r,i,j,some Z,s,x]) (SA k a C f P B J):=fun {Z z} h1 h2 h3 h4 p q r i j s x=>by
  have t:=Y6 (k:=k) (a:=a) (f:=f) (P:=P) (B:=B) (J:=J) hH h1 h2 h3 h4;have A:=λfs=>jk L (m:="take") 2 La fs rfl;unfold sA;unfold SA at *;generalize S k (AV a) C f P B J=Y at *;simp[t,A,ne]
 have tw:∀ (p q r i j s x:Option D),sA [some (.ref 0),p,q,r,i,j,some Pq,s,x] (SA k a C f P B J)=.ok (.nx [some (.ref 0),p,q,r,i,j,some Pq,s,x]) (SA true a C f P B J):=λp q r i j s x=>by
  have t:=x3 (k:=k) (a:=a) (C:=C) (f:=f) (P:=P) (B:=B) (J:=J);have A:=λfs=>jk L (m:="take") 2 La fs rfl;unfold sA;unfold SA at *;generalize S k (AV a) C f P B J=Y,S true (AV a) C f P B J=Y2 at *;simp[t,A,ne]
 have w:∀ {Z:D} (_:∀ σ,Va Z (.int 1) σ=.ok (.int 0) σ) (p q r i j l s:Option D),sB [some (.ref 0),p,q,r,i,j,l,s,some Z] (SA true a C f P B J)=.ok (.nx [some (.ref 0),p,q,r,i,j,l,s,some Z]) (SA true a C f P B J):=fun {Z} h1 p q r i j l s=>by
  have t:=yft (k:=true) (a:=a) (f:=f) (P:=P) (B:=B) (J:=J) hH h1;have A:=λfs=>jk K (m:="wish") 2 Gc fs rfl;unfold sB;unfold SA at *;generalize S true (AV a) C f P B J=Y at *;simp[t,A,nf]
 have R:XG [some (.ref 0),some m.D,some X,some (.int N),none,none,none,none,none] (SA k a C f P B J)=.ok (.nx [some (.ref 0),some m.D,some X,some (.int N),some (Cv a C),none,none,none,none]) (SA k a C f P B J):=by
  unfold XG;generalize SA k a C f P B J=Y at *;simp[se]
 have T:∀ (i:Option D) Y,VJ [some (.ref 0),some m.D,some X,some (.int N),i,none,none,none,none] Y=.ok (.nx [some (.ref 0),some m.D,some X,some (.int N),i,some (.lst [X,Eh m,sj m]),none,none,none]) Y:=λi Y=>by
  have o:D.tup [.str "offer",.int 0,.tup [.str "agree",.int 0,.int 0,m.D]]=Eh m:=rfl;have k2:D.tup [.str "ask",.int 0,.tup [.int m.a,.int m.b],.tup []]=sj m:=rfl;unfold VJ;generalize m.D=O,D.tup [.int m.a,.int m.b]=AB,sj m=M,Eh m=Q at *;simp[j1,j2,o,k2]
 have U:∀ (i:Option D) Y,DI [some (.ref 0),some m.D,some X,some (.int N),i,some (.lst [X,Eh m,sj m]),none,none,none] Y=.ok (.nx [some (.ref 0),some m.D,some X,some (.int N),i,some (.lst [X,Eh m,sj m,kj N,Pq]),none,none,none]) Y:=λi Y=>by
  have o:D.tup [.str "struck",.int 0,.tup [.str "strike",.int 0,.int 0,.int N]]=kj N:=rfl;have o2:D.tup [.str "word",.int 0,.int 7]=Pq:=rfl;have G:∀ a b c d e:D,∀ σ,Ch (.lst [a,b,c]) (.lst [d,e]) σ=.ok (.lst [a,b,c,d,e]) σ:=λa b c d e σ=>by rw[YC (by unfold Wi;simp)];rfl
  unfold DI;generalize Pq=WL,kj N=SK,sj m=M,Eh m=Q at *;simp[o,o2,G]
 have V:∀ (i:Option D),iI [some (.ref 0),some m.D,some X,some (.int N),i,some (.lst [X,Eh m,sj m,kj N,Pq]),none,none,none] (SA k a C f P B J)=.ok (.nx [some (.ref 0),some m.D,some X,some (.int N),i,some (.lst [X,Eh m,sj m,kj N,Pq]),some Pq,none,none]) (SA true a C f P B J):=λi=>by
  unfold iI;rw[UG];have I:∀ σ,ri (da 5) [some (.ref 0),some m.D,some X,some (.int N),i,some (.lst [X,Eh m,sj m,kj N,Pq]),none,none,none] σ=.ok (.seq [X,Eh m,sj m,kj N,Pq]) σ:=λσ=>by simp
  rw[I,cq,gE,jr];simp only[Ya,Za];rw[E hl i0 i1 kn,Od,um,jr];simp only[Ya,Za];rw[E (z:="offer") (λσ=>eH σ hm) (λσ=>by unfold Eh;simp) (λσ=>by unfold Eh;simp) (by decide),Od,um,jr];simp only[Ya,Za];rw[E (z:="ask") (λσ=>dL σ hm) (λσ=>by unfold sj;simp) (λσ=>by unfold sj;simp) (by decide),Od,um,jr];simp only[Ya,Za];rw[E (z:="struck") (λσ=>gG σ hN) (λσ=>by unfold kj;simp) (λσ=>by unfold kj;simp) (by decide),Od,um,jr];simp only[Ya,Za];rw[tw,Od,um,Hw]
 have ww:∃ y F,(∀ (i j l:Option D) Y,WH [some (.ref 0),some m.D,some X,some (.int N),i,j,l,none,none] Y=.ok (.nx [some (.ref 0),some m.D,some X,some (.int N),i,j,l,some y,none]) Y)/\∀ (i j l:Option D),BH [some (.ref 0),some m.D,some X,some (.int N),i,j,l,some y,none] (SA true a C f P B J)=.ok (.nx [some (.ref 0),some m.D,some X,some (.int N),i,j,l,some y,F]) (SA true a C f P B J):=by
  have t5:∀ a b c d e:D,∀ σ,vw [a,b,c,d,e] σ=.ok (.tup [a,b,c,d,e]) σ:=λ_ _ _ _ _ σ=>rfl;refine⟨.lst [.tup [.str "give",.int 0,.int 1],.tup [.str "pay",.int 0,.int 1,.int 5,.int 9],.tup [.str "pass",.int 0,.int 1,.int 5,.int 0]],some (.tup [.str "finish",.int 0]),λi j l Y=>?_,λi j l=>?_⟩
  ·unfold WH;generalize m.D=O at *;simp[t5]
  ·unfold BH;rw[UG];have G:∀ a b c d e g:D,∀ σ,Ch (.lst [a,b,c]) (.lst [d,e,g]) σ=.ok (.lst [a,b,c,d,e,g]) σ:=λa b c d e g σ=>by rw[YC (by unfold Wi;simp)];rfl
   have I:∀ σ,ri (Ga Ch (da 7) (Gh (ja (Ie (ja (eC (.str "settle")) (ja (eC (.int 0)) (ja (eC (.int 5)) Ba)))) (ja (Ie (ja (eC (.str "drop")) (ja (eC (.int 0)) (ja (eC (.int 5)) Ba)))) (ja (Ie (ja (eC (.str "finish")) (ja (eC (.int 0)) Ba))) Ba))))) [some (.ref 0),some m.D,some X,some (.int N),i,j,l,some (.lst [.tup [.str "give",.int 0,.int 1],.tup [.str "pay",.int 0,.int 1,.int 5,.int 9],.tup [.str "pass",.int 0,.int 1,.int 5,.int 0]]),none] σ=.ok (.seq [.tup [.str "give",.int 0,.int 1],.tup [.str "pay",.int 0,.int 1,.int 5,.int 9],.tup [.str "pass",.int 0,.int 1,.int 5,.int 0],.tup [.str "settle",.int 0,.int 5],.tup [.str "drop",.int 0,.int 5],.tup [.str "finish",.int 0]]) σ:=λσ=>by simp[G]
   rw[I,cq,gE]
   iterate 6
    rw[jr];simp only[Ya,Za];rw[w (λσ=>by simp),Od,um]
   rw[Hw]
 obtain⟨y,F,W,e6⟩:=ww;have e7:∀ (j l:Option D),FL [some (.ref 0),some m.D,some X,some (.int N),some (Cv a C),j,l,some y,F] (SA true a C f P B J)=.ok (.rt (.bl true)) (SA true a C f P B J):=λj l=>by
  have wo:=ZS K;have mw:=λfs=>jk K (m:="words") 1 Mc fs rfl;have i7:∀ σ,Cz false (.int 7) (.lst (gv true)) σ=.ok (.bl true) σ:=λσ=>nr rfl;unfold FL;unfold SA at *;generalize D.lst (gv true)=KW,Cv a C=SD,S true (AV a) C f P B J=Y at *;simp[H,es,wo,mw,i7]
 unfold Se kM;rw[yr,Qz];show Cr (zb XG _ [some (.ref 0),some m.D,some X,some (.int N),none,none,none,none,none] _)=_;rw[yg,R,Od,Pg,yg,T,Od,Pg,yg,U,Od,Pg,yg,V,Od,Pg,yg,W,Od,Pg,yg,e6,Od,Pg,e7,XI]
end
inductive Kn where
 |c (m:Sn) (G:D)
 |h (m o:Sn) (G:D)
def acc(q:Int)(j:Nat):Kn->Ac
 | .c m G=>calm q m G (Ls j)
 | .h m o G=>if q=0 then dk 0 m o G (Ls j)else mn 1 m o (Jf 0 o.D) (Ls j)
structure Hv(q u v:Int)(j:Nat)(m:Sn)(G:D):Prop where
 ok:m.Ok (u+v)
 n:m.n=j
 g:m=cS u v\/G=Jf (1 - q) m.D
 gg:G=.Vb\/∃ q x,G=Jf q (Sn.D x)
def Wy(q u v:Int)(j:Nat):Kn->Prop
 | .c m G=>Hv q u v j m G
 | .h m o G=>Hv q u v j m G/\o.Ok (u+v)/\o.n=m.n+1/\ow q m<=ow q o
def lt(q:Int)(nh:Sn):Kn->D
 | .c _ _=>if q=0 then sj nh else Eh nh
 | .h m o _=>if q=0 then Jm m o else kj m.n
def nx(q:Int)(nh:Sn):Kn->Kn
 | .c m G=>.h m nh G
 | .h _ o _=>.c o (Jf (1 - q) o.D)
def jn(j:Nat):Kn->Nat
 | .c _ _=>j
 | .h _ _ _=>j+1
def iv:Kn->Sn
 | .c m _=>m
 | .h _ o _=>o
theorem Hv.cg{q u v:Int}{j:Nat}{m:Sn}{G:D}(h:Hv q u v j m G):cl G=true:=by
 rcases h.gg with hg|⟨q,x,hg⟩<;>rw[hg]
 ·rfl
 ·exact Tw (on x)
section
variable{q u v:Int}(hq:q=0\/q=1){j:Nat}(hj:j<=3){K:Kn}(hK:Wy q u v j K)
include hq hj hK
theorem HA:St q u v j (acc q j K):=by
 cases K with
 |c m G=>
  have h:Hv q u v j m G:=hK;exact⟨xu hq m h.cg (ny j),rfl,rfl,hj,h.ok,h.g,λx a=>by
   have:x=m:=by simpa [acc,calm]using a
   subst this;exact⟨h.ok,by rw[h.n];exact gu _⟩,.inl rfl,h.gg⟩
 |h m o G=>
  obtain⟨h,b,hn,d⟩:=hK;have hy:∀ x,x=m\/x=o->x.Ok (u+v)/\(j:Int)<=x.n:=λx a=>by
   rcases a with rfl|rfl
   ·exact⟨h.ok,by rw[h.n];exact gu _⟩
   ·exact⟨b,by have:=h.n;omega⟩
  rcases hq with rfl|rfl
  ·exact⟨eD (.inl rfl) m o h.cg (ny j),rfl,rfl,hj,h.ok,h.g,λx a=>hy x (by simpa [acc,dk]using a),.inr (.inl rfl),h.gg⟩
  ·exact⟨dC (.inr rfl) m o (Tw (on o)) (ny j),rfl,rfl,hj,b,.inr rfl,λx a=>hy x (by simpa [acc,mn]using a),.inr (.inr rfl),.inr ⟨_,_,rfl⟩⟩
theorem bI{nh:Sn}(σ:qb):Bd [(acc q j K).D,nh.D] σ=.ok (lt q nh K) σ:=by
 have r:=HA hq hj hK;have f:=r.ok;obtain⟨fn,i,d⟩:=cG f r.hc;have p:=λσ=>Kx f σ;rw[r.hq]at p;have g:=λσ=>mz f σ;have v:=λσ=>Zu f σ;have B:=λσ=>s1 nh σ;have C:=λσ=>s2 nh σ;have s:(("calm" : Str) == "offered")=false:=by decide
 have t:(("calm" : Str) == "waiting")=false:=by decide
 have A:(("waiting" : Str) == "offered")=false:=by decide
 unfold Bd bN;cases K with
 |c m G=>
  rw[show wd (acc q j (.c m G)).c = "calm" from rfl]at d;rcases hq with rfl|rfl
  ·have e:D.tup [.str "ask",.int 0,.tup [.int nh.a,.int nh.b],.tup []]=sj nh:=rfl;have hc:=JU nh;show _=Out.ok (sj nh) σ;generalize nh.D=x,D.tup [.int nh.a,.int nh.b]=E,sj nh=l,(acc 0 j (.c m G)).D=k at *;simp[i,d,s,t,p,B,C,e,hc]
  ·have e:D.tup [.str "offer",.int 0,.tup [.str "agree",.int 0,.int 0,nh.D]]=Eh nh:=rfl;have hc:=xN nh;show _=Out.ok (Eh nh) σ;generalize nh.D=x,Eh nh=l,(acc 1 j (.c m G)).D=k at *;simp[i,d,s,t,p,e,hc]
 |h m o G=>
  have u:=λσ=>s0 m σ;rcases hq with rfl|rfl
  ·rw[show wd (acc 0 j (.h m o G)).c = "offered" from rfl]at d;rw[show (acc 0 j (.h m o G)).y.map Sn.D=[m.D,o.D]from rfl]at g;rw[show (acc 0 j (.h m o G)).m=m from rfl]at v;have e:D.tup [.str "accept",.int 0,.tup [.str "agree",.int 0,.int 1,o.D],.tup [.str "strike",.int 0,.int 1,.int m.n]]=Jm m o:=rfl;have hc:=XR m o;show _=Out.ok (Jm m o) σ;generalize o.D=z,m.D=w,Jm m o=l,(acc 0 j (.h m o G)).D=k at *;simp[i,d,g,v,u,e,hc]
  ·rw[show wd (acc 1 j (.h m o G)).c = "waiting" from rfl]at d;rw[show (acc 1 j (.h m o G)).y.map Sn.D=[m.D,o.D]from rfl]at g;have e:D.tup [.str "struck",.int 0,.tup [.str "strike",.int 0,.int 0,.int m.n]]=kj m.n:=rfl;have hc:=uO m.n;show _=Out.ok (kj m.n) σ;generalize o.D=z,m.D=w,kj m.n=l,(acc 1 j (.h m o G)).D=k at *;simp[i,d,A,g,u,e,hc]
theorem G1{nh:Sn}(a:nh.Ok (u+v)):∃ n,(∀ σ,Kb [lt q nh K] σ=.ok (.bl true) σ)/\(∀ σ,Va (lt q nh K) (.int 0) σ=.ok (.str n) σ)/\(∀ σ,Va (lt q nh K) (.int 1) σ=.ok (.int 0) σ)/\(n == ("word" : Str))=false:=by
 cases K with
 |c m G=>
  rcases hq with rfl|rfl
  ·exact⟨"ask",λσ=>dL σ a,λσ=>by show Va (sj nh) _ σ=_;unfold sj;simp,λσ=>by show Va (sj nh) _ σ=_;unfold sj;simp,by decide⟩
  ·exact⟨"offer",λσ=>eH σ a,λσ=>by show Va (Eh nh) _ σ=_;unfold Eh;simp,λσ=>by show Va (Eh nh) _ σ=_;unfold Eh;simp,by decide⟩
 |h m o G=>
  obtain⟨h,a,hn,d⟩:=hK;have b:=h.ok.n;rcases hq with rfl|rfl
  ·exact⟨"accept",λσ=>kL (m:=m) σ a (by omega),λσ=>by show Va (Jm m o) _ σ=_;unfold Jm;simp,λσ=>by show Va (Jm m o) _ σ=_;unfold Jm;simp,by decide⟩
  ·exact⟨"struck",λσ=>gG σ (n:=m.n) (by omega),λσ=>by show Va (kj m.n) _ σ=_;unfold kj;simp,λσ=>by show Va (kj m.n) _ σ=_;unfold kj;simp,by decide⟩
theorem xK{nh:Sn}(i:nh.Ok (u+v))(hn:nh.n=(iv K).n+1)(t:ow q (iv K)<=ow q nh){k:Bool}{C:Cm}(x:C=.hg\/C=.ht){f:Bool}{P B:D}{J:qb}:(∃ d,La [.ref 0,lt q nh K] (SA k (acc q j K) C f P B J)=.ok d (SA k (acc q (jn j K) (nx q nh K)) C f P B J))/\Wy q u v (jn j K) (nx q nh K):=by
 have r:C.held=true:=by rcases x with rfl|rfl<;>rfl
 have hc:Jv C:=λs e=>by rcases x with rfl|rfl<;>cases e
 have p:∀ a:Ac,W a C=Dx a.q a.y:=λa=>by rcases x with rfl|rfl<;>rfl
 cases K with
 |c m G=>
  have h:Hv q u v j m G:=hK;have hn:nh.n=m.n+1:=hn;have t:ow q m<=ow q nh:=t;refine⟨?_,h,i,hn,t⟩;have g:∀ a b:Ac,a.q=q->b.q=q->a.y=[m]->b.y=[m,nh]->W a C<=W b C:=λa b h1 w h3 h4=>by
   rw[p,p,h1,w,h3,h4,NH,HQ,qa (by omega)];exact gu _
  rcases hq with rfl|rfl
  ·exact zws hc r h.ok i hn h.cg (ny j) (g _ _ rfl rfl rfl rfl)
  ·exact zwt hc r h.ok i hn h.cg (ny j) (g _ _ rfl rfl rfl rfl)
 |h m o G=>
  obtain⟨h,i,hn,t⟩:=hK;have l:(Ls j).length<=100:=by unfold Ls;simp;omega
  have g:∀ a b:Ac,a.q=q->b.q=q->a.y=[m,o]->b.y=[o]->W a C<=W b C:=λa b h1 w h3 h4=>by
   rw[p,p,h1,w,h3,h4,NH,HQ];split<;>omega
  have hL:Ls j++[.int m.n]=Ls (j+1):=by rw[h.n,W6]
  refine⟨?_,i,by have:=h.n;show o.n=((j+1:Nat):Int);omega,.inr rfl,.inr ⟨_,_,rfl⟩⟩;rcases hq with rfl|rfl
  ·have:=zwr (k:=k) (f:=f) (P:=P) (B:=B) (J:=J) hc r h.ok i h.cg (ny j) l (g _ _ rfl rfl rfl rfl);rw[hL]at this;exact this
  ·have:=AW (k:=k) (f:=f) (P:=P) (B:=B) (J:=J) (s:=o) (G:=Jf 0 o.D) hc r h.ok (Tw (on o)) (ny j) l (g _ _ rfl rfl rfl rfl);rw[hL]at this;exact this
end
def mv(q:Int)(m:Sn)(x:Int):Int:=min x (ow (1 - q) m)
def nw(q:Int)(m:Sn)(x:Int):Sn:=⟨m.n+1,if q=0 then m.a+mv q m x else m.a - mv q m x,if q=0 then m.b - mv q m x else m.b+mv q m x⟩
theorem rL{q u v:Int}(hq:q=0\/q=1)(d:u+v<=2000000000000){m:Sn}(hm:m.Ok (u+v))(hn:m.n<=50){x:Int}(f:0<=x):(nw q m x).Ok (u+v)/\ow q m<=ow q (nw q m x):=by
 have h1:=hm.n;have c:=hm.a;have h3:=hm.b;have h4:=hm.w;rcases hq with rfl|rfl
 ·have e:mv 0 m x=min x m.b:=rfl;refine⟨⟨by show 0<=m.n+1/\m.n+1<=100;omega,?_,?_,?_⟩,?_⟩
  ·show 0<=m.a+mv 0 m x/\m.a+mv 0 m x<=_;rw[e];omega
  ·show 0<=m.b - mv 0 m x/\m.b - mv 0 m x<=_;rw[e];omega
  ·show m.a+mv 0 m x+(m.b - mv 0 m x)=_;omega
  ·show m.a<=m.a+mv 0 m x;rw[e];omega
 ·have e:mv 1 m x=min x m.a:=rfl;refine⟨⟨by show 0<=m.n+1/\m.n+1<=100;omega,?_,?_,?_⟩,?_⟩
  ·show 0<=m.a - mv 1 m x/\m.a - mv 1 m x<=_;rw[e];omega
  ·show 0<=m.b+mv 1 m x/\m.b+mv 1 m x<=_;rw[e];omega
  ·show m.a - mv 1 m x+(m.b+mv 1 m x)=_;omega
  ·show m.b<=m.b+mv 1 m x;rw[e];omega
theorem S0(xs:List D)(σ:qb):IF [.ref σ.length] (σ++[.lst xs])=.ok (.tup xs) (σ++[.lst xs]):=by simp[IF,IK]
theorem sS{q:Int}(hq:q=0\/q=1)(m:Sn)(x:Int)(Y:qb):Xf [m.D,.int q,.int x] Y=.ok (nw q m x).D Y:=by
 have f:=λσ=>s0 m σ;have g:=λσ=>s1 m σ;have c:∀ x y:D,Va (.ref Y.length) (.int 0) (Y++[.lst [x,y]])=.ok x (Y++[.lst [x,y]]):=λx y=>KG (xs:=[x,y]) (by unfold Ih;simp) (show yl _ ((0:Nat):Int)=_ from Ps rfl);have d:∀ x y:D,Va (.ref Y.length) (.int 1) (Y++[.lst [x,y]])=.ok y (Y++[.lst [x,y]]):=λx y=>KG (xs:=[x,y]) (by unfold Ih;simp) (show yl _ ((1:Nat):Int)=_ from Ps rfl);have i:=λxs=>S0 xs Y;have h:∀ a b σ,uD [.int a,.int b] σ=.ok (.int (min a b)) σ:=λa b σ=>by rw[xY]
 have hc:=on (nw q m x);have fz:∀ o,Eg Y (.ok (nw q m x).D (Y++[o]))=.ok (nw q m x).D Y:=λo=>uE hc;unfold Xf SM;rcases hq with rfl|rfl
 ·have e:D.tup [.int (m.n+1),.tup [.int (m.a+min x m.b),.int (m.b - min x m.b)],.tup []]=(nw 0 m x).D:=rfl;generalize m.D=j,(nw 0 m x).D=k at *;simp[f,g,c,d,i,h,e,fz]
 ·have e:D.tup [.int (m.n+1),.tup [.int (m.a - min x m.a),.int (m.b+min x m.a)],.tup []]=(nw 1 m x).D:=rfl;generalize m.D=j,(nw 1 m x).D=k at *;simp[f,g,c,d,i,h,e,fz]
theorem JR{ρ:Ev}{r:qb}{cs:List Nat}{f:Str}{d:D}{fs:List (Str × D)}(h:cs.contains 10=true)(a:Nat.ble (fs.length+1) 1000=true):tu ρ cs f d (.ref 0) (.ins 10 fs::r)=.ok (.nx ρ) (.ins 10 (rj f d fs)::r):=by
 have e:Iy cs f d (.ref 0) (.ins 10 fs::r)=.ok () (.ins 10 (rj f d fs)::r):=by
  have:(Ob.ins 10 fs::r)[0]?=some (.ins 10 fs):=rfl;unfold Iy;simp only[this];rw[ia (by rw[h];simpa using (show fs.length<1000 from At a))];simp
 unfold tu;rw[e]
theorem JA{cs:List Nat}{f:Str}{fs:List (Str × D)}{r:Ev}{ds:qb}(hc:cs.contains 10=true)(a:Nat.ble (fs.length+1) 1000=true):lj cs f Xr (da 0) (some (.ref 0)::r) (.ins 10 fs::ds)=.ok (.nx (some (.ref 0)::r)) (.ins 10 (rj f (.ref (ds.length+1)) fs)::(ds++[.Ma []])):=by
 rw[yA,uR,cq,KA,Jx,cq];exact JR hc a
theorem JE{cs:List Nat}{f:Str}{fs:List (Str × D)}{a:Ev->M D}{d:D}{ds:qb}{r:Ev}(hc:cs.contains 10=true)(b:Nat.ble (fs.length+1) 1000=true)(c:a (some (.ref 0)::r) (.ins 10 fs::ds)=.ok d (.ins 10 fs::ds)):lj cs f a (da 0) (some (.ref 0)::r) (.ins 10 fs::ds)=.ok (.nx (some (.ref 0)::r)) (.ins 10 (rj f d fs)::ds):=by
 rw[yA,c,cq,KA,Jx,cq,JR hc b]
@[simp] theorem ybw{σ:qb}(fn:List D->M D)(x a b c:D):si 4 fn x [a,b,c] σ=fn [x,a,b,c] σ:=iw rfl
def P3(A C Z:Kv):qb:=[.ins 10 Ss,.Ma [],.Ma A,.Ma C,.Ma Z,.Ma [],.Ma []]
theorem NY{a:Ac}(f:a.Ok):vd [.ref 0,a.D,.gt ["held"],.Ma [] []] (P3 [] [] [])=.ok .Vb (P3 (AV a) [(.inl 0,.gt ["held"])] yq):=by
 have e:=λm=>xy f m;have g:∀ A C Z,Bb [10] "accounts" (.ref 0) (P3 A C Z)=.ok (.ref 2) (P3 A C Z):=λA C Z=>Kj (fs:=Ss) (c:=10) rfl rfl rfl;have i:∀ A C Z,Bb [10,15] "claims" (.ref 0) (P3 A C Z)=.ok (.ref 3) (P3 A C Z):=λA C Z=>Kj (fs:=Ss) (c:=10) rfl rfl rfl;have k:∀ A C Z,Bb [10] "seen" (.ref 0) (P3 A C Z)=.ok (.ref 4) (P3 A C Z):=λA C Z=>Kj (fs:=Ss) (c:=10) rfl rfl rfl;have h:∀ b d,zr b d (.ref 2) (.int 0) (P3 [] [] [])=.ok (.nx b) (P3 [(.inl 0,d)] [] []):=λb d=>by rw[Wx (kvs:=[]) rfl (by simp)];rfl
 have j:∀ A b d,zr b d (.ref 3) (.int 0) (P3 A [] [])=.ok (.nx b) (P3 A [(.inl 0,d)] []):=λA b d=>by rw[Wx (kvs:=[]) rfl (by simp)];rfl
 have l:∀ A C b d,zr b d (.ref 4) (.int 0) (P3 A C [])=.ok (.nx b) (P3 A C [(.inl 0,d)]):=λA C b d=>by rw[Wx (kvs:=[]) rfl (by simp)];rfl
 show _=Out.ok _ (P3 (AV a) [(.inl 0,.gt ["held"])] [(.inl 0,.Ma [] [])]);unfold vd kT AV;generalize a.D=n at *;simp[e,g,h,i,j,k,l]
section
variable{q u v:Int}(hq:q=0\/q=1)(hu:0<=u/\u<=1000000000000)(hv:0<=v/\v<=1000000000000)
include hq
theorem hX(σ:qb):Cf [.int 1,.int 5,.lst [Na q u v]] σ=.ok .Vb σ:=by
 have b:=bt (i:=5) (a:=1) (b:=50) (by omega) σ;have p4:=(aw q u v σ).2.2;have d:yE (Na q u v) none (some 2) σ=.ok (.tup [.int (if q=0 then 1 else 2),.int (if q=0 then 2 else 1)]) σ:=nr rfl;have i:Cz false (.int 1) (.tup [.int (if q=0 then 1 else 2),.int (if q=0 then 2 else 1)]) σ=.ok (.bl true) σ:=by
  rcases hq with rfl|rfl<;>simp[Cz,xz,hA,sc,Sj]
 have c:Lk (Ld 3) KI [Na q u v] [some (.int 1),some (.int 5),some (.lst [Na q u v]),none] σ=.ok (.nx [some (.int 1),some (.int 5),some (.lst [Na q u v]),some (Na q u v)]) σ:=by
  rw[jr];simp only[Ya,Za];unfold KI;generalize Na q u v=P at *;simp[p4,d,i]
 unfold Cf bO;generalize Na q u v=P at *;simp[b,c]
include hu hv
theorem wV(σ:qb):we [.int 0,.int q,.int u,.int v] σ=.ok (calm q (cS u v) .Vb []).D σ:=by
 have f:=λσ=>BQ hu hv σ;have ok:=xu hq (cS u v) (G:=.Vb) (L:=[]) rfl rfl;have a:∀ σ,Eg σ (Wl 6 7 Pj [.int 0,.int q,(cS u v).D,.Vb,.lst [(cS u v).D],.lst []] σ)=.ok (calm q (cS u v) .Vb []).D σ:=λσ=>jC ok σ;have hc:=pB ok;unfold we SR;generalize (cS u v).D=c,(calm q (cS u v) .Vb []).D=b at *;simp[f,a,hc]
theorem R4:Wl 10 5 Wq [.int 1,.int 5,.lst [Na q u v],.Vb] []=.ok (.ref 0) (P3 (AV (calm q (cS u v) .Vb [])) [(.inl 0,.gt ["held"])] yq):=by
 have sp:=λσ=>hX (u:=u) (v:=v) hq σ;have ok:=xu hq (cS u v) (G:=.Vb) (L:=[]) rfl rfl;have t:∀ fs,Ak [(10,Ab)] 2 "learn" fs (.ref 0) (P3 [] [] [])=(fs (P3 [] [] [])).bind (si 2 Ab (.ref 0)):=λfs=>Dn (show Hj (P3 [] [] []) (.ref 0)=some (10,Ss)from rfl) rfl rfl;have r:∀ fs,Ak [(10,vd)] 4 "hold" fs (.ref 0) (P3 [] [] [])=(fs (P3 [] [] [])).bind (si 4 vd (.ref 0)):=λfs=>Dn (show Hj (P3 [] [] []) (.ref 0)=some (10,Ss)from rfl) rfl rfl;have m:=NY ok;have j:=λσ=>wV hq hu hv σ;have le:Ab [.ref 0,.lst []] (P3 [] [] [])=.ok .Vb (P3 [] [] []):=by
  unfold Ab bH;generalize P3 [] [] []=Y at *;simp
 have e:∀ σ,Va (Na q u v) (.int 0) σ=.ok (.int (if q=0 then 1 else 2)) σ:=λσ=>by unfold Na;simp
 have f:∀ σ,Va (Na q u v) (.int 1) σ=.ok (.int (if q=0 then 2 else 1)) σ:=λσ=>by unfold Na;simp
 have n:=λσ=>(aw q u v σ).1;have o:=λσ=>(aw q u v σ).2.1;have pt:yG [some (.ref 0),some (.int 1),some (.int 5),some (.lst [Na q u v]),some .Vb,some (.int 0),some (Na q u v),none] (P3 [] [] [])=.ok (.nx [some (.ref 0),some (.int 1),some (.int 5),some (.lst [Na q u v]),some .Vb,some (.int 0),some (Na q u v),some (.int 1)]) (P3 (AV (calm q (cS u v) .Vb [])) [(.inl 0,.gt ["held"])] yq):=by
  have a:Va (Na q u v) (.int q) (P3 [] [] [])=.ok (.int 1) (P3 [] [] [])->SB [some (.ref 0),some (.int 1),some (.int 5),some (.lst [Na q u v]),some .Vb,some (.int 0),some (Na q u v),some (.int q)] (P3 [] [] [])=.ok (.nx [some (.ref 0),some (.int 1),some (.int 5),some (.lst [Na q u v]),some .Vb,some (.int 0),some (Na q u v),some (.int q)]) (P3 (AV (calm q (cS u v) .Vb [])) [(.inl 0,.gt ["held"])] yq):=λb=>by
   unfold SB;generalize (calm q (cS u v) .Vb []).D=y,Na q u v=P,P3 [] [] []=Y,P3 (AV (calm q (cS u v) .Vb [])) [(.inl 0,.gt ["held"])] yq=Z at *;simp[b,n,o,j,r,m]
  have no:∀ (s:Int) (Y:qb),Va (Na q u v) (.int s) Y=.ok (.int 2) Y->SB [some (.ref 0),some (.int 1),some (.int 5),some (.lst [Na q u v]),some .Vb,some (.int 0),some (Na q u v),some (.int s)] Y=.ok (.nx [some (.ref 0),some (.int 1),some (.int 5),some (.lst [Na q u v]),some .Vb,some (.int 0),some (Na q u v),some (.int s)]) Y:=λs Y b=>by
   unfold SB;generalize Na q u v=P at *;simp[b]
  unfold yG;rw[UG];simp only[ye8,z9,CF,mQ,Od,sE,iF,AG,DX,r0,cq,gE];rw[jr];simp only[Ya,Za];rcases hq with rfl|rfl
  ·rw[a (e _),Od,um,jr];simp only[Ya,Za];rw[no 1 _ (f _),Od,um,Hw]
  ·rw[no 0 _ (e _),Od,um,jr];simp only[Ya,Za];rw[a (f _),Od,um,Hw]
 have h:Kz (.lst [Na q u v]) (P3 [] [] [])=.ok (uv (.lst [Na q u v])) (P3 [] [] []):=KP (xs:=[Na q u v]) rfl;have p:yp (uv (.lst [Na q u v])) (Gn 2 (Wh (Ld 5) (Wh (Ld 6) Co))) yG 1001 0 [some (.ref 0),some (.int 1),some (.int 5),some (.lst [Na q u v]),some .Vb,none,none,none] (P3 [] [] [])=.ok (.nx [some (.ref 0),some (.int 1),some (.int 5),some (.lst [Na q u v]),some .Vb,some (.int 0),some (Na q u v),some (.int 1)]) (P3 (AV (calm q (cS u v) .Vb [])) [(.inl 0,.gt ["held"])] yq):=by
  rw[iD (k:=1000) (GM (xs:=[Na q u v]) (i:=0) rfl rfl) (ρ1:=[some (.ref 0),some (.int 1),some (.int 5),some (.lst [Na q u v]),some .Vb,some (.int 0),some (Na q u v),none]) rfl,pt,Od,um];exact xB (k:=999) (gR (x:=.lst [Na q u v]) (xs:=[Na q u v]) rfl)
 have l:∀ (g:D->Ev->Option Ev) (body:Ev->M Fl) (ρ:Ev) (nx:NX),FF g body ρ nx=yp nx g body 1001 0 ρ:=λ_ _ _ _=>rfl;have c:Wq [.ref 0,.int 1,.int 5,.lst [Na q u v],.Vb] [.ins 10 []]=.ok .Vb (P3 (AV (calm q (cS u v) .Vb [])) [(.inl 0,.gt ["held"])] yq):=by
  unfold Wq nR;rw[yr,Qz];show Cr (zb _ _ [some (.ref 0),some (.int 1),some (.int 5),some (.lst [Na q u v]),some .Vb,none,none,none] [.ins 10 []])=_;rw[yg];simp only[zO,dS,CF,lJ,Jx,Od,sE,iF,AG,g7,sp,cq,TR,Pg];rw[yg,JE (d:=.int 1) rfl rfl (by simp),Od,Pg];rw[yg,JE (d:=.int 5) rfl rfl (by simp),Od,Pg];rw[yg,JE (d:=.int 0) rfl rfl (by simp),Od,Pg];rw[yg,JE (d:=.int 0) rfl rfl (by simp),Od,Pg];rw[yg,JA rfl rfl,Od,Pg];rw[yg,JA rfl rfl,Od,Pg];rw[yg,JA rfl rfl,Od,Pg];rw[yg,JA rfl rfl,Od,Pg];rw[yg,JA rfl rfl,Od,Pg];rw[yg,JA rfl rfl,Od,Pg];show Cr (zb _ _ [some (.ref 0),some (.int 1),some (.int 5),some (.lst [Na q u v]),some .Vb,none,none,none] (P3 [] [] []))=_;rw[yg];have w:Nz (eT (Ga Dz (da 4) (eC .Vb))) (Gh Ba) (da 4) [some (.ref 0),some (.int 1),some (.int 5),some (.lst [Na q u v]),some .Vb,none,none,none] (P3 [] [] [])=.ok (.lst []) (P3 [] [] []):=by simp
  simp only[zO,XW,Jx,Od,t,CF,w,sE,iF,AG,v7,le,cq,TR,Pg];rw[Sw];simp only[G9,lJ,Jx,Od,h,cq,l];rw[p,WR]
 rw[SS];show kx 0 (Wq [.ref 0,.int 1,.int 5,.lst [Na q u v],.Vb] [.ins 10 []])=_;rw[c,pz]
theorem zla(σ:qb):Oe [.lst [Na q u v]] σ=.ok (.lst [Na q u v]) σ:=by
 have s:df [Na q u v] σ=.ok (.bl true) σ:=by
  have hd:∀ {i:Int},i=1\/i=2->zg [.int i] σ=.ok (.bl true) σ:=fun {i} z=>by
   have b:=bt (i:=i) (a:=0) (b:=3) (by omega) σ;unfold zg BO;simp[b]
  have h1:=hd (.inl rfl);have o:=hd (.inr rfl);have g:=bt hu σ;have h:=bt hv σ;have j:=bt (i:=20) (a:=1) (b:=100) (by omega) σ;have t:Jh (.int 1) (.int 2) σ=.ok (.bl true) σ:=aA (b:=false) (by simp[ij,kd,qo,Sj]);have w:Jh (.int 2) (.int 1) σ=.ok (.bl true) σ:=aA (b:=false) (by simp[ij,kd,qo,Sj]);have p:∀ a b c d e:D,Va (.tup [a,b,c,d,e]) (.int 4) σ=.ok e σ:=λa b c d e=>cN ..;unfold df qQ Na;rcases hq with rfl|rfl<;>simp[h1,o,g,h,j,t,w,p]
 have y:OG [some (.lst [Na q u v]),some (.int 0),some (Na q u v)] σ=.ok (.nx [some (.lst [Na q u v]),some (.int 0),some (Na q u v)]) σ:=by
  unfold OG;generalize Na q u v=P at *;simp[s]
 have r:yp (uv (.lst [Na q u v])) (Gn 2 (Wh (Ld 1) (Wh (Ld 2) Co))) OG 1001 0 [some (.lst [Na q u v]),none,none] σ=.ok (.nx [some (.lst [Na q u v]),some (.int 0),some (Na q u v)]) σ:=by
  rw[iD (k:=1000) (GM (xs:=[Na q u v]) (i:=0) rfl rfl) (ρ1:=[some (.lst [Na q u v]),some (.int 0),some (Na q u v)]) rfl,y,Od,um];exact xB (k:=999) (gR (x:=.lst [Na q u v]) (xs:=[Na q u v]) rfl)
 have l:∀ σ,Kz (.lst [Na q u v]) σ=.ok (uv (.lst [Na q u v])) σ:=λσ=>KP (xs:=[Na q u v]) rfl;have m:∀ (f:D->Ev->Option Ev) (body:Ev->M Fl) (ρ:Ev) (nx:NX),FF f body ρ nx=yp nx f body 1001 0 ρ:=λ_ _ _ _=>rfl;have n:=Xy (xs:=[Na q u v]) (by simp[vD]) σ;have hc:cl (.lst [Na q u v])=true:=by simp[cl,vD]
 unfold Oe gN;generalize D.lst [Na q u v]=L at *;simp[l,m,r,n,hc,-z8]
end
theorem yjq{ds:List D}{n k i:Nat}{fe:Ev->M D}{ug:Ev}{σ a σ2:qb}{o:Option D}{d y:D}(hd:ds[i]?=some d)(h:fe (some d::none::ug) σ=.ok y a)(c:Jn (.ref n) [y] a=.ok .Vb σ2) :
  Gj (Src.seq ds).nx n (Ld 0) Gk fe (k+1) i (o::none::ug) σ=Gj (Src.seq ds).nx n (Ld 0) Gk fe k (i+1) (some d::none::ug) σ2:=by
 rw[Gj];have e:(Src.seq ds).nx i σ=some (some d):=by show some ds[i]?=_;rw[hd]
 have t:Ld 0 d (o::none::ug)=some (some d::none::ug):=rfl;have b:Gk (some d::none::ug) σ=.ok true σ:=rfl;simp only[e,t];rw[zo,dB b,Od,ia rfl,zo,dB h,Od,zo,c,Od]
theorem D8{ds:List D}{n k i:Nat}{fe:Ev->M D}{ρ:Ev}{σ:qb}(hd:ds[i]?=none):Gj (Src.seq ds).nx n (Ld 0) Gk fe (k+1) i ρ σ=.ok () σ:=by
 rw[Gj];have e:(Src.seq ds).nx i σ=some none:=by show some ds[i]?=_;rw[hd]
 simp only[e]
section
variable{M0:qb}(h7:M0.length=7)
include h7
theorem jE(ρ:Ev)(a:List Nat)(f:Str)(d:D)(fs:List (Str × D))(r:qb)(h1:a.contains 15=true)(b:fs.length<1000):tu ρ a f d (.ref 7) (M0++.ins 15 fs::r)=.ok (.nx ρ) (M0++.ins 15 (rj f d fs)::r):=by
 have e:Iy a f d (.ref 7) (M0++.ins 15 fs::r)=.ok () (M0++.ins 15 (rj f d fs)::r):=by
  have g:(M0++Ob.ins 15 fs::r)[7]?=some (.ins 15 fs):=by rw[gd (by omega),h7];rfl
  have g2:(M0++Ob.ins 15 fs::r).set 7 (.ins 15 (rj f d fs))=M0++.ins 15 (rj f d fs)::r:=by rw[Dj _ _ (by omega),h7];rfl
  unfold Iy;simp only[g];rw[ia (by rw[h1];simpa using b),g2]
 unfold tu;rw[e]
theorem yR{P:D}{fe:Ev->M D}{a:D}{fs:List (Str × D)}{r r1:qb}(i:fs.lookup ("pots" : Str)=some (.lst [P]))(h1:fe [some P,none] (M0++.ins 15 fs::(r++[.lst []]))=.ok a (M0++.ins 15 fs::(r++.lst []::r1))) :
  Ym (toN (ri (Yb (Bb [9,15] "pots") (da 0)))) [] (Ld 0) Gk fe [some (.ref 7),some (.lst [P])] (M0++.ins 15 fs::r)=.ok (.ref (8+r.length)) (M0++.ins 15 fs::(r++.lst [a]::r1)):=by
 have g:∀ r,Bb [9,15] "pots" (.ref 7) (M0++.ins 15 fs::r)=.ok (.lst [P]) (M0++.ins 15 fs::r):=λr=>Kj (c:=15) (fs:=fs) (by unfold Hj;dsimp only;rw[gd (by omega),h7];rfl) rfl i;have j:ri (Yb (Bb [9,15] "pots") (da 0)) [some (.ref 7),some (.lst [P])] (M0++.ins 15 fs::r)=.ok (.seq [P]) (M0++.ins 15 fs::r):=by
  have g:=g r;generalize M0++.ins 15 fs::r=Y at *;simp[g]
 have b:(M0++Ob.ins 15 fs::r).length=8+r.length:=by simp;omega
 have f:Jn (.ref (8+r.length)) [a] (M0++.ins 15 fs::(r++.lst []::r1))=.ok .Vb (M0++.ins 15 fs::(r++.lst ([]++[a])::r1)):=by
  have e:Ih (M0++.ins 15 fs::(r++.lst []::r1)) (8+r.length)=some []:=by
   unfold Ih;rw[show M0++Ob.ins 15 fs::(r++.lst []::r1)=(M0++.ins 15 fs::r)++.lst []::r1 by simp,gd (by rw[b];omega),b];simp
  have h:(M0++Ob.ins 15 fs::(r++.lst []::r1)).set (8+r.length) (.lst ([]++[a]))=M0++.ins 15 fs::(r++.lst ([]++[a])::r1):=by
   rw[show M0++Ob.ins 15 fs::(r++.lst []::r1)=(M0++.ins 15 fs::r)++.lst []::r1 by simp,Dj _ _ (by rw[b];omega),b];simp
  unfold Jn;simp only[e];rw[ia (by unfold Wi;simp),h]
 show Wc (Wc (ri (Yb (Bb [9,15] "pots") (da 0)) _) DL) (eF (Ld 0) Gk fe (zv [] _)) (M0++.ins 15 fs::r)=_;rw[zo,zo,j,Od];show Wc (Gj (Src.seq [P]).nx (M0++Ob.ins 15 fs::r).length (Ld 0) Gk fe 1001 0 [none,none]) (λ_=>ret (D.ref (M0++Ob.ins 15 fs::r).length)) (M0++.ins 15 fs::r++[.lst []])=_;rw[b,zo,show M0++Ob.ins 15 fs::r++[.lst []]=M0++.ins 15 fs::(r++[.lst []]) by simp,yjq (d:=P) rfl h1 f,D8 rfl,Od];rfl
end
theorem MX{q u v:Int}(hq:q=0\/q=1)(k:0<=u/\u<=1000000000000)(l:0<=v/\v<=1000000000000){M0:qb}(b:M0.length=7):Wl 15 2 Nq [.lst [Na q u v]] M0=.ok (.ref 7) (M0++.ins 15 (mu (Na q u v))::[.lst [Bk.held.D (u+v)],.lst [.ref 10],.Ma []]):=by
 have f:=λσ=>zla hq k l σ;have m:=λσ=>nJ q u v σ;have h1:=λσ=>YY (u+v) σ;have fe:∀ (σ:qb),Mg (lq 12 2 fo (ja (md 1 ge [] (ja (da 0) Ba)) Ba)) [some (Na q u v),none] σ=.ok (Bk.held.D (u+v)) σ:=λσ=>by
  have h1:=h1 σ;generalize Na q u v=P,Bk.held.D (u+v)=O at *;simp[m,h1,-rF]
 have c:=yR b (P:=Na q u v) (fe:=Mg (lq 12 2 fo (ja (md 1 ge [] (ja (da 0) Ba)) Ba))) (fs:=[("pots",.lst [Na q u v]),("day",.int 0)]) (r:=[]) (r1:=[]) rfl (fe _);have e:=yR b (P:=Na q u v) (fe:=Xr) (a:=.ref 10) (fs:=[("pots",.lst [Na q u v]),("day",.int 0),("claims",.ref 8)]) (r:=[.lst [Bk.held.D (u+v)]]) (r1:=[.Ma []]) rfl (by rw[uR];simp[b]);rw[rF,b];have d:Nq [.ref 7,.lst [Na q u v]] (M0++[.ins 15 []])=.ok .Vb (M0++.ins 15 (mu (Na q u v))::[.lst [Bk.held.D (u+v)],.lst [.ref 10],.Ma []]):=by
  unfold Nq IP mu;rw[yr,Qz];show Cr (zb _ _ [some (.ref 7),some (.lst [Na q u v])] (M0++.ins 15 []::[]))=_;generalize D.lst [Na q u v]=L at *;have g:rj "pots" L []=([("pots",L)]:List (Str × D)):=rfl;have h:rj "day" (.int 0) [("pots",L)]=([("pots",L),("day",.int 0)]:List (Str × D)):=rfl;have i:rj "claims" (.ref 8) [("pots",L),("day",.int 0)]=([("pots",L),("day",.int 0),("claims",.ref 8)]:List (Str × D)):=rfl;have j:rj "shown" (.ref 9) [("pots",L),("day",.int 0),("claims",.ref 8)]=([("pots",L),("day",.int 0),("claims",.ref 8),("shown",.ref 9)]:List (Str × D)):=rfl;rw[yg];simp only[yA,dS,CF,lJ,Jx,Od,sE,iF,AG,G8,f,cq,KA];rw[jE b _ _ _ _ _ _ rfl (by decide),g,Od,Pg,yg];simp only[yA,mQ,Jx,cq,KA];rw[jE b _ _ _ _ _ _ rfl (by simp),h,Od,Pg,yg];rw[yA,c,cq,KA,Jx,cq];show Cr ((tu _ _ "claims" (.ref 8) (.ref 7) (M0++.ins 15 _::[.lst [Bk.held.D (u+v)]])).bind _)=_;rw[jE b _ _ _ _ _ _ rfl (by simp),i,Od,Pg];rw[yA,e,cq,KA,Jx,cq];show Cr (tu _ _ "shown" (.ref 9) (.ref 7) (M0++.ins 15 _::[.lst [Bk.held.D (u+v)],.lst [.ref 10],.Ma []]))=_;rw[jE b _ _ _ _ _ _ rfl (by simp),j,WR]
 rw[d,pz]
section
variable{k:Bool}{a:Ac}{q u v:Int}{j:Nat}(h:St q u v j a){C:Cm}{f:Bool}{J:qb}
include h
theorem tJ{b:Bk}(hb:Jv (lm b))(e:∀ σ,Fc [a.D,(lm b).D] σ=.ok (.bl false) σ)(g:(f && (lm b).held)=false):∃ d,Wa [.ref 0,.ref 7] (SA k a C f (Na q u v) (b.D (u+v)) J)=.ok (.lst []) (SA k a (lm b) f (Na q u v) (b.D (u+v)) d):=by
 have i:=gT (k:=k) h.ok (C:=lm b) (f:=f) (B:=b.D (u+v)) (J:=J) (vD q u v) (λσ=>(aw q u v σ).2.2) e;have c:=uN (k:=k) h.ok (C:=lm b) (f:=f) (P:=Na q u v) (B:=b.D (u+v)) (J:=J++[.lst []]) g;rw[show (S2 k (.Ma (AV a)) (lm b) f (Na q u v) (b.D (u+v)) (J++[.lst []])).length=J.length+12 by show (J++[Ob.lst []]).length+11=_;simp]at c;exact⟨J++[Ob.lst []]++[Ob.lst []],tK (C:=C) h.ok hb (by simp) (by simp) i c⟩
variable(hu:0<=u/\u<=1000000000000)(hv:0<=v/\v<=1000000000000)
include hu hv
theorem QZ:∃ g,Wa [.ref 0,.ref 7] (SA k a C true (Na q u v) (Bk.held.D (u+v)) J)=.ok (.lst [.tup [.str "lay",.int 0]]) (SA k a (.laid q a.m) true (Na q u v) ((Bk.laid q a.m).D (u+v)) g):=by
 have i:=gT (k:=k) h.ok (C:=.ht) (f:=true) (B:=Bk.held.D (u+v)) (J:=J) (vD q u v) (λc=>(aw q u v c).2.2) (λc=>zH _ (.inl rfl) c);have hG:=h.hG;rw[<-h.hq]at hG;have d:=L6 (k:=k) h.ok (C:=.ht) (J:=J++[.lst []]) (q:=q) hu hv h.hm hG rfl;rw[show (J++[Ob.lst []]).length+11=J.length+12 by simp,h.hq]at d;exact⟨J++[Ob.lst []]++[Ob.lst [.tup [.str "lay",.int 0]]],tK (C:=C) (b:=.held) h.ok (λs e=>by cases e) (by simp) (by simp) i d⟩
omit hu hv
theorem TW{x:Sn}(j:x.Ok (u+v))(i:∀ σ,Qx false (.int x.n) (.lst a.L) σ=.ok (.bl true) σ):∃ g,Wa [.ref 0,.ref 7] (SA k a C f (Na q u v) ((Bk.laid (1 - q) x).D (u+v)) J)=.ok (.lst [.tup [.str "strike",.int 0]]) (SA k a (.taken q) f (Na q u v) ((Bk.taken q).D (u+v)) g):=by
 have d:=PY (k:=k) h.ok (f:=f) (J:=J) (q:=q) j (λσ=>ZR h.ok i σ);rw[h.hq]at d;have c:=uN (k:=k) h.ok (C:=.taken q) (f:=f) (P:=Na q u v) (B:=(Bk.taken q).D (u+v)) (J:=J++[.lst [.tup [.str "strike",.int 0]]]) (by cases f<;>rfl);rw[show (S2 k (.Ma (AV a)) (.taken q) f (Na q u v) ((Bk.taken q).D (u+v)) (J++[.lst [.tup [.str "strike",.int 0]]])).length=J.length+12 by show (J++[Ob.lst _]).length+11=_;simp]at c;exact⟨J++[Ob.lst [.tup [.str "strike",.int 0]]]++[Ob.lst []],tK (C:=C) (b:=.laid (1 - q) x) h.ok (λs e=>by cases e;rw[<-h.hq];exact h.ok.q) (by simp) (by simp) d c⟩
end
def CD(u v:Int):D:=.tup [.int u,.int v]
theorem ut{k:Bool}{a:Ac}{C:Cm}{f:Bool}{P B:D}{J:qb}(n:Nat)(fn:List D->M D)(m:Str)(hm:Ss.lookup m=none)(fs:M (List D)):Ak [(10,fn)] n m fs (.ref 0) (SA k a C f P B J)=(fs (SA k a C f P B J)).bind (si n fn (.ref 0)):=jk (cr ..) n fn fs hm
theorem EG{k:Bool}{a:Ac}{C:Cm}{f:Bool}{P B:D}{J:qb}(n:Nat)(fn:List D->M D)(m:Str)(hm:(mu P).lookup m=none)(fs:M (List D)):Ak [(15,fn)] n m fs (.ref 7) (SA k a C f P B J)=(fs (SA k a C f P B J)).bind (si n fn (.ref 7)):=Wt n fn fs hm
theorem O5{k:Bool}{a:Ac}{q u v:Int}{j:Nat}(h:St q u v j a)(hj:0<j){C:Cm}{J:qb}(p:0<=u/\u<=1000000000000)(r:0<=v/\v<=1000000000000):∃ d,Df [.ref 0,.ref 7,.int q,CD u v] (SA k a C false (Na q u v) (Bk.held.D (u+v)) J)=.ok (.bl true) (SA k a (.taken q) false (Na q u v) ((Bk.taken q).D (u+v)) d):=by
 have hq:q=0\/q=1:=by rw[<-h.hq];exact h.ok.q
 have g:(cS u v).Ok (u+v):=⟨by show (0:Int)<=0/\(0:Int)<=100;omega,by show 0<=u/\u<=_;omega,by show 0<=v/\v<=_;omega,rfl⟩
 have A:qd [.ref 7,.int 0,.int (1 - q),(cS u v).D,.Vb] (SA k a C false (Na q u v) (Bk.held.D (u+v)) J)=.ok .Vb (SA k a C false (Na q u v) ((Bk.laid (1 - q) (cS u v)).D (u+v)) J):=ZJ (o:=.Ma (AV a)) (by omega) g p r (.inl rfl);obtain⟨d,E⟩:=TW (k:=k) h (C:=C) (f:=false) (J:=J) g (λσ=>by
  rw[h.hL];exact(sN h.hj (m:=0) σ).2 hj)
 refine⟨d,?_⟩;have H:=λfs=>EG (k:=k) (a:=a) (C:=C) (f:=false) (P:=Na q u v) (B:=Bk.held.D (u+v)) (J:=J) 4 (λl=>qd (l++[.Vb])) "lay" rfl fs;have G:=λfs=>ut (k:=k) (a:=a) (C:=C) (f:=false) (P:=Na q u v) (B:=(Bk.laid (1 - q) (cS u v)).D (u+v)) (J:=J) 2 Wa "look" rfl fs;have I:=λfs=>EG (k:=k) (a:=a) (C:=.taken q) (f:=false) (P:=Na q u v) (B:=(Bk.taken q).D (u+v)) (J:=d) 2 Kc "told" rfl fs;have O:Kc [.ref 7,.int 0] (SA k a (.taken q) false (Na q u v) ((Bk.taken q).D (u+v)) d)=.ok (.tup [.str "taken",.int q]) (SA k a (.taken q) false (Na q u v) ((Bk.taken q).D (u+v)) d):=pL (o:=.Ma (AV a)) (u+v) (.taken q);have kw:=CI (k:=k) (C:=.taken q) (λs e=>by cases e;exact hq) h.ok (f:=false) (P:=Na q u v) (B:=(Bk.taken q).D (u+v)) (J:=d);have n:W a (.taken q)=u+v:=by
  have t:=h.hm.w;show Dx a.q [Ht q (a.m.a+a.m.b)]=_;rw[NH,h.hq,t];unfold ow Ht;rcases hq with rfl|rfl<;>simp
 rw[n]at kw;have K:=λfs=>ut (k:=k) (a:=a) (C:=.taken q) (f:=false) (P:=Na q u v) (B:=(Bk.taken q).D (u+v)) (J:=d) 1 lc "worth" rfl fs;have i:D.tup [.int 0,CD u v,.tup []]=(cS u v).D:=rfl;have y:∀ σ,Va (CD u v) (.int 0) σ=.ok (.int u) σ:=λσ=>by unfold CD;simp
 have z:∀ σ,Va (CD u v) (.int 1) σ=.ok (.int v) σ:=λσ=>by unfold CD;simp
 have L:∀ σ,Jh (.lst [.tup [.str "strike",.int 0]]) (.lst [.tup [.str "strike",.int 0]]) σ=.ok (.bl false) σ:=λσ=>Rs (by simp[pl]);have N:∀ σ,Jh (.tup [.str "taken",.int q]) (.tup [.str "taken",.int q]) σ=.ok (.bl false) σ:=λσ=>Rs (by simp[pl]);have F:∀ (fn:List D->M D) (x a b c:D) σ,si 4 fn x [a,b,c] σ=fn [x,a,b,c] σ:=λfn x a b c σ=>iw rfl;unfold Df OP oO xT EO;generalize CD u v=Q,(cS u v).D=R,SA k a C false (Na q u v) (Bk.held.D (u+v)) J=Y,SA k a C false (Na q u v) ((Bk.laid (1 - q) (cS u v)).D (u+v)) J=S,SA k a (.taken q) false (Na q u v) ((Bk.taken q).D (u+v)) d=T at *;simp[A,E,H,G,I,O,kw,K,i,y,z,L,N,F]
def pv(ns:List Int)(k:Nat):Int:=ns.getD k 0
theorem lR(ns:List Int)(k:Int)(a:0<=k)(σ:qb):Pb [.Qg ns,.int k] σ=.ok (.int (pv ns k.toNat)) σ:=by
 unfold Pb uQ pv;by_cases h:k<ns.length
 ·simp[h,Z2 a h]
 ·have e:ns.length<=k.toNat:=by omega
  simp[h,List.getElem?_eq_none e]
def Do:List D->Nat->Ev
 |_,0=>[]
 |[],n+1=>none::Do [] n
 |d::l,n+1=>some d::Do l n
theorem pw(σ:qb):qw (.int 10) (.int 12) σ=.ok (.int 1000000000000) σ:=dF (by simp[Ez])
abbrev en(ns:List Int)(c0 q u v i:Int)(a:Option D):Ev:=[some (.Qg ns),some (.int c0),some (.int q),some (CD u v),some (Na q u v),some (.ref 0),some (.ref 7),some (.int i),a,none,none,none,none,none,none]
abbrev Ut:Ev->M Fl:=zb rE (zb OE YA)
theorem qE{ns:List Int}{c0 q u v:Int}(hq:q=0\/q=1)(Q:u+v<=2000000000000){i:Nat}(hi:i<=2){m:Sn}{G:D}(A:Hv q u v i m G){cb:Bool}(g:(decide ((i:Int)<c0 / 2 % 4 - 1) || decide (c0 / 8 % 3 > 0))=cb)(R:Option D)(B:D):∃ nh K j,Wy q u v j K/\j<=3/\(cb=true->j=i+1/\∃ m' T,K=.c m' T)/\Ut (en ns c0 q u v i R) (SA false (acc q i (.c m G)) .hg false (Na q u v) B [])=.ok (.nx (en ns c0 q u v i (some nh))) (SA false (acc q j K) .hg false (Na q u v) B []):=by
 have c:=λσ=>lR ns (3+i) (by omega) σ;generalize pv ns (3+(i:Int)).toNat=y at *;have hn:=A.n;obtain⟨no,nl⟩:=rL hq Q A.ok (by omega) (x:=y % 1000000000000) (by omega);generalize ex:nw q m (y % 1000000000000)=nh at *;have nn:nh.n=m.n+1:=by rw[<-ex];rfl
 have d:Wy q u v i (.c m G):=A;have O:=(HA hq (by omega) d).ok;have W:=MC (k:=false) (C:=.hg) (f:=false) (P:=Na q u v) (B:=B) (J:=[]) O;have ma:=λfs=>ut (k:=false) (a:=acc q i (.c m G)) (C:=.hg) (f:=false) (P:=Na q u v) (B:=B) (J:=[]) 2 eb "account" rfl fs;have mt:=λfs=>ut (k:=false) (a:=acc q i (.c m G)) (C:=.hg) (f:=false) (P:=Na q u v) (B:=B) (J:=[]) 2 La "take" rfl fs;have mi:∀ σ,Bb [5,6,7,8] "mine" (acc q i (.c m G)).D σ=.ok m.D σ:=λσ=>Zu O σ;have ne:=λσ=>sS hq m (y % 1000000000000) σ;rw[ex]at ne;have fi:=λσ=>bI hq (by omega) d (nh:=nh) σ;obtain⟨⟨X,F⟩,b⟩:=xK hq (by omega) d no nn nl (k:=false) (C:=.hg) (.inl rfl) (f:=false) (P:=Na q u v) (B:=B) (J:=[]);have b:Wy q u v i (.h m nh G):=b;have F:La [.ref 0,lt q nh (.c m G)] (SA false (acc q i (.c m G)) .hg false (Na q u v) B [])=.ok X (SA false (acc q i (.h m nh G)) .hg false (Na q u v) B []):=F;have V:=(HA hq (by omega) b).ok;have l:=MC (k:=false) (C:=.hg) (f:=false) (P:=Na q u v) (B:=B) (J:=[]) V;have r:=λfs=>ut (k:=false) (a:=acc q i (.h m nh G)) (C:=.hg) (f:=false) (P:=Na q u v) (B:=B) (J:=[]) 2 eb "account" rfl fs;have s:=λfs=>ut (k:=false) (a:=acc q i (.h m nh G)) (C:=.hg) (f:=false) (P:=Na q u v) (B:=B) (J:=[]) 2 La "take" rfl fs;have p:=λσ=>bI hq (by omega) b (nh:=nh) σ;have t:(nw q nh 0).Ok (u+v)/\ow q nh<=ow q (nw q nh 0):=rL hq Q no (by omega) (by omega);have E:∀ z,lt q z (.h m nh G)=lt q nh (.h m nh G):=λ_=>rfl;obtain⟨⟨Z,w⟩,e⟩:=xK hq (by omega) b (nh:=nw q nh 0) t.1 rfl t.2 (k:=false) (C:=.hg) (.inl rfl) (f:=false) (P:=Na q u v) (B:=B) (J:=[]);rw[E]at w;have e:Wy q u v (i+1) (.c nh (Jf (1 - q) nh.D)):=e;have w:La [.ref 0,lt q nh (.h m nh G)] (SA false (acc q i (.h m nh G)) .hg false (Na q u v) B [])=.ok Z (SA false (acc q (i+1) (.c nh (Jf (1 - q) nh.D))) .hg false (Na q u v) B []):=w;have o:∀ H:Ev->M Fl,zb rE (zb OE H) (en ns c0 q u v i R) (SA false (acc q i (.c m G)) .hg false (Na q u v) B [])=H (en ns c0 q u v i (some nh.D)) (SA false (acc q i (.h m nh G)) .hg false (Na q u v) B []):=λH=>by
  unfold rE OE;generalize nh.D=L,m.D=MD,lt q nh (.c m G)=U,(acc q i (.c m G)).D=S,SA false (acc q i (.c m G)) .hg false (Na q u v) B []=Y,SA false (acc q i (.h m nh G)) .hg false (Na q u v) B []=N at *;simp[c,pw,W,ma,mt,mi,ne,fi,F]
 cases cb with
 |true=>
  refine⟨nh.D,_,i+1,e,by omega,λ_=>⟨rfl,_,_,rfl⟩,?_⟩;unfold Ut;rw[o];have I:YA (en ns c0 q u v i (some nh.D)) (SA false (acc q i (.h m nh G)) .hg false (Na q u v) B [])=.ok (.nx (en ns c0 q u v i (some nh.D))) (SA false (acc q (i+1) (.c nh (Jf (1 - q) nh.D))) .hg false (Na q u v) B []):=by
   unfold YA;generalize nh.D=L,lt q nh (.h m nh G)=U,(acc q i (.h m nh G)).D=S,SA false (acc q i (.h m nh G)) .hg false (Na q u v) B []=N,SA false (acc q (i+1) (.c nh (Jf (1 - q) nh.D))) .hg false (Na q u v) B []=Y3 at *;cases h1:decide ((i:Int)<c0 / 2 % 4 - 1)
   ·have h2:decide (c0 / 8 % 3 > 0)=true:=by rw[h1]at g;simpa using g
    simp[h1,h2,l,r,s,p,w]
   ·simp[h1,l,r,s,p,w]
  exact I
 |false=>
  refine⟨nh.D,_,i,b,by omega,(λz=>by cases z),?_⟩;unfold Ut;rw[o];have hb:=Bool.or_eq_false_iff.mp g;have I:YA (en ns c0 q u v i (some nh.D)) (SA false (acc q i (.h m nh G)) .hg false (Na q u v) B [])=.ok (.nx (en ns c0 q u v i (some nh.D))) (SA false (acc q i (.h m nh G)) .hg false (Na q u v) B []):=by
   unfold YA;generalize nh.D=L,SA false (acc q i (.h m nh G)) .hg false (Na q u v) B []=N at *;simp[hb.1,hb.2]
  exact I
@[simp] theorem yf2(dds:List D)(fs:Ev->M (List D))(ρ:Ev)(σ:qb):kB dds fs ρ σ=(fs ρ σ).bind (NF dds):=nr rfl
@[simp] theorem yg2(dds ds:List D)(σ:qb):NF dds ds σ=.ok (ds++dds) σ:=nr rfl
theorem m8{ns:List Int}{c0 q u v:Int}(hq:q=0\/q=1)(l:u+v<=2000000000000){m:Sn}{G:D}(e:Hv q u v 0 m G)(B:D):∃ x7 d K j,Wy q u v j K/\j<=3/\aq (Rx (Ga lr (Ga Fw (da 1) (eC (.int 2))) (eC (.int 4)))) (Ld 7) Ut [some (.Qg ns),some (.int c0),some (.int q),some (CD u v),some (Na q u v),some (.ref 0),some (.ref 7),none,none,none,none,none,none,none,none] (SA false (acc q 0 (.c m G)) .hg false (Na q u v) B [])=.ok (.nx [some (.Qg ns),some (.int c0),some (.int q),some (CD u v),some (Na q u v),some (.ref 0),some (.ref 7),x7,d,none,none,none,none,none,none]) (SA false (acc q j K) .hg false (Na q u v) B []):=by
 have h:∀ (i:Int) (x7 d:Option D) (r:List D) σ,Lk (Ld 7) Ut (.int i::r) [some (.Qg ns),some (.int c0),some (.int q),some (CD u v),some (Na q u v),some (.ref 0),some (.ref 7),x7,d,none,none,none,none,none,none] σ=(Ut (en ns c0 q u v i d) σ).bind (dw (Lk (Ld 7) Ut r)):=λi x7 d r σ=>by
  rw[jr];simp only[Ya,Za]
 have a:∀ {i:Nat} (x:i<=2) {m:Sn} {G:D} (e:Hv q u v i m G) (hc:(i:Int)<c0 / 2 % 4 - 1) (d:Option D),∃ b o k,Hv q u v (i+1) o k/\Ut (en ns c0 q u v i d) (SA false (acc q i (.c m G)) .hg false (Na q u v) B [])=.ok (.nx (en ns c0 q u v i (some b))) (SA false (acc q (i+1) (.c o k)) .hg false (Na q u v) B []):=fun {i} x {m G} e hc d=>by
  obtain⟨b,K,j,h1,g,h3,h4⟩:=qE (ns:=ns) (c0:=c0) hq l x e (cb:=true) (by rw[bj hc];rfl) d B;obtain⟨rfl,o,k,rfl⟩:=h3 rfl;exact⟨b,o,k,h1,h4⟩
 have I:∀ (n:Nat) σ,c0 / 2 % 4=n->n<=3->Rx (Ga lr (Ga Fw (da 1) (eC (.int 2))) (eC (.int 4))) [some (.Qg ns),some (.int c0),some (.int q),some (CD u v),some (Na q u v),some (.ref 0),some (.ref 7),none,none,none,none,none,none,none,none] σ=.ok (.seq ((List.range n).map λ(i:Nat)=>.int i)) σ:=λn σ hn y=>by
  have H:Vz (.int n) σ=.ok (.seq ((List.range n).map λ(i:Nat)=>.int i)) σ:=by rw[qS (by omega) (by omega)];rfl
  have F:lr (.int (c0 / 2)) (.int 4) σ=.ok (.int n) σ:=by rw[YT _ _ (by omega),hn]
  simp[F,H]
 obtain⟨n,hn,y⟩:∃ n:Nat,c0 / 2 % 4=n/\n<=3:=⟨(c0 / 2 % 4).toNat,by omega,by omega⟩
 rw[UG,I n _ hn y,cq,gE];have t:n=0\/n=1\/n=2\/n=3:=by omega
 rcases t with rfl|rfl|rfl|rfl
 ·exact⟨none,none,.c m G,0,e,by omega,by show Lk _ _ [] _ _=_;rw[Hw]⟩
 ·obtain⟨b,K,j,h1,g,h3,h4⟩:=qE (ns:=ns) (c0:=c0) hq l (i:=0) (by omega) e rfl none B;refine⟨some (.int ((0:Nat):Int)),some b,K,j,h1,g,?_⟩;show Lk (Ld 7) Ut [.int ((0:Nat):Int)] _ _=_;rw[h,h4,Od,um,Hw]
 ·obtain⟨w,C,z,f,p⟩:=a (i:=0) (by omega) e (by omega) none;obtain⟨b,K,j,h1,g,h3,h4⟩:=qE (ns:=ns) (c0:=c0) hq l (i:=1) (by omega) f rfl (some w) B;refine⟨some (.int ((1:Nat):Int)),some b,K,j,h1,g,?_⟩;show Lk (Ld 7) Ut [.int ((0:Nat):Int),.int ((1:Nat):Int)] _ _=_;rw[h,p,Od,um,h,h4,Od,um,Hw]
 ·obtain⟨w,C,z,f,p⟩:=a (i:=0) (by omega) e (by omega) none;obtain⟨E,L,J,s,A⟩:=a (i:=1) (by omega) f (by omega) (some w);obtain⟨b,K,j,h1,g,h3,h4⟩:=qE (ns:=ns) (c0:=c0) hq l (i:=2) (by omega) s rfl (some E) B;refine⟨some (.int ((2:Nat):Int)),some b,K,j,h1,g,?_⟩;show Lk (Ld 7) Ut [.int ((0:Nat):Int),.int ((1:Nat):Int),.int ((2:Nat):Int)] _ _=_;rw[h,p,Od,um,h,A,Od,um,h,h4,Od,um,Hw]
abbrev eo(ns:List Int)(c0 q u v:Int)(x7:Option D)(r:List (Option D)):Ev:=some (.Qg ns)::some (.int c0)::some (.int q)::some (CD u v)::some (Na q u v)::some (.ref 0)::some (.ref 7)::x7::r
theorem D6{a:Ac}(d:a.Ok)(c0:Int):∃ x∈a.y,(∀ σ,lr (.int (c0 / 96)) (.int a.y.length) σ=.ok (.int (c0 / 96 % a.y.length)) σ)/\∀ σ,Va (.lst (a.y.map Sn.D)) (.int (c0 / 96 % a.y.length)) σ=.ok x.D σ:=by
 have g:0<a.y.length:=by rcases d.y with⟨s,h⟩|⟨s,t,h⟩<;>rw[h]<;>simp
 have h1:=Int.emod_nonneg (c0 / 96) (b:=a.y.length) (by omega);have f:=Int.emod_lt_of_pos (c0 / 96) (b:=a.y.length) (by omega);obtain⟨i,e⟩:∃ i:Nat,c0 / 96 % a.y.length=i:=⟨_,(Int.toNat_of_nonneg h1).symm⟩
 have c:i<a.y.length:=by omega
 refine⟨a.y[i],yn c,λσ=>YT _ _ (by omega),λσ=>?_⟩;rw[e];exact jB (Ps (by rw[Eb,vc c];rfl))
section
variable{ns:List Int}{c0 q u v:Int}{x7:Option D}{a:Ac}{j:Nat}(h:St q u v j a)(hu:0<=u/\u<=1000000000000)(hv:0<=v/\v<=1000000000000){nh:Sn}(hn:nh.Ok (u+v)){X:D}{n:Str}(hl:∀ σ,Kb [X] σ=.ok (.bl true) σ)(i0:∀ σ,Va X (.int 0) σ=.ok (.str n) σ)(i1:∀ σ,Va X (.int 1) σ=.ok (.int 0) σ)(kn:(n == ("word" : Str))=false)
include h hu hv hn hl i0 i1 kn
theorem LZ:∃ J',IA (eo ns c0 q u v x7 [some nh.D,some a.D,some X,some (.int 0),some (.int a.m.n),none,none]) (SA false a .hg false (Na q u v) (Bk.held.D (u+v)) [])=.ok (.rt (.bl true)) J':=by
 have w:=G6 (k:=false) (a:=a) (P:=Na q u v) (B:=Bk.held.D (u+v)) (J:=[]) (C:=.hg) rfl;obtain⟨J',c⟩:=QZ (k:=false) h (C:=.hg) (J:=[]) hu hv;have t:Kc [.ref 7,.int 0] (SA false a (.laid q a.m) true (Na q u v) ((Bk.laid q a.m).D (u+v)) J')=.ok (.tup [.str "laid",.int q,a.m.D,.int 0]) (SA false a (.laid q a.m) true (Na q u v) ((Bk.laid q a.m).D (u+v)) J'):=pL (o:=.Ma (AV a)) (u+v) (.laid q a.m);have r:=lI (k:=false) (C:=.laid q a.m) (λs e=>by cases e) (f:=true) (P:=Na q u v) (B:=(Bk.laid q a.m).D (u+v)) (J:=J') h rfl hn hl i0 i1 kn (N:=a.m.n) (by have:=h.hm.n;omega);have j:=λfs=>ut (k:=false) (a:=a) (C:=.hg) (f:=false) (P:=Na q u v) (B:=Bk.held.D (u+v)) (J:=[]) 2 Gc "wish" rfl fs;have g:=λfs=>ut (k:=false) (a:=a) (C:=.hg) (f:=true) (P:=Na q u v) (B:=Bk.held.D (u+v)) (J:=[]) 2 Wa "look" rfl fs;have i:=λfs=>EG (k:=false) (a:=a) (C:=.laid q a.m) (f:=true) (P:=Na q u v) (B:=(Bk.laid q a.m).D (u+v)) (J:=J') 2 Kc "told" rfl fs;have d:=λσ=>Zu h.ok σ;have l:∀ σ,Jh (.tup [.bl true,.lst []]) (.tup [.bl true,.lst []]) σ=.ok (.bl false) σ:=λσ=>Rs (by simp[pl]);have p:∀ σ,Jh (.lst [.tup [.str "lay",.int 0]]) (.lst [.tup [.str "lay",.int 0]]) σ=.ok (.bl false) σ:=λσ=>Rs (by simp[pl]);have b:∀ σ,oEq (.tup [.str "laid",.int q,a.m.D,.int 0]) (.tup [.str "laid",.int q,a.m.D,.int 0]) σ=.ok (.bl true) σ:=λσ=>Dy (by simp[pl,Sn.D]);refine⟨SA true a (.laid q a.m) true (Na q u v) ((Bk.laid q a.m).D (u+v)) J',?_⟩;unfold IA eo;generalize Na q u v=E,CD u v=y,nh.D=A,a.m.D=z,a.D=x,SA false a .hg false (Na q u v) (Bk.held.D (u+v)) []=Y,SA false a .hg true (Na q u v) (Bk.held.D (u+v)) []=F,SA false a (.laid q a.m) true (Na q u v) ((Bk.laid q a.m).D (u+v)) J'=G,SA true a (.laid q a.m) true (Na q u v) ((Bk.laid q a.m).D (u+v)) J'=H at *;simp[w,c,t,r,j,g,i,d,l,p,b]
theorem t8(hj:0<j):∃ J',nB (eo ns c0 q u v x7 [some nh.D,some a.D,some X,some (.int 3),some (.int a.m.n),none,none]) (SA false a .hg false (Na q u v) (Bk.held.D (u+v)) [])=.ok (.rt (.bl true)) J':=by
 have hq:q=0\/q=1:=by rw[<-h.hq];exact h.ok.q
 have l:Jv (.taken q):=λs e=>by cases e;exact hq
 obtain⟨c,w⟩:=O5 (k:=false) h hj (C:=.hg) (J:=[]) hu hv;have r:=lI (k:=false) (C:=.taken q) l (f:=false) (P:=Na q u v) (B:=(Bk.taken q).D (u+v)) (J:=c) h rfl hn hl i0 i1 kn (N:=a.m.n) (by have:=h.hm.n;omega);obtain⟨d,g⟩:=tJ (k:=true) h (C:=.taken q) (f:=false) (J:=c) (b:=.taken q) l (λσ=>zH _ (.inr ⟨q,rfl⟩) σ) rfl;have p:=λfs=>ut (k:=true) (a:=a) (C:=.taken q) (f:=false) (P:=Na q u v) (B:=(Bk.taken q).D (u+v)) (J:=c) 2 Wa "look" rfl fs;have t:=λσ=>sy h.ok σ;have ne:∀ σ,Jh (.lst a.L) (.lst []) σ=.ok (.bl true) σ:=λσ=>by
  rw[h.hL];obtain⟨i,rfl⟩:∃ i,j=i+1:=⟨j - 1,by omega⟩
  have:Ls (i+1)=.int 0::(List.range i).map λ(i:Nat)=>.int ((i+1:Nat):Int):=by
   unfold Ls;rw[cj,Sa,HB];rfl
  rw[this];exact aA (b:=false) (by simp[ij,kd,qo,Zo])
 have o:∀ σ,oEq (.lst []) (.lst []) σ=.ok (.bl true) σ:=λσ=>Dy (by simp[pl]);refine⟨SA true a (.taken q) false (Na q u v) ((Bk.taken q).D (u+v)) d,?_⟩;replace g:Wa [.ref 0,.ref 7] (SA true a (.taken q) false (Na q u v) ((Bk.taken q).D (u+v)) c)=.ok (.lst []) (SA true a (.taken q) false (Na q u v) ((Bk.taken q).D (u+v)) d):=g;unfold nB eo;generalize Na q u v=E,CD u v=y,nh.D=A,a.L=z,a.D=x,SA false a .hg false (Na q u v) (Bk.held.D (u+v)) []=Y,SA false a (.taken q) false (Na q u v) ((Bk.taken q).D (u+v)) c=F,SA true a (.taken q) false (Na q u v) ((Bk.taken q).D (u+v)) c=G,SA true a (.taken q) false (Na q u v) ((Bk.taken q).D (u+v)) d=H at *;simp[w,r,g,p,t,ne,o]
omit hl i0 i1 kn
theorem NO(w:Int)(C:Cm)(J:qb):∃ x,x∈a.y/\∀ e:Ev->M Fl,zb fF (zb RG e) (eo ns c0 q u v x7 [some nh.D,some a.D,some X,some (.int w),some (.int a.m.n),none,none]) (SA false a C false (Na q u v) (Bk.held.D (u+v)) J)=e (eo ns c0 q u v x7 [some nh.D,some a.D,some X,some (.int w),some (.int a.m.n),some x.D,none]) (SA false a C false (Na q u v) ((Bk.laid (1 - q) x).D (u+v)) J):=by
 have hq:q=0\/q=1:=by rw[<-h.hq];exact h.ok.q
 obtain⟨x,g,z,j⟩:=D6 h.ok c0;have t:=λσ=>mz h.ok σ;have p:∀ σ,Zk [.lst (a.y.map Sn.D)] σ=.ok (.int (a.y.length:Int)) σ:=λσ=>by simp
 have l:qd [.ref 7,.int 0,.int (1 - q),x.D,Jf q x.D] (SA false a C false (Na q u v) (Bk.held.D (u+v)) J)=.ok .Vb (SA false a C false (Na q u v) ((Bk.laid (1 - q) x).D (u+v)) J):=ZJ (o:=.Ma (AV a)) (by omega) (h.hy x g).1 hu hv (.inr (by rw[show 1 - (1 - q)=q by omega]));have s:=λfs=>EG (k:=false) (a:=a) (C:=C) (f:=false) (P:=Na q u v) (B:=Bk.held.D (u+v)) (J:=J) 5 qd "lay" rfl fs;have r:∀ (fn:List D->M D) (x a b c d:D) σ,si 5 fn x [a,b,c,d] σ=fn [x,a,b,c,d] σ:=λfn x a b c d σ=>iw rfl;have i:D.tup [.str "agree",.int 0,.int q,x.D]=Jf q x.D:=rfl;refine⟨x,g,λe=>?_⟩;unfold fF RG eo;generalize Na q u v=H,CD u v=F,nh.D=G,x.D=I,Jf q x.D=E,a.y.map Sn.D=L,a.D=A,SA false a C false (Na q u v) (Bk.held.D (u+v)) J=Y,SA false a C false (Na q u v) ((Bk.laid (1 - q) x).D (u+v)) J=K at *;simp[z,j,t,p,l,s,r,i]
include hl i0 i1 kn
theorem U0{w:Int}(i:w=1\/w=3){x:Sn}(j:x∈a.y)(J:qb):∃ J',yB (eo ns c0 q u v x7 [some nh.D,some a.D,some X,some (.int w),some (.int a.m.n),some x.D,none]) (SA false a .hg false (Na q u v) ((Bk.laid (1 - q) x).D (u+v)) J)=.ok (.rt (.bl true)) J':=by
 have hy:=h.hy x j;obtain⟨c,d⟩:=tJ (k:=false) h (C:=.hg) (f:=false) (J:=J) (b:=.laid (1 - q) x) (λs e=>by cases e) (λσ=>by
  show Fc [a.D,(Cm.laid (1 - q) x).D] σ=_;rw[<-h.hq];exact ZR h.ok (λσ=>by rw[h.hL];exact(sN h.hj σ).1 hy.2) σ) rfl
 replace d:Wa [.ref 0,.ref 7] (SA false a .hg false (Na q u v) ((Bk.laid (1 - q) x).D (u+v)) J)=.ok (.lst []) (SA false a (.laid (1 - q) x) false (Na q u v) ((Bk.laid (1 - q) x).D (u+v)) c):=d;have o:=lI (k:=false) (C:=.laid (1 - q) x) (λs e=>by cases e) (f:=false) (P:=Na q u v) (B:=(Bk.laid (1 - q) x).D (u+v)) (J:=c) h rfl hn hl i0 i1 kn (N:=a.m.n) (by have:=h.hm.n;omega);have l:=λfs=>ut (k:=false) (a:=a) (C:=.hg) (f:=false) (P:=Na q u v) (B:=(Bk.laid (1 - q) x).D (u+v)) (J:=J) 2 Wa "look" rfl fs;have g:∀ σ,oEq (.lst []) (.lst []) σ=.ok (.bl true) σ:=λσ=>Dy (by simp[pl]);refine⟨SA true a (.laid (1 - q) x) false (Na q u v) ((Bk.laid (1 - q) x).D (u+v)) c,?_⟩;unfold yB eo;generalize Na q u v=z,CD u v=r,nh.D=t,x.D=A,a.D=p,SA false a .hg false (Na q u v) ((Bk.laid (1 - q) x).D (u+v)) J=Y,SA false a (.laid (1 - q) x) false (Na q u v) ((Bk.laid (1 - q) x).D (u+v)) c=E,SA true a (.laid (1 - q) x) false (Na q u v) ((Bk.laid (1 - q) x).D (u+v)) c=F at *;rcases i with rfl|rfl<;>simp[d,o,l,g]
end
def Ly(q:Int):Kv:=[(.inr "calm",.str (if q=0 then "offered" else "waiting")),(.inr "offered",.str "calm"),(.inr "waiting",.str "calm")]
def QA(q:Int):D:=.Ma ((Ly q).map (·.1)) ((Ly q).map (·.2))
theorem n5{fs:Ev->M (List D)}{q:Int}{ρ:Ev}{σ:qb}(h:fs ρ (σ++[.Ma []])=.ok [.str (if q=0 then "offered" else "waiting"),.str "calm",.str "calm"] (σ++[.Ma []])):Mg (QB [.inr "calm",.inr "offered",.inr "waiting"] fs) ρ σ=.ok (QA q) σ:=by
 have d:QB [.inr "calm",.inr "offered",.inr "waiting"] fs ρ σ=.ok (.ref σ.length) (σ++[.Ma (Ly q)]):=by
  show Wc (fs ρ) (LF σ.length _) (σ++[.Ma []])=_;rw[zo,h,Od];unfold LF;have e:(σ++[Ob.Ma []])[σ.length]?=some (.Ma []):=by simp
  simp only[e];rw[ia (by simp),nE];rfl
 have a:(σ++[Ob.Ma (Ly q)])[σ.length]?=some (.Ma (Ly q)):=by simp
 show Eg σ (QB _ fs ρ σ)=_;rw[d];unfold Eg;dsimp only;rw[ia (by simp)];have:fz σ.length (σ++[.Ma (Ly q)]) 6 (.ref σ.length)=some (QA q):=by
  unfold fz;rw[qa (by simp[cl])];dsimp only;rw[qa (Md _),a];dsimp only;unfold Ly QA;simp[xq,fz,cl,Ly]
 rw[this]
section
variable{ns:List Int}{c0 q u v:Int}(hq:q=0\/q=1){x7:Option D}{K:Kn}{j:Nat}(hK:Wy q u v j K)(hj:j<=3){nh:Sn}(hn:nh.Ok (u+v))(hnn:nh.n=(iv K).n+1)(hw:ow q (iv K)<=ow q nh)
include hq hK hj hn hnn hw
theorem DW{x:Sn}(b:Option D)(J:qb):∃ J',zb cC (zb QC qF) (eo ns c0 q u v x7 [some nh.D,some (acc q j K).D,some (lt q nh K),some (.int 2),b,some x.D,none]) (SA false (acc q j K) .ht false (Na q u v) ((Bk.laid (1 - q) x).D (u+v)) J)=.ok (.rt (.bl true)) J':=by
 obtain⟨⟨d,A⟩,g⟩:=xK hq hj hK hn hnn hw (k:=false) (C:=.ht) (.inr rfl) (f:=false) (P:=Na q u v) (B:=(Bk.laid (1 - q) x).D (u+v)) (J:=J);have n:=HA hq hj hK;have e:(acc q (jn j K) (nx q nh K)).Ok/\((acc q (jn j K) (nx q nh K)).c=6\/(acc q (jn j K) (nx q nh K)).c=7\/(acc q (jn j K) (nx q nh K)).c=8):=by
  by_cases h3:jn j K<=3
  ·have:=HA hq h3 g;exact⟨this.ok,this.hc⟩
  ·cases K with
   |c m G=>exact absurd hj h3
   |h m o G=>exact⟨xu hq o (Tw (on o)) (ny _),.inl rfl⟩
 have z:=λfs=>ut (k:=false) (a:=acc q j K) (C:=.ht) (f:=false) (P:=Na q u v) (B:=(Bk.laid (1 - q) x).D (u+v)) (J:=J) 2 La "take" rfl fs;have w:=λfs=>ut (k:=false) (a:=acc q (jn j K) (nx q nh K)) (C:=.ht) (f:=false) (P:=Na q u v) (B:=(Bk.laid (1 - q) x).D (u+v)) (J:=J) 2 eb "account" rfl fs;have r:=MC (k:=false) (C:=.ht) (f:=false) (P:=Na q u v) (B:=(Bk.laid (1 - q) x).D (u+v)) (J:=J) e.1;obtain⟨Q,E,F⟩:=cG n.ok n.hc;obtain⟨R,H,I⟩:=cG e.1 e.2;have t:∀ σ,Tp (QA q) (.str (wd (acc q j K).c)) σ=.ok (.str (wd (acc q (jn j K) (nx q nh K)).c)) σ:=λσ=>by
  cases K with
  |c m G=>rcases hq with rfl|rfl<;>exact nr rfl
  |h m o G=>rcases hq with rfl|rfl<;>exact nr rfl
 have s:∀ σ,oEq (.str (wd (acc q (jn j K) (nx q nh K)).c)) (.str (wd (acc q (jn j K) (nx q nh K)).c)) σ=.ok (.bl true) σ:=λσ=>Dy (by simp[pl]);have i:∀ Y,cC (eo ns c0 q u v x7 [some nh.D,some (acc q j K).D,some (lt q nh K),some (.int 2),b,some x.D,none]) Y=.ok (.nx (eo ns c0 q u v x7 [some nh.D,some (acc q j K).D,some (lt q nh K),some (.int 2),b,some x.D,some (QA q)])) Y:=λY=>by
  have dp:=n5 (q:=q) (fs:=ja (Ga Va (Gh (ja (eC (.str "offered")) (ja (eC (.str "waiting")) Ba))) (da 2)) (ja (eC (.str "calm")) (ja (eC (.str "calm")) Ba))) (ρ:=eo ns c0 q u v x7 [some nh.D,some (acc q j K).D,some (lt q nh K),some (.int 2),b,some x.D,none]) (σ:=Y) (by
   unfold eo;rcases hq with rfl|rfl<;>simp)
  unfold cC;rw[ydw,dp];rfl
 have l:∀ y:Option D,QC (eo ns c0 q u v x7 [some nh.D,some (acc q j K).D,some (lt q nh K),some (.int 2),b,some x.D,y]) (SA false (acc q j K) .ht false (Na q u v) ((Bk.laid (1 - q) x).D (u+v)) J)=.ok (.nx (eo ns c0 q u v x7 [some nh.D,some (acc q j K).D,some (lt q nh K),some (.int 2),b,some x.D,y])) (SA false (acc q (jn j K) (nx q nh K)) .ht false (Na q u v) ((Bk.laid (1 - q) x).D (u+v)) J):=λy=>by
  unfold QC eo;generalize lt q nh K=N,SA false (acc q j K) .ht false (Na q u v) ((Bk.laid (1 - q) x).D (u+v)) J=Y,SA false (acc q (jn j K) (nx q nh K)) .ht false (Na q u v) ((Bk.laid (1 - q) x).D (u+v)) J=p at *;simp[z,A]
 refine⟨SA false (acc q (jn j K) (nx q nh K)) .ht false (Na q u v) ((Bk.laid (1 - q) x).D (u+v)) J,?_⟩;rw[yg,i,Od,Pg,yg,l,Od,Pg];unfold qF eo;generalize QA q=O,(acc q j K).D=L,(acc q (jn j K) (nx q nh K)).D=M,SA false (acc q (jn j K) (nx q nh K)) .ht false (Na q u v) ((Bk.laid (1 - q) x).D (u+v)) J=p at *;simp[w,r,E,F,H,I,t,s]
end
theorem sv(ns:List Int)(a9:ns.length<=63):∃ σ,Cp [.Qg ns] []=.ok (.bl true) σ:=by
 have c:=λ(k:Nat) (σ:qb)=>lR ns k (by omega) σ;have c0:∀ σ,Pb [.Qg ns,.int 0] σ=.ok (.int (pv ns 0)) σ:=c 0;have c1:∀ σ,Pb [.Qg ns,.int 1] σ=.ok (.int (pv ns 1)) σ:=c 1;have c2:∀ σ,Pb [.Qg ns,.int 2] σ=.ok (.int (pv ns 2)) σ:=c 2;have c7:∀ σ,Pb [.Qg ns,.int 7] σ=.ok (.int (pv ns 7)) σ:=c 7;clear c;generalize pv ns 7=W,pv ns 2=C2,pv ns 1=C1,pv ns 0=g at *;obtain⟨q,eq⟩:∃ q,q=g % 2:=⟨_,rfl⟩
 obtain⟨u,eu⟩:∃ u,u=1+C1 % 1000000000000:=⟨_,rfl⟩
 obtain⟨v,ev⟩:∃ v,v=1+C2 % 1000000000000:=⟨_,rfl⟩
 have hq:q=0\/q=1:=by omega
 have A:0<=u/\u<=1000000000000:=by omega
 have E:0<=v/\v<=1000000000000:=by omega
 have hT:u+v<=2000000000000:=by omega
 have s1:u1 (Do [.Qg ns] 15) []=.ok (.nx (Do [.Qg ns,.int g] 15)) []:=by unfold u1;simp[Do,c0]
 have s2:u2 (Do [.Qg ns,.int g] 15) []=.ok (.nx (Do [.Qg ns,.int g,.int q] 15)) []:=by unfold u2;rw[eq];simp[Do]
 have s3:u3 (Do [.Qg ns,.int g,.int q] 15) []=.ok (.nx (Do [.Qg ns,.int g,.int q,CD u v] 15)) []:=by unfold u3 CD;rw[eu,ev];simp[Do,c1,c2,pw]
 have s4:u4 (Do [.Qg ns,.int g,.int q,CD u v] 15) []=.ok (.nx (Do [.Qg ns,.int g,.int q,CD u v,Na q u v] 15)) []:=by
  have a1:∀ (x y:Int) σ,Ch (.tup [.int x,.int y]) (CD u v) σ=.ok (.tup [.int x,.int y,.int u,.int v]) σ:=λx y σ=>nr rfl;have a2:∀ (x y:Int) σ,Ch (.tup [.int x,.int y,.int u,.int v]) (.tup [.int 20]) σ=.ok (.tup [.int x,.int y,.int u,.int v,.int 20]) σ:=λx y σ=>nr rfl;unfold u4 Na;generalize CD u v=CC at *;rcases hq with h|h<;>rw[h]<;>simp[Do,a1,a2]
 have mk:=R4 hq A E;have s5:u5 (Do [.Qg ns,.int g,.int q,CD u v,Na q u v] 15) []=.ok (.nx (Do [.Qg ns,.int g,.int q,CD u v,Na q u v,.ref 0] 15)) (P3 (AV (calm q (cS u v) .Vb [])) [(.inl 0,.gt ["held"])] yq):=by
  unfold u5;generalize Na q u v=PP,CD u v=CC,P3 (AV (calm q (cS u v) .Vb [])) [(.inl 0,.gt ["held"])] yq=Y at *;simp[Do,mk]
 have mb:=MX hq A E (M0:=P3 (AV (calm q (cS u v) .Vb [])) [(.inl 0,.gt ["held"])] yq) rfl;have mb:Wl 15 2 Nq [.lst [Na q u v]] (P3 (AV (calm q (cS u v) .Vb [])) [(.inl 0,.gt ["held"])] yq)=.ok (.ref 7) (SA false (acc q 0 (.c (cS u v) .Vb)) .hg false (Na q u v) (Bk.held.D (u+v)) []):=mb;have s6:u6 (Do [.Qg ns,.int g,.int q,CD u v,Na q u v,.ref 0] 15) (P3 (AV (calm q (cS u v) .Vb [])) [(.inl 0,.gt ["held"])] yq)=.ok (.nx (Do [.Qg ns,.int g,.int q,CD u v,Na q u v,.ref 0,.ref 7] 15)) (SA false (acc q 0 (.c (cS u v) .Vb)) .hg false (Na q u v) (Bk.held.D (u+v)) []):=by
  unfold u6;generalize Na q u v=PP,CD u v=CC,P3 (AV (calm q (cS u v) .Vb [])) [(.inl 0,.gt ["held"])] yq=Y,SA false (acc q 0 (.c (cS u v) .Vb)) .hg false (Na q u v) (Bk.held.D (u+v)) []=Y2 at *;simp[Do,mb,-rF]
 have Z:(cS u v).Ok (u+v):=⟨by show (0:Int)<=0/\(0:Int)<=100;omega,by show 0<=u/\u<=_;omega,by show 0<=v/\v<=_;omega,rfl⟩
 obtain⟨x7,V,K,j,L,hj,s7⟩:=m8 (ns:=ns) (c0:=g) hq hT (m:=cS u v) (G:=.Vb) ⟨Z,rfl,.inl rfl,.inl rfl⟩ (Bk.held.D (u+v));have h:=HA hq hj L;have Q:(iv K).Ok (u+v)/\(iv K).n<=4:=by
  cases K with
  |c m G=>have h:Hv q u v j m G:=L;exact⟨h.ok,by have:=h.n;show m.n<=4;omega⟩
  |h m o G=>obtain⟨h,ho,hn,_⟩:=L;exact⟨ho,by have:=h.n;show o.n<=4;omega⟩
 obtain⟨no,nl⟩:=rL hq hT Q.1 (by have:=Q.2;omega) (x:=W % 1000000000000) (by omega);have ne:=λσ=>sS hq (iv K) (W % 1000000000000) σ;generalize ex:nw q (iv K) (W % 1000000000000)=nh at *;have nn:nh.n=(iv K).n+1:=by rw[<-ex];rfl
 obtain⟨n,l1,l2,l3,l4⟩:=G1 hq hj L no;have fi:=λσ=>bI hq hj L (nh:=nh) σ;have my:=λσ=>mz h.ok σ;have mi:=λσ=>Zu h.ok σ;have j0:=λσ=>s0 (acc q j K).m σ;have lx:∀ σ,Va (.lst ((acc q j K).y.map Sn.D)) (.int (-1)) σ=.ok (iv K).D σ:=λσ=>by
  cases K with
  |c m G=>exact jB rfl
  |h m o G=>rcases hq with rfl|rfl<;>exact jB rfl
 have s8:u8 (eo ns g q u v x7 [V,none,none,none,none,none,none]) (SA false (acc q j K) .hg false (Na q u v) (Bk.held.D (u+v)) [])=.ok (.nx (eo ns g q u v x7 [V,some (acc q j K).D,none,none,none,none,none])) (SA false (acc q j K) .hg false (Na q u v) (Bk.held.D (u+v)) []):=by
  have ac:=MC (k:=false) (C:=.hg) (f:=false) (P:=Na q u v) (B:=Bk.held.D (u+v)) (J:=[]) h.ok;have ma:=λfs=>ut (k:=false) (a:=acc q j K) (C:=.hg) (f:=false) (P:=Na q u v) (B:=Bk.held.D (u+v)) (J:=[]) 2 eb "account" rfl fs;unfold u8 eo;generalize (acc q j K).D=U,SA false (acc q j K) .hg false (Na q u v) (Bk.held.D (u+v)) []=Y at *;simp[ac,ma]
 have s9:∀ Y,u9 (eo ns g q u v x7 [V,some (acc q j K).D,none,none,none,none,none]) Y=.ok (.nx (eo ns g q u v x7 [some nh.D,some (acc q j K).D,none,none,none,none,none])) Y:=λY=>by
  unfold u9 eo;generalize nh.D=ND,(iv K).D=LD,(acc q j K).y.map Sn.D=YD,(acc q j K).D=U at *;simp[my,lx,c7,pw,ne]
 have a6:∀ Y,SG (eo ns g q u v x7 [some nh.D,some (acc q j K).D,none,none,none,none,none]) Y=.ok (.nx (eo ns g q u v x7 [some nh.D,some (acc q j K).D,some (lt q nh K),none,none,none,none])) Y:=λY=>by
  unfold SG eo;generalize lt q nh K=LT,nh.D=ND,(acc q j K).D=U at *;simp[fi]
 have T:∀ (l p d:Option D) Y,bE (eo ns g q u v x7 [l,p,d,none,none,none,none]) Y=.ok (.nx (eo ns g q u v x7 [l,p,d,some (.int (g / 24 % 4)),none,none,none])) Y:=λl p d Y=>by
  unfold bE eo;simp
 obtain⟨w,ew⟩:∃ w,w=g / 24 % 4:=⟨_,rfl⟩
 have t:w=0\/w=1\/w=2\/w=3:=by omega
 rw[<-ew]at T;have a7:∀ (l d I:Option D) Y,GF (eo ns g q u v x7 [l,some (acc q j K).D,d,I,none,none,none]) Y=.ok (.nx (eo ns g q u v x7 [l,some (acc q j K).D,d,I,some (.int (acc q j K).m.n),none,none])) Y:=λl d I Y=>by
  unfold GF eo;generalize (acc q j K).m.D=MD,(acc q j K).D=U at *;simp[mi,j0]
 have H:∀ (r:List (Option D)) (l p d i:Option D) Y,w≠0->IA (eo ns g q u v x7 (l::p::d::some (.int w)::i::r)) Y=.ok (.nx (eo ns g q u v x7 (l::p::d::some (.int w)::i::r))) Y:=λr l p d i Y t=>by
  have b:(w == 0)=false:=by simp[t]
  unfold IA eo;simp[b]
 have R:∀ (r:List (Option D)) (l p d i:Option D) Y,w≠2->mB (eo ns g q u v x7 (l::p::d::some (.int w)::i::r)) Y=.ok (.nx (eo ns g q u v x7 (l::p::d::some (.int w)::i::r))) Y:=λr l p d i Y t=>by
  have b:(w == 2)=false:=by simp[t]
  unfold mB eo;simp[b]
 have S:∀ (r:List (Option D)) (l d i:Option D) Y,(w≠3\/j=0)->nB (eo ns g q u v x7 (l::some (acc q j K).D::d::some (.int w)::i::r)) Y=.ok (.nx (eo ns g q u v x7 (l::some (acc q j K).D::d::some (.int w)::i::r))) Y:=λr l d i Y t=>by
  unfold nB eo;by_cases h3:w=3
  ·have a4:j=0:=t.resolve_left (λz=>z h3);have sl:∀ σ,Bb [5,6,7,8] "strikes" (acc q j K).D σ=.ok (.lst []) σ:=λσ=>by
    rw[sy h.ok,h.hL,a4];rfl
   have b:(w == 3)=true:=by simp[h3]
   have nl:∀ σ,Jh (.lst []) (.lst []) σ=.ok (.bl false) σ:=λσ=>Rs (by simp[pl]);generalize (acc q j K).D=U at *;simp[b,sl,nl]
  ·have b:(w == 3)=false:=by simp[h3]
   simp[b]
 have a5:∀ (r:List (Option D)) (l p d i:Option D) Y,w=2->yB (eo ns g q u v x7 (l::p::d::some (.int w)::i::r)) Y=.ok (.nx (eo ns g q u v x7 (l::p::d::some (.int w)::i::r))) Y:=λr l p d i Y t=>by
  subst t;unfold yB eo;simp
 have a0:∀ {tl:Ev->M Fl} {σ:qb},tl (eo ns g q u v x7 [some nh.D,some (acc q j K).D,some (lt q nh K),some (.int w),some (.int (acc q j K).m.n),none,none]) (SA false (acc q j K) .hg false (Na q u v) (Bk.held.D (u+v)) [])=.ok (.rt (.bl true)) σ->Cr (zb u1 (zb u2 (zb u3 (zb u4 (zb u5 (zb u6 (zb (aq (Rx (Ga lr (Ga Fw (da 1) (eC (.int 2))) (eC (.int 4)))) (Ld 7) Ut) (zb u8 (zb u9 (zb SG (zb bE (zb GF tl))))))))))) (Do [.Qg ns] 15) [])=.ok (.bl true) σ:=fun {tl σ} e=>by
  rw[yg,s1,Od,Pg,yg,s2,Od,Pg,yg,s3,Od,Pg,yg,s4,Od,Pg,yg,s5,Od,Pg,yg,s6,Od,Pg,yg];have s7:aq _ _ Ut (Do [.Qg ns,.int g,.int q,CD u v,Na q u v,.ref 0,.ref 7] 15) _=_:=s7;rw[s7,Od,Pg,yg];have s8:u8 [some (.Qg ns),some (.int g),some (.int q),some (CD u v),some (Na q u v),some (.ref 0),some (.ref 7),x7,V,none,none,none,none,none,none] _=_:=s8;rw[s8,Od,Pg,yg,s9,Od,Pg,yg,a6,Od,Pg,yg,T,Od,Pg,yg,a7,Od,Pg,e,XI]
 have F:∃ σ,(zb IA (zb mB (zb nB (zb fF (zb RG (zb yB (zb cC (zb QC qF)))))))) (eo ns g q u v x7 [some nh.D,some (acc q j K).D,some (lt q nh K),some (.int w),some (.int (acc q j K).m.n),none,none]) (SA false (acc q j K) .hg false (Na q u v) (Bk.held.D (u+v)) [])=.ok (.rt (.bl true)) σ:=by
  by_cases h0:w=0
  ·obtain⟨σ,e⟩:=LZ (ns:=ns) (c0:=g) (x7:=x7) h A E no l1 l2 l3 l4;rw[<-h0]at e;exact⟨σ,by rw[yg,e,Od];rfl⟩
  ·by_cases O:w=2
   ·obtain⟨N,lo⟩:=tJ (k:=false) h (C:=.hg) (f:=false) (J:=[]) (b:=.held) (λs e=>by cases e) (λσ=>zH _ (.inl rfl) σ) rfl;have lo:Wa [.ref 0,.ref 7] (SA false (acc q j K) .hg false (Na q u v) (Bk.held.D (u+v)) [])=.ok (.lst []) (SA false (acc q j K) .ht false (Na q u v) (Bk.held.D (u+v)) N):=lo;have ml:=λfs=>ut (k:=false) (a:=acc q j K) (C:=.hg) (f:=false) (P:=Na q u v) (B:=Bk.held.D (u+v)) (J:=[]) 2 Wa "look" rfl fs;have a8:mB (eo ns g q u v x7 [some nh.D,some (acc q j K).D,some (lt q nh K),some (.int w),some (.int (acc q j K).m.n),none,none]) (SA false (acc q j K) .hg false (Na q u v) (Bk.held.D (u+v)) [])=.ok (.nx (eo ns g q u v x7 [some nh.D,some (acc q j K).D,some (lt q nh K),some (.int w),some (.int (acc q j K).m.n),none,none])) (SA false (acc q j K) .ht false (Na q u v) (Bk.held.D (u+v)) N):=by
     have b:(w == 2)=true:=by simp[O]
     unfold mB eo;generalize SA false (acc q j K) .hg false (Na q u v) (Bk.held.D (u+v)) []=Y,SA false (acc q j K) .ht false (Na q u v) (Bk.held.D (u+v)) N=Y2 at *;simp[b,ml,lo]
    obtain⟨x,hx,la⟩:=NO (ns:=ns) (c0:=g) (x7:=x7) h A E no (X:=lt q nh K) w .ht N;obtain⟨σ,e⟩:=DW (ns:=ns) (c0:=g) hq (x7:=x7) L hj no nn nl (x:=x) (some (.int (acc q j K).m.n)) N;refine⟨σ,?_⟩;rw[yg,H _ _ _ _ _ _ h0,Od,Pg,yg,a8,Od,Pg,yg,S _ _ _ _ _ (.inl (by omega)),Od,Pg,la,yg,a5 _ _ _ _ _ _ O,Od,Pg,O,e]
   ·have a3:w=1\/w=3:=by omega
    by_cases hs:w=3/\0<j
    ·obtain⟨σ,e⟩:=t8 (ns:=ns) (c0:=g) (x7:=x7) h A E no l1 l2 l3 l4 hs.2;rw[<-hs.1]at e;refine⟨σ,?_⟩;rw[yg,H _ _ _ _ _ _ h0,Od,Pg,yg,R _ _ _ _ _ _ O,Od,Pg,yg,e,Od];rfl
    ·obtain⟨x,hx,la⟩:=NO (ns:=ns) (c0:=g) (x7:=x7) h A E no (X:=lt q nh K) w .hg [];obtain⟨σ,e⟩:=U0 (ns:=ns) (c0:=g) (x7:=x7) h A E no l1 l2 l3 l4 a3 hx [];refine⟨σ,?_⟩;rw[yg,H _ _ _ _ _ _ h0,Od,Pg,yg,R _ _ _ _ _ _ O,Od,Pg,yg,S _ _ _ _ _ (by omega),Od,Pg,la,yg,e,Od];rfl
 obtain⟨σ,F⟩:=F;refine⟨σ,?_⟩;unfold Cp GT;rw[Qz];exact a0 F
end K47
end
open PySem PySem.W PyProof.Rows
set_option maxRecDepth 100000 in
set_option maxHeartbeats 0 in
theorem PySem.Challenge.cw_sidebook_k47_nothing_behind_a_laying_holds : PySem.Challenge.rw_sidebook_k47_nothing_behind_a_laying.Holds := by
 w_on;refine hd ?_
 k_fill
 refine L4.yZ (l:=PySem.Challenge.rw_sidebook_k47_nothing_behind_a_laying) (k:=13) (x:="_law_script") (fn:=K47.Cp) ["paper"] rfl rfl ⟨rfl,by decide,by decide⟩ (λw h Y=>km_in_of Y) ?hK ?hrec ?F K47.sv;case hK=>intro w;kernel_rfl
 case hrec=>kernel_rfl
 case F=>
  intro w mg h KX G TT
  refine' (have q0:nsIn (L2.Lf KX) mainGlobals "Account" = some (some (.ref ?C5)):=?p0;have q1:nsIn (L2.Lf KX) mainGlobals "Calm" = some (some (.ref ?C6)):=?p1;have q2:nsIn (L2.Lf KX) mainGlobals "Offered" = some (some (.ref ?C7)):=?p2;have q3:nsIn (L2.Lf KX) mainGlobals "Waiting" = some (some (.ref ?C8)):=?p3;have q4:nsIn (L2.Lf KX) mainGlobals "View" = some (some (.ref ?C9)):=?p4;have q5:nsIn (L2.Lf KX) mainGlobals "Keeper" = some (some (.ref ?C10)):=?p5;have q6:nsIn (L2.Lf KX) mainGlobals "Claim" = some (some (.ref ?C11)):=?p6;have q7:nsIn (L2.Lf KX) mainGlobals "Held" = some (some (.ref ?C12)):=?p7;have q8:nsIn (L2.Lf KX) mainGlobals "Laid" = some (some (.ref ?C13)):=?p8;have q9:nsIn (L2.Lf KX) mainGlobals "Taken" = some (some (.ref ?C14)):=?p9;?_);(case p0|p1|p2|p3|p4|p5|p6|p7|p8|p9=>dsimp only[L2.Lf];first|k_is|k_exc|rfl)
  refine' (have q10:nsIn (L2.Lf KX) mainGlobals "Book" = some (some (.ref ?C15)):=?p10;have q11:findIn (L2.Lf KX) (.ref ?C10) "learn" = some (some (.ref ?C28)):=?p11;have q13:findIn (L2.Lf KX) (.ref ?C10) "hold" = some (some (.ref ?C27)):=?p13;have q15:findIn (L2.Lf KX) (.ref ?C5) "__init__" = some (some (.ref ?C16)):=?p15;have q17:findIn (L2.Lf KX) (.ref ?C10) "__init__" = some (some (.ref ?C26)):=?p17;have q19:findIn (L2.Lf KX) (.ref ?C11) "__init__" = some (some (.ref ?C50)):=?p19;have q21:findIn (L2.Lf KX) (.ref ?C15) "__init__" = some (some (.ref ?C63)):=?p21;have q23:findIn (L2.Lf KX) (.ref ?C10) "account" = some (some (.ref ?C32)):=?p23;have q25:findIn (L2.Lf KX) (.ref ?C10) "holds" = some (some (.ref ?C38)):=?p25;have q27:findIn (L2.Lf KX) (.ref ?C6) "word" = some (some (.ref ?C19)):=?p27;?_);(case p10|p11|p13|p15|p17|p19|p21|p23|p25|p27=>dsimp only[L2.Lf];first|k_is|k_exc|rfl)
  refine' (have q29:findIn (L2.Lf KX) (.ref ?C7) "word" = some (some (.ref ?C21)):=?p29;have q31:findIn (L2.Lf KX) (.ref ?C8) "word" = some (some (.ref ?C23)):=?p31;have q33:findIn (L2.Lf KX) (.ref ?C5) "agree_of" = some (some (.ref ?C17)):=?p33;have q35:findIn (L2.Lf KX) (.ref ?C9) "__init__" = some (some (.ref ?C25)):=?p35;have q37:findIn (L2.Lf KX) (.ref ?C10) "words" = some (some (.ref ?C29)):=?p37;have q39:findIn (L2.Lf KX) (.ref ?C10) "view_by" = some (some (.ref ?C33)):=?p39;have q41:findIn (L2.Lf KX) (.ref ?C10) "view" = some (some (.ref ?C34)):=?p41;have q43:findIn (L2.Lf KX) (.ref ?C10) "worth" = some (some (.ref ?C35)):=?p43;have q45:findIn (L2.Lf KX) (.ref ?C10) "is_good" = some (some (.ref ?C37)):=?p45;have q47:findIn (L2.Lf KX) (.ref ?C10) "take_ask" = some (some (.ref ?C42)):=?p47;?_);(case p29|p31|p33|p35|p37|p39|p41|p43|p45|p47=>dsimp only[L2.Lf];first|k_is|k_exc|rfl)
  refine' (have q49:findIn (L2.Lf KX) (.ref ?C5) "strike_of" = some (some (.ref ?C18)):=?p49;have q51:findIn (L2.Lf KX) (.ref ?C6) "taken" = some (some (.ref ?C20)):=?p51;have q53:findIn (L2.Lf KX) (.ref ?C7) "taken" = some (some (.ref ?C22)):=?p53;have q55:findIn (L2.Lf KX) (.ref ?C8) "taken" = some (some (.ref ?C24)):=?p55;have q57:findIn (L2.Lf KX) (.ref ?C10) "is_as_asked" = some (some (.ref ?C43)):=?p57;have q59:findIn (L2.Lf KX) (.ref ?C10) "take_step" = some (some (.ref ?C44)):=?p59;have q61:findIn (L2.Lf KX) (.ref ?C10) "take" = some (some (.ref ?C41)):=?p61;have q63:findIn (L2.Lf KX) (.ref ?C10) "wish" = some (some (.ref ?C39)):=?p63;have q65:findIn (L2.Lf KX) (.ref ?C15) "today" = some (some (.ref ?C65)):=?p65;have q67:findIn (L2.Lf KX) (.ref ?C15) "check_pot" = some (some (.ref ?C64)):=?p67;?_);(case p49|p51|p53|p55|p57|p59|p61|p63|p65|p67=>dsimp only[L2.Lf];first|k_is|k_exc|rfl)
  refine' (have q69:findIn (L2.Lf KX) (.ref ?C12) "told" = some (some (.ref ?C51)):=?p69;have q71:findIn (L2.Lf KX) (.ref ?C13) "told" = some (some (.ref ?C55)):=?p71;have q73:findIn (L2.Lf KX) (.ref ?C14) "told" = some (some (.ref ?C60)):=?p73;have q75:findIn (L2.Lf KX) (.ref ?C15) "told" = some (some (.ref ?C71)):=?p75;have q77:findIn (L2.Lf KX) (.ref ?C15) "shown_for" = some (some (.ref ?C72)):=?p77;have q79:findIn (L2.Lf KX) (.ref ?C15) "all_shown" = some (some (.ref ?C76)):=?p79;have q81:findIn (L2.Lf KX) (.ref ?C15) "made_of" = some (some (.ref ?C77)):=?p81;have q83:findIn (L2.Lf KX) (.ref ?C13) "waits" = some (some (.ref ?C56)):=?p83;have q85:findIn (L2.Lf KX) (.ref ?C13) "may_strike" = some (some (.ref ?C58)):=?p85;have q87:findIn (L2.Lf KX) (.ref ?C14) "__init__" = some (some (.ref ?C59)):=?p87;?_);(case p69|p71|p73|p75|p77|p79|p81|p83|p85|p87=>dsimp only[L2.Lf];first|k_is|k_exc|rfl)
  refine' (have q89:findIn (L2.Lf KX) (.ref ?C15) "strike" = some (some (.ref ?C70)):=?p89;have q91:findIn (L2.Lf KX) (.ref ?C10) "strike_all" = some (some (.ref ?C46)):=?p91;have q93:findIn (L2.Lf KX) (.ref ?C10) "show_all" = some (some (.ref ?C48)):=?p93;have q95:findIn (L2.Lf KX) (.ref ?C15) "may_lie" = some (some (.ref ?C68)):=?p95;have q97:findIn (L2.Lf KX) (.ref ?C13) "__init__" = some (some (.ref ?C54)):=?p97;have q99:findIn (L2.Lf KX) (.ref ?C15) "lay" = some (some (.ref ?C69)):=?p99;have q101:findIn (L2.Lf KX) (.ref ?C10) "lay_all" = some (some (.ref ?C49)):=?p101;have q103:findIn (L2.Lf KX) (.ref ?C10) "look" = some (some (.ref ?C45)):=?p103;have q105:findIn (L2.Lf KX) (.ref ?C10) "given" = some (some (.ref ?C31)):=?p105;?_);(case p89|p91|p93|p95|p97|p99|p101|p103|p105=>dsimp only[L2.Lf];first|k_is|k_exc|rfl);refine⟨λn=>([0,0,0,0,0,?C5,?C6,?C7,?C8,?C9,?C10,?C11,?C12,?C13,?C14,?C15,?C16,?C17,?C18,?C19,?C20,?C21,?C22,?C23,?C24,?C25,?C26,?C27,?C28,?C29,0,?C31,?C32,?C33,?C34,?C35,0,?C37,?C38,?C39,0,?C41,?C42,?C43,?C44,?C45,?C46,0,?C48,?C49,?C50,?C51,0,0,?C54,?C55,?C56,0,?C58,?C59,?C60,0,0,?C63,?C64,?C65,0,0,?C68,?C69,?C70,?C71,?C72,0,0,0,?C76,?C77]:List Addr).getD n 0,(K47.tx (L2.Lf KX)).Zn,K47.oY _,K47.sY ?_⟩;constructor;all_goals (try dsimp only[L2.Lf,List.getD_cons_succ,List.getD_cons_zero]);all_goals (first
   |(refine' L4.uS KX G (λ_ _ _ _ _ _ us hl=>?z) ?a ?l ?c ?k;(case z=>first|exact(match us,hl with|[_],_=>rfl)|exact(match us,hl with|[_,_],_=>rfl)|exact(match us,hl with|[_,_,_],_=>rfl)|exact(match us,hl with|[_,_,_,_],_=>rfl)|exact(match us,hl with|[_,_,_,_,_],_=>rfl)|exact(match us,hl with|[_,_,_,_,_,_],_=>rfl)|exact(match us,hl with|[_,_,_,_,_,_,_],_=>rfl));(case a|l|c|k=>k_is))
   |(refine' L4.DV (λ_ _ _ _ _ _ us hl=>?z) ?l ?c ?k;(case z=>first|exact(match us,hl with|[_],_=>rfl)|exact(match us,hl with|[_,_],_=>rfl)|exact(match us,hl with|[_,_,_],_=>rfl)|exact(match us,hl with|[_,_,_,_],_=>rfl)|exact(match us,hl with|[_,_,_,_,_],_=>rfl)|exact(match us,hl with|[_,_,_,_,_,_],_=>rfl)|exact(match us,hl with|[_,_,_,_,_,_,_],_=>rfl));(case l|c|k=>k_is))
   |(refine' L4.P4 KX G K47.zq1 ?a ?l ?c ?k ?d;(case a|l|c|k|d=>k_is))
   |(refine' L4.wO K47.w9 ?l ?c ?d;(case l|c|d=>k_is))
   |(refine' L4.wO K47.J6 ?l ?c ?d;(case l|c|d=>k_is))
   |(refine' L4.LU KX G ?a ?b;(case a=>k_is);(case b=>kernel_rfl))
   |(refine' L4.x4 KX G ?a;(case a=>k_is))
   |(refine' mg_of KX G ?a;(case a=>k_is))
   |(refine' mg_none_of KX G ?a;(case a=>k_is))
   |(refine' ⟨⟨?a,?b,?c,?d⟩,?e,?f,?g,?h⟩;(case a|b|c|d|e|f|g|h=>k_is))
   |(refine' ⟨?a,?b,?c,?d⟩;(case a|b|c|d=>k_is))
   |(refine' ⟨?a,?b,?c⟩;(case a|b|c=>k_is))
   |(refine' ⟨?a,?b⟩;(case a|b=>k_is))
   |exact λt h t' h' _=>(ll.mp h').trans (ll.mp h).symm
   |(refine' L4.R6 KX G (L4.uS KX G (λ_ _ _ _ _ _ us hl=>?z) ?a ?l ?c ?k) TT ?d;(case z=>first|exact(match us,hl with|[_],_=>rfl)|exact(match us,hl with|[_,_],_=>rfl)|exact(match us,hl with|[_,_,_],_=>rfl)|exact(match us,hl with|[_,_,_,_],_=>rfl)|exact(match us,hl with|[_,_,_,_,_],_=>rfl)|exact(match us,hl with|[_,_,_,_,_,_],_=>rfl)|exact(match us,hl with|[_,_,_,_,_,_,_],_=>rfl));(case a|l|c|k=>k_is);(case d=>decide))
   |(refine' (mg_of KX G ?a).trans (mg_of KX G ?b).symm;(case a|b=>k_is))
   |exact TT
   |exact mg_of KX G TT.bm
   |(refine' L4.ysr ?a;(case a=>kernel_rfl))
   |decide
   |k_is
   |k_exc
   |rfl)
