import PyProof.Rows.All
import OpenK.KLine
import OpenK.KOwn
import KE.KNestM
import KE.KDictOf
import Wide.FinOn
import Lean
import PyProof.EqAt
import PyProof.EqKinds
import PyProof.TupleCall
import PyProof.NeKinds
import PyProof.NsDelKeeps
import KE.KTryMore
import PyProof.WalksMore
import PyProof.Rows.SetFrom
import KE.KEqDict
import PyProof.ToksMono
import PyProof.StrCalls6
import PyProof.StrBlock2
import PyProof.SliceStr2
import PyProof.StrLawsTight
import PyProof.InstStoreFacts
import PyProof.Rows.FStr
import PyProof.FactsAll.set
import KE.KDictLaws
import KE.KIntText
import PyProof.Rows.StrWeight2
import PyProof.StrWalks
import PyProof.StrBlockH
import PyProof.WalksEnum
import PyProof.ZipIter
import PyProof.EnumMake
import PyProof.FitsReplace
import PyProof.StrLawsIn
import PyProof.Rows.SortWalk
import PyProof.DictUpdate
import KE.KDictList
import KE.KDictSum
import KE.KPairComp
import PyProof.FactsAll.dict
import KE.KMinKey
import KE.KLam
import PyProof.DictWalks
import PyProof.DictValues
import PySem.Challenge.RW_sidebook_k42_wishes_of_one_pot
set_option Elab.async false
set_option linter.all false
set_option maxRecDepth 100000
namespace PySem.W.Fast
def tw1386271689572084338:=0
def tw1815439297656432474:=0
def tw13505361881074083946:=0
def tw861502493610598483:=0
def tw18124581676290672360:=0
def tw329941283463616030:=0
def tw4338949390525040424:=0
def tw7774113678449685934:=0
def tw13406242734642179557:=0
def tw4282305967293819178:=0
def tw8549567097830819671:=0
def tw11736338228926984083:=0
def tw16008359073273489704:=0
def tw6871868339806680968:=0
def tw10784835557568832518:=0
def tw10619231889807973815:=0
def tw5486008376365147428:=0
def tw13606521132961772581:=0
def tw1968430746851473036:=0
def tw16060203290454839817:=0
def tw12550775161083096063:=0
def tw12717557048674177747:=0
def tw2576523973992343609:=0
def tw12894966596032860446:=0
def tw10903146660539688938:=0
def tw5872530126848033075:=0
def tw16899829786455025840:=0
def tw13160504802963445071:=0
def tw591959016527307005:=0
def tw977512076041815475:=0
def tw12147665669636231765:=0
def tw7607420049574824106:=0
def tw36298284907231195:=0
def tw12843764043397292189:=0
def tw5462360663327728810:=0
def tw13462424878891718212:=0
def tw11326235942716756430:=0
def tw4002271763688809667:=0
def tw4684226298888400098:=0
def tw4817042036850715440:=0
def tw15062127977220616739:=0
def tw11843415546741370313:=0
def tw5805800948307579973:=0
def tw4524658085876675188:=0
def tw16422413458241162112:=0
def tw13757698761724263525:=0
def tw2597523674469684444:=0
def tw8997383693586321770:=0
def tw6259241058660970061:=0
def tw10958628066121416707:=0
def tw17862349074038704544:=0
def tw2046362190076281809:=0
def tw12298192366917762067:=0
def tw9678289623588505577:=0
def tw10539347186207431242:=0
def tw3436067635600285980:=0
def tw17823556299335049440:=0
def tw8865387616306378214:=0
def tw6124413428159637790:=0
def tw3350206127114907401:=0
def tw12396662096508845406:=0
def tw16315454978102356719:=0
def tw15621116118777243554:=0
def tw8331849164307833061:=0
def tw6327569006664949090:=0
def tw2358075552688931204:=0
def tw2773992215795510196:=0
def tw7363655315013122544:=0
def tw9456574344343218679:=0
def tw17155049476370652306:=0
def tw17678831435119133177:=0
def tw13032259773685033708:=0
def tw12382822922155266910:=0
def tw7485256538410118956:=0
def tw6194202620331982285:=0
def tw8274446707539698164:=0
def tw2466311954974566718:=0
def tw10295913840692754127:=0
def tw12125097214300078407:=0
def tw5832146486336120021:=0
def tw2424988045566436242:=0
def tw14731159723063609737:=0
def tw6472337539984862722:=0
def tw2868442198168577507:=0
def tw8498532028676091811:=0
def tw18248855084332350957:=0
def tw14935156969734317764:=0
def tw2768188642542392010:=0
def tw11368310244458860372:=0
def tw9461873434466728008:=0
def tw7151132215420815488:=0
def tw18328257000508772394:=0
def tw3303267245142563540:=0
def tw4772062507164038959:=0
def tw10095894221667365369:=0
def tw18400553757987027518:=0
def tw11267315532378154396:=0
def tw8115137120850386438:=0
def tw14398111036562950334:=0
def tw15433366417846715934:=0
def tw13394580363473044415:=0
def tw5467331546851215429:=0
def tw15402603294489630176:=0
def tw6798380500665416597:=0
def tw9972681490609642005:=0
def tw6084841979344569690:=0
def tw11263768400469242888:=0
def tw16860917588515726111:=0
def tw17883462748017686043:=0
def tw15541240446876304647:=0
def tw11033627544408312984:=0
def tw10519837036962490867:=0
def tw18031968618487185184:=0
def tw1840220198017710270:=0
def tw5289818103960998278:=0
def tw7322748291113730364:=0
def tw15685335758407661847:=0
def tw7212858340449540239:=0
def tw11489344026974618541:=0
def tw10911716485165742097:=0
def tw7592715696027808041:=0
def tw14538725608371270373:=0
def tw7873786274422454737:=0
def tw3592811809046731828:=0
def tw13034982811429478159:=0
def tw6690350156832105676:=0
def tw13385558918117058561:=0
def tw12099505692703838030:=0
def tw15771247859494662083:=0
def tw11824586356888161845:=0
def tw17937168697417666835:=0
def tw7050804516273991350:=0
def tw17163426234232328066:=0
def tw211337195705725219:=0
def tw7921390202802761869:=0
def tw14061609134260724683:=0
def tw14172470266813156586:=0
def tw384561282630992784:=0
def tw16005714805435085966:=0
def tw13343918040275786880:=0
def tw16109456028575089023:=0
def tw615563214671542189:=0
def tw13831308528885131752:=0
def tw11153475782318119604:=0
def tw14760874974797668852:=0
def tw14833712730911297017:=0
def tw2144661209622563809:=0
def tw5537553045615171315:=0
def tw2708214617527550399:=0
def tw15499940227032437249:=0
def tw17518593693041627797:=0
def tw13705283562680751584:=0
def tw15743010393045028110:=0
def tw354308444213283272:=0
def tw890339118813698166:=0
def tw17360015989920007124:=0
def tw14782954611325821827:=0
def tw12768989823518198380:=0
def tw3099597729799864441:=0
def tw16003985067176294414:=0
def tw8995945545434573385:=0
def tw9113380124883318265:=0
def tw11266997524610791606:=0
def tw16217903435359918192:=0
def tw9530734954097333506:=0
def tw4906484309439969231:=0
def tw3831019782443316194:=0
def tw13631397514672939371:=0
def tw3520257249291928256:=0
def tw12798174099139212305:=0
def tw5459702643516471331:=0
def tw4971374062829452455:=0
def tw12058884036946728934:=0
def tw3919386906821981792:=0
def tw13851971633180934007:=0
def tw14819390147424179368:=0
def tw9197174079833555027:=0
def tw7374399212775623666:=0
def tw5274481202262711730:=0
def tw13813548295540068894:=0
def tw17592209452093105858:=0
def tw4545961482378311905:=0
def tw2080317491765294665:=0
def tw5341297951324810720:=0
def tw17613222154834848340:=0
def tw1835071406663858368:=0
def tw727553628536289456:=0
def tw539538531456391632:=0
def tw9399754086935153974:=0
def tw5072417060200589145:=0
def tw2931988195819169919:=0
def tw12887044766017154078:=0
def tw1708089923452030704:=0
def tw4096438862311573950:=0
def tw6880980288501444468:=0
def tw14938211915633500526:=0
def tw4171853373547519906:=0
def tw8212203176049278890:=0
def tw4884199854448574:=0
def tw1000662321505670351:=0
def tw16298917771340976007:=0
def tw7480016910919988345:=0
def tw6046103115902281144:=0
def tw2228412568605170491:=0
def tw5217270863462422736:=0
def tw12461081396071149458:=0
def tw11434409910335936926:=0
def tw12738610918357793766:=0
def tw8006371003960147343:=0
def tw14404928986312190071:=0
def tw866652123128751154:=0
def tw10551173667578312727:=0
def tw15565715512253457277:=0
def tw8737599933303070863:=0
def tw15254633091992210921:=0
def tw17483705464198625004:=0
def tw4015202173357781934:=0
def tw13855379610559885079:=0
def tw15504105790966721872:=0
def tw6148498323302512570:=0
def tw2314633323536394700:=0
def tw12954591660760965231:=0
def tw16108870410212019532:=0
def tw16279288168775177219:=0
def tw12770481643036789091:=0
def tw5665240888008139550:=0
def tw9860861378791804195:=0
def tw8278001386518606062:=0
def tw14842496431369740429:=0
def tw3198059409981156222:=0
def tw2480015634913765671:=0
def tw9784134513789038367:=0
def tw14594842627406614536:=0
def tw11766667032028208565:=0
def tw2950685276103557050:=0
def tw11401859456886640639:=0
def tw4449297822257671152:=0
def tw172746767574481773:=0
def tw15173544498738437827:=0
def tw12138319994727072339:=0
def tw987426779421491659:=0
def tw8428246938381088814:=0
def tw1342123614928995077:=0
def tw10792498714594961201:=0
def tw991626836265849350:=0
def tw11844019762684407370:=0
def tw2595585439558603231:=0
def tw306047672372848657:=0
def tw11317637306720784765:=0
def tw11502921971960690029:=0
def tw18183970276198133131:=0
def tw2694234056635809718:=0
def tw11513857634932158529:=0
def tw7476452910721959123:=0
def tw10576836333797772347:=0
def tw4408816720484365081:=0
def tw17510684818845775701:=0
def tw16086907953836968628:=0
def tw443766864951011646:=0
def tw694261584828832409:=0
def tw1986786360949550309:=0
def tw5694767641087392711:=0
def tw16873086082458093902:=0
def tw4026147355466621588:=0
def tw609457278022895560:=0
def tw4860023922305330110:=0
def tw6188973233030003785:=0
def tw14689541978594310382:=0
def tw14170518179582410385:=0
def tw17817366049700826239:=0
def tw5890639436620234070:=0
def tw2259672571474061568:=0
def tw5702276774652866934:=0
def tw15127105006835628225:=0
def tw4321966507151631593:=0
def tw9584292182412213727:=0
def tw15593559885672580101:=0
def tw3641951560692057861:=0
def tw16140922888777852060:=0
def tw2789304352393801511:=0
def tw2403389108928632939:=0
def tw17292613610259460706:=0
def tw8949853181751564097:=0
def tw8899516883271353254:=0
def tw699815216081779126:=0
def tw6631347999910079877:=0
def tw4075453323654395381:=0
def tw1692201390411429781:=0
def tw9320515035125037321:=0
def tw6056707288978253535:=0
def tw16723463757517087524:=0
def tw10510056951384868246:=0
def tw446995266069924076:=0
def tw17890440400047909864:=0
def tw14904681115217272601:=0
def tw18157406047293677543:=0
def tw10258873121960336067:=0
def tw13135312941875745310:=0
def tw12459912946257978736:=0
def tw17260811203177919210:=0
def tw8972062959192195235:=0
def tw1495895850433845275:=0
def tw16864618592142003386:=0
def tw13439652990877377571:=0
def tw13348088958985639553:=0
def tw11095110211248682772:=0
def tw651700358538967526:=0
def tw17590876675597686902:=0
def tw6329614223026926184:=0
def tw5010956058597451964:=0
def tw14479964200598819128:=0
def tw1293241653719404408:=0
def tw15764947353670896545:=0
def tw258204147387103276:=0
def tw3671519592330383864:=0
def tw12960429369202013873:=0
def tw3985964047577975286:=0
def tw3300257896294614128:=0
def tw16902085369446701243:=0
def tw2997492091776894028:=0
def tw2392593158011319353:=0
def tw17334828202450815106:=0
def tw11524815483048965402:=0
def tw3233987462203235646:=0
def tw12921946191010883867:=0
def tw16226643914720891334:=0
def tw7837367980739423823:=0
def tw8908233856664302321:=0
def tw7249310025045793396:=0
def tw6651725471809605288:=0
def tw3049343062529576306:=0
def tw14617222483516278133:=0
def tw3778530596728393105:=0
def tw10282777137419654623:=0
def tw11180800956215176064:=0
def tw1956260828630720203:=0
def tw18384110700954362821:=0
def tw12826555694032677247:=0
def tw5404398260228975080:=0
def tw6278996535519779258:=0
def tw5395340147747708899:=0
def tw5037459499596335280:=0
def tw14537775516033599862:=0
def tw11308061921803828041:=0
def tw13073492499399858440:=0
def tw14135006944967825841:=0
def tw12930229547647579594:=0
def tw18367749455379333440:=0
def tw7181997581385953548:=0
def tw17680797132471856694:=0
def tw3238445694619138142:=0
def tw5008593111378822452:=0
def tw12901003280762261817:=0
def tw786537726763496527:=0
def tw4341293187932698999:=0
def tw15475723433398761304:=0
def tw14553807712399142462:=0
def tw7943549864190904611:=0
def tw9744259246892133002:=0
def tw3801850119919557013:=0
def tw2172276787581067923:=0
def tw6145912378217320015:=0
def tw14785633479632635281:=0
def tw12884060626414724322:=0
def tw5725222548895626118:=0
def tw11853640710764476214:=0
def tw10470340158578859262:=0
def tw12542895121996172375:=0
def tw18124618509676941091:=0
def tw6128145076113358165:=0
def tw14607143338591219252:=0
def tw13459084325293418506:=0
def tw819570635367399668:=0
def tw6060609690816243450:=0
def tw6701911527682315725:=0
def tw9510108024173832781:=0
def tw2827255003249426055:=0
def tw4323258101793500111:=0
def tw12747814925858328940:=0
def tw17659185236578331656:=0
def tw287299124023874762:=0
def tw11823594873375168262:=0
def tw11212356425047092601:=0
def tw11219443903484984970:=0
def tw4436474186459923750:=0
def tw9317495090193701157:=0
def tw18105302477358141223:=0
def tw11738243743197964597:=0
def tw17508347553164502932:=0
def tw3992765435912101610:=0
def tw3042748168174471775:=0
def tw6945566481307383155:=0
def tw7867829370405329436:=0
def tw2400638427578300857:=0
def tw5994696166404524948:=0
def tw5002640475654186023:=0
def tw577049184839899653:=0
def tw6248682570935725439:=0
def tw9919008367099125623:=0
def tw13367274342830030513:=0
def tw13053770412826190925:=0
def tw1998347030407657756:=0
def tw2483420100392427323:=0
def tw8757050672659960515:=0
def tw18418582437962087742:=0
def tw5667099127317398114:=0
def tw1979317910248211280:=0
end PySem.W.Fast
section
open PySem PySem.W PyProof.Rows
set_option maxHeartbeats 0
open_top hd for PySem.Challenge.rw_sidebook_k42_wishes_of_one_pot
end
def Oe:=@beq_eq_false_iff_ne
def wh:=@beq_iff_eq
def yc:=@congrArg
def Da:=@decide_eq_false
def Ia:=@decide_eq_true
def jd:=@decide_eq_true_eq
def Lk:=@if_false
def ka:=@if_neg
def ja:=@if_pos
def zg:=@if_true
def Wn:=@or_false
open Array renaming append_assoc->wl,getElem?_eq_getElem->Bi,getElem?_eq_some_iff->Nd,getElem?_extract->Er,getElem?_push->Zt,length_toList->Th,toArray_toList->ut
open Bool renaming and_assoc->Zy,and_eq_true->La,and_false->nk,false_and->fq,false_eq_true->Ml,false_ne_true->yb,false_or->zA,or_eq_true->Kg
open Classical renaming choose_spec->zaB
open Int renaming emod_lt_of_pos->tw,emod_nonneg->cz,fdiv_eq_ediv_of_nonneg->Gq,le_refl->fJ
open List renaming all_cons->Tf,all_eq_true->cc,all_map->Xr,any_cons->rf,any_eq_false->zm,any_eq_true->yh,append_assoc->Qi,append_nil->Uh,drop_eq_getElem_cons->vg,drop_eq_nil_of_le->Yr,filterMap_cons->ai,filter_cons->Ie,filter_eq_self->bi,find?_cons->bp,find?_eq_none->av,foldl_cons->Wo,getD_eq_getElem?_getD->si,getElem?_append_left->Kb,getElem?_append_right->Od,getElem?_cons_zero->oj,getElem?_eq_getElem->Qc,getElem?_eq_none_iff->Kc,getElem?_eq_some_iff->la,getElem?_map->zb,getElem?_of_mem->Xt,getElem?_replicate->Dr,getElem?_set->Uc,getElem?_set_ne->jk,getElem?_set_self->zj,getElem?_take_of_lt->Uq,getElem?_toArray->jt,getElem_mem->Yn,getElem_of_mem->Fu,length_append->Dd,length_cons->bc,length_drop->Sw,length_filter_le->qh,length_map->xb,length_nil->Yo,length_set->Qx,length_take->xh,lookup_cons->Ab,map_append->Zc,map_cons->Ra,map_map->pd,map_nil->Am,mem_append->bf,mem_append_left->qb,mem_append_right->gb,mem_cons->Na,mem_cons_of_mem->Za,mem_cons_self->Wa,mem_filter->Jg,mem_filterMap->Kl,mem_map->Gb,mem_map_of_mem->Ic,mem_of_getElem?->Oa,mem_range->Wy,mem_singleton->ti,nil_append->Vx,nodup_append->kf,nodup_cons->qe,not_mem_nil->He,of_mem_zip->Vo,range_succ_eq_map->Wr,set_append_left->au,set_append_right->ot,set_cons_succ->Lc,set_cons_zero->Mc,size_toArray->za,take_length->nj
open List.Pairwise renaming filter->uF,imp->sF
open List.Perm renaming cons_inv->zaE
open List.cons renaming injEq->Yt
open Nat renaming le_of_eq->dt,le_of_lt->ug,le_refl->Ea,le_succ->Xo,le_trans->Qb,lt_irrefl->ge,lt_of_le_of_lt->iw,lt_of_lt_of_le->Xa,lt_succ_of_lt->Vi,lt_succ_self->Ed,lt_trans->qt,ne_of_gt->fh,ne_of_lt->Sa,not_lt->LN,one_ne_zero->bz,zero_le->Bu
open Ne renaming symm->qf
open Option renaming bind_eq_some_iff->Ui,getD_none->Yu,isSome_iff_exists->jf,isSome_map->Nl,map_eq_some_iff->Eb,map_some->Vn
open Option.some renaming inj->Lb,injEq->Wj
open Prod renaming ext->BW
open Prod.mk renaming inj->Ir
open PyProof.Rows renaming AllBare->zh,IntsAre->Cm,IsTup->bv,callWith_builtin1->ZI,callWith_type1->Hf,iadd_int->YI,slot_tuple_getitem->Rc,Subscript_->xA,args_tuple_getitem->wA,boot_list->Zu,boot_min->PN,boot_sum->Ux,boot_tuple->bg,entry_tuple_getitem->Yy,envOfC->Ag,get?_update_seq->cJ,seqObj->km,slicePart_none->KN,subscriptTail->WW,subscriptTail_builtinR->dw,tupleItemsOf_->CW
open PyProof.Rows.IsTup renaming new->bw
open PySem renaming Around->Ta,BindsTo->Mg,Builtin->vw,CmpOp->Yq,DictEntry->DF,Drawn->bC,Env->nh,ExceptHandler->Tg,Expr->Ua,FuncData->Ke,GenState->Rp,IsPair->UN,IsPart->jm,Keyword->Gk,Model->fm,NameKind->Pf,Obj->Vc,Operator->im,OsState->gC,Params->RN,PassesOwn->Kq,PlainAttrs->Qo,Pos->Ve,Program->Ca,boot_len->qc,mem_of_lookup->zf,Result->DA,Sem->iq,SetTable->Dh,Shared->aa,World->Ya,assign->gm,assignEach->df,atKey->iv,attributeBase->oe,backTo->Wc,backToKw->Xj,behindInMarks->Pe,behindIsImport->SN,binaryOp->ff,bindC->gv,bindL->fv,bindSpecialIfBound?->gz,callSpecialIfBound?->ez,callWith->Wx,call_list_seq->UW,call_meetsIn->Qp,callerA->Ch,cellsFrom->AF,checkBuiltinCall->FF,cmpInfo_Eq->BA,codeAny_builtin->Ci,codeAny_call_builtin->Sx,codeAny_handlers_test->Uw,codeAny_mono->Oi,compareOp->Ub,concat_meets->Zv,eval->vc,evalPart_none->DW,foldedSetIterable->Ah,getItem->Bj,getMethod->Bm,handleBy->TN,holding->Lg,inplaceOp->xF,intBits_le_64->AW,isTrue->CA,keywordEach->oh,noFill_tuple_add->Hq,noteFrame->ph,oneThing_ref->sw,plainId_quiet->Ij,rawInt->Kf,richCompare->lm,seqIndex_neg->cw,seqIndex_of->Px,seq_tuple_add->Cu,setFlight->Yj,setItem->uw,sliceBounds->li,slot_list_getitem->XB,standAt->Fk,starEach->ua,storeName->wF,subscripted->ar,swappedStores->ao,swapsWith->Xi,swapsWithSole->Zn,sysModules->gh,tryCompare->zt,tupleKind->Jq,tupleKind_room_in1->ej,typeOf->yt,valueAt->as,wpAny_Call_Name_kw->Zf,wpAny_Call_method_late->gw,wpAny_Name->uA,wpAny_askSetting->rF,wpAny_assign_Name->UB,wpAny_bind->da,wpAny_cRoomFor->wt,wpAny_call->Oo,wpAny_callSpecial?_slot->Xu,wpAny_call_entry->Iq,wpAny_comprehension_free->Gu,wpAny_execs_cons->pF,wpAny_execs_nil->Kk,wpAny_field->Zl,wpAny_handleBy_cons->az,wpAny_holding->Td,wpAny_isSame_ref_other->Ek,wpAny_isTrue_Compare1->Rw,wpAny_is_other->kt,wpAny_letGo->Wq,wpAny_load->vA,wpAny_loadName_cell->Xy,wpAny_loadName_local->Ox,wpAny_loadPart_at->ye,wpAny_mono->Hc,wpAny_newFunctionEnv->dm,wpAny_newList->VW,wpAny_newObj_type->Bf,wpAny_passesOwn->zi,wpAny_pure->ra,wpAny_pyIter_enum->YB,wpAny_pyIter_list->Op,wpAny_pyIter_tuple->yA,wpAny_pyIter_zip->qF,wpAny_seqItems->vt,wpAny_sequenceKey->VB,wpAny_standAt->Au,wpAny_truthy_bool->Ud,wpAny_tryCatch->Of,wpAny_typeOf->aw,wpAny_updateSeq->Hr,wp_field_iff->qw,wp_setField_iff->aJ
open PySem.Around renaming frames_deeper->Vr,under->Zq
open PySem.Bind renaming checkArgs->Xg
open PySem.BindsTo renaming of_defaults->Ih
open PySem.Builtin renaming bitAnd->dg
open PySem.Builtin.List renaming listTooLong->Vh
open PySem.Builtin.Range renaming rangeSize->yF
open PySem.Builtin.Slice renaming sliceAdjust->Bh,sliceApplied->xl,sliceFields->CF,slicePartIndex->BF,slicePlaces->Sf
open PySem.Builtin.Tuple renaming tupleExact->eg,tupleHashOf->EF,tupleItemsOf->yl
open PySem.Calls renaming Name_function_global->Np,callWith_builtin->wj,evalArgs_plain->Vj
open PySem.CmpOp renaming In->QN,NotIn->cC
open PySem.Code renaming frames->zF,isFrame->Zr
open PySem.DictEntry renaming refKey->zaF
open PySem.EntryCells renaming newEntry->Lq
open PySem.F renaming cmpArgs_eq->NN,cmpEntry_eq->dJ,cmpKind_eq->ON,cmpSplit_eq->eJ,cmp_object->Po,args_tuple_add_2->Ai,entry_min_loop->fj,entry_tuple_add->Ni,excBase_ValueError->Ge,plainAttrs_dict->Fg,plainAttrs_list->Gg,plain_min_loop->Jf,slot_dict_delitem->Zo,slot_dict_items->Pi,slot_dict_pop->Vq,slot_dict_setdefault->Bn,slot_list_append->Di,slot_tuple_add->dj,type_dict_items->gq,type_list_append->Ei
open PySem.Heap renaming FlyingW->fC,HeldW->jq,SameBut->qg,get?_eq_some->jw,get?_push_of_some->qa,get?_push_size->Bb,get?_update_other->Aj,get?_update_self->ft,lt_size->Ba,size_push->Wg
open PySem.Heap.DictOf renaming new->MN
open PySem.Heap.IsSliceOf renaming new->WB
open PySem.Heap.IsTuple renaming push->bJ
open PySem.Heap.SameBut renaming update->pj
open PySem.IsL renaming update->zaA
open PySem.Manifest renaming signature?->Eh
open PySem.NameKind renaming cell->ud,free->Ib
open PySem.Obj renaming data_mapFields->am,mapFields->gj,mapSeq->og
open PySem.PassesOwn renaming leaving->zaC,looking->zaD
open PySem.Sem renaming wp_bind'->An,wp_mono->Eu
open PySem.SeqAt renaming EqAt->ae,RcAt->ni,RcNeAt->ci,in_listAt->Tw,in_tupleAt->ew,notIn_listAt->Du,notIn_tupleAt->Wt
open PySem.SeqAt.EqAt renaming bool_bool->JW,bool_int->KW,bool_none->IW,bool_str->LW,int_bool->NW,int_int->QW,int_none->MW,int_str->Sq,none_bool->EW,none_int->GW,none_str->HW,same->Ll,str_bool->SW,str_int->Tq,str_none->RW,str_str->TW
open PySem.SetTable renaming below->jv,fresh->mv,has->Vw,insertAt->Nk
open PySem.SetTable.below renaming go->Tp
open PySem.Str renaming ofString->Cn
open PySem.Value renaming bool->rh,bytes->aC,float->xt,int->ii,isInt->ZB,isStrOf->dz,none->lc,ref->Nb,str->Xq,type->vF
open PySem.W.WData renaming int->gJ
open PySem.W.WShape renaming has->dC
open PySem.Walks renaming list->Pp
open PySem.WalksT renaming zip2->AA
open PySem.Within renaming cons->XI
noncomputable section
namespace L2
open PySem PySem.Spec PyProof.Rows
abbrev sd:=Sum Int Str
noncomputable def nB:sd->Value->Bool
 | .inl k,v=>ZB k v
 | .inr x,v=>dz x v
noncomputable def L0(w:Ya):sd->Int
 | .inl k=>hashInt k
 | .inr x=>hashStr w x
theorem nv:∀ {k:sd} {v:Value},nB k v=true->(∃ i t,k=Sum.inl i/\v=ii i t)\/(∃ x t,k=Sum.inr x/\v=Xq x t)
 | .inl i,v,h=>by
  obtain⟨t,e⟩:=Value.isInt_shape (k:=i) (v:=v) h;exact .inl ⟨i,t,rfl,e⟩
 | .inr x,v,h=>by
  obtain⟨t,e⟩:=Value.isStrOf_shape (x:=x) (v:=v) h;exact .inr ⟨x,t,rfl,e⟩
theorem iX(i:Int)(t:Tok):nB (.inl i) (.int i t)=true:=by simp[nB,ZB]
theorem ť(x:Str)(t:Tok):nB (.inr x) (.str x t)=true:=by simp[nB,dz]
theorem Æ(a b:Int):decide ((Sum.inl a:sd)=Sum.inl b)=(a == b):=by
 by_cases e:a=b
 ·subst e;simp
 ·have h:¬ (Sum.inl a:sd)=Sum.inl b:=λq=>e (Sum.inl.inj q);rw[Da h];exact(Oe.mpr e).symm
theorem MX(a b:Str):decide ((Sum.inr a:sd)=Sum.inr b)=decide (a=b):=by
 by_cases e:a=b
 ·subst e;simp
 ·have h:¬ (Sum.inr a:sd)=Sum.inr b:=λq=>e (Sum.inr.inj q);rw[Da h,Da e]
theorem δ(a:Int)(b:Str):decide ((Sum.inl a:sd)=Sum.inr b)=false:=Da (λq=>nomatch q)
theorem nY(a:Str)(b:Int):decide ((Sum.inr a:sd)=Sum.inl b)=false:=Da (λq=>nomatch q)
def tm(c:Ca)(w:Ya):PySem.KeyKind c w sd where
 is:=nB
 hash:=L0 w
 inj:=λv a b g f=>by
  rcases nv g with⟨i,t,rfl,rfl⟩|⟨x,t,rfl,rfl⟩
  ·rcases nv f with⟨j,u,rfl,e⟩|⟨y,u,rfl,e⟩
   ·injection e with e1 _;rw[e1]
   ·exact nomatch e
  ·rcases nv f with⟨j,u,rfl,e⟩|⟨y,u,rfl,e⟩
   ·exact nomatch e
   ·injection e with e1 _;rw[e1]
 byValue:=λk v h=>by
  rcases nv h with⟨i,t,rfl,rfl⟩|⟨x,t,rfl,rfl⟩<;>rfl
 pyHash:=λd h=>by
  rcases nv d with⟨i,t,rfl,rfl⟩|⟨x,t,rfl,rfl⟩
  ·exact wpAny_pyHash_int h
  ·exact wpAny_pyHash_str h
 eqBool:=λl d h=>by
  rcases nv l with⟨i,t,rfl,rfl⟩|⟨x,t,rfl,rfl⟩
  ·rcases nv d with⟨j,u,rfl,rfl⟩|⟨y,u,rfl,rfl⟩
   ·rw[Æ]at h;exact wpAny_eqBool_int h
   ·rw[δ]at h;exact Sq i t y u _ _ _ _ h
  ·rcases nv d with⟨j,u,rfl,rfl⟩|⟨y,u,rfl,rfl⟩
   ·rw[nY]at h;exact Tq x t j u _ _ _ _ h
   ·rw[MX]at h;exact wpAny_eqBool_str h
 «strs»:=λk x t v h=>by
  rcases nv h with⟨i,u,rfl,e⟩|⟨y,u,rfl,e⟩
  ·exact nomatch e
  ·injection e with e1 _;subst e1;cases v<;>rfl
theorem HY(a:Ca)(w:Ya)(i:Int)(t:Tok):(tm a w).is (.inl i) (.int i t)=true:=iX i t
theorem v6(a:Ca)(w:Ya)(x:Str)(t:Tok):(tm a w).is (.inr x) (.str x t)=true:=ť x t
inductive V where
 |Rb|bl (b:Bool)|int (i:Int)|str (x:Str)|YH (b:Array UInt8)|Uz (b:UInt64)|ref (a:Addr)|ty (n:String)
 deriving DecidableEq
def Qd:V->Value->Prop
 | .Rb,u=>u=lc
 | .bl b,u=>u=rh b
 | .int i,u=>∃ t,u=ii i t
 | .str x,u=>∃ t,u=Xq x t
 | .YH b,u=>∃ t,u=aC b t
 | .Uz b,u=>∃ t,u=xt b t
 | .ref a,u=>u=Nb a
 | .ty n,u=>u=vF n
abbrev Se:List V->List Value->Prop:=Paired Qd
theorem Se.length(r:Se xs a):xs.length=a.length:=Paired.length r
theorem Se.get:∀ {xs:List V} {us:List Value} {i:Nat} {x:V},Se xs us->xs[i]?=some x->∃ u,us[i]?=some u/\Qd x u
 |_,_,_,_,.nil,e=>by simp at e
 |_,_,0,_,.cons r _,e=>by simp at e;subst e;exact⟨_,rfl,r⟩
 |_,_,i+1,x,.cons _ t,e=>by
  obtain⟨u,a,b⟩:=Se.get (i:=i) (x:=x) t (by simpa using e);exact⟨u,by simpa using a,b⟩
theorem Se.set(r:Qd x u):∀ {xs:List V} {us:List Value} (i:Nat),Se xs us->Se (xs.set i x) (us.set i u)
 |_,_,_,.nil=>.nil
 |_,_,0,.cons _ t=>.cons r t
 |_,_,i+1,.cons q t=>.cons q (Se.set r i t)
theorem Se.append:∀ {xs a:List V} {us ws:List Value},Se xs us->Se a ws->Se (xs++a) (us++ws)
 |_,_,_,_,.nil,s=>s
 |_,_,_,_,.cons r t,s=>.cons r (Se.append t s)
theorem Se.take:∀ {xs:List V} {us:List Value} (n:Nat),Se xs us->Se (xs.take n) (us.take n)
 |_,_,0,_=>.nil
 |_,_,_+1,.nil=>.nil
 |_,_,n+1,.cons r t=>.cons r (Se.take n t)
theorem Se.drop:∀ {xs:List V} {us:List Value} (n:Nat),Se xs us->Se (xs.drop n) (us.drop n)
 |_,_,0,r=>r
 |_,_,_+1,.nil=>.nil
 |_,_,n+1,.cons _ t=>Se.drop n t
theorem Se.none_of:∀ {xs:List V} {us:List Value} {i:Nat},Se xs us->xs[i]?=none->us[i]?=none:=fun {xs us i} r e=>by
 have a:=r.length;have b:xs.length<=i:=Kc.mp e;exact Kc.mpr (by omega)
def xp:Option V->Option Value->Prop
 |some v,some u=>Qd v u
 |none,none=>True
 |_,_=>False
def KV{a:Type}:List (a × V)->List (a × Value)->Prop:=Paired λ(p:a × V) (q:a × Value)=>p.1=q.1/\Qd p.2 q.2
noncomputable def kV:sd->V
 | .inl i=>.int i
 | .inr x=>.str x
inductive HO where
 |va (xs:List V)
 |Ga (xs:List V)
 |dK (kvs:List (sd × V))|dT (kvs:List (List sd × V))
 |set (S:Int->Bool) (n:Nat)
 |Ld (C dx:Addr) (fs:List (Str × V))
 |own (x:Addr)
 |xd (fs:List (Str × V))
 |met (f x:Addr)
 |fG (lo hi:Int)
 |jc (o:Vc) (u:HO)
 |Fm (ps:Array Value)
 |ext (φ:Heap->Prop)
abbrev Hp:=Addr->Option HO
noncomputable def rc(H:Hp)(a:Addr)(o:HO):Hp:=λb=>if b=a then some o else H b
theorem Mh:rc H a o a=some o:=by unfold rc;rw[ja rfl]
theorem me(h:b≠a):rc H a o b=H b:=by unfold rc;rw[ka h]
theorem FN{H:Hp}(h:H a=some o)(c:H b=some u)(d:o≠u):a≠b:=by
 intro e;subst e;rw[h]at c;exact d (Lb c)
theorem nq{H:Hp}(h:H a=some o)(c:H b=none):a≠b:=by
 intro e;subst e;rw[h]at c;cases c
section
variable(P:Ca)(w:Ya)
def ak(H:Hp)(h:Heap)(a:Addr):HO->Prop
 | .va xs=>xs.length<=sizeLine/\∃ (b:List Value) (n:Nat),Se xs b/\h.get? a=some { cls:=.type "list",data:=.seq b.toArray n }
 | .Ga xs=>xs.length<=sizeLine/\∃ b:List Value,Se xs b/\bv h a b.toArray
 | .dK c=>c.length<=sizeLine/\(a == gh)=false/\∃ l,KV c l/\h.DictOf (tm P w) a l
 | .dT c=>c.length<=sizeLine/\(a == gh)=false/\∃ xs:List (List sd × Addr × Value),
   Paired (λ(p:List sd × V) (q:List sd × Addr × Value)=>p.1=q.1/\H q.2.1=some (.Ga (p.1.map kV))/\Qd p.2 q.2.2) c xs/\
   ∃ o i m,h.get? a=some o/\o.ExactDict/\o.data=.dict i m/\i.toList=xs.map (entryOfKey (Jq (tm P w)))/\(xs.map (·.1)).Nodup
 | .set S n=>h.SetOf (intKind P w) a S n
 | .Ld C g e=>H g=some (.own a)/\e.length<=1000/\g≠a/\h.get? a=some (W.instObj C g)/\
   ∃ d,h.Ns1 g d/\(∀ f,xp (e.lookup f) (d f))/\PySem.Within d (e.map (·.1))
 | .own _=>∃ o,h.get? a=some o
 | .xd e=>∃ d,h.Ns1 a d/\∀ f,xp (e.lookup f) (d f)
 | .fG lo r=>∃ t u v,h.get? a=some { cls:=.type "range",data:=.fields #[.int lo t,.int r u,.int 1 v] }
 | .jc o u=>h.get? a=some o/\ak H h a u
 | .Fm s=>h.get? a=some { cls:=.none,data:=.fields s }
 | .met f x=>h.get? a=some (W.methodObj (.ref f) (.ref x))
 | .ext φ=>φ h/\(∃ o,h.get? a=some o)/\∀ j k:Heap,φ j->(∀ o,j.get? a=some o->k.get? a=some o)->φ k
def mj(H:Hp)(h:Heap):Prop:=∀ a o,H a=some o->ak P w H h a o
end
section
variable{P:Ca}{w:Ya}{H H':Hp}{h h':Heap}{a:Addr}{o:HO}
theorem ak.lt(x:ak P w H h a o):a<h.objs.size:=by
 cases o with
 |va xs=>obtain⟨_,_,_,_,e⟩:=x;exact Ba e
 |Ga xs=>obtain⟨_,_,_,p⟩:=x;exact p.lt
 |dK b=>obtain⟨_,_,_,_,o,_,_,e,_⟩:=x;exact Ba e
 |dT b=>obtain⟨_,_,_,_,o,_,_,e,_⟩:=x;exact Ba e
 |set S n=>obtain⟨o,_,_,_,e,_⟩:=x;exact Ba e
 |Ld C d c=>obtain⟨_,_,_,e,_⟩:=x;exact Ba e
 |own y=>obtain⟨_,e⟩:=x;exact Ba e
 |xd c=>obtain⟨_,⟨_,_,_,e,_⟩,_⟩:=x;exact Ba e
 |fG lo g=>obtain⟨_,_,_,e⟩:=x;exact Ba e
 |jc i u=>obtain⟨e,_⟩:=x;exact Ba e
 |Fm j=>exact Ba (show h.get? a=some _ from x)
 |met f y=>exact Ba (show h.get? a=some _ from x)
 |ext k=>obtain⟨_,⟨_,e⟩,_⟩:=x;exact Ba e
theorem Paired.ur:∀ {c:List e} {d:List g},Paired F c d->(∀ a b,F a b->G a b)->Paired G c d
 |_,_,.nil,_=>.nil
 |_,_,.cons r t,f=>.cons (f _ _ r) (Paired.ur t f)
theorem ak.Uk(x:ak P w H h a o)(k:∀ b u,(b=a\/H b=some (.own a))->h.get? b=some u->h'.get? b=some u)
  (F:∀ b,H b=some (.own a)->H' b=some (.own a)) (G:∀ b xs,H b=some (.Ga xs)->H' b=some (.Ga xs)):ak P w H' h' a o:=by
 induction o with
 |va xs=>obtain⟨z,j,n,r,e⟩:=x;exact⟨z,j,n,r,k _ _ (.inl rfl) e⟩
 |Ga xs=>obtain⟨z,j,r,ob,e,c⟩:=x;exact⟨z,j,r,ob,k _ _ (.inl rfl) e,c⟩
 |dK l=>obtain⟨z,y,K,r,ob,i,g,e,c⟩:=x;exact⟨z,y,K,r,ob,i,g,k _ _ (.inl rfl) e,c⟩
 |dT l=>
  obtain⟨z,y,xs,r,ob,i,g,e,c⟩:=x;exact⟨z,y,xs,Paired.ur r λp q z=>⟨z.1,G _ _ z.2.1,z.2.2⟩,ob,i,g,k _ _ (.inl rfl) e,c⟩
 |set S n=>obtain⟨ob,i,g,t,e,c⟩:=x;exact⟨ob,i,g,t,k _ _ (.inl rfl) e,c⟩
 |Ld C L E=>
  obtain⟨d,z,J,e,m,⟨s,i,g,D,c⟩,r⟩:=x;exact⟨F _ d,z,J,k _ _ (.inl rfl) e,m,⟨s,i,g,k _ _ (.inr d) D,c⟩,r⟩
 |own y=>obtain⟨ob,e⟩:=x;exact⟨ob,k _ _ (.inl rfl) e⟩
 |xd E=>obtain⟨m,⟨s,i,g,e,c⟩,r⟩:=x;exact⟨m,⟨s,i,g,k _ _ (.inl rfl) e,c⟩,r⟩
 |fG lo M=>obtain⟨t,u,v,e⟩:=x;exact⟨t,u,v,k _ _ (.inl rfl) e⟩
 |jc ob u I=>obtain⟨e,q⟩:=x;exact⟨k _ _ (.inl rfl) e,I q⟩
 |Fm A=>
  have e:h.get? a=some { cls:=.none,data:=.fields A }:=x;show h'.get? a=some { cls:=.none,data:=.fields A };exact k a _ (.inl rfl) e
 |met f y=>
  have e:h.get? a=some (W.methodObj (.ref f) (.ref y)):=x;show h'.get? a=some (W.methodObj (.ref f) (.ref y));exact k a _ (.inl rfl) e
 |ext N=>obtain⟨p,⟨o,e⟩,B⟩:=x;exact⟨B _ _ p λo q=>k _ _ (.inl rfl) q,⟨o,k _ _ (.inl rfl) e⟩,B⟩
theorem mj.lt(x:mj P w H h)(e:H a=some o):a<h.objs.size:=(x a o e).lt
theorem mj.fresh(x:mj P w H h)(e:h.objs.size<=a):H a=none:=by
 cases q:H a with
 |none=>rfl
 |some u=>exact absurd (Xa (x.lt q) e) (ge _)
theorem mj.kept(x:mj P w H h)(k:∀ b u,h.get? b=some u->h'.get? b=some u):mj P w H h':=λa o e=>
 (x a o e).Uk (λb u _ q=>k b u q) (λ_ q=>q) λ_ _ q=>q
theorem mj.laid(x:mj P w H h)(k:∀ b u,h.get? b=some u->h'.get? b=some u)(i:h.objs.size<=a)(d:ak P w (rc H a o) h' a o):mj P w (rc H a o) h':=λb u e=>by
 have g:=x.fresh i;by_cases f:b=a
 ·subst f;rw[Mh]at e;cases e;exact d
 ·rw[me f]at e;exact(x b u e).Uk (λc v _ q=>k c v q) (λc q=>by rw[me (nq q g)];exact q) λc xs q=>by rw[me (nq q g)];exact q
end
def Rd(H:Hp)(a:Addr)(u:HO):Prop:=H a=some u\/∃ o,H a=some (.jc o u)
theorem Rd.of(h:H a=some u):Rd H a u:=.inl h
theorem Rd.ok(r:Rd H a u)(x:mj P w H h):ak P w H h a u:=by
 rcases r with r|⟨o,r⟩
 ·exact x a u r
 ·obtain⟨_,q⟩:=x a _ r;exact q
def tD:Option HO->Prop
 |some (.va _)=>True
 |some (.dK _)=>True
 |some (.dT _)=>True
 |some (.set _ _)=>True
 |some (.Ld _ _ _)=>True
 |some (.ext _)=>True
 |_=>False
section
variable{P:Ca}{w:Ya}{H:Hp}{h h':Heap}{x e:Addr}{o':HO}
theorem mj.write(ok:mj P w H h)(j:tD (H x))(n:e=x\/H e=some (.own x))(k:∀ b u,b≠e->h.get? b=some u->h'.get? b=some u)(l:∃ u,h'.get? e=some u)
  (m:ak P w (rc H x o') h' x o'):mj P w (rc H x o') h':=λb u q=>by
 have d:∀ c y,H c=some (.own y)->c≠x:=λc y r z=>by subst z;rw[r]at j;exact j
 have f:∀ c xs,H c=some (.Ga xs)->c≠x:=λc xs r z=>by subst z;rw[r]at j;exact j
 by_cases g:b=x
 ·subst g;rw[Mh]at q;cases q;exact m
 ·rw[me g]at q;by_cases a:b=e
  ·have o:H b=some (.own x):=by
    rcases n with z|z
    ·exact absurd (a.trans z) g
    ·rw[a];exact z
   rw[q]at o;cases o;obtain⟨v,p⟩:=l;exact⟨v,by rw[a];exact p⟩
  ·refine(ok b u q).Uk (λc v i r=>k c v ?_ r) (λc r=>by rw[me (d c b r)];exact r) λc xs r=>by rw[me (f c xs r)];exact r
   rcases i with rfl|i
   ·exact a
   ·rintro rfl;rcases n with z|z
    ·exact d c b i z
    ·rw[i]at z;cases z;exact g rfl
end
structure Un(fs ex:List Addr)(H H':Hp)(h h':Heap):Prop where
 keep:∀ b o,h.get? b=some o->H b=none->b ∉ fs->b ∉ ex->h'.get? b=some o
 slot:∀ b o,h.get? b=some o->H b=none->b∈fs->b ∉ ex->∃ sl,h'.get? b=some { o with slots:=sl }
 free:∀ b o,h.get? b=some o->H b=none->b ∉ ex->H' b=none
 there:∀ b o,h.get? b=some o->b ∉ ex->∃ o',h'.get? b=some o'
 Gj:∀ b xs,H b=some (.Ga xs)->H' b=some (.Ga xs)
 ui:∀ b o u,H b=some (.jc o u)->H' b=some (.jc o u)
 tj:∀ b ps,H b=some (.Fm ps)->∃ more,H' b=some (.Fm (ps++more))
section
variable{fs fs' ex ex':List Addr}{H H1 H2:Hp}{h h1 h2 h':Heap}{a x e:Addr}{o:HO}
theorem Un.any(u:Un fs ex H H1 h h1){a:Vc}(q:h.get? b=some a)(n:H b=none)(d:b ∉ ex):∃ e,h1.get? b=some { a with slots:=e }:=by
 by_cases c:b∈fs
 ·exact u.slot b a q n c d
 ·exact⟨a.slots,u.keep b a q n c d⟩
theorem Un.trans(a:Un fs ex H H1 h h1)(b:Un fs ex H1 H2 h1 h2):Un fs ex H H2 h h2 where
 keep:=λc e q n g d=>b.keep c e (a.keep c e q n g d) (a.free c e q n d) g d
 slot:=λc e q n g d=>by
  obtain⟨p,f⟩:=a.slot c e q n g d;obtain⟨k,i⟩:=b.slot c _ f (a.free c e q n d) g d;exact⟨k,i⟩
 free:=λc e q n d=>by
  obtain⟨j,f⟩:=a.there c e q d;exact b.free c j f (a.free c e q n d) d
 there:=λc e q d=>by
  obtain⟨j,f⟩:=a.there c e q d;exact b.there c j f d
 Gj:=λc xs q=>b.Gj c xs (a.Gj c xs q)
 ui:=λc e xs q=>b.ui c e xs (a.ui c e xs q)
 tj:=λc o q=>by
  obtain⟨l,f⟩:=a.tj c o q;obtain⟨m,i⟩:=b.tj c _ f;exact⟨l++m,by rw[i,wl]⟩
theorem Un.kept(k:∀ b u,h.get? b=some u->h'.get? b=some u):Un fs ex H H h h':=
 ⟨λb a q _ _ _=>k b a q,λb a q _ _ _=>⟨a.slots,k b a q⟩,λ_ _ _ n _=>n,λb a q _=>⟨a,k b a q⟩,λ_ _ q=>q,λ_ _ _ q=>q,λ_ c q=>⟨#[],by rw[q];simp⟩⟩
theorem Un.refl:Un fs ex H H h h:=Un.kept λ_ _ q=>q
theorem Un.laid(k:∀ b u,h.get? b=some u->h'.get? b=some u)(d:h.objs.size<=a)(c:H a=none):Un fs ex H (rc H a o) h h' where
 keep:=λb u q _ _ _=>k b u q
 slot:=λb u q _ _ _=>⟨u.slots,k b u q⟩
 free:=λb u q n _=>by rw[me (Sa (Xa (Ba q) d))];exact n
 there:=λb u q _=>⟨u,k b u q⟩
 Gj:=λb xs q=>by rw[me (nq q c)];exact q
 ui:=λb u xs q=>by rw[me (nq q c)];exact q
 tj:=λb e q=>⟨#[],by rw[me (nq q c),q];simp⟩
theorem Un.write(c:tD (H x))(j:e=x\/H e=some (.own x))(k:∀ b u,b≠e->h.get? b=some u->h'.get? b=some u)(d:∃ u,h'.get? e=some u):Un fs ex H (rc H x o) h h':=by
 have i:∀ b,H b=none->b≠x:=λb n z=>by subst z;rw[n]at c;exact c
 have g:∀ b,H b=none->b≠e:=λb n z=>by
  subst z;rcases j with r|r
  ·exact i b n r
  ·rw[n]at r;cases r
 have f:∀ b u,H b=some u->¬ tD (some u)->b≠x:=λb u q l z=>by subst z;rw[q]at c;exact l c
 refine⟨λb u q n _ _=>k b u (g b n) q,λb u q n _ _=>⟨u.slots,k b u (g b n) q⟩,λb u q n _=>by rw[me (i b n)];exact n,λb u q _=>?_,
  λb xs q=>by rw[me (f b _ q λz=>z)];exact q,λb u xs q=>by rw[me (f b _ q λz=>z)];exact q,λb m q=>⟨#[],by rw[me (f b _ q λz=>z),q];simp⟩⟩
 by_cases a:b=e
 ·subst a;exact d
 ·exact⟨u,k b u a q⟩
theorem Un.mono(u:Un fs ex H H1 h h1)(f:∀ b∈fs,b∈fs')(d:∀ b∈ex,b∈ex'):Un fs' ex' H H1 h h1:=
 ⟨λb c q n e a=>u.keep b c q n (λz=>e (f b z)) λz=>a (d b z),λ_ _ q n _ a=>u.any q n λz=>a (d _ z),λb c q n a=>u.free b c q n λz=>a (d b z),λb c q a=>u.there b c q λz=>a (d b z),u.Gj,u.ui,u.tj⟩
end
noncomputable def zI(h:Heap)(H:Hp):List Addr:=(List.range h.objs.size).filter λa=>(H a).isSome
def xu(h:Heap)(H:Hp):Heap:=W.hideAll h (zI h H)
theorem fV(h:Heap)(H:Hp):(xu h H).objs.size=h.objs.size:=W.hideAll_size _ _
theorem cV(e:h.get? b=some o)(n:H b=none):(xu h H).get? b=some o:=
 W.hideAll_get _ e λa=>by
  have q:(H b).isSome=true:=(Jg.mp a).2;rw[n]at q;simp at q
theorem rT(e:(xu h H).get? b=some o):h.get? b=some o/\H b=none:=by
 have a:h.get? b=some o:=W.of_hideAll (zI h H) e;refine⟨a,?_⟩;cases q:H b with
 |none=>rfl
 |some x=>
  have c:b∈zI h H:=Jg.mpr ⟨Wy.mpr (Ba a),by simp[q]⟩;have z:(xu h H).get? b=none:=W.hideAll_none (zI h H) c;rw[z]at e;cases e
noncomputable def Ż(g h:Heap)(L:Addr):List (Addr × Vc):=(List.range h.objs.size).filterMap λa=>if a=L\/(g.get? a).isSome=true then none else (h.get? a).map λo=>(a,o)
def rest(g h:Heap)(L d:Addr):List (Addr × Vc):=(Ż g h L).filter λp=>decide (p.1≠d)
structure Mod(K:W.Frag)(mg:Str->Option Value)(base:Heap):Prop where
 My:K.In base
 glob:base.Ns mainGlobals mg
 blt:∃ mb,base.Ns builtinsNs mb/\∀ x:Str,x ≠ "__name__"->mb x=bootBuiltins x
 nolimit:base.NoLimit
structure Cx where
 prog:Ca
 w:Ya
 K:W.Frag
 mg:Str->Option Value
 base:Heap
 A:Ta
 N:List Str
 s₀:aa
 H₀:Hp
 env:nh
 outer:List nh
 stack:List nh
 ex:List Addr
 fn:Str->Bool
 Aa:Bool
 pn:List (Addr × Vc)
 xe:Value->aa->Prop
noncomputable def rk(l:List nh):List Addr:=l.filterMap (·.frame)
abbrev Cx.fs(X:Cx):List Addr:=rk X.outer
def MI(sc:Scope)(x:Str):Prop:=sc.names.lookup x=some .local\/sc.names.lookup x=some .cell\/sc.names.lookup x=some .free
def Loc(sc:Scope)(x:Str):Prop:=sc.names.lookup x=some .local\/sc.names.lookup x=some .cell
def lY(a:nh)(h:Heap)(m:Str->Option Value)(x:Str)(u:Value):Prop:=
 (a.kindOf x=some .local/\m x=some u)\/((a.kindOf x=some .cell\/a.kindOf x=some .free)/\∃ c,a.cells.lookup x=some c/\h.IsCell c (some u))
structure Cx.Ok(X:Cx):Prop where
 mod:Mod X.K X.mg X.base
 kind:X.env.scope.kind=.function
 glob:X.env.globals=mainGlobals
 blt:X.env.builtins=builtinsNs
 above:X.s₀.heap.objs.size<=X.env.locals
 inj:∀ x y c,X.env.cells.lookup x=some c->X.env.cells.lookup y=some c->x=y
 has:∀ x,(X.env.kindOf x=some .cell\/X.env.kindOf x=some .free)->∃ c,X.env.cells.lookup x=some c
 Yx:∀ x c,X.fn x=true->X.env.cells.lookup x=some c->X.s₀.heap.objs.size<=c
 hd:X.Aa=true->X.A.handled=none
 frames:X.A.frames=some X.stack
 wq:X.stack=X.outer\/(X.stack=X.env::X.outer/\X.env.frame=some X.env.locals)
 Bz:∀ b∈X.ex,b≠X.env.locals/\∀ x c,X.env.cells.lookup x=some c->c≠b
 bs:∀ b o,X.base.get? b=some o->X.s₀.heap.get? b=some o/\X.H₀ b=none
 Xs:X.base.objs.size<=X.s₀.heap.objs.size
 vr:∀ b o,X.base.get? b=some o->b ∉ X.ex
 xr:∀ b∈X.ex,b ∉ X.fs
 Pj:X.s₀.heap.FunFrames X.base X.outer
 Jv:∀ b∈X.fs,X.H₀ b=none
structure lb(X:Cx)(pins:List (Addr × Vc))(σ:List (Option V))(H:Hp)(s:aa):Prop where
 ok:X.Ok
 os:s.os=X.s₀.os
 bare:zh s.gens
 base:Un X.fs X.ex X.H₀ H X.s₀.heap s.heap
 loc:∃ m,s.heap.Ns X.env.locals m/\∀ (i:Nat) (x:Str) (v:V),X.N[i]?=some x->σ[i]?=some (some v)->MI X.env.scope x->∃ u,Qd v u/\lY X.env s.heap m x u
 cell:∀ x c,X.env.cells.lookup x=some c->∃ v,s.heap.IsCell c v
 free:H X.env.locals=none
 Ug:∀ x c,X.env.cells.lookup x=some c->H c=none
 pin:∀ p∈X.pn++pins,s.heap.get? p.1=some p.2/\H p.1=none/\p.1≠X.env.locals/\p.1 ∉ X.fs/\∀ v,p.2.data≠.cell v
 zd:mj X.prog X.w H s.heap
 len:σ.length=X.N.length
section
variable{X:Cx}{pins:List (Addr × Vc)}{σ:List (Option V)}{H H':Hp}{s:aa}{h':Heap}
theorem Cx.Ok.BK(ok:X.Ok)(e:X.base.get? b=some o):b ∉ X.fs:=λa=>by
 have:=(ok.Pj.mem a).1;rw[e]at this;cases this
theorem lb.bs(I:lb X pins σ H s):∀ b o,X.base.get? b=some o->s.heap.get? b=some o/\H b=none:=λb o e=>
 ⟨I.base.keep b o (I.ok.bs b o e).1 (I.ok.bs b o e).2 (I.ok.BK e) (I.ok.vr b o e),I.base.free b o (I.ok.bs b o e).1 (I.ok.bs b o e).2 (I.ok.vr b o e)⟩
theorem lb.bk(I:lb X pins σ H s):∀ b o,X.base.get? b=some o->s.heap.get? b=some o:=λb o e=>(I.bs b o e).1
theorem lb.mod(I:lb X pins σ H s):Mod X.K X.mg X.base:=I.ok.mod
theorem lb.Dk(I:lb X pins σ H s):X.K.In s.heap:=I.ok.mod.My.keeps I.bk
theorem lb.nolimit(I:lb X pins σ H s):s.heap.NoLimit:=I.ok.mod.nolimit.keeps I.bk
theorem lb.fr(I:lb X pins σ H s):∃ m,Fr X.base X.env.locals s.heap m:=
 let ⟨m,a,_⟩:=I.loc
 ⟨m,a,I.bk,Qb I.ok.Xs I.ok.above⟩
theorem lb.lt(I:lb X pins σ H s):X.env.locals<s.heap.objs.size:=let ⟨_,a,_⟩:=I.loc;a.lt
theorem lb.sz(I:lb X pins σ H s):X.s₀.heap.objs.size<=s.heap.objs.size:=Qb I.ok.above (ug I.lt)
theorem lb.OE(I:lb X pins σ H s)(h:s.heap.objs.size<=a):a ∉ X.fs:=λb=>by
 obtain⟨_,o,c,_⟩:=I.ok.Pj.mem b;exact absurd (Xa (Ba c) (Qb I.sz h)) (ge _)
theorem lb.QD(I:lb X pins σ H s):∀ x c,X.env.cells.lookup x=some c->c≠X.env.locals:=λx c e z=>by
 obtain⟨v,o,f,d⟩:=I.cell x c e;obtain⟨m,⟨i,h,g,b,a,_⟩,_⟩:=I.loc;rw[z,b]at f;cases f;rw[a]at d;cases d
theorem lb.Pj(I:lb X pins σ H s):s.heap.FunFrames X.base X.outer:=by
 have a:∀ (l:List nh),(∀ b∈rk l,b∈X.fs)->X.s₀.heap.FunFrames X.base l->s.heap.FunFrames X.base l:=by
  intro l;induction l with
  |nil=>intro _ _;trivial
  |cons env r p=>
   intro g j;obtain⟨i,⟨L,o,f,k,m,h⟩,n⟩:=j;have c:L∈X.fs:=g L (by unfold rk;rw[ai,f];exact Wa);obtain⟨q,e⟩:=I.base.slot L o m (I.ok.Jv L c) c λz=>I.ok.xr L z c;exact⟨i,⟨L,_,f,k,e,h⟩,p (λb d=>g b (by unfold rk;rw[ai,f];exact Za _ d)) n⟩
 exact a X.outer (λ_ d=>d) I.ok.Pj
theorem lb.stack(I:lb X pins σ H s):s.heap.FunFrames X.base X.stack:=by
 rcases I.ok.wq with e|⟨e,a⟩
 ·rw[e];exact I.Pj
 ·rw[e];obtain⟨m,b,_⟩:=I.loc;refine .cons (by rw[I.ok.kind];decide) a b ?_ I.Pj;exact Heap.get?_none_of_le (Qb I.ok.Xs I.ok.above)
theorem lb.Ys(I:lb X pins σ H s):∀ b∈rk X.stack,b∈X.env.locals::X.fs:=λb a=>by
 rcases I.ok.wq with e|⟨e,c⟩
 ·rw[e]at a;exact Za _ a
 ·rw[e]at a;unfold rk at a;rw[ai,c]at a;exact a
theorem lb.vl(I:lb X pins σ H s):∀ b∈rk X.stack,H b=none:=λb a=>by
 rcases Na.mp (I.Ys b a)with e|a
 ·rw[e];exact I.free
 ·obtain⟨_,o,c,_⟩:=I.ok.Pj.mem a;exact I.base.free b o c (I.ok.Jv b a) λz=>I.ok.xr b z a
theorem lb.step{ch:List Addr}(I:lb X pins σ H s)
  (h:∀ b∈ch,(b∈X.ex\/X.s₀.heap.objs.size<=b)/\b≠X.env.locals/\(∀ x c,X.env.cells.lookup x=some c->c≠b)/\∀ p∈X.pn++pins,p.1≠b)
  (j:∀ b o,b≠X.env.locals->b ∉ X.fs->b ∉ ch->s.heap.get? b=some o->H b=none->h'.get? b=some o)
  (B:∀ b o,b≠X.env.locals->b∈X.fs->b ∉ ch->s.heap.get? b=some o->H b=none->∃ R,h'.get? b=some { o with slots:=R }) (f:∀ b o,b ∉ ch->s.heap.get? b=some o->H b=none->H' b=none)
  (D:∀ b o,b ∉ ch->s.heap.get? b=some o->∃ L,h'.get? b=some L)
  (N:∀ b xs,H b=some (.Ga xs)->H' b=some (.Ga xs)) (G:∀ b o u,H b=some (.jc o u)->H' b=some (.jc o u)) (M:∀ b O,H b=some (.Fm O)->∃ J,H' b=some (.Fm (O++J)))
  (ns:∀ m,s.heap.Ns X.env.locals m->h'.Ns X.env.locals m) (Q:mj X.prog X.w H' h') (Z:zh g') :
  lb X pins σ H' { s with heap:=h',gens:=g',drawn:=d',toks:=t' }:=by
 have K:∀ b o,X.s₀.heap.get? b=some o->b≠X.env.locals:=λb o e=>Sa (Xa (Ba e) I.ok.above);have A:∀ b o,X.s₀.heap.get? b=some o->b ∉ X.ex->b ∉ ch:=λb o e a C=>by
  rcases(h b C).1 with z|z
  ·exact a z
  ·exact absurd (Xa (Ba e) z) (ge _)
 have g:∀ x c,X.env.cells.lookup x=some c->∀ v,s.heap.IsCell c v->h'.IsCell c v:=λx c e v ⟨o,E,P⟩=>by
  have t:c ∉ ch:=λz=>(h c z).2.2.1 x c e rfl;by_cases T:c∈X.fs
  ·obtain⟨R,q⟩:=B c o (I.QD x c e) T t E (I.Ug x c e);exact⟨_,q,P⟩
  ·exact⟨o,j c o (I.QD x c e) T t E (I.Ug x c e),P⟩
 refine⟨I.ok,I.os,Z,⟨λb o e n C a=>?_,λb o e n C a=>?_,λb o e n a=>?_,λb o e a=>?_,λb xs e=>N b xs (I.base.Gj b xs e),λb o xs e=>G b o xs (I.base.ui b o xs e),λb O e=>?_⟩,?_,λx c e=>?_,?_,λx c e=>?_,λp U=>?_,Q,I.len⟩
 ·exact j b o (K b o e) C (A b o e a) (I.base.keep b o e n C a) (I.base.free b o e n a)
 ·obtain⟨R,y⟩:=I.base.slot b o e n C a;obtain⟨S,F⟩:=B b _ (K b o e) C (A b o e a) y (I.base.free b o e n a);exact⟨S,F⟩
 ·obtain⟨L,y⟩:=I.base.there b o e a;exact f b L (A b o e a) y (I.base.free b o e n a)
 ·obtain⟨L,y⟩:=I.base.there b o e a;exact D b L (A b o e a) y
 ·obtain⟨m1,y⟩:=I.base.tj b O e;obtain⟨m2,F⟩:=M b _ y;exact⟨m1++m2,by rw[F,wl]⟩
 ·obtain⟨m,hn,hl⟩:=I.loc;refine⟨m,ns m hn,λi x v y F Y=>?_⟩;obtain⟨u,r,l⟩:=hl i x v y F Y;refine⟨u,r,?_⟩;rcases l with l|⟨k,c,e,z⟩
  ·exact .inl l
  ·exact .inr ⟨k,c,e,g x c e _ z⟩
 ·obtain⟨v,z⟩:=I.cell x c e;exact⟨v,g x c e v z⟩
 ·obtain⟨m,⟨o,_,_,E,_⟩,_⟩:=I.loc;exact f _ o (λz=>(h _ z).2.1 rfl) E I.free
 ·obtain⟨v,o,E,P⟩:=I.cell x c e;exact f c o (λz=>(h c z).2.2.1 x c e rfl) E (I.Ug x c e)
 ·obtain⟨e,n,V,W,d⟩:=I.pin p U;have t:p.1 ∉ ch:=λz=>(h p.1 z).2.2.2 p U rfl;exact⟨j p.1 p.2 V W t e n,f p.1 p.2 t e n,V,W,d⟩
theorem lb.un(I:lb X pins σ H s)(u:Un X.fs [] H H' s.heap h')(g:mj X.prog X.w H' h'):lb X pins σ H' { s with heap:=h',toks:=t' }:=by
 obtain⟨m,⟨o,p,l,h,r⟩,_⟩:=id I.loc;obtain⟨v,i⟩:=u.any h I.free (by simp);exact I.step (g':=s.gens) (d':=s.drawn) (ch:=[]) (λ_ z=>nomatch z) (λb o _ f _ e n=>u.keep b o e n f (by simp)) (λb o _ f _ e n=>u.slot b o e n f (by simp)) (λb o _ e n=>u.free b o e n (by simp)) (λb o _ e=>u.there b o e (by simp)) u.Gj u.ui u.tj (λq j=>by
  obtain⟨t,d,c,a,k⟩:=j;rw[h]at a;cases a;exact⟨_,d,c,i,k⟩) g I.bare
theorem lb.call(I:lb X pins σ H s)(u:Un (rk X.stack) ch H H' s.heap h')(j:mj X.prog X.w H' h')(q:zh g')
  (d:∀ b∈ch,(b∈X.ex\/X.s₀.heap.objs.size<=b)/\b≠X.env.locals/\(∀ x c,X.env.cells.lookup x=some c->c≠b)/\∀ p∈X.pn++pins,p.1≠b) :
  lb X pins σ H' { s with heap:=h',gens:=g',drawn:=d',toks:=t' }:=by
 obtain⟨m,⟨o,A,y,k,r⟩,_⟩:=id I.loc;obtain⟨D,i⟩:=u.any k I.free λz=>(d _ z).2.1 rfl;exact I.step (ch:=ch) d (λb o i l a e n=>u.keep b o e n (λz=>(Na.mp (I.Ys b z)).elim i l) a) (λb o _ _ a e n=>u.any e n a) (λb o a e n=>u.free b o e n a) (λb o a e=>u.there b o e a) u.Gj u.ui u.tj (λB t=>by
  obtain⟨C,h,g,f,v⟩:=t;rw[k]at f;cases f;exact⟨_,h,g,i,v⟩) j q
theorem lb.turned(I:lb X pins σ H s)(k:∀ b o,b≠it->s.heap.get? b=some o->h'.get? b=some o)(y:H it=none)(f:it≠X.env.locals)
  (i:it∈X.ex\/X.s₀.heap.objs.size<=it) (j:∀ x c,X.env.cells.lookup x=some c->c≠it) (l:∀ p∈X.pn++pins,p.1≠it):lb X pins σ H { s with heap:=h',toks:=t' }:=by
 have d:∀ b u,H b=some u->b≠it:=λb u e z=>by rw[z,y]at e;cases e
 refine I.step (g':=s.gens) (d':=s.drawn) (ch:=[it]) (λb t=>?_) (λb o _ _ a e _=>k b o (λz=>a (by simp[z])) e) (λb o _ _ a e _=>⟨o.slots,k b o (λz=>a (by simp[z])) e⟩) (λ_ _ _ _ n=>n)
  (λb o a e=>⟨o,k b o (λz=>a (by simp[z])) e⟩) (λ_ _ e=>e) (λ_ _ _ e=>e) (λb B e=>⟨#[],by rw[e];simp⟩) (λm w=>?_) (λb u e=>?_) I.bare
 ·have e:b=it:=by simpa using t
  subst e;exact⟨i,f,j,l⟩
 ·obtain⟨o,h,g,A,r⟩:=w;exact⟨o,h,g,k _ o (qf f) A,r⟩
 ·refine(I.zd b u e).Uk (λc v a q=>k c v ?_ q) (λ_ q=>q) λ_ _ q=>q;rcases a with z|z
  ·rw[z];exact d b u e
  ·exact d c _ z
theorem lb.tok(I:lb X pins σ H s)(t:Nat):lb X pins σ H { s with toks:=t }:=I.un (h':=s.heap) (t':=t) Un.refl I.zd
theorem lb.kept(I:lb X pins σ H s)(k:∀ b u,s.heap.get? b=some u->h'.get? b=some u):lb X pins σ H { s with heap:=h',toks:=t' }:=I.un (Un.kept k) (I.zd.kept k)
theorem lb.laid(I:lb X pins σ H s)(k:∀ b u,s.heap.get? b=some u->h'.get? b=some u)(c:s.heap.objs.size<=a)(d:ak X.prog X.w (rc H a o) h' a o) :
  lb X pins σ (rc H a o) { s with heap:=h',toks:=t' }:=I.un (Un.laid k c (I.zd.fresh c)) (I.zd.laid k c d)
theorem lb.write(I:lb X pins σ H s)(f:tD (H x))(d:e=x\/H e=some (.own x))(k:∀ b u,b≠e->s.heap.get? b=some u->h'.get? b=some u)(a:∃ u,h'.get? e=some u)
  (c:ak X.prog X.w (rc H x o) h' x o):lb X pins σ (rc H x o) { s with heap:=h',toks:=t' }:=I.un (Un.write f d k a) (I.zd.write f d k a c)
theorem lb.Lj(I:lb X pins σ H s)(h:∀ p∈a,s.heap.get? p.1=some p.2/\H p.1=none/\p.1≠X.env.locals/\p.1 ∉ X.fs/\∀ v,p.2.data≠.cell v):lb X a σ H s:=
 ⟨I.ok,I.os,I.bare,I.base,I.loc,I.cell,I.free,I.Ug,λp b=>(bf.mp b).elim (λz=>I.pin p (qb _ z)) (h p),I.zd,I.len⟩
theorem WJ{N:List Str}(e:N.Nodup){i j:Nat}(a:N[i]?=some x)(b:N[j]?=some x):i=j:=by
 obtain⟨f,c⟩:=la.mp a;obtain⟨g,d⟩:=la.mp b;exact(List.getElem_inj e).mp (c.trans d.symm)
theorem EU(I:lb X pins σ H s)(hN:X.N.Nodup)(T:X.N[i]?=some x)(B:Loc X.env.scope x)(r:Qd v u)
  (h:∀ s',lb X pins (σ.set i (some v)) H s'->(∃ a,qg a s.heap s'.heap/\(a=X.env.locals\/X.env.cells.lookup x=some a))->Q () s') (hf:X.fn x=true\/X.env.scope.names.lookup x=some .local:=by first|exact .inl rfl|exact .inr rfl|assumption):wpAny M A (wF X.env x u) Q E s:=by
 obtain⟨m,hn,hl⟩:=id I.loc;have S:(X.env.scope.kind == .class || (X.env.scope.kind == .module && X.env.locals != X.env.globals))=false:=by rw[I.ok.kind];rfl
 have F:i<σ.length:=by rw[I.len];exact(la.mp T).1
 have J:=I.QD;have l:∀ {a:Addr} {h':Heap},(∃ o,s.heap.get? a=some o/\H a=none)->qg a s.heap h'->mj X.prog X.w H h':=fun {a h'} ha f b ob e=>by
  obtain⟨_,_,C⟩:=ha;refine(I.zd b ob e).Uk (λc w' t q=>(f.2 c ?_).trans q) (λ_ q=>q) λ_ _ q=>q;rintro rfl;rcases t with rfl|t
  ·rw[C]at e;cases e
  ·rw[C]at t;cases t
 rcases B with G|G
 ·refine wpAny_storeName_local G hn (λh' a0 f=>?_) S;obtain⟨oL,_,_,a1,_⟩:=id hn;refine h _ ⟨I.ok,I.os,I.bare,⟨λb o e n K B=>?_,λb o e n K B=>?_,I.base.free,λb o e B=>?_,I.base.Gj,I.base.ui,I.base.tj⟩,⟨_,a0,λj y v' g D e3=>?_⟩,λy c e=>?_,I.free,I.Ug,λp hp=>?_,l ⟨oL,a1,I.free⟩ f,by simpa using I.len⟩ ⟨_,f,.inl rfl⟩
  ·exact(f.2 b (Sa (Xa (Ba e) I.ok.above))).trans (I.base.keep b o e n K B)
  ·obtain⟨sl,g⟩:=I.base.slot b o e n K B;exact⟨sl,(f.2 b (Sa (Xa (Ba e) I.ok.above))).trans g⟩
  ·obtain⟨o',g⟩:=I.base.there b o e B;exact⟨o',(f.2 b (Sa (Xa (Ba e) I.ok.above))).trans g⟩
  ·by_cases O:j=i
   ·subst O;rw[T]at g;cases g;rw[zj F]at D;cases D;exact⟨u,r,.inl ⟨G,by simp⟩⟩
   ·rw[jk (qf O)]at D;obtain⟨u',r',q⟩:=hl j y v' g D e3;refine⟨u',r',?_⟩;rcases q with⟨k,e⟩|⟨k,c,e,z⟩
    ·refine .inl ⟨k,?_⟩;have:y≠x:=λe=>O (WJ hN g (e ▸ T));simp[this,e]
    ·exact .inr ⟨k,c,e,z.sameBut f (J y c e)⟩
  ·obtain⟨w',z⟩:=I.cell y c e;exact⟨w',z.sameBut f (J y c e)⟩
  ·obtain⟨e,n,Z,nf,d⟩:=I.pin p hp;exact⟨(f.2 p.1 Z).trans e,n,Z,nf,d⟩
 ·have L:X.fn x=true:=by
   rcases hf with z|z
   ·exact z
   ·rw[z]at G;cases G
  obtain⟨c,t⟩:=I.ok.has x (.inl G);obtain⟨w',z⟩:=I.cell x c t;refine wpAny_storeName_cell I.ok.kind G t z (λh' P f=>?_);obtain⟨oc,U,W⟩:=id z;refine h { s with heap:=h' } ⟨I.ok,I.os,I.bare,⟨λb o e n K B=>?_,λb o e n K B=>?_,I.base.free,λb o e B=>?_,I.base.Gj,I.base.ui,I.base.tj⟩,⟨m,hn.sameBut f (qf (J x c t)),λj y v' g D e3=>?_⟩,λy Y e=>?_,I.free,I.Ug,λp hp=>?_,l ⟨oc,U,I.Ug x c t⟩ f,by simpa using I.len⟩ ⟨c,f,.inr t⟩
  ·exact(f.2 b (Sa (Xa (Ba e) (I.ok.Yx x c L t)))).trans (I.base.keep b o e n K B)
  ·obtain⟨sl,g⟩:=I.base.slot b o e n K B;exact⟨sl,(f.2 b (Sa (Xa (Ba e) (I.ok.Yx x c L t)))).trans g⟩
  ·obtain⟨o',g⟩:=I.base.there b o e B;exact⟨o',(f.2 b (Sa (Xa (Ba e) (I.ok.Yx x c L t)))).trans g⟩
  ·by_cases O:j=i
   ·subst O;rw[T]at g;cases g;rw[zj F]at D;cases D;exact⟨u,r,.inr ⟨.inl G,c,t,P⟩⟩
   ·rw[jk (qf O)]at D;obtain⟨u',r',q⟩:=hl j y v' g D e3;refine⟨u',r',?_⟩;rcases q with q|⟨k,Y,e,z'⟩
    ·exact .inl q
    ·refine .inr ⟨k,Y,e,z'.sameBut f ?_⟩;rintro rfl;exact O (WJ hN g (I.ok.inj _ _ _ e t ▸ T))
  ·by_cases R:Y=c
   ·subst R;exact⟨_,P⟩
   ·obtain⟨w2,z2⟩:=I.cell y Y e;exact⟨w2,z2.sameBut f R⟩
  ·obtain⟨e,n,Z,nf,d⟩:=I.pin p hp;refine⟨(f.2 p.1 ?_).trans e,n,Z,nf,d⟩;intro q;rw[q,U]at e;have q':oc=p.2:=Lb e;exact d w' (by rw[<-q'];exact W)
theorem ZG(I:lb X pins σ H s)(c:X.N.Nodup)(e:X.N[i]?=some x)(f:Loc X.env.scope x)(r:Qd v u)
  (h:∀ a,lb X pins (σ.set i (some v)) H a->Q () a) (d:X.fn x=true\/X.env.scope.names.lookup x=some .local:=by first|exact .inl rfl|exact .inr rfl|assumption):wpAny M A (wF X.env x u) Q E s:=
 EU I c e f r (λa b _=>h a b) d
theorem lb.Pv(I:lb X pins σ H s)(g:s'.os=s.os)(u:Un (rk X.stack) ch H H' s.heap s'.heap)(d:mj X.prog X.w H' s'.heap)(f:zh s'.gens)
  (a:∀ b∈ch,(b∈X.ex\/X.s₀.heap.objs.size<=b)/\b≠X.env.locals/\(∀ x c,X.env.cells.lookup x=some c->c≠b)/\∀ p∈X.pn++pins,p.1≠b):lb X pins σ H' s':=by
 obtain⟨h',g',d',t',h⟩:=s';have e:h=s.os:=g;subst e;exact I.call (g':=g') (t':=t') (d':=d') u d f a
end
abbrev XK:=Value->Option Addr->Hp->Prop
abbrev St:=List (Option V)
abbrev VK:=V->Hp->Prop
abbrev TE:=St->Hp->VK->Prop
abbrev TT:=St->Hp->(Bool->Hp->Prop)->Prop
abbrev TA:=St->Hp->(List V->Hp->Prop)->Prop
structure Pk where
 nx:St->Hp->Prop
 rt:VK
 bk:St->Hp->Prop:=λ_ _=>False
 ct:St->Hp->Prop:=λ_ _=>False
abbrev TS:=Pk->St->Hp->Prop
def EP(X:Cx)(a:List (Addr × Vc))(d:St)(Q:VK)(u:Value)(c:aa):Prop:=∃ v b,lb X a d b c/\Qd v u/\Q v b
def TP(X:Cx)(a:List (Addr × Vc))(e:St)(Q:Bool->Hp->Prop)(b:Bool)(d:aa):Prop:=∃ c,lb X a e c d/\Q b c
def AP(X:Cx)(a:List (Addr × Vc))(f:St)(Q:List V->Hp->Prop)(e:List Value)(d:aa):Prop:=∃ c b,lb X a f b d/\Se c e/\Q c b
def SP(X:Cx)(b:List (Addr × Vc))(D:Pk)(f:Flow)(d:aa):Prop:=
 match f with
 | .next=>∃ a c,lb X b a c d/\D.nx a c
 | .brk=>∃ a c,lb X b a c d/\D.bk a c
 | .cont=>∃ a c,lb X b a c d/\D.ct a c
 | .ret u=>∃ v a c,lb X b a c d/\Qd v u/\D.rt v c
def PE(X:Cx)(e:Ua)(t:TE):Prop:=
 ∀ (a:List (Addr × Vc)) (s:aa) (σ:St) (H:Hp) (Q:VK),lb X a σ H s->t σ H Q->wpAny (model X.prog X.w) X.A (vc e X.env) (EP X a σ Q) X.xe s
def PT(X:Cx)(e:Ua)(t:TT):Prop:=
 ∀ (a:List (Addr × Vc)) (s:aa) (σ:St) (H:Hp) (Q:Bool->Hp->Prop),lb X a σ H s->t σ H Q->wpAny (model X.prog X.w) X.A (CA e X.env (vc e X.env)) (TP X a σ Q) X.xe s
def PW(X:Cx)(e:Ua)(t:TT):Prop:=
 ∀ (a:iq Value) (pins:List (Addr × Vc)) (s:aa) (σ:St) (H:Hp) (Q:Bool->Hp->Prop),lb X pins σ H s->t σ H Q->wpAny (model X.prog X.w) X.A (CA e X.env a) (TP X pins σ Q) X.xe s
theorem PW.pt(h:PW X e t):PT X e t:=h _
def PA(X:Cx)(b:List Ua)(t:TA):Prop:=
 ∀ (a:Ve) (pins:List (Addr × Vc)) (s:aa) (σ:St) (H:Hp) (Q:List V->Hp->Prop),lb X pins σ H s->t σ H Q->wpAny (model X.prog X.w) X.A (spliced (Wc a (ua b X.env))) (AP X pins σ Q) X.xe s
def PS(X:Cx)(b:Stmt)(t:TS):Prop:=
 ∀ (a:List (Addr × Vc)) (s:aa) (σ:St) (H:Hp) (D:Pk),lb X a σ H s->t D σ H->wpAny (model X.prog X.w) X.A (exec b X.env) (SP X a D) X.xe s
def Ft(X:Cx)(b:List Stmt)(t:TS):Prop:=
 ∀ (a:List (Addr × Vc)) (s:aa) (σ:St) (H:Hp) (D:Pk),lb X a σ H s->t D σ H->wpAny (model X.prog X.w) X.A (execs b X.env) (SP X a D) X.xe s
theorem Je{t:iq c}{Q b:c->aa->Prop}(h:wpAny M A t Q E s)(d:∀ a s,Q a s->b a s):wpAny M A t b E s:=Hc h d λ_ _ x=>x
section
variable{X:Cx}
theorem bin(p:PE X a k)(q:PE X b l){R:V->V->Hp->Prop}(I:lb X c e H s)(h:k e H λx j=>l e j λy d=>R x y d) {Q:m->aa->Prop} {f:Value->Value->iq m}
  (r:∀ v u s2 x y d,lb X c e d s2->Qd x v->Qd y u->R x y d->wpAny (model X.prog X.w) X.A (f v u) Q X.xe s2) :
  wpAny (model X.prog X.w) X.A (vc a X.env) (λv g=>wpAny (model X.prog X.w) X.A (vc b X.env) (λu i=>wpAny (model X.prog X.w) X.A (f v u) Q X.xe i) X.xe g) X.xe s:=by
 refine Je (p c s e H _ I h) λv s1 ⟨x,j,n,B,t⟩=>?_;refine Je (q c s1 e j _ n t) λu s2 ⟨y,d,o,C,z⟩=>?_;exact r v u s2 x y d o B C z
noncomputable def BZ(i:Nat):TE:=λa H Q=>∃ v,a[i]?=some (some v)/\Q v H
noncomputable def tC(v:V):TE:=λ_ H Q=>Q v H
theorem tZ(n:X.N[i]?=some x)(t:MI X.env.scope x)(g:(x == ("__debug__" : Str))=false:=by decide)(f:(x == ("__classdict__" : Str))=false:=by decide):PE X (.Name x j) (BZ i):=by
 intro d s w H Q I h;obtain⟨v,e,h⟩:=h;obtain⟨m,q,o⟩:=I.loc;obtain⟨u,r,l⟩:=o i x v n e t;have Vg:EP X d w Q u s:=⟨v,H,I,r,h⟩
 rcases l with⟨b,p⟩|⟨b,c,k,a⟩
 ·exact uA (Ox I.ok.kind b q p Vg) g
 ·rcases b with b|b
  ·exact uA (Xy I.ok.kind b k a Vg) g
  ·exact uA (wpAny_loadName_free I.ok.kind b k a Vg f) g
theorem M4{i j pos}:PE X (.Constant (.int i) j pos) (tC (.int i)):=λ_ _ _ H _ I h=>wpAny_Constant_int ⟨.int i,H,I.tok _,⟨_,rfl⟩,h⟩
theorem á{b j pos}:PE X (.Constant (.bool b) j pos) (tC (.bl b)):=λ_ _ _ H _ I h=>Constant_bool ⟨.bl b,H,I,rfl,h⟩
theorem aX{j pos}:PE X (.Constant .none j pos) (tC .Rb):=λ_ _ _ H _ I h=>Constant_none ⟨.Rb,H,I,rfl,h⟩
theorem ð{x j pos}:PE X (.Constant (.str x) j pos) (tC (.str x)):=λ_ _ _ H _ I h=>Calls.Constant_str ⟨.str x,H,I.tok _,⟨_,rfl⟩,h⟩
def Gl(X:Cx)(x:Str):Prop:=X.env.kindOf x=some .globalImplicit
theorem yB(I:lb X a f H s)(d:Gl X x)(e:X.mg x=some u)(h:Q u s)
  (c:(x == ("__debug__" : Str))=false:=by decide):wpAny (model X.prog X.w) X.A (vc (.Name x b) X.env) Q E s:=
 Np I.ok.kind d (Calls.loadGlobal_global (by rw[I.ok.glob];exact I.mod.glob.keeps I.bk) e h) c
theorem ly(I:lb X a k H s)(f:Gl X x)(g:X.mg x=none)(j:bootBuiltins x=some u)(h:Q u s)
  (i:x ≠ "__name__":=by decide) (e:(x == ("__debug__" : Str))=false:=by decide):wpAny (model X.prog X.w) X.A (vc (.Name x b) X.env) Q E s:=by
 obtain⟨l,c,d⟩:=I.mod.blt;exact Np I.ok.kind f (Calls.loadGlobal_builtin (by rw[I.ok.glob];exact I.mod.glob.keeps I.bk) g (by rw[I.ok.blt];exact c.keeps I.bk) ((d x i).trans j) h) e
theorem KM(c:Gl X x)(d:X.mg x=some u)(r:Qd v u)(b:(x == ("__debug__" : Str))=false:=by decide):PE X (.Name x a) (tC v):=
 λ_ _ _ H _ I h=>yB I c d ⟨v,H,I,r,h⟩ b
theorem Á(c:Gl X x)(d:X.mg x=none)(f:bootBuiltins x=some u)(r:Qd v u)(e:x ≠ "__name__":=by decide)(b:(x == ("__debug__" : Str))=false:=by decide):PE X (.Name x a) (tC v):=
 λ_ _ _ H _ I h=>ly I c d f ⟨v,H,I,r,h⟩ e b
variable{a b:Ua}{ta tb:TE}{pos:Ve}
def PC(X:Cx)(f:Yq)(a b:Ua)(t:TE):Prop:=
 ∀ (c:List (Addr × Vc)) (s:aa) (σ:St) (H:Hp) (Q:VK),lb X c σ H s->t σ H Q->
  wpAny (model X.prog X.w) X.A (vc a X.env) (λv d=>wpAny (model X.prog X.w) X.A (vc b X.env) (λu e=>wpAny (model X.prog X.w) X.A (Ub f v u) (EP X c σ Q) X.xe e) X.xe d) X.xe s
theorem Ģ(b:Ua){a:Yq}(h:a≠.In)(e:a≠.NotIn):Pe a b=false:=by
 have c:(a == QN)=false:=by cases a<;>first|rfl|exact absurd rfl h
 have d:(a == cC)=false:=by cases a<;>first|rfl|exact absurd rfl e
 cases b<;>simp[Pe,c,d]
noncomputable def tB(t:TE):TT:=λb H Q=>t b H λx a=>∃ c,x=.bl c/\Q c a
theorem ym2(h:PC X g a b t)(f:Pe g b=false:=by first|exact Ģ _ (by decide) (by decide)|rfl):PT X (.Compare a [g] [b] pos) (tB t):=by
 intro e s n H Q I k;refine Rw (Je (h e s n H _ I k) λv s1 f=>Je f λu s2 j=>Je j λc s3 ⟨x,H1,i,m,l⟩=>?_) f;obtain⟨d,rfl,q⟩:=l;cases m;exact Ud ⟨H1,i,q⟩
theorem L6(h:PE X e t)(f:∀ a,CA e X.env a=(do let v <-a;Fk e.pos;Lg [v] (truthy v)):=by intro _;rfl):PT X e (tB t):=by
 intro b s k H Q I g;refine isTrue_plain (Je (h b s k H _ I g) λv s1 ⟨x,H1,c,j,i⟩=>?_) (f _);obtain⟨d,rfl,q⟩:=i;cases j;exact Ud ⟨H1,c,q⟩
variable{tA tB':TT}{rest:List Ua}
noncomputable def Ø(t u:TT):TT:=λb H Q=>t b H λc a=>if c=true then u b a Q else Q false a
noncomputable def e7(t u:TT):TT:=λb H Q=>t b H λc a=>if c=true then Q true a else u b a Q
noncomputable def Q6(t:TT):TT:=λb H Q=>t b H λc a=>Q (!c) a
theorem m3(d:PT X a tA):PW X (.BoolOp .And [a] pos) tA:=by
 intro g b s f H Q I h;refine isTrue_and (Je (d b s f H Q I h) λc s1 e=>?_);cases c with
 |true=>exact isTrue_and_nil e
 |false=>exact e
theorem fZ(d:PT X a tA):PW X (.BoolOp .Or [a] pos) tA:=by
 intro g b s f H Q I h;refine isTrue_or (Je (d b s f H Q I h) λc s1 e=>?_);cases c with
 |false=>exact isTrue_or_nil e
 |true=>exact e
theorem â(i:PT X a tA)(j:PW X (.BoolOp .And (b::rest) pos) tB'):PW X (.BoolOp .And (a::b::rest) pos) (Ø tA tB'):=by
 intro k d s g H Q I h;refine isTrue_and (Je (i d s g H _ I h) λc s1 ⟨H1,e,f⟩=>?_);cases c with
 |true=>exact j k d s1 g H1 Q e f
 |false=>exact⟨H1,e,f⟩
theorem W7(i:PT X a tA)(j:PW X (.BoolOp .Or (b::rest) pos) tB'):PW X (.BoolOp .Or (a::b::rest) pos) (e7 tA tB'):=by
 intro k d s g H Q I h;refine isTrue_or (Je (i d s g H _ I h) λc s1 ⟨H1,e,f⟩=>?_);cases c with
 |true=>exact⟨H1,e,f⟩
 |false=>exact j k d s1 g H1 Q e f
theorem E7(e:PT X a tA):PT X (.UnaryOp .Not a pos) (Q6 tA):=by
 intro b s f H Q I h;exact isTrue_not (e b s f H (λc d=>Q (!c) d) I h)
noncomputable def kX(ta tb:TE):TE:=λb H Q=>ta b H λx a=>∃ c,x=.bl c/\if c=true then tb b a Q else Q (.bl false) a
noncomputable def I0(ta tb:TE):TE:=λb H Q=>ta b H λx a=>∃ c,x=.bl c/\if c=true then Q (.bl true) a else tb b a Q
noncomputable def LZ(ta:TE):TE:=λb H Q=>ta b H λx a=>∃ c,x=.bl c/\Q (.bl (!c)) a
theorem z8{op}(h:PE X a t):PE X (.BoolOp op [a] pos) t:=λb s d H Q I c=>BoolOp_one (h b s d H Q I c)
theorem A7(i:PE X a ta)(j:PE X (.BoolOp .And (b::rest) pos) tb):PE X (.BoolOp .And (a::b::rest) pos) (kX ta tb):=by
 intro d s g H Q I h;refine BoolOp_and (Je (i d s g H _ I h) λv s1 ⟨x,H1,f,k,e⟩=>?_);obtain⟨c,rfl,e⟩:=e;cases k;refine Ud ?_;cases c with
 |true=>exact j d s1 g H1 Q f e
 |false=>exact⟨.bl false,H1,f,rfl,e⟩
theorem ġ(i:PE X a ta)(j:PE X (.BoolOp .Or (b::rest) pos) tb):PE X (.BoolOp .Or (a::b::rest) pos) (I0 ta tb):=by
 intro d s g H Q I h;refine BoolOp_or (Je (i d s g H _ I h) λv s1 ⟨x,H1,f,k,e⟩=>?_);obtain⟨c,rfl,e⟩:=e;cases k;refine Ud ?_;cases c with
 |false=>exact j d s1 g H1 Q f e
 |true=>exact⟨.bl true,H1,f,rfl,e⟩
theorem bX(f:PE X a ta):PE X (.UnaryOp .Not a pos) (LZ ta):=by
 intro b s i H Q I h;refine UnaryOp_ (Je (f b s i H _ I h) λv s1 ⟨x,H1,e,g,d⟩=>?_);obtain⟨c,rfl,d⟩:=d;cases g;exact not_of (Ud ⟨.bl (!c),H1,e,rfl,d⟩)
noncomputable def U9(t:TT)(ta tb:TE):TE:=λa H Q=>t a H λc b=>if c=true then ta a b Q else tb a b Q
theorem n7(l:PT X c tA)(j:PE X a ta)(k:PE X b tb):PE X (.IfExp c a b pos) (U9 tA ta tb):=by
 intro e s f H Q I h;refine wpAny_IfExp (Je (l e s f H _ I h) λd s1 ⟨H1,g,i⟩=>?_);cases d with
 |true=>exact j e s1 f H1 Q g i
 |false=>exact k e s1 f H1 Q g i
end
def Rf(K:W.Frag)(H:Hp)(a:Addr)(xs:List V):Prop:=
 Rd H a (.va xs)\/
  ∃ (o:Vc) (b:Array Value) (n:Nat),K.lookup a=some o/\o.cls=.type "list"/\o.dict=none/\o.data=.seq b n/\b.size<=sizeLine/\Se xs b.toList
def qi(K:W.Frag)(H:Hp)(a:Addr)(xs:List V):Prop:=
 Rd H a (.Ga xs)\/
  ∃ (o:Vc) (b:Array Value) (n:Nat),K.lookup a=some o/\o.cls=.type "tuple"/\o.data=.seq b n/\b.size<=sizeLine/\Se xs b.toList
noncomputable def ô:Value->Option V
 | .none=>some .Rb
 | .bool b=>some (.bl b)
 | .int i _=>some (.int i)
 | .str x _=>some (.str x)
 | .bytes b _=>some (.YH b)
 | .float b _=>some (.Uz b)
 | .ref a=>some (.ref a)
 | .type n=>some (.ty n)
 |_=>none
theorem Qd.abs(r:Qd x u):ô u=some x:=by
 cases x with
 |Rb=>cases r;rfl
 |bl _=>cases r;rfl
 |int _=>obtain⟨t,rfl⟩:=r;rfl
 |str _=>obtain⟨t,rfl⟩:=r;rfl
 |YH _=>obtain⟨t,rfl⟩:=r;rfl
 |Uz _=>obtain⟨t,rfl⟩:=r;rfl
 |ref _=>cases r;rfl
 |ty _=>cases r;rfl
theorem Qd.inj(r:Qd x u)(q:Qd y u):x=y:=Lb (r.abs.symm.trans q.abs)
theorem Se.inj:∀ {xs a:List V} {us:List Value},Se xs us->Se a us->xs=a
 |_,_,_,.nil,.nil=>rfl
 |_,_,_,.cons r t,.cons b c=>by rw[r.inj b,Se.inj t c]
section
variable{X:Cx}{pins:List (Addr × Vc)}{σ:St}{H:Hp}{s:aa}{a:Addr}{xs ys:List V}
theorem Rf.of{K:W.Frag}(h:H a=some (.va xs)):Rf K H a xs:=.inl (.inl h)
theorem qi.of{K:W.Frag}(h:H a=some (.Ga xs)):qi K H a xs:=.inl (.inl h)
theorem lb.list(I:lb X pins σ H s)(h:Rf X.K H a xs):∃ its:List Value,Se xs its/\PlainL s.heap a its.toArray/\xs.length<=sizeLine:=by
 rcases h with h|⟨o,its,n,d,b,c,f,g,r⟩
 ·obtain⟨z,its,n,r,e⟩:=h.ok I.zd;exact⟨its,r,⟨_,n,e,rfl,rfl,rfl⟩,z⟩
 ·refine⟨its.toList,r,⟨o,n,I.Dk a o d,b,c,by simpa using f⟩,?_⟩;have e:=r.length;simp only[Th]at e;omega
theorem lb.tuple(I:lb X pins σ H s)(h:qi X.K H a xs):∃ its:List Value,Se xs its/\bv s.heap a its.toArray/\xs.length<=sizeLine:=by
 rcases h with h|⟨o,its,n,c,b,d,f,r⟩
 ·obtain⟨z,its,r,p⟩:=h.ok I.zd;exact⟨its,r,p,z⟩
 ·refine⟨its.toList,r,⟨o,I.Dk a o c,b,n,by simpa using d⟩,?_⟩;have e:=r.length;simp only[Th]at e;omega
theorem lb.Wk(I:lb X pins σ H s)(h:Rf X.K H a xs)(h':Rf X.K H a ys):xs=ys:=by
 obtain⟨its,r,⟨o,n,e,_,_,d⟩,_⟩:=I.list h;obtain⟨its',c,⟨g,f,b,_,_,d'⟩,_⟩:=I.list h';rw[e]at b;cases b;rw[d]at d';injection d' with d1 _;have:its=its':=by simpa using yc Array.toList d1
 subst this;exact r.inj c
theorem lb.yu(I:lb X pins σ H s)(h:qi X.K H a xs)(h':qi X.K H a ys):xs=ys:=by
 obtain⟨its,r,⟨o,e,_,n,d⟩,_⟩:=I.tuple h;obtain⟨its',c,⟨g,b,_,f,d'⟩,_⟩:=I.tuple h';rw[e]at b;cases b;rw[d]at d';injection d' with d1 _;have:its=its':=by simpa using yc Array.toList d1
 subst this;exact r.inj c
end
abbrev Cx.zn(X:Cx)(E:Value->aa->Prop):Cx:={ X with xe:=E }
noncomputable abbrev Cx.Mp(X:Cx):Cx:=X.zn λ_ _=>False
theorem Cx.Ok.zn{X:Cx}(ok:X.Ok)(E:Value->aa->Prop):(X.zn E).Ok:=
 ⟨ok.mod,ok.kind,ok.glob,ok.blt,ok.above,ok.inj,ok.has,ok.Yx,ok.hd,ok.frames,ok.wq,ok.Bz,ok.bs,ok.Xs,ok.vr,ok.xr,ok.Pj,ok.Jv⟩
theorem Cx.Ok.xi{X:Cx}(ok:(X.zn E).Ok):X.Ok:=
 ⟨ok.mod,ok.kind,ok.glob,ok.blt,ok.above,ok.inj,ok.has,ok.Yx,ok.hd,ok.frames,ok.wq,ok.Bz,ok.bs,ok.Xs,ok.vr,ok.xr,ok.Pj,ok.Jv⟩
section
variable{X:Cx}{pins:List (Addr × Vc)}{σ:St}{H:Hp}{s:aa}{E:Value->aa->Prop}
theorem lb.zn(I:lb X pins σ H s)(E:Value->aa->Prop):lb (X.zn E) pins σ H s:=⟨I.ok.zn E,I.os,I.bare,I.base,I.loc,I.cell,I.free,I.Ug,I.pin,I.zd,I.len⟩
theorem lb.xi(I:lb (X.zn E) pins σ H s):lb X pins σ H s:=⟨I.ok.xi,I.os,I.bare,I.base,I.loc,I.cell,I.free,I.Ug,I.pin,I.zd,I.len⟩
theorem SP.xi(h:SP (X.zn E) pins D f c):SP X pins D f c:=by
 cases f with
 |next=>obtain⟨a,b,I,q⟩:=h;exact⟨a,b,I.xi,q⟩
 |brk=>obtain⟨a,b,I,q⟩:=h;exact⟨a,b,I.xi,q⟩
 |cont=>obtain⟨a,b,I,q⟩:=h;exact⟨a,b,I.xi,q⟩
 |ret u=>obtain⟨v,a,b,I,r,q⟩:=h;exact⟨v,a,b,I.xi,r,q⟩
theorem PE.Mp(h:PE X.Mp e t):PE X e t:=λpins s σ H Q I c=>
 Hc (h pins s σ H Q (I.zn _) c) (λ_ _ ⟨v,a,b,r,q⟩=>⟨v,a,b.xi,r,q⟩) λ_ _ z=>False.elim z
theorem PT.Mp(h:PT X.Mp e t):PT X e t:=λpins s σ H Q I c=>
 Hc (h pins s σ H Q (I.zn _) c) (λ_ _ ⟨a,b,q⟩=>⟨a,b.xi,q⟩) λ_ _ z=>False.elim z
theorem Ft.Mp(h:Ft X.Mp a t):Ft X a t:=λpins s σ H D I b=>
 Hc (h pins s σ H D (I.zn _) b) (λ_ _ q=>q.xi) λ_ _ z=>False.elim z
end
section
variable{X:Cx}{st:Stmt}{rest:List Stmt}{t u:TS}{e:Ua}{te:TE}{pos:Ve}
noncomputable def Ŧ:TS:=λD a H=>D.nx a H
noncomputable def ķ(t u:TS):TS:=λD a H=>t { D with nx:=u D } a H
theorem GT:Ft X [] Ŧ:=λ_ _ a H _ I h=>Kk ⟨a,H,I,h⟩
theorem aS(e:PS X st t)(g:Ft X rest u):Ft X (st::rest) (ķ t u):=by
 intro a s i H D I h;refine pF (Je (e a s i H { D with nx:=u D } I h) λf s1 q=>?_);cases f with
 |next=>
  obtain⟨b,c,d,q⟩:=q;exact g a s1 b c D d q
 |ret v=>exact q
 |brk=>exact q
 |cont=>exact q
theorem G5(b:PS X st t):Ft X [st] t:=by
 intro a s c H D I h;refine pF (Je (b a s c H D I h) λf s1 q=>?_);cases f with
 |next=>exact Kk q
 |ret v=>exact q
 |brk=>exact q
 |cont=>exact q
theorem lb.quiet(I:lb X a b H s):interactive X.env=false:=by simp[interactive,I.ok.kind]
noncomputable def M7(te:TE):TS:=λD a H=>te a H λ_ b=>D.nx a b
theorem Z9(d:PE X e te)(f:Xi e none pos.line X.env=pure false:=by rfl):PS X (.Expr e pos) (M7 te):=by
 intro a s b H D I h;exact wpAny_Expr_any (Je (d a s b H _ I h) λv s1 ⟨x,H1,c,i,g⟩=>⟨b,H1,c,g⟩) I.quiet f
noncomputable def W4(te:TE):TS:=λD a H=>te a H D.rt
theorem Ķ(d:PE X e te):PS X (.Return (some e) pos) (W4 te):=by
 intro a s b H D I h;exact wpAny_Return_some (Je (d a s b H _ I h) λv s1 ⟨x,H1,c,g,f⟩=>⟨x,b,H1,c,g,f⟩)
noncomputable def ι(c:TT)(t u:TS):TS:=λD a H=>c a H λb d=>if b=true then t D a d else u D a d
theorem sS(m:PT X c j)(k:Ft X a t)(l:Ft X b u):PS X (.If c a b pos) (ι j t u):=by
 intro e s f H D I h;refine wpAny_If (Je (m e s f H _ I h) λd s1 ⟨H1,g,i⟩=>?_);cases d with
 |true=>exact k e s1 f H1 D g i
 |false=>exact l e s1 f H1 D g i
end
abbrev TG:=V->St->Hp->(St->Hp->Prop)->Prop
abbrev sy:=List V->St->Hp->(St->Hp->Prop)->Prop
def PG(X:Cx)(a:Ua)(t:TG):Prop:=
 ∀ (b:List (Addr × Vc)) (s:aa) (σ:St) (H:Hp) (v:V) (u:Value) (Q:St->Hp->Prop),lb X b σ H s->Qd v u->t v σ H Q->
  wpAny (model X.prog X.w) X.A (gm a X.env u) (λ_ e=>∃ c d,lb X b c d e/\Q c d) X.xe s
def eE(X:Cx)(f:List Ua)(t:sy):Prop:=
 ∀ (a:List (Addr × Vc)) (s:aa) (σ:St) (H:Hp) (d:List V) (us:List Value) (Q:St->Hp->Prop),lb X a σ H s->Se d us->t d σ H Q->
  wpAny (model X.prog X.w) X.A (assignInOrder ((df f X.env).map (·.2)) us) (λ_ e=>∃ b c,lb X a b c e/\Q b c) X.xe s
abbrev UH:=V->V->V->Hp->(Hp->Prop)->Prop
def LM(X:Cx)(t:UH):Prop:=
 ∀ (a:List (Addr × Vc)) (s:aa) (σ:St) (H:Hp) (o i v:V) (d c u:Value) (Q:Hp->Prop),lb X a σ H s->Qd o d->Qd i c->Qd v u->t o i v H Q->
  wpAny (model X.prog X.w) X.A (uw d c u) (λ_ e=>∃ b,lb X a σ b e/\Q b) X.xe s
abbrev aI:=V->V->Hp->VK->Prop
def tM(X:Cx)(b:im)(t:aI):Prop:=
 ∀ (a:List (Addr × Vc)) (s:aa) (σ:St) (H:Hp) (x y:V) (v u:Value) (Q:VK),lb X a σ H s->Qd x v->Qd y u->t x y H Q->
  wpAny (model X.prog X.w) X.A (xF b v u) (EP X a σ Q) X.xe s
section
variable{X:Cx}{pos:Ve}
noncomputable def YS(i:Nat):TG:=λv a H Q=>Q (a.set i (some v)) H
theorem o1(c:X.N.Nodup)(e:X.N[i]?=some x)(f:Loc X.env.scope x)(d:X.fn x=true\/X.env.scope.names.lookup x=some .local:=by first|exact .inl rfl|exact .inr rfl|assumption):PG X (.Name x pos) (YS i):=by
 intro a s j H v u Q I r h;exact UB (ZG I c e f r (λg b=>⟨_,H,b,h⟩) d)
noncomputable def Â:sy:=λa b H Q=>a=[]/\Q b H
noncomputable def eZ(t:TG)(u:sy):sy:=λc d H Q=>∃ v r,c=v::r/\t v d H λa b=>u r a b Q
theorem B2:eE X [] Â:=by
 intro a s b H d c Q I r h;obtain⟨e,h⟩:=h;subst e;cases r;exact assignInOrder_nil ⟨b,H,I,h⟩
theorem qY(g:PG X e t)(i:eE X b u)
  (j:(df (e::b) X.env).map (·.2)=gm e X.env::(df b X.env).map (·.2):=by rfl):eE X (e::b) (eZ t u):=by
 intro a s m H p n Q I r h;obtain⟨v,o,f,h⟩:=h;subst f;cases r with
 |cons r l=>
  rw[j];refine assignInOrder_cons (Je (g a s m H _ _ _ I r h) λ_ s1 ⟨c,H1,d,k⟩=>?_);exact i a s1 c H1 _ _ Q d l k
noncomputable def KZ(K:W.Frag)(n:Nat)(t:sy):TG:=λv b H Q=>∃ a xs,v=.ref a/\qi K H a xs/\xs.length=n/\t xs b H Q
theorem Ą(p:X.Aa=true)(h:eE X d t)
  (w:(df d X.env).length=n:=by rfl) (f:(df d X.env).findIdx? (·.1)=none:=by rfl):PG X (.Tuple d k pos) (KZ X.K n t):=by
 intro c s j H v u Q I r g;obtain⟨a,xs,m,x,q,g⟩:=g;subst m;cases r;obtain⟨its,i,y,A⟩:=I.tuple x;refine assign_Tuple_tuple (I.ok.hd p) y (by simp[w,<-q,i.length]) f λh' z=>?_;have l:lb X c j H { s with heap:=h' }:=I.kept (t':=s.toks) λb o e=>z b o (Sa (Ba e)) e;exact h c _ j H xs _ Q l (by simpa using i) g
noncomputable def Ü(f e:TE)(t:UH):TG:=λv a H Q=>f a H λo b=>e a b λi c=>t o i v c λd=>Q a d
theorem YT(q:PE X o f)(p:PE X i e)(w:LM X t)
  (n:∀ v,gm (.Subscript o i pos) X.env v=(do
   let b <-Lg [v] (vc o X.env);let c <-Lg [v,b] (vc i X.env)
   Fk pos
   Lg [v,b,c] (uw b c v)
   release [v,b,c] []):=by intro _;rfl):PG X (.Subscript o i pos) (Ü f e t):=by
 intro a s d H v u Q I r h;rw[n];refine da (Td (Je (q a s d H _ I h) λb s1 ⟨x,H1,k,C,z⟩=>?_));refine da (Td (Je (p a s1 d H1 _ k z) λc s2 ⟨y,g,l,D,A⟩=>?_));refine da (Au (da (Td (Je (w a s2 d g x y v b c u _ l C D r A) λ_ s3 ⟨j,m,B⟩=>?_))));exact wpAny_release ⟨d,j,m,B⟩
noncomputable def XQ(c:TE)(g:TG):TS:=λD a H=>c a H λx b=>g x a b D.nx
theorem dL(j:PE X e c)(k:PG X b g)(l:Zn [b] e pos.line X.env=pure false:=by rfl)(m:ao [b] e X.env=pure none:=by rfl)
  (i:(df [b] X.env).map (·.2)=[gm b X.env]:=by rfl):PS X (.Assign [b] e pos) (XQ c g):=by
 intro a s d H D I h;refine wpAny_Assign_stores (Je (j a s d H _ I h) λv s1 ⟨x,H1,f,o,n⟩=>?_) l m;rw[i];exact Je (k a s1 d H1 x v _ f o n) λ_ s2 q=>q
theorem Ţ(g:X.N.Nodup)(l:X.N[i]?=some x)(n:Loc X.env.scope x)(j:PE X e c)(m:Xi e (some (.Name x a)) pos.line X.env=pure false:=by rfl)(k:X.fn x=true\/X.env.scope.names.lookup x=some .local:=by first|exact .inl rfl|exact .inr rfl|assumption) :
  PS X (.Assign [.Name x a] e pos) (XQ c (YS i)):=by
 intro b s q H D I h;refine wpAny_Assign_Name (Je (j b s q H _ I h) λv s1 ⟨y,H1,d,p,o⟩=>?_) m;exact ZG d g l n p (λs2 f=>⟨_,H1,f,o⟩) k
noncomputable def U8(i:Nat)(d:TE)(e:aI):TS:=λD a H=>∃ x,a[i]?=some (some x)/\d a H λy b=>e x y b λz c=>D.nx (a.set i (some z)) c
theorem D1(M:X.N.Nodup)(t:X.N[i]?=some x)(n:Loc X.env.scope x)(P:PE X e B)(U:tM X o C)(Q:X.fn x=true\/X.env.scope.names.lookup x=some .local:=by first|exact .inl rfl|exact .inr rfl|assumption) :
  PS X (.AugAssign (.Name x f) o e pos) (U8 i B C):=by
 intro a s E H D I h;obtain⟨v,L,h⟩:=h;obtain⟨m,T,R⟩:=I.loc;have p:MI X.env.scope x:=by rcases n with k|k;exact .inl k;exact .inr (.inl k)
 obtain⟨u,r,l⟩:=R i x v t L p;refine wpAny_AugAssign_Name ?_;have q:wpAny (model X.prog X.w) X.A (vc e X.env) (λw g=>wpAny (model X.prog X.w) X.A (xF o u w) (λr j=>wpAny (model X.prog X.w) X.A (wF X.env x r) (λ_=>SP X a D .next) X.xe j) X.xe g) X.xe s:=by
  refine Je (P a s E H _ I h) λw s1 ⟨y,H1,G,Y,V⟩=>?_;refine Je (U a s1 E H1 v y u w _ G r Y V) λz s2 ⟨zv,F,J,Z,W⟩=>?_;exact ZG J M t n Z (λs3 K=>⟨_,F,K,W⟩) Q
 rcases l with⟨b,S⟩|⟨b,c,O,d⟩
 ·exact Ox I.ok.kind b T S q
 ·rcases b with b|b
  ·exact Xy I.ok.kind b O d q
  ·rcases n with k|k
   ·have:X.env.scope.names.lookup x=some .free:=b;rw[k]at this;cases this
   ·have:X.env.scope.names.lookup x=some .free:=b;rw[k]at this;cases this
noncomputable def ZQ(f:Int->Int->Int):aI:=λx y H Q=>∃ i j,x=.int i/\y=.int j/\Q (.int (f i j)) H
theorem YO:tM X .Add (ZQ λi j=>i+j):=by
 intro a s f H x y v u Q I d e h;obtain⟨i,j,b,c,q⟩:=h;subst b;subst c;obtain⟨t,rfl⟩:=d;obtain⟨t',rfl⟩:=e;exact iadd_int ⟨.int _,H,I.tok _,⟨_,rfl⟩,q⟩
end
section
variable{X:Cx}{pos:Ve}
end
structure It where
 go:Nat->Hp->Prop
 JA:Nat->Hp->V->Hp->Prop
 stop:Nat->Hp->Prop
def xn(X:Cx)(a:List (Addr × Vc))(H:Hp)(b:Addr):Prop:=
 H b=none/\b≠X.env.locals/\b ∉ X.fs/\(b∈X.ex\/X.s₀.heap.objs.size<=b)/\(∀ x c,X.env.cells.lookup x=some c->c≠b)/\∀ p∈X.pn++a,p.1≠b
theorem lb.qr(I:lb X a i H s)(d:s.heap.objs.size<=b)(g:f b=none):xn X a f b:=by
 refine⟨g,fh (Xa I.lt d),I.OE d,.inr (Qb I.sz d),λx c e z=>?_,λp h z=>?_⟩
 ·obtain⟨v,q⟩:=I.cell x c e;exact absurd (Xa q.lt (by rw[z];exact d)) (ge _)
 ·exact absurd (Xa (Ba (I.pin p h).1) (by rw[z];exact d)) (ge _)
structure cr(P:Ca)(w:Ya)(K:W.Frag)(tg:Ua)(J:It)(fp:List Addr)(it:Addr)(tn:Nat->Heap->Prop):Prop where
 mem:it∈fp
 obj:∀ i h,tn i h->∀ b∈fp,∃ o,h.get? b=some o/\∀ v,o.data≠.cell v
 keep:∀ i h h',tn i h->(∀ b∈fp,∀ o,h.get? b=some o->h'.get? b=some o)->tn i h'
 item:∀ (X:Cx),X.prog=P->X.w=w->X.K=K->X.Aa=true->∀ (i:Nat) (pins:List (Addr × Vc)) (s:aa) (σ:St) (H:Hp) (E:Value->aa->Prop),lb X pins σ H s->(∀ b∈fp,xn X pins H b)->tn i s.heap->J.go i H->
  wpAny (model P w) X.A (pyNext (.ref it)) (λr s1=>∃ u,r=some u/\
   wpAny (model P w) X.A (letOwnedTupleGo tg (.ref it) u) (λ_ s2=>∃ x H',lb X pins σ H' s2/\Qd x u/\J.JA i H x H'/\tn (i+1) s2.heap/\∀ b∈fp,H' b=none) E s1) E s
 done:∀ (X:Cx),X.prog=P->X.w=w->X.K=K->X.Aa=true->∀ (i:Nat) (pins:List (Addr × Vc)) (s:aa) (σ:St) (H:Hp) (E:Value->aa->Prop),lb X pins σ H s->(∀ b∈fp,xn X pins H b)->tn i s.heap->J.stop i H->
  wpAny (model P w) X.A (pyNext (.ref it)) (λr s1=>r=none/\lb X pins σ H s1) E s
 self:∀ (A:Ta) (i:Nat) (s:aa) (Q:Value->aa->Prop) (E:Value->aa->Prop),tn i s.heap->Q (.ref it) s->wpAny (model P w) A (pyIter (.ref it)) Q E s
abbrev TI:=St->Hp->(It->Hp->Prop)->Prop
def UU(X:Cx)(a:List (Addr × Vc))(i:St)(h:Ua)(R:It->Hp->Prop)(d:Value)(s2:aa):Prop:=
 ∃ (f:Addr) (e:List Addr) (g:Nat->Heap->Prop) (J:It) (c:Hp),d=.ref f/\lb X a i c s2/\cr X.prog X.w X.K h J e f g/\g 0 s2.heap/\(∀ b∈e,xn X a c b)/\R J c
def PI(X:Cx)(c b:Ua)(d:TI):Prop:=
 ∀ (a:List (Addr × Vc)) (s:aa) (σ:St) (H:Hp) (R:It->Hp->Prop),lb X a σ H s->d σ H R->
  wpAny (model X.prog X.w) X.A (vc b X.env) (λv s1=>wpAny (model X.prog X.w) X.A (pyIter v) (UU X a σ c R) X.xe s1) X.xe s
theorem JK (i : s.heap.get? b = some o) (e : o.cls = .type n) (f : o.data = .fields d)
    (g : ["enumerate","zip","dict_itemiterator","dict_reverseitemiterator","odict_iterator","itertools.zip_longest","itertools.pairwise"].contains n = false) (a : Q () s) : wpAny M A (letOwnedTupleGo c (.ref b) u) Q E s := by
  unfold letOwnedTupleGo;cases c <;> first
    | exact ra a
    | (cases u <;> first
        | exact ra a
        | (refine da (vA i ?_)
           rw [e, f];show wpAny M A (if (["enumerate","zip","dict_itemiterator","dict_reverseitemiterator","odict_iterator","itertools.zip_longest","itertools.pairwise"].contains n && d[0]? == some (Kf _)) = true then _ else _) Q E s;rw [ka (by intro h; rw [g, fq] at h; cases h)];exact ra a))
noncomputable def WK(K:W.Frag)(a:Addr):It:=
 ⟨λi H=>∃ xs x,Rf K H a xs/\xs[i]?=some x,λi H x b=>b=H/\∀ xs,Rf K H a xs->xs[i]?=some x,λi H=>∃ xs,Rf K H a xs/\xs.length<=i⟩
noncomputable def TK(K:W.Frag)(a:Addr):It:=
 ⟨λi H=>∃ xs x,qi K H a xs/\xs[i]?=some x,λi H x b=>b=H/\∀ xs,qi K H a xs->xs[i]?=some x,λi H=>∃ xs,qi K H a xs/\xs.length<=i⟩
noncomputable def QM(lo:Int)(n:Nat):It:=⟨λi _=>i<n,λi H x a=>a=H/\x=.int (lo+i),λi _=>n<=i⟩
theorem EX{P:Ca}{w:Ya}{K:W.Frag}{Y:Ua}(a l:Addr):cr P w K Y (WK K a) [l] l (λi h=>h.IsListIter l a i) where
 mem:=by simp
 obj:=λi h f b j=>by
  have e:b=l:=by simpa using j
  subst e;obtain⟨o,e,c,d⟩:=f;exact⟨o,e,λv z=>by rw[d]at z;cases z⟩
 keep:=λi h h' f k=>f.at λo e=>k l (by simp) o e
 item:=by
  intro X D G C M i g s N H E I n f F;subst D G C;obtain⟨xs,x,q,J⟩:=F;obtain⟨its,L,p,U⟩:=I.list q;obtain⟨u,S,V⟩:=L.get J;obtain⟨r,t,R,y,A,B⟩:=n l (by simp);refine wpAny_pyNext_list_item f p.isList (x:=u) (by simpa using S) λh' m sb=>?_;have O:lb X g N H { s with heap:=h' }:=I.turned (t':=s.toks) (λb o j e=>(sb.2 b j).trans e) r t y A B;obtain⟨o,e,c,d⟩:=id m;exact⟨u,rfl,JK (s:={ s with heap:=h' }) e c d (by decide) ⟨x,H,O,V,⟨rfl,λys T=>by rw[I.Wk T q];exact J⟩,m,λb j=>(n b j).1⟩⟩
 done:=by
  intro X D G C M i g s N H E I n f F;subst D G C;obtain⟨xs,q,J⟩:=F;obtain⟨its,L,p,U⟩:=I.list q;obtain⟨r,t,R,y,A,B⟩:=n l (by simp);have Z:=L.length;exact wpAny_pyNext_list_end (I.ok.hd M) f p.isList (by simp;omega) λh' Q=>⟨rfl,I.turned (t':=s.toks) (λb o j e=>Q b o j e) r t y A B⟩
 self:=λ_ _ _ _ _ f h=>wpAny_pyIter_listiter f h
theorem Ũ{P:Ca}{w:Ya}{K:W.Frag}{Y:Ua}(a l:Addr):cr P w K Y (TK K a) [l] l (λi h=>h.IsTupleIter l a i) where
 mem:=by simp
 obj:=λi h f b j=>by
  have e:b=l:=by simpa using j
  subst e;obtain⟨o,e,c,d⟩:=f;exact⟨o,e,λv z=>by rw[d]at z;cases z⟩
 keep:=λi h h' f k=>f.at λo e=>k l (by simp) o e
 item:=by
  intro X D G C M i g s N H E I n f F;subst D G C;obtain⟨xs,x,q,J⟩:=F;obtain⟨its,L,p,U⟩:=I.tuple q;obtain⟨u,S,V⟩:=L.get J;obtain⟨r,t,R,y,A,B⟩:=n l (by simp);refine wpAny_pyNext_tuple_item f (show s.heap.IsTuple a its.toArray from p) (x:=u) (by simpa using S) λh' m sb=>?_;have O:lb X g N H { s with heap:=h' }:=I.turned (t':=s.toks) (λb o j e=>(sb.2 b j).trans e) r t y A B;obtain⟨o,e,c,d⟩:=id m;exact⟨u,rfl,JK (s:={ s with heap:=h' }) e c d (by decide) ⟨x,H,O,V,⟨rfl,λys T=>by rw[I.yu T q];exact J⟩,m,λb j=>(n b j).1⟩⟩
 done:=by
  intro X D G C M i g s N H E I n f F;subst D G C;obtain⟨xs,q,J⟩:=F;obtain⟨its,L,p,U⟩:=I.tuple q;obtain⟨r,t,R,y,A,B⟩:=n l (by simp);have Z:=L.length;exact wpAny_pyNext_tuple_end (I.ok.hd M) f (show s.heap.IsTuple a its.toArray from p) (by simp;omega) λh' Q=>⟨rfl,I.turned (t':=s.toks) (λb o j e=>Q b o j e) r t y A B⟩
 self:=λ_ _ _ _ _ f h=>wpAny_pyIter_tupleiter f h
theorem V2{P:Ca}{w:Ya}{K:PySem.W.Frag}{N:Ua}(c:Addr)(lo:Int)(n:Nat):cr P w K N (QM lo n) [c] c (λi h=>IsRangeIter h c (lo+(i:Nat) * 1) ((n:Int) - (i:Nat)) 1) where
 mem:=by simp
 obj:=λi h a b f=>by
  have e:b=c:=by simpa using f
  subst e;exact⟨_,a,λv z=>by
   have O:Data.fields _=Data.cell v:=z;cases O⟩
 keep:=λi h h' a k=>k c (by simp) _ a
 item:=by
  intro X x B u y i d s D H E I j a A;subst x B u;obtain⟨l,m,J,p,q,r⟩:=j c (by simp);have W:=Walks.range (prog:=X.prog) (w:=X.w) (I.ok.hd y) c lo 1 n;refine W.item i s _ _ A a λv h' C L g M=>?_;obtain⟨t,rfl⟩:=L;have F:lb X d D H { s with heap:=h',toks:=C }:=I.turned (λb o f e=>M b o (by simpa using f) e) l m p q r;refine⟨_,rfl,JK (s:={ s with heap:=h',toks:=C }) (n:="range_iterator") g rfl rfl (by decide) ⟨.int (lo+i),H,F,⟨t,?_⟩,⟨rfl,rfl⟩,g,λb f=>(j b f).1⟩⟩;rw[Int.mul_one]
 done:=by
  intro X x B u y i d s D H E I j a A;subst x B u;obtain⟨l,m,J,p,q,r⟩:=j c (by simp);exact wpAny_pyNext_range_end (I.ok.hd y) a (by have:n<=i:=A;omega) λh' G=>⟨rfl,I.turned (t':=s.toks) (λb o f e=>G b o f e) l m p q r⟩
 self:=λ_ _ _ _ _ a h=>wpAny_pyIter_rangeiter a h
section
variable{X:Cx}{tg:Ua}
theorem ø{lo a:Int}(I:lb X c g H s)(j:-(2 ^ 62)<=lo)(k:lo<2 ^ 62)(l:-(2 ^ 62)<=a)(m:a<2 ^ 62)
  (q:R (QM lo (a - lo).toNat) H):wpAny (model X.prog X.w) X.A (pyIter (.ref s.heap.objs.size)) (UU X c g tg R) E { s with heap:=s.heap.push { cls:=.type "range",data:=.fields #[.int lo t,.int a u,.int 1 v] },toks:=f }:=by
 refine wpAny_pyIter_range (IsRange.new ..) (small_one j k l m) ?_;have d:lb X c g H { s with heap:=s.heap.push { cls:=.type "range",data:=.fields #[.int lo t,.int a u,.int 1 v] },toks:=f }:=I.kept λb o e=>qa _ e;refine⟨(s.heap.push { cls:=.type "range",data:=.fields #[.int lo t,.int a u,.int 1 v] }).objs.size,[(s.heap.push { cls:=.type "range",data:=.fields #[.int lo t,.int a u,.int 1 v] }).objs.size],_,_,H,rfl,
  d.kept (t':=f) λb o e=>qa _ e,V2 _ lo (a - lo).toNat,?_,λb n=>?_,q⟩
 ·have h:lo+((0:Nat):Int) * 1=lo:=by simp
  have i:(((a - lo).toNat:Nat):Int) - ((0:Nat):Int)=yF lo a 1:=by rw[rangeSize_one];split<;>omega
  show IsRangeIter _ _ (lo+((0:Nat):Int) * 1) ((((a - lo).toNat:Nat):Int) - ((0:Nat):Int)) 1;rw[h,i];exact Bb _ rfl
 ·have e:b=(s.heap.push { cls:=.type "range",data:=.fields #[.int lo t,.int a u,.int 1 v] }).objs.size:=by simpa using n
  subst e;exact d.qr (Ea _) (d.zd.fresh (Ea _))
def yrf(b:TA):TI:=λd H R=>b d H λc a=>∃ j:Int,c=[.int j]/\-(2 ^ 62)<=j/\j<2 ^ 62/\R (QM 0 j.toNat) a
theorem R8(k:Gl X "range")(l:X.mg "range" = none)(i:PA X [a] f)(m:ua [a] X.env=[(false,vc a X.env)]:=by rfl):PI X tg (.Call (.Name "range" p) [a] [] c) (yrf f):=by
 intro b s v H R I h;refine Call_ (ly I k l boot_range (Hf (Je (i c b s v H _ I h) λus s1 ⟨w,H1,g,o,d⟩=>?_) m rfl));obtain⟨j,e,d,n,q⟩:=d;subst e;cases o with
 |cons r u=>
  cases u;obtain⟨t,rfl⟩:=r;exact call_range_1 (ø g (by omega) (by omega) d n (by simpa using q))
noncomputable def ĭ(k:TI)(g:TG)(j:TS):TS:=λD a H=>k a H λJ f=>∃ W:Nat->Nat->St->Hp->Prop,(∃ m,W 0 m a f)/\∀ i m a H,W i m a H->
 (J.stop i H/\D.nx a H)\/(J.go i H/\∃ N:St->Hp->Prop,(∀ c b,N c b->∃ e,e<m/\W (i+1) e c b)/\∀ x b,J.JA i H x b->g x a b λd h=>j { D with nx:=N,ct:=N,bk:=D.nx } d h)
noncomputable def IE(a:List Addr)(h:Heap):List (Addr × Vc):=a.filterMap λb=>(h.get? b).map λo=>(b,o)
theorem zG(c:b∈a)(e:h.get? b=some o):(b,o)∈IE a h:=Kl.mpr ⟨b,c,by rw[e];rfl⟩
theorem N8(f:p∈IE a h):p.1∈a/\h.get? p.1=some p.2:=by
 obtain⟨b,d,e⟩:=Kl.mp f;cases q:h.get? b with
 |none=>rw[q]at e;cases e
 |some o=>
  rw[q]at e;have c:(b,o)=p:=Lb e;subst c;exact⟨d,q⟩
theorem lb.pinned(I:lb X a h H s)(l:∀ b∈c,xn X a H b)(m:∀ b∈c,∃ o,s.heap.get? b=some o/\∀ v,o.data≠.cell v):lb X (a++IE c s.heap) h H s:=
 I.Lj λp n=>(bf.mp n).elim (λz=>I.pin p (gb _ z)) λz=>by
  obtain⟨g,e⟩:=N8 z;obtain⟨i,j,k,_⟩:=l p.1 g;obtain⟨o,f,d⟩:=m p.1 g;rw[e]at f;cases f;exact⟨e,i,j,k,d⟩
theorem lb.ql(I:lb X (a++pl) b H s):lb X a b H s:=I.Lj λp c=>I.pin p (gb _ (qb _ c))
theorem qU(L:Kq (model X.prog X.w) X.A X.env X.xe)(hc:X.Aa=true)(hi:PI X tg q wi)(hg:PG X tg g)(p:Ft X C tb)
  (hs:∀ x,Ah q X.env x=pure x:=by intro _;rfl):PS X (.For tg q C [] Z) (ĭ wi g tb):=by
 intro a s σ H D I h;refine wpAny_For (Je (hi a s σ H _ I h) λv s1 h1=>Je h1 λa2 s2 h2=>?_) hs;obtain⟨it,G,tn,J,H2,e,I2,T,a0,f2,W,⟨m0,w0⟩,R⟩:=h2;subst e;have t:∀ {B:Hp},(∀ b∈G,B b=none)->∀ b∈G,xn X a B b:=λhn b p=>⟨hn b p,(f2 b p).2⟩
 refine codeAny_forLoop_any (λn s'=>∃ i y B,lb X a y B s'/\tn i s'.heap/\(∀ b∈G,B b=none)/\W i n y B) ?_ m0 ⟨0,σ,H2,I2,a0,λb p=>(f2 b p).1,w0⟩;rintro n s3 ⟨i,z,S,I3,O,K,w3⟩;rcases R i n z S w3 with⟨Q,qn⟩|⟨go,N,hN,P⟩
 ·refine zi L (Je (T.done X rfl rfl rfl hc i a s3 z S X.xe I3 (t K) O Q) λr s4 ⟨Y,I4⟩=>?_);subst Y;exact Kk ⟨z,S,I4,qn⟩
 ·refine zi L (Je (T.item X rfl rfl rfl hc i a s3 z S X.xe I3 (t K) O go) λr s4 ⟨u,Y,h4⟩=>?_);subst Y;refine zi L (Je h4 λ_ s5 ⟨x,H5,I5,r5,y5,F,V⟩=>?_);have U:=I5.pinned (t V) (T.obj _ _ F);refine zi L (Je (hg _ s5 z H5 x u _ U r5 (P x H5 y5)) λ_ s6 ⟨a1,H6,I6,q6⟩=>?_);refine zi L (Je (p _ s6 a1 H6 _ I6 q6) λf s7 E=>?_);have l:∀ {c:St} {j:Hp},lb X (a++IE G s5.heap) c j s7->N c j->∃ m,m<n/\∃ i y B,lb X a y B s7/\tn i s7.heap/\(∀ b∈G,B b=none)/\W i m y B:=fun {c j} k M=>by
   obtain⟨m',hm,w7⟩:=hN c j M;refine⟨m',hm,i+1,c,j,k.ql,T.keep _ _ _ F λb p o e=>(k.pin (b,o) (gb _ (gb _ (zG p e)))).1,λb p=>?_,w7⟩;obtain⟨o,e,d⟩:=T.obj _ _ F b p;exact(k.pin (b,o) (gb _ (gb _ (zG p e)))).2.1
  cases f with
  |next=>obtain⟨c,j,k,M⟩:=E;exact l k M
  |cont=>obtain⟨c,j,k,M⟩:=E;exact l k M
  |brk=>obtain⟨c,j,k,E⟩:=E;exact⟨c,j,k.ql,E⟩
  |ret v=>obtain⟨x7,c,j,k,r7,E⟩:=E;exact⟨x7,c,j,k.ql,r7,E⟩
end
abbrev R2:=V->V->Hp->VK->Prop
def di(X:Cx)(f:Value->Value->iq Value)(r:R2):Prop:=
 ∀ (a:List (Addr × Vc)) (s:aa) (σ:St) (H:Hp) (x y:V) (v u:Value) (Q:VK),lb X a σ H s->Qd x v->Qd y u->r x y H Q->
  wpAny (model X.prog X.w) X.A (f v u) (EP X a σ Q) X.xe s
def dH(X:Cx)(f:Value->iq Value)(r:V->Hp->VK->Prop):Prop:=
 ∀ (a:List (Addr × Vc)) (s:aa) (σ:St) (H:Hp) (x:V) (v:Value) (Q:VK),lb X a σ H s->Qd x v->r x H Q->
  wpAny (model X.prog X.w) X.A (f v) (EP X a σ Q) X.xe s
def tp(X:Cx)(f:Value)(r:List V->Hp->VK->Prop):Prop:=
 ∀ (a:List (Addr × Vc)) (s:aa) (σ:St) (H:Hp) (xs:List V) (us:List Value) (Q:VK),lb X a σ H s->Se xs us->r xs H Q->
  wpAny (model X.prog X.w) X.A (call f us) (EP X a σ Q) X.xe s
noncomputable def aB(r:R2)(d e:TE):TE:=λa H Q=>d a H λx b=>e a b λy c=>r x y c Q
def Š(r:V->Hp->VK->Prop)(b:TE):TE:=λc H Q=>b c H λx a=>r x a Q
def rI(C:Int->Int->Prop)(g:Int->Int->V):R2:=λx y H Q=>∃ i j,x=.int i/\y=.int j/\C i j/\Q (g i j) H
noncomputable def mr(g:Int->Int->V):R2:=λx y H Q=>∃ i j,x=.int i/\y=.int j/\Q (g i j) H
def rU(g:Int->V):V->Hp->VK->Prop:=λx H Q=>∃ i,x=.int i/\Q (g i) H
section
variable{X:Cx}{a b c:Ua}{ta tb tc:TE}{pos:Ve}
theorem tK(m:PE X a ta)(n:PE X b tb){c:List (Addr × Vc)}{R:V->V->Hp->Prop}(I:lb X c e H s)
  (h:ta e H λx j=>tb e j λy d=>R x y d) {f:Value->Value->iq Value}
  (o:∀ v u s2 x y d,lb X c e d s2->Qd x v->Qd y u->R x y d->wpAny (model X.prog X.w) X.A (f v u) Q X.xe s2) :
  wpAny (model X.prog X.w) X.A (vc a X.env) (λv g=>wpAny (model X.prog X.w) X.A (vc b X.env) (λu i=>wpAny (model X.prog X.w) X.A (f v u) Q X.xe i) X.xe g) X.xe s:=by
 refine Je (m c s e H _ I h) λv s1 ⟨x,j,k,r,p⟩=>?_;refine Je (n c s1 e j _ k p) λu s2 ⟨y,d,l,t,q⟩=>?_;exact o v u s2 x y d l r t q
theorem ū(j:di X (ff d) r)(g:PE X a ta)(i:PE X b tb):PE X (.BinOp a d b pos) (aB r ta tb):=by
 intro c s m H Q I h;exact wpAny_BinOp (tK g i I h λv u s2 x y e f k l q=>j c s2 m e x y v u Q f k l q)
theorem ĳ{c:UnaryOp}(g:dH X (unaryOp c) r)(f:PE X a ta):PE X (.UnaryOp c a pos) (Š r ta):=by
 intro b s d H Q I h;exact UnaryOp_ (Je (f b s d H _ I h) λv s1 ⟨x,H1,e,j,i⟩=>g b s1 d H1 x v Q e j i)
theorem OD{g:Int->Int->Int}
  (a:∀ (i j:Int) (t u:Tok) (s:aa) (Q:Value->aa->Prop) (E:Value->aa->Prop),C i j->Q (.int (g i j) s.toks) { s with toks:=s.toks+1 }->wpAny (model X.prog X.w) X.A (f (.int i t) (.int j u)) Q E s) :
  di X f (rI C λi j=>.int (g i j)):=by
 intro b s k H x y v u Q I d e h;obtain⟨i,j,rfl,rfl,c,q⟩:=h;obtain⟨t,rfl⟩:=d;obtain⟨t',rfl⟩:=e;exact a i j t t' s _ _ c ⟨.int (g i j),H,I.tok _,⟨_,rfl⟩,q⟩
theorem zM{g:Int->Int->Int}
  (a:∀ (i j:Int) (t u:Tok) (s:aa) (Q:Value->aa->Prop) (E:Value->aa->Prop),Q (.int (g i j) s.toks) { s with toks:=s.toks+1 }->wpAny (model X.prog X.w) X.A (f (.int i t) (.int j u)) Q E s) :
  di X f (mr λi j=>.int (g i j)):=by
 intro b s e H x y v u Q I c d h;obtain⟨i,j,rfl,rfl,q⟩:=h;obtain⟨t,rfl⟩:=c;obtain⟨t',rfl⟩:=d;exact a i j t t' s _ _ ⟨.int (g i j),H,I.tok _,⟨_,rfl⟩,q⟩
theorem YF{g:Int->Int->Bool}
  (a:∀ (i j:Int) (t u:Tok) (s:aa) (Q:Value->aa->Prop) (E:Value->aa->Prop),Q (.bool (g i j)) s->wpAny (model X.prog X.w) X.A (f (.int i t) (.int j u)) Q E s) :
  di X f (mr λi j=>.bl (g i j)):=by
 intro b s e H x y v u Q I c d h;obtain⟨i,j,rfl,rfl,q⟩:=h;obtain⟨t,rfl⟩:=c;obtain⟨t',rfl⟩:=d;exact a i j t t' s _ _ ⟨.bl (g i j),H,I,rfl,q⟩
def ZR(i j:Int):Prop:=0<j/\j<1073741824
def UO(i j:Int):Prop:=0<=j/\j<=1000000/\i.natAbs<2 ^ 64
def bI(i j:Int):Prop:=(-(2 ^ 64)<i/\i<2 ^ 64)\/(-(2 ^ 64)<j/\j<2 ^ 64)
theorem bI.ok(h:bI i j):IntMulOk i j:=by
 rcases h with⟨a,b⟩|⟨a,b⟩
 ·exact .of_left (AW a b)
 ·exact .of_right (AW a b)
theorem É(k:Nat):(0:Int)<=2 ^ k:=by
 rw[two_pow_cast];exact Int.natCast_nonneg _
theorem N6:di X (ff .Add) (mr λi j=>.int (i+j)):=zM λ_ _ _ _ _ _ _ q=>add_int q
theorem TD:di X (ff .Sub) (mr λi j=>.int (i - j)):=zM λ_ _ _ _ _ _ _ q=>sub_int q
theorem aD:di X (ff .Mult) (rI bI λi j=>.int (i * j)):=OD λ_ _ _ _ _ _ _ a q=>mul_int q a.ok
theorem Sv:di X (ff .FloorDiv) (rI ZR λi j=>.int (i / j)):=OD λi j _ _ _ _ _ a q=>by
 have b:(0:Int)<j:=a.1;have c:j<1073741824:=a.2;exact floordiv_int (by omega) (by rw[Gq i (by omega)];exact q) (.inl (PyProof.noPylong_small (by omega)))
theorem vq:di X (ff .Mod) (rI (λ_ j=>0<j) λi j=>.int (i % j)):=OD λi j _ _ _ _ _ a q=>by
 have b:(0:Int)<j:=a;exact mod_int' (by omega) (by rw[Int.fmod_eq_emod_of_nonneg i (by omega)];exact q)
theorem Ks:di X (ff .Pow) (rI UO λi j=>.int (i ^ j.toNat)):=OD λ_ _ _ _ _ _ _ a q=>pow_int_small a.1 a.2.1 a.2.2 q
theorem û:di X (ff .RShift) (rI (λ_ j=>0<=j) λi j=>.int (i / 2 ^ j.toNat)):=OD λi j _ _ _ _ _ a q=>
 rshift_int a (by rw[Gq i (É _)];exact q)
theorem Η:di X (ff .BitAnd) (mr λi j=>.int (dg i j)):=zM λ_ _ _ _ _ _ _ q=>and_int q
theorem i6{g:Int->Int}
  (a:∀ (i:Int) (t:Tok) (s:aa) (Q:Value->aa->Prop) (E:Value->aa->Prop),Q (.int (g i) s.toks) { s with toks:=s.toks+1 }->wpAny (model X.prog X.w) X.A (f (.int i t)) Q E s) :
  dH X f (rU λi=>.int (g i)):=by
 intro b s d H x v Q I c h;obtain⟨i,rfl,q⟩:=h;obtain⟨t,rfl⟩:=c;exact a i t s _ _ ⟨.int (g i),H,I.tok _,⟨_,rfl⟩,q⟩
theorem CB:dH X (unaryOp .USub) (rU λi=>.int (-i)):=i6 λ_ _ _ _ _ q=>neg_int q
end
section
variable{X:Cx}{a b c:Ua}{ta tb tc:TE}{pos:Ve}
theorem bV{a:List (Addr × Vc)}{c:St}{k b:Bool}(I:lb X a c H s)(q:Q (.bl k) H)(e:k=b):EP X a c Q (.bool b) s:=by
 subst e;exact⟨.bl k,H,I,rfl,q⟩
theorem sA:di X (Ub .Lt) (mr λi j=>.bl (decide (i<j))):=YF λ_ _ _ _ _ _ _ q=>lt_int q
theorem OV:di X (Ub .LtE) (mr λi j=>.bl (decide (i<=j))):=YF λ_ _ _ _ _ _ _ q=>le_int q
theorem OA:di X (Ub .Gt) (mr λi j=>.bl (decide (j<i))):=YF λ_ _ _ _ _ _ _ q=>gt_int q
theorem uN:di X (Ub .GtE) (mr λi j=>.bl (decide (j<=i))):=YF λ_ _ _ _ _ _ _ q=>ge_int q
theorem Tz:di X (Ub .Is) (λx y H Q=>y=.Rb/\Q (.bl (decide (x=.Rb))) H):=by
 intro a s d H x y v u Q I b c h;obtain⟨rfl,q⟩:=h;cases c;refine is_none_gen (bV I q ?_);cases x<;>first
  |(cases b;rfl)
  |(obtain⟨t,rfl⟩:=b;rfl)
theorem IN:di X (Ub .IsNot) (λx y H Q=>y=.Rb/\Q (.bl (!decide (x=.Rb))) H):=by
 intro a s d H x y v u Q I b c h;obtain⟨rfl,q⟩:=h;cases c;refine isnot_none_gen (bV I q ?_);cases x<;>first
  |(cases b;rfl)
  |(obtain⟨t,rfl⟩:=b;rfl)
theorem di.or{r b:R2}(h:di X f r)(h':di X f b):di X f (λx y H Q=>r x y H Q\/b x y H Q):=by
 intro a s e H x y v u Q I c d q;rcases q with q|q
 ·exact h a s e H x y v u Q I c d q
 ·exact h' a s e H x y v u Q I c d q
theorem be(b:Ua){a:Yq}(h:a≠.In:=by decide)(e:a≠.NotIn:=by decide):Pe a b=false:=by
 have c:(a == QN)=false:=by cases a<;>first|rfl|exact absurd rfl h
 have d:(a == cC)=false:=by cases a<;>first|rfl|exact absurd rfl e
 cases b<;>simp[Pe,c,d]
theorem Z6(k:di X (Ub d) r)(g:PE X a ta)(i:PE X b tb)(j:Pe d b=false):PE X (.Compare a [d] [b] pos) (aB r ta tb):=by
 intro c s n H Q I h;exact wpAny_Compare1 (tK g i I h λv u s2 x y e f l m q=>k c s2 n e x y v u Q f l m q) j
noncomputable def RY(t:TE):TT:=λb H Q=>t b H λx a=>∃ k,x=.bl k/\Q k a
theorem OL(t:di X (Ub f) r)(o:PE X a ta)(p:PE X b tb)(q:Pe f b=false):PT X (.Compare a [f] [b] pos) (RY (aB r ta tb)):=by
 intro d s g H Q I h;refine Rw (Je (o d s g H _ I h) λv s1 ⟨x,H1,l,C,w⟩=>Je (p d s1 g H1 _ l w) λu s2 ⟨y,i,m,D,A⟩=>
  Je (t d s2 g i x y v u _ m C D A) λc s3 ⟨z,j,n,E,k,e,B⟩=>?_) q
 subst e;cases E;exact Ud ⟨j,n,B⟩
noncomputable def K8(r f:R2)(ta tb tc:TE):TE:=λa H Q=>ta a H λx c=>tb a c λy d=>r x y d λz b=>∃ k,z=.bl k/\
 (if k=true then tc a b λg e=>f y g e Q else Q (.bl false) b)
theorem š(J:di X (Ub l) r)(j:di X (Ub g) p)(D:PE X a ta)(E:PE X b tb)(F:PE X c tc)
  (G:lastMarks [l,g] [b,c]=false:=by with_unfolding_all rfl):PE X (.Compare a [l,g] [b,c] pos) (K8 r p ta tb tc):=by
 intro f s i H Q I h;refine Compare_chain (Je (D f s i H _ I h) λv s1 ⟨x,H1,A,N,K⟩=>chain_link (Je (E f s1 i H1 _ A K) λu s2 ⟨y,t,B,q,L⟩=>
  Je (J f s2 i t x y v u _ B N q L) λd s3 ⟨z,m,n,O,k,e,o⟩=>?_)) G
 subst e;cases O;refine Ud ?_;cases k with
 |false=>exact ite_ff ⟨.bl false,m,n,rfl,o⟩
 |true=>exact ite_tt (chain_last (Je (F f s3 i m _ n o) λR s4 ⟨S,w,C,P,M⟩=>j f s4 i w y S u R Q C q P M))
theorem cG:(sizeLine:Nat)<2 ^ 63:=by rw[sizeLine_eq];decide
theorem w8:di X (ff .Add) (λx y H Q=>∃ i j,x=.str i/\y=.str j/\i.length+j.length<=sizeLine/\Q (.str (i++j)) H):=by
 intro a s f H x y v u Q I c d h;obtain⟨i,j,rfl,rfl,b,q⟩:=h;obtain⟨t,rfl⟩:=c;obtain⟨t',rfl⟩:=d;exact add_str (λt' e=>⟨.str (i++j),H,I.tok _,⟨_,rfl⟩,q⟩) b
theorem Iw{a:List Value}(r:Se [x] a):∃ u,a=[u]/\Qd x u:=by
 cases r with
 |cons b c=>cases c;exact⟨_,rfl,b⟩
theorem rW{a:List Value}(r:Se [x,y] a):∃ u b,a=[u,b]/\Qd x u/\Qd y b:=by
 cases r with
 |cons c d=>
  cases d with
  |cons e f=>cases f;exact⟨_,_,rfl,c,e⟩
theorem NK(c:X.Aa=true):tp X (.builtin "min") (λxs H Q=>∃ i j,xs=[.int i,.int j]/\Q (.int (if j<i then j else i)) H):=by
 intro b s g H xs e Q I r h;obtain⟨i,j,rfl,q⟩:=h;obtain⟨u,f,rfl,⟨t,rfl⟩,⟨t',rfl⟩⟩:=rW r;refine min_two_ints (I.ok.hd c) λh' d k=>⟨_,H,I.kept k,?_,q⟩
 by_cases a:j<i
 ·rw[ja a,ja a];exact⟨_,rfl⟩
 ·rw[ka a,ka a];exact⟨_,rfl⟩
end
structure rs(h:Heap)(x dx C:Addr)(mA:Str->Option Value):Prop where
 obj:h.get? x=some (W.instObj C dx)
 ns:h.Ns1 dx mA
 ne:dx≠x
theorem j3{h:Heap}(n:h.Ns1 d g):∃ i,h.get? d=some i/\∀ b,W.lookIn b i=some (g b):=by
 obtain⟨o,f,s,p,k,l,_,m⟩:=n;refine⟨o,p,λb=>?_⟩;have e:=m b;unfold nsFind findBy at e;rw[<-Array.find?_toList]at e;unfold W.lookIn;rw[k];dsimp only;split
 ·rename_i y q
  rw[q]at e;exact yc some e
 ·rename_i q
  rw[q]at e;have a:f.toList.any (·.refKey)=false:=by
   rw[zm];intro y r;obtain⟨z,t,c⟩:=l y (Array.mem_toList_iff.mp r);simp[zaF,c]
  have j:¬ f.toList.any (·.refKey)=true:=by rw[a];exact yb
  rw[ka j];exact yc some e
theorem rs.look(I:rs h x c C d):∃ b,W.InstAt h x (W.instObj C c) C (some b)/\∀ a,W.lookIn a b=some (d a):=
 let ⟨b,f,e⟩:=j3 I.ns
 ⟨b,⟨I.obj,rfl,rfl,f⟩,e⟩
section
variable{prog:Ca}{w:Ya}{A:Ta}{E:Value->aa->Prop}{s:aa}{K:W.Frag}{x dx C f:Addr}{mA:Str->Option Value}{name:Str}{v:Value}
theorem ę(X:K.In s.heap)(I:rs s.heap x dx C mA)(d:W.plainGet K C name=true)(e:W.hasDictIn K C=true)
  (c:W.findIn K (.ref C) name=some none) (g:mA name=some v) (b:W.handedIn v=true) (h:Q v { s with toks:=s.toks+1 }) :
  wpAny (model prog w) A (getAttr (.ref x) name a) Q E s:=by
 obtain⟨i,J,f⟩:=I.look;exact W.get_value X J (W.plainGet_of d).1 (W.findObj_own e c rfl (by rw[f,g])) b h
theorem ĉ(X:K.In s.heap)(I:rs s.heap x dx C mA)(a:W.plainGet K C name=true)
  (b:W.findIn K (.ref C) name=some (some (.ref f))) (d:W.isFn K (.ref f)=true) (e:mA name=none) (h:Q (.ref f,[.ref x]) s) :
  wpAny (model prog w) A (Bm (.ref x) name pl) Q E s:=by
 obtain⟨g,J,c⟩:=I.look;exact W.method_fn X J (W.plainGet_of a).1 (W.plainGet_of a).2 b (wh.mp d) (by show (W.lookIn name g).map (·.isSome)=some false;rw[c,e];rfl) h
theorem MZ(X:K.In s.heap)(I:rs s.heap x dx C mA)
  (p:W.findIn K (.ref C) "__setattr__" = some (some (.builtin "object.__setattr__"))) (o:W.plainOver K C=true) (t:W.takerIn K C name=some none) (n:W.hasDictIn K C=true)
  (u:PySem.Within mA j) (q:j.length<=sizeLine)
  (h:∀ h',rs h' x dx C (λy=>if y=name then some v else mA y)->qg dx s.heap h'->Q () { s with heap:=h',toks:=s.toks+2 }) :
  wpAny (model prog w) A (setAttr (.ref x) name v) Q E s:=by
 obtain⟨F,J,D⟩:=I.look;refine W.set_plain X J p (W.osa_open (s:={ s with toks:=s.toks+1 }) (r:=none) X J o t λb=>?_);obtain⟨B,m,f⟩:=W.any_some n;have z:s.heap.get? x=some ⟨.ref C,some dx,.plain,#[]⟩:=I.obj;refine da (ra (da (da (wpAny_loadPart z (da (W.Looks.here (s:={ s with toks:=s.toks+1 }) (W.looks_clsIn X m) ?_))))));rw[f];refine ra (a:=some dx) (da (ra (da ?_)));refine wpAny_nsSet1 (s:={ s with toks:=s.toks+1 }) I.ns λh' c d=>?_;obtain⟨oD,l,k,i,g,e⟩:=c.count (XI name v u);refine da (wpAny_lookBehind i (by rw[g];exact pastItsLine_dict (Qb e (by rw[bc];omega))) ?_);exact ra (h _ ⟨(d.2 _ (qf I.ne)).trans I.obj,c,I.ne⟩ d)
theorem IX(X:K.In s.heap)(j:W.makesIn K C=true)
  (i:W.findIn K (.ref C) "__init__" = some (some (.ref f))) (e:W.typeIn K (.ref f)=some (.type "function"))
  (h:codeAny (model prog w) (A.under (.builtin "type.__call__" ⟨.ref C::c,b⟩)) (.call (.ref f) ⟨.ref (s.heap.objs.size+1)::c,b⟩) (W.InitBack (s.heap.objs.size+1) R)
   { s with heap:=(s.heap.push W.emptyDict).push (W.instObj C s.heap.objs.size) }) :
  codeAny (model prog w) A (.call (.ref C) ⟨c,b⟩) R s:=by
 obtain⟨k,g,d,t,l⟩:=s;exact W.make_core (W.makes_of X j) (W.looks_findIn X i) (λa=>W.bind_fn X a e) (.inl rfl) h
end
noncomputable def vp(f:Str)(v:V):List (Str × V)->List (Str × V)
 |[]=>[(f,v)]
 |(g,x)::r=>if g=f then (g,v)::r else (g,x)::vp f v r
theorem JR(f g:Str)(v:V):∀ c:List (Str × V),(vp f v c).lookup g=if g=f then some v else c.lookup g
 |[]=>by
  show List.lookup g [(f,v)]=_;by_cases h:g=f
  ·have a:(g == f)=true:=wh.mpr h;simp only[List.lookup,a,ja h]
  ·have a:(g == f)=false:=Oe.mpr h;simp only[List.lookup,a,ka h]
 |(k,x)::r=>by
  have d:=JR f g v r;rw[show vp f v ((k,x)::r)=(if k=f then (k,v)::r else (k,x)::vp f v r)from rfl];by_cases b:k=f
  ·rw[ja b];by_cases h:g=k
   ·have a:(g == k)=true:=wh.mpr h;simp only[List.lookup,a,ja (h.trans b)]
   ·have a:(g == k)=false:=Oe.mpr h;simp only[List.lookup,a,ka (λe:g=f=>h (e.trans b.symm))]
  ·rw[ka b];by_cases h:g=k
   ·have a:(g == k)=true:=wh.mpr h;simp only[List.lookup,a,ka (λe:g=f=>b (h.symm.trans e))]
   ·have a:(g == k)=false:=Oe.mpr h;simp only[List.lookup,a];exact d
theorem aK(f:Str)(v:V):∀ a:List (Str × V),f∈(vp f v a).map (·.1)/\∀ g,g∈a.map (·.1)->g∈(vp f v a).map (·.1)
 |[]=>⟨by simp[vp],λg h=>by simp at h⟩
 |(k,x)::r=>by
  obtain⟨c,d⟩:=aK f v r;rw[show vp f v ((k,x)::r)=(if k=f then (k,v)::r else (k,x)::vp f v r)from rfl];by_cases b:k=f
  ·rw[ja b];subst b;exact⟨by simp,λg h=>by simpa using h⟩
  ·rw[ka b];refine⟨?_,λg h=>?_⟩
   ·rw[Ra];exact Za _ c
   ·rw[Ra]at h ⊢;rcases Na.mp h with e|e
    ·exact Na.mpr (.inl e)
    ·exact Za _ (d g e)
theorem XP(f:Str)(v:V):∀ a:List (Str × V),(vp f v a).length<=a.length+1
 |[]=>by simp[vp]
 |(k,x)::r=>by
  have c:=XP f v r;rw[show vp f v ((k,x)::r)=(if k=f then (k,v)::r else (k,x)::vp f v r)from rfl];by_cases b:k=f
  ·rw[ja b,bc,bc];omega
  ·rw[ka b,bc,bc];omega
theorem xp.some_of(r:xp (some v) o):∃ u,o=some u/\Qd v u:=by
 cases o with
 |none=>exact(show False from r).elim
 |some u=>exact⟨u,rfl,r⟩
theorem xp.none_of(r:xp none o):o=none:=by
 cases o with
 |none=>rfl
 |some u=>exact(show False from r).elim
theorem ö(r:Qd v u):W.handedIn u=true:=by
 cases v with
 |Rb=>cases (show u=lc from r);rfl
 |bl b=>cases (show u=rh b from r);rfl
 |int i=>obtain⟨t,e⟩:=(show ∃ t,u=ii i t from r);cases e;rfl
 |str x=>obtain⟨t,e⟩:=(show ∃ t,u=Xq x t from r);cases e;rfl
 |YH b=>obtain⟨t,e⟩:=(show ∃ t,u=aC b t from r);cases e;rfl
 |Uz b=>obtain⟨t,e⟩:=(show ∃ t,u=xt b t from r);cases e;rfl
 |ref a=>cases (show u=Nb a from r);rfl
 |ty n=>cases (show u=vF n from r);rfl
section
variable{P:Ca}{w:Ya}{H H':Hp}{h h':Heap}{a C dx:Addr}{fs fs':List (Str × V)}
theorem sG(c:mj P w H h)(e:H a=some (.Ld C dx fs)):∃ b,rs h a dx C b/\(∀ f,xp (fs.lookup f) (b f))/\PySem.Within b (fs.map (·.1))/\fs.length<=1000/\H dx=some (.own a):=by
 obtain⟨d,z,g,ob,b,n,r,q⟩:=(show ak P w H h a (.Ld C dx fs)from c a _ e)
 exact⟨b,⟨ob,n,g⟩,r,q,z,d⟩
end
structure Ap(K:W.Frag)(C:Addr):Prop where
 pg:W.plainGet K C Str.empty=true
 hd:W.hasDictIn K C=true
 po:W.plainOver K C=true
 sa:W.findIn K (.ref C) "__setattr__" = some (some (.builtin "object.__setattr__"))
theorem Ap.get{K:W.Frag}(c:Ap K C)(f:Str):W.plainGet K C f=true:=c.pg
def Zh(K:W.Frag)(C:Addr)(f:Str):Prop:=W.findIn K (.ref C) f=some none
theorem Zh.jC{K:W.Frag}(n:Zh K C f):W.takerIn K C f=some none:=by
 unfold W.takerIn;rw[show W.findIn K (.ref C) f=some none from n];rfl
structure Con(K:W.Frag)(C:Addr)(f:Str)(v:V)(u:Value):Prop where
 at_:W.findIn K (.ref C) f=some (some u)
 rel:Qd v u
 get:W.specialIn K u "__get__" = some none
 cp:W.copiedNames.contains f=false
structure ng(K:W.Frag)(C:Addr)(m:Str)(f:Addr):Prop where
 at_:W.findIn K (.ref C) m=some (some (.ref f))
 fn:W.isFn K (.ref f)=true
 kp:W.keepIn K (.ref f)=true
section
variable{X:Cx}{pins:List (Addr × Vc)}{σ:St}{H:Hp}{s:aa}{a C dx:Addr}{fs:List (Str × V)}{f:Str}{v:V}{A:Ta}{E:Value->aa->Prop}
theorem fU(I:lb X pins σ H s)(e:H a=some (.Ld C dx fs))(c:Ap X.K C)(n:Zh X.K C f)(l:fs.lookup f=some v)
  (h:∀ u g,lb X pins σ H g->Qd v u->Q u g):wpAny (model X.prog X.w) A (getAttr (.ref a) f b) Q E s:=by
 obtain⟨j,O,r,_,_,_⟩:=sG I.zd e;obtain⟨u,i,d⟩:=xp.some_of (v:=v) (o:=j f) (by rw[<-l];exact r f);exact ę I.Dk O (c.get f) c.hd n i (ö d) (h u _ (I.tok _) d)
theorem ZT(I:lb X pins σ H s)(e:H a=some (.Ld C dx fs))(c:Ap X.K C)(k:ng X.K C m g)(l:fs.lookup m=none)
  (h:Q (.ref g,[.ref a]) s):wpAny (model X.prog X.w) A (Bm (.ref a) m pl) Q E s:=by
 obtain⟨d,O,r,_,_,_⟩:=sG I.zd e;have b:d m=none:=xp.none_of (by rw[<-l];exact r m);exact ĉ I.Dk O (c.get m) k.at_ k.fn b h
theorem eU(I:lb X pins σ H s)(e:H a=some (.Ld C dx fs))(c:Ap X.K C)(n:Zh X.K C f)(F:fs.length<1000)(D:Qd y u)
  (h:∀ k,lb X pins σ (rc H a (.Ld C dx (vp f y fs))) k->Q () k):wpAny (model X.prog X.w) A (setAttr (.ref a) f u) Q E s:=by
 obtain⟨j,O,r,l,_,i⟩:=sG I.zd e;have B:(fs.map (·.1)).length<=sizeLine:=by rw[xb,sizeLine_eq];omega
 refine MZ I.Dk O c.sa c.po n.jC c.hd l B λh' d sb=>h _ ?_;have t:∃ o,h'.get? dx=some o:=let ⟨o,_,_,m,_⟩:=d.ns;⟨o,m⟩;refine I.write (x:=a) (e:=dx) (by rw[e];exact True.intro) (.inr i) (λb q p z=>(sb.2 b p).trans z) t ?_;refine⟨by rw[me O.ne];exact i,?_,O.ne,d.obj,_,d.ns,λg=>?_,λg v=>?_⟩
 ·have:=XP f y fs;omega
 ·show xp ((vp f y fs).lookup g) (if g=f then some u else j g);rw[JR];by_cases q:g=f
  ·rw[ja q,ja q];exact D
  ·rw[ka q,ka q];exact r g
 ·by_cases q:g=f
  ·rw[q];exact(aK f y fs).1
  ·refine(aK f y fs).2 g (l g λz=>v ?_);show (if g=f then some u else j g)=none;rw[ka q];exact z
theorem lb.made(I:lb X pins σ H s):lb X pins σ (rc (rc H s.heap.objs.size (.own (s.heap.objs.size+1))) (s.heap.objs.size+1) (.Ld C s.heap.objs.size []))
  { s with heap:=(s.heap.push W.emptyDict).push (W.instObj C s.heap.objs.size) }:=by
 have c:(s.heap.push W.emptyDict).get? s.heap.objs.size=some W.emptyDict:=Bb s.heap rfl;have g:((s.heap.push W.emptyDict).push (W.instObj C s.heap.objs.size)).get? (s.heap.objs.size+1)=some (W.instObj C s.heap.objs.size):=by
  have:=Bb (s.heap.push W.emptyDict) (o:=W.instObj C s.heap.objs.size) rfl
  rwa [Wg]at this
 have h:(s.heap.push W.emptyDict).Ns s.heap.objs.size (λ_=>none):=⟨W.emptyDict,#[],_,c,rfl,(λe i=>absurd i (by simp)),λ_=>rfl⟩
 have f:=I.laid (a:=s.heap.objs.size) (o:=.own (s.heap.objs.size+1)) (h':=s.heap.push W.emptyDict) (t':=s.toks) (λb u q=>qa _ q) (Ea _) ⟨_,c⟩;refine f.laid (a:=s.heap.objs.size+1) (o:=.Ld C s.heap.objs.size []) (t':=s.toks) (λb u q=>qa _ q) (dt (Wg _ _)) ?_;have d:s.heap.objs.size≠s.heap.objs.size+1:=Sa (Ed _);refine⟨by rw[me d,Mh],Bu _,d,g,λ_=>none,(Heap.Ns1.of_empty h).at λo q=>qa _ q,λ_=>True.intro,λy j=>absurd rfl j⟩
theorem ĺ{a:nh}(g:oe e f a (vc e a)=vc e a)
  (h:wpAny (model b w) A (vc e a) (λo c=>wpAny (model b w) A (getAttr o f true) Q E c) E s):wpAny (model b w) A (vc (.Attribute e f d) a) Q E s:=
 Attribute_any_ h (by rw[arm_eval_Attribute,g])
end
def xa6(K:W.Frag)(e:TE)(f:Str):TE:=λg H Q=>e g H λx b=>∃ a C d c v,x=.ref a/\b a=some (.Ld C d c)/\Ap K C/\Zh K C f/\c.lookup f=some v/\Q v b
def M6(K:W.Frag)(h i:TE)(f:Str):TS:=λD c H=>i c H λy g=>h c g λx d=>∃ a C e b,x=.ref a/\d a=some (.Ld C e b)/\Ap K C/\Zh K C f/\b.length<1000/\
 D.nx c (rc d a (.Ld C e (vp f y b)))
def OP(X:Cx)(b:im)(rd:V->V->Hp->VK->Prop):Prop:=
 ∀ (a:List (Addr × Vc)) (s:aa) (σ:St) (H:Hp) (x y:V) (u v:Value) (Q:VK),lb X a σ H s->Qd x u->Qd y v->rd x y H Q->wpAny (model X.prog X.w) X.A (xF b u v) (EP X a σ Q) X.xe s
def yd7(K:W.Frag)(k l:TE)(rd:V->V->Hp->VK->Prop)(f:Str):TS:=λD d H=>k d H λx e=>∃ a C j h v,x=.ref a/\e a=some (.Ld C j h)/\Ap K C/\Zh K C f/\h.lookup f=some v/\
 l d e λy i=>rd v y i λz g=>∃ c b,g a=some (.Ld C c b)/\b.length<1000/\D.nx d (rc g a (.Ld C c (vp f z b)))
section
variable{X:Cx}{o e value:Ua}{f:Str}{pos pos' tpos:Ve}{ta tv:TE}
theorem r6(k:PE X e ta)(j:oe e f X.env (vc e X.env)=vc e X.env):PE X (.Attribute e f pos) (xa6 X.K ta f):=by
 intro b s p H Q I h;refine ĺ j (Je (k b s p H _ I h) λu s1 ⟨x,H1,d,o,a,C,r,t,v,ex,i,c,n,l,q⟩=>?_);subst ex;obtain rfl:u=Nb a:=o;exact fU d i c n l λw s2 g m=>⟨v,H1,g,m,q⟩
theorem G4(k:PE X o ta)(p:PE X value tv)(m:Xi value (some (.Attribute o f pos')) pos.line X.env=pure false):PS X (.Assign [.Attribute o f pos'] value pos) (M6 X.K ta tv f):=by
 intro b s d H D I h;refine plainObj_wpAny_Assign_Attribute (Je (p b s d H _ I h) λu s1 ⟨y,H1,e,w,q⟩=>Je (k b s1 d H1 _ e q) λr s2 ⟨x,z,g,v,a,C,A,B,ex,j,c,n,l,t⟩=>?_) m;subst ex;obtain rfl:r=Nb a:=v;exact eU g j c n l w λE i=>⟨d,_,i,t⟩
theorem zoq(E:PE X o ta)(F:PE X value tv)(g:OP X i rd):PS X (.AugAssign (.Attribute o f tpos) i value pos) (yd7 X.K ta tv rd f):=by
 intro b s d H D I h;refine wpAny_AugAssign_AttributeAny (Je (E b s d H _ I h) λJ s1 ⟨x,H1,k,O,a,C,T,U,v,ex,A,c,n,l,q⟩=>?_);subst ex;obtain rfl:J=Nb a:=O;refine fU k A c n l λu s2 m N=>Je (F b s2 d H1 _ m q) λR s3 ⟨y,j,p,P,L⟩=>Je (g b s3 d j v y u R _ p N P L) λY s4 ⟨z,S,r,Q,w,B,e,G,M⟩=>?_;exact eU r e c n G Q λW t=>⟨d,_,t,M⟩
def yzt:V->V->Hp->VK->Prop:=λx y H Q=>∃ i j,x=.int i/\y=.int j/\Q (.int (i+j)) H
theorem n9:OP X .Add yzt:=by
 rintro a s d H x y u v Q I b c ⟨i,j,rfl,rfl,q⟩;obtain⟨t,rfl⟩:=(show ∃ t,u=ii i t from b)
 obtain⟨t',rfl⟩:=(show ∃ t',v=ii j t' from c)
 exact YI ⟨.int (i+j),H,I.tok _,⟨_,rfl⟩,q⟩
end
section
variable{X:Cx}{pins:List (Addr × Vc)}{σ:St}{H:Hp}{s:aa}{A:Ta}{E:Value->aa->Prop}{Q:Value->aa->Prop}{c:Value}{b:Bool}
inductive Ql(K:W.Frag)(H:Hp):V->Value->Prop where
 |Rb:Ql K H .Rb (.type "NoneType")
 |bl (x:Bool):Ql K H (.bl x) (.type "bool")
 |int (i:Int):Ql K H (.int i) (.type "int")
 |str (x:Str):Ql K H (.str x) (.type "str")
 |Uz (x:UInt64):Ql K H (.Uz x) (.type "float")
 |va {a:Addr} {xs:List V} (e:H a=some (.va xs)):Ql K H (.ref a) (.type "list")
 |jc {a:Addr} {o:Vc} {xs:List V} (e:H a=some (.jc o (.va xs))):Ql K H (.ref a) (.type "list")
 |Ga {a:Addr} {xs:List V} (e:H a=some (.Ga xs)):Ql K H (.ref a) (.type "tuple")
 |dK {a:Addr} {kvs:List (sd × V)} (e:H a=some (.dK kvs)):Ql K H (.ref a) (.type "dict")
 |dT {a:Addr} {kvs:List (List sd × V)} (e:H a=some (.dT kvs)):Ql K H (.ref a) (.type "dict")
 |Ld {a C dx:Addr} {fs:List (Str × V)} (e:H a=some (.Ld C dx fs)) (cl:Ap K C) (ha:W.findIn K (.ref C) "__class__" = some (some (.builtin "object.__class__")))
   (hn:W.specialIn K (.builtin "object.__class__") "__get__" = some (some (.builtin "getset_descriptor.__get__"))) (htk:W.takesIn K (.builtin "object.__class__")=some true)
   (hm:W.mroIn K C (.type "object")=some true):Ql K H (.ref a) (.ref C)
theorem ľ(I:lb X pins σ H s)(f:Qd x u)(ty:Ql X.K H x t)(e:W.kitOne X.K t c=some b)(h:∀ F,Q (.bool b) { s with toks:=F }) :
  wpAny (model X.prog X.w) A (call (.builtin "isinstance") [u,c]) Q E s:=by
 cases ty with
 |Rb=>cases (show u=lc from f);exact W.kia_one W.kitx_none I.Dk True.intro e (λz=>nomatch z) h
 |bl y=>cases (show u=rh y from f);exact W.kia_one W.kitx_bool I.Dk True.intro e (λz=>nomatch z) h
 |int i=>obtain⟨t,q⟩:=(show ∃ t,u=ii i t from f);cases q;exact W.kia_one W.kitx_int I.Dk True.intro e (λz=>nomatch z) h
 |str y=>obtain⟨t,q⟩:=(show ∃ t,u=Xq y t from f);cases q;exact W.kia_one W.kitx_str I.Dk True.intro e (λz=>nomatch z) h
 |Uz y=>obtain⟨t,q⟩:=(show ∃ t,u=xt y t from f);cases q;exact W.kia_one W.kitx_float I.Dk True.intro e (λz=>nomatch z) h
 |@va a xs d=>
  cases (show u=Nb a from f);obtain⟨_,_,n,_,g⟩:=(show ak X.prog X.w H s.heap a (.va xs)from I.zd a _ d)
  exact W.kia_one W.kitx_list I.Dk ⟨_,g,rfl⟩ e (λz=>nomatch z) h
 |@jc a D xs d=>
  cases (show u=Nb a from f);obtain⟨_,_,_,n,_,g⟩:=(show ak X.prog X.w H s.heap a (.jc D (.va xs))from I.zd a _ d)
  exact W.kia_one W.kitx_list I.Dk ⟨_,g,rfl⟩ e (λz=>nomatch z) h
 |@Ga a xs d=>
  cases (show u=Nb a from f);obtain⟨_,_,_,p⟩:=(show ak X.prog X.w H s.heap a (.Ga xs)from I.zd a _ d)
  obtain⟨o,g,k,_⟩:=p;exact W.kia_one W.kitx_tuple I.Dk ⟨o,g,k⟩ e (λz=>nomatch z) h
 |@dK a j d=>
  cases (show u=Nb a from f);obtain⟨_,_,P,_,p⟩:=(show ak X.prog X.w H s.heap a (.dK j)from I.zd a _ d)
  obtain⟨o,r,m,g,k,_⟩:=p;exact W.kia_one W.kitx_dict I.Dk ⟨o,g,k.1⟩ e (λz=>nomatch z) h
 |@dT a j d=>
  cases (show u=Nb a from f);obtain⟨_,_,xs,_,o,r,m,g,k,_⟩:=(show ak X.prog X.w H s.heap a (.dT j)from I.zd a _ d)
  exact W.kia_one W.kitx_dict I.Dk ⟨o,g,k.1⟩ e (λz=>nomatch z) h
 |@Ld a C G L d cl v B l hm=>
  cases (show u=Nb a from f);obtain⟨M,O,_⟩:=sG I.zd d;obtain⟨N,J,_⟩:=O.look;exact W.kia_one (W.kitx_own (cl.get _) cl.hd v B l hm) I.Dk J e (λz=>nomatch z) h
end
structure Yd(k:Nat)(A:Ta):Prop where
 hd:A.handled=none
 dp:A.depth+3 * k+5<recursionLimit
 un:A.units+16 * k+200<cLine
theorem Yd.mono(r:Yd k A)(h:j<=k):Yd j A:=⟨r.hd,by have:=r.dp;omega,by have:=r.un;omega⟩
theorem Yd.deeper(r:Yd (k+1) A)(a:nh):Yd k (A.deeper a):=
 ⟨r.hd,by have:=r.dp;show A.depth+1+3 * k+5<_;omega,by have:=r.un;show A.units+3+16 * k+200<_;omega⟩
theorem Yd.in1(r:Yd (k+1) A):Yd k A.in1:=
 ⟨r.hd,by have:=r.dp;show A.depth+3 * k+5<_;omega,by have:=r.un;show A.units+1+16 * k+200<_;omega⟩
theorem zkd{A:Ta}:(A.under (.builtin "type.__call__" ⟨.ref C::b,a⟩)).depth=A.depth+1:=by
 first|rfl|simp[Zq,Code.weight,Code.isCreation,Code.isGuard,Code.isCaller,zF,Zr,guardIds]
theorem F3{A:Ta}:(A.under (.builtin "type.__call__" ⟨.ref C::b,a⟩)).units=A.units+1:=by
 first|rfl|simp[Zq,Code.cUnits,zF,Zr]
theorem Yd.make(r:Yd (k+1) A)(C:Addr)(b:List Value)(a:List (Str × Value)):Yd k (A.under (.builtin "type.__call__" ⟨.ref C::b,a⟩)):=
 ⟨r.hd,by have:=r.dp;rw[zkd];omega,by have:=r.un;rw[F3];omega⟩
theorem Yd.depth(r:Yd k A):A.depth<recursionLimit:=by have:=r.dp;omega
theorem Yd.units(r:Yd k A):A.units+64<cLine:=by have:=r.un;omega
noncomputable def ı:TA:=λ_ H Q=>Q [] H
noncomputable def Ŷ(d:TE)(e:TA):TA:=λa H Q=>d a H λx b=>e a b λxs c=>Q (x::xs) c
section
variable{X:Cx}{e:Ua}{es:List Ua}{te:TE}{t:TA}{pos:Ve}
theorem Zz:PA X [] ı:=λ_ _ _ _ H Q I h=>Calls.spliced_nil ⟨[],H,I,.nil,h⟩
theorem sx(g:PE X e te)(i:PA X es t)(j:ua (e::es) X.env=(false,vc e X.env)::ua es X.env:=by rfl):PA X (e::es) (Ŷ te t):=by
 intro pos a s b H Q I h;rw[j];show wpAny _ _ (spliced ((false,vc e X.env)::Wc pos (ua es X.env))) _ _ s;refine Calls.spliced_cons (Je (g a s b H _ I h) λu s1 ⟨x,H1,d,m,k⟩=>?_);exact Je (i pos a s1 b H1 _ d k) λus s2 ⟨xs,c,f,n,l⟩=>⟨x::xs,c,f,.cons m n,l⟩
def fX(t:TA):TE:=λb H Q=>t b H λxs a=>xs.length<=sizeLine/\∀ p,a p=none->Q (.ref p) (rc a p (.Ga xs))
def dY(t:TA):TE:=λb H Q=>t b H λxs a=>xs.length<=sizeLine/\∀ p,a p=none->Q (.ref p) (rc a p (.va xs))
theorem ŋ{x1}(h:PA X es t):PE X (.Tuple es x1 pos) (fX t):=by
 intro a s g H Q I f;refine wpAny_Tuple_spliced (Je (h pos a s g H _ I f) λus s1 ⟨xs,H1,c,r,z,q⟩=>⟨by rw[<-r.length];exact z,?_⟩);have d:H1 s1.heap.objs.size=none:=c.zd.fresh (Ea _);refine⟨.ref s1.heap.objs.size,rc H1 s1.heap.objs.size (.Ga xs),c.laid (t':=s1.toks) (λb u e=>qa _ e) (Ea _) ?_,rfl,q _ d⟩;exact⟨z,us,r,⟨_,Bb _ rfl,rfl,_,rfl⟩⟩
theorem GV(h:PA X es t):PE X (.List es pos) (dY t):=by
 intro a s g H Q I f;refine wpAny_List_spliced (Je (h pos a s g H _ I f) λus s1 ⟨xs,H1,c,r,z,q⟩=>⟨by rw[<-r.length];exact z,?_⟩);have d:H1 s1.heap.objs.size=none:=c.zd.fresh (Ea _);refine⟨.ref s1.heap.objs.size,rc H1 s1.heap.objs.size (.va xs),c.laid (t':=s1.toks) (λb u e=>qa _ e) (Ea _) ?_,rfl,q _ d⟩;exact⟨z,us,0,r,Bb _ rfl⟩
end
abbrev Sp:=List V->Hp->VK->XK->Prop
abbrev fu:=List nh->Hp->aa->XK->Value->aa->Prop
structure jn(P:Ca)(w:Ya)(K:W.Frag)(mg:Str->Option Value)(base:Heap)(A:Ta)(outer:List nh)(s:aa)(H:Hp):Prop where
 frames:A.frames=some outer
 mod:Mod K mg base
 bs:∀ b o,base.get? b=some o->s.heap.get? b=some o/\H b=none
 Xs:base.objs.size<=s.heap.objs.size
 Pj:s.heap.FunFrames base outer
 Jv:∀ b∈rk outer,H b=none
 zd:mj P w H s.heap
 bare:zh s.gens
def CE(a:List nh)(P:Ca)(w:Ya)(H:Hp)(s:aa)(Q:VK)(u:Value)(b:aa):Prop:=
 ∃ v c,b.os=s.os/\zh b.gens/\Un (rk a) [] H c s.heap b.heap/\mj P w c b.heap/\Qd v u/\Q v c
def CR(c:fu)(a:List nh)(P:Ca)(w:Ya)(H:Hp)(s:aa)(Q:VK)(E:XK)(r:DA)(b:aa):Prop:=
 match r with
 | .ok (.ret u)=>CE a P w H s Q u b
 | .ok _=>False
 | .error e=>c a H s E e b
structure Yh(P:Ca)(w:Ya)(K:W.Frag)(mg:Str->Option Value)(base:Heap)(CX:fu)(k:Nat)(f:Addr)(fd:Ke)(ps:List Str)(sp:Sp):Prop where
 len:∀ vs H Q E,sp vs H Q E->vs.length=ps.length
 Md:∀ (A:Ta) (outer:List nh) (s:aa) (H:Hp) (args:Args) (us:List Value) (vs:List V) (Q:VK) (E:XK),Yd k A->jn P w K mg base A outer s H->Mg s fd args (ps.zip us)->Se vs us->sp vs H Q E->
  codeAny (model P w) A (.call (.ref f) args) (CR CX outer P w H s Q E) s
theorem Yh.mono{K:W.Frag}(F:Yh P w K g a d j f e i l)(h:j<=k) :
  Yh P w K g a d k f e i l:=⟨F.len,λA b s H c n o Q E m=>F.Md A b s H c n o Q E (m.mono h)⟩
theorem Yh.imp{K:W.Frag}(F:Yh P w K j a g k f i l m)
  (h:∀ c H Q E,e c H Q E->m c H Q E):Yh P w K j a g k f i l e:=
 ⟨λc H Q E q=>F.len c H Q E (h _ _ _ _ q),λA b s H d u c Q E p o n t r=>F.Md A b s H d u c Q E p o n t (h _ _ _ _ r)⟩
theorem jn.make{K:W.Frag}(e:jn P w K c b A a s H)(C:Addr)(f:List Value)(d:List (Str × Value)) :
  jn P w K c b (A.under (.builtin "type.__call__" ⟨.ref C::f,d⟩)) a s H:=⟨by first|exact e.frames|(simpa [Zq,Code.envs,Zr,pushEnvs]using e.frames),e.mod,e.bs,e.Xs,e.Pj,e.Jv,e.zd,e.bare⟩
theorem jn.in1{K:W.Frag}(e:jn P w K c b A a s H) :
  jn P w K c b A.in1 a s H:=⟨e.frames,e.mod,e.bs,e.Xs,e.Pj,e.Jv,e.zd,e.bare⟩
section
variable{X:Cx}{pins:List (Addr × Vc)}{σ:St}{H:Hp}{s s':aa}
theorem lb.FC(I:lb X pins σ H s):jn X.prog X.w X.K X.mg X.base X.A X.stack s H:=
 ⟨I.ok.frames,I.ok.mod,I.bs,Qb I.ok.Xs I.sz,I.stack,I.vl,I.zd,I.bare⟩
theorem lb.after(I:lb X pins σ H s)(h:CE X.stack X.prog X.w H s Q u s'):EP X pins σ Q u s':=by
 obtain⟨v,f,j,a,k,c,r,q⟩:=h;obtain⟨i,g,d,t,e⟩:=s';obtain rfl:e=s.os:=j;exact⟨v,f,I.call (h':=i) (g':=g) (d':=d) (t':=t) (ch:=[]) k c a (λb z=>absurd z (by simp)),r,q⟩
end
def Ws(K:W.Frag)(c:Ke)(b:List Str)(a:List Value):Prop:=
 ∀ (s:aa) (us:List Value),K.In s.heap->(us++a).length=b.length->Mg s c ⟨us,[]⟩ (b.zip (us++a))
theorem Ws.all{K:W.Frag}(h:∀ a:List Value,a.length=b.length->bindArgs c ⟨a,[]⟩=pure (b.zip a)):Ws K c b []:=λs a _ d=>by
 rw[Uh]at d ⊢;exact .of_eq (h a d)
section
variable{X:Cx}{CX:fu}{k:Nat}{f C:Addr}{fd:Ke}{ps:List Str}{sp:Sp}{dvs:List V}{ds:List Value}{E:XK}{x m:Str}{p pos apos:Ve}{e o:Ua}{es:List Ua}{ta:TE}{t:TA}
structure Mk(K:W.Frag)(C f:Addr):Prop where
 makes:W.makesIn K C=true
 init:W.findIn K (.ref C) "__init__" = some (some (.ref f))
 fn:W.isFn K (.ref f)=true
 kp:W.keepIn K (.ref C)=true
end
section
variable{X:Cx}{CX:fu}{k:Nat}{f C:Addr}{fd:Ke}{ps ks:List Str}{sp:Sp}{E:XK}{x m:Str}{p pos apos kpos:Ve}{e o:Ua}{es:List Ua}{kws:List Gk}{te ta:TE}{t tk:TA}{nm:Option Str}
structure LK(K:W.Frag)(fd:Ke)(ps ks:List Str)(g:List Value->List Value->List Value)(gV:List V->List V->List V):Prop where
 to:∀ (s:aa) (us ws:List Value),K.In s.heap->(g us ws).length=ps.length->Mg s fd ⟨us,ks.zip ws⟩ (ps.zip (g us ws))
 rel:∀ {vs:List V} {us:List Value} {zs:List V} {ws:List Value},Se vs us->Se zs ws->Se (gV vs zs) (g us ws)
variable{g:List Value->List Value->List Value}{gV:List V->List V->List V}
end
structure wa(N P:List Str)(sc:Scope):Prop where
 kind:sc.kind=.function
 co:sc.isCoroutine=false
 gen:sc.isGenerator=false
 nd:N.Nodup
 pre:N.take P.length=P
 par:∀ x∈P,sc.names.lookup x=some .local\/sc.names.lookup x=some .cell
 lA:∀ y∈sc.names,y.2≠.free
theorem yS{b:Str->Option Pf}{x:Str}:∀ {a:List (Str × Value)} {m:Str->Option Value},(∀ v,(x,v) ∉ a)->fv b a m x=m x
 |[],_,_=>rfl
 |(n,v)::r,m,h=>by
  unfold fv;rw[yS λw c=>h w (Za _ c)];split
  ·have:x≠n:=by rintro rfl;exact h v Wa
   simp[this]
  ·rfl
theorem WN{b:Str->Option Pf}{x:Str}:∀ {a:List (Str × Value)} {m:Str->Option Value},(∀ v,(x,v) ∉ a)->gv b a m x=m x
 |[],_,_=>rfl
 |(n,v)::r,m,h=>by
  unfold gv;rw[WN λw c=>h w (Za _ c)];split
  ·rfl
  ·have:x≠n:=by rintro rfl;exact h v Wa
   simp[this]
theorem JQ{a:Str->Option Pf}{x:Str}{v:Value}:∀ {P:List Str} {b:List Value} {i:Nat} {m:Str->Option Value},P.Nodup->P[i]?=some x->b[i]?=some v->a x=some .local->
  fv a (P.zip b) m x=some v
 |[],_,_,_,_,h,_,_=>by simp at h
 |_::_,[],_,_,_,_,h,_=>by simp at h
 |p::P,w::b,0,m,f,c,d,e=>by
  simp at c d;subst c;subst d;show fv a ((p,w)::P.zip b) m p=_;unfold fv;rw[yS λv g=>(qe.mp f).1 (Vo g).1,ja e];simp
 |p::P,w::b,i+1,m,f,c,d,e=>by
  show fv a ((p,w)::P.zip b) m x=_;unfold fv;exact JQ (i:=i) (qe.mp f).2 (by simpa using c) (by simpa using d) e
theorem sU{a:Str->Option Pf}{x:Str}{v:Value}:∀ {P:List Str} {b:List Value} {i:Nat} {m:Str->Option Value},P.Nodup->P[i]?=some x->b[i]?=some v->a x≠some .local->
  gv a (P.zip b) m x=some v
 |[],_,_,_,_,h,_,_=>by simp at h
 |_::_,[],_,_,_,_,h,_=>by simp at h
 |p::P,w::b,0,m,f,c,d,e=>by
  simp at c d;subst c;subst d;show gv a ((p,w)::P.zip b) m p=_;unfold gv;rw[WN λv g=>(qe.mp f).1 (Vo g).1,ka e];simp
 |p::P,w::b,i+1,m,f,c,d,e=>by
  show gv a ((p,w)::P.zip b) m x=_;unfold gv;exact sU (i:=i) (qe.mp f).2 (by simpa using c) (by simpa using d) e
noncomputable def Bv(N:List Str)(a:List V):St:=a.map some++List.replicate (N.length - a.length) none
noncomputable def Vp(g:fu)(P:Ca)(w:Ya)(K:W.Frag)(mg:Str->Option Value)(base:Heap)(N:List Str)(b:Str)(a:Scope)(f:Addr)(d:Value)(A:Ta)(outer:List nh)(s:aa)(H:Hp)(E:XK):Cx where
 prog:=P
 w:=w
 K:=K
 mg:=mg
 base:=base
 A:=A.deeper (Ag b a s.heap.objs.size f d)
 N:=N
 s₀:=s
 H₀:=H
 env:=Ag b a s.heap.objs.size f d
 outer:=outer
 stack:=Ag b a s.heap.objs.size f d::outer
 ex:=[]
 Aa:=true
 fn:=λ_=>true
 pn:=[]
 xe:=λe i=>wpAny (model P w) (A.deeper (Ag b a s.heap.objs.size f d)) (leaving (Ag b a s.heap.objs.size f d) e) (λ_ c=>g outer H s E e c) (λh c=>g outer H s E h c) i
theorem EO{sc:Scope}(h:sc.names.lookup x=some .cell):∃ c,(AF n sc.names []).lookup x=some c:=by
 have q:=W.cellsFrom_some sc.names n [] (.inl h);exact jf.mp q
theorem rZ{K:W.Frag}
  (S:wa N C d) (X:A.handled=none) (o:jn P w K M m A g s H) (hl:D.length=C.length) (r:Se D O)
  (x:InCallC s s.heap.objs.size (fv (Ag j d s.heap.objs.size f I).kindOf (C.zip O) λ_=>none) (AF (s.heap.objs.size+1) d.names []) (gv (Ag j d s.heap.objs.size f I).kindOf (C.zip O) λ_=>none) s1) :
  lb (Vp Q P w K M m N j d f I A g s H E) [] (Bv N D) H s1:=by
 have Y:C.length<=N.length:=by have:=yc List.length S.pre;rw[xh]at this;omega
 obtain⟨J,tk,rfl,R⟩:=x.done;have B:∀ b:Addr,b ∉ (Vp Q P w K M m N j d f I A g s H E).ex:=λb z=>absurd (show b∈([]:List Addr)from z) (by simp);refine⟨⟨o.mod,S.kind,rfl,rfl,Ea _,λy z c J l=>?_,λy t=>?_,λy c _ h=>?_,λ_=>X,Vr o.frames,.inr ⟨rfl,rfl⟩,λb z=>absurd z (B b),o.bs,o.Xs,λb _ _=>B b,λb z=>absurd z (B b),o.Pj,o.Jv⟩,
  rfl,o.bare,Un.kept R,⟨_,x.toInCall.ns,λi y v J l h3=>?_⟩,λy c h=>⟨_,x.cell y c h⟩,o.zd.fresh (Ea _),λy c h=>?_,λp F=>absurd (show p∈([]:List (Addr × Vc))from F) (by simp),o.zd.kept R,?_⟩
 ·exact name_of_addr x.apart (zf J) (zf l)
 ·have t:d.names.lookup y=some .cell\/d.names.lookup y=some .free:=t;rcases t with t|t
  ·exact EO t
  ·exact absurd rfl (S.lA _ (zf t))
 ·exact ug (x.above y c (zf h))
 ·have L:i<D.length:=by
   unfold Bv at l;by_cases L:i<D.length
   ·exact L
   ·rw[Od (by simpa using L)]at l;rw[Dr]at l;split at l<;>cases l
  have U:D[i]?=some v:=by
   unfold Bv at l;rw[Kb (by simpa using L),zb]at l;cases e:D[i]? with
   |none=>rw[e]at l;cases l
   |some a=>rw[e]at l;cases l;rfl
  obtain⟨u,T,Z⟩:=r.get U;have F:C[i]?=some y:=by
   rw[<-S.pre,Uq (by omega)];exact J
  have G:C.Nodup:=by rw[<-S.pre];exact S.nd.sublist (List.take_sublist _ _)
  refine⟨u,Z,?_⟩;rcases S.par y (Oa F)with k|k
  ·exact .inl ⟨k,JQ G F T k⟩
  ·obtain⟨c,e⟩:=EO (n:=s.heap.objs.size+1) k;refine .inr ⟨.inl k,c,e,?_⟩;have q:=x.cell y c e;rw[sU G F T (by show d.names.lookup y≠_;rw[k];decide)]at q;exact q
 ·exact o.zd.fresh (ug (x.above y c (zf h)))
 ·unfold Bv;show _=N.length;rw[Dd,xb,List.length_replicate];omega
theorem UP{K:W.Frag}{dV kV F pm g ct oc:Value} (lk:K.lookup f=some ⟨oc,od,.func (W.fnOf z d i j a dV kV F pm an g ct),Z⟩) (U:W.codeIn K g d=true) (S:wa N T a)
  (M:∀ l H Q E,sp l H Q E->l.length=T.length)
  (B:∀ (A:Ta) (c:List nh) (s:aa) (H:Hp) (l:List V) (Q:VK) (E:XK),Yd k (A.deeper (Ag d a s.heap.objs.size f g))->sp l H Q E->
   ∃ t,Ft (Vp O P w K R h N d a f g A c s H E) j t/\t { nx:=λ_ p=>Q .Rb p,rt:=Q } (Bv N l) H) :
  Yh P w K R h O (k+1) f (W.fnOf z d i j a dV kV F pm an g ct) T sp:=by
 refine⟨M,λA c s H a0 us l Q E X G hb r L=>?_⟩;have hl:=M _ _ _ _ L;have KX:K.In s.heap:=G.mod.My.keeps λb o e=>(G.bs b o e).1;have Y:s.heap.NoLimit:=G.mod.nolimit.keeps λb o e=>(G.bs b o e).1;have C:∀ y∈T.zip us,a.names.lookup y.1=some .local\/(a.names.lookup y.1=some .cell/\((AF (s.heap.objs.size+1) a.names []).lookup y.1).isSome=true):=λ⟨n,v⟩ hy=>by
  rcases S.par n (Vo hy).1 with q|q
  ·exact .inl q
  ·exact .inr ⟨q,W.cellsFrom_some _ _ _ (.inl q)⟩
 refine codeAny_call_function X.depth (KX _ _ lk) rfl S.co S.gen rfl (W.codeRec_of KX U) (hb _ _ _ _ ?_);refine wpAny_newFunctionEnv_cells S.kind C λa1 he s1 x=>?_;subst he;refine⟨Y.keeps x.toInCall.keep,codeAny_func ?_⟩;obtain⟨t,ht,hq⟩:=B A c s H l Q E (X.deeper _) L;have I:lb (Vp O P w K R h N d a f g A c s H E) [] (Bv N l) H s1:=rZ S X.hd G hl r x;refine Hc (ht [] s1 (Bv N l) H _ I hq) (λfl s' D=>?_) λe s' D=>D;have Vg:∀ {m:St} {p:Hp} {v:V} {u:Value},lb (Vp O P w K R h N d a f g A c s H E) [] m p s'->Qd v u->Q v p->CE c P w H s Q u s':=
  fun {m p v u} J rv q=>⟨v,p,J.os,J.bare,J.base,J.zd,rv,q⟩
 cases fl with
 |ret u=>
  obtain⟨v,m,p,J,rv,q⟩:=D;exact Vg J rv q
 |next=>
  obtain⟨m,p,J,q⟩:=D;exact Vg (v:=V.Rb) (u:=lc) J rfl q
 |brk=>
  obtain⟨_,_,_,q⟩:=D;exact False.elim q
 |cont=>
  obtain⟨_,_,_,q⟩:=D;exact False.elim q
section
variable{X:Cx}{x:Str}{p pos:Ve}{e:Ua}{es:List Ua}{t:TA}{id T:String}{r:List V->Hp->VK->Prop}
def GJ(r:List V->Hp->VK->Prop)(t:TA):TE:=λc H Q=>t c H λb a=>r b a Q
theorem fM(i:tp X (.builtin id) r)(k:Gl X x)(l:X.mg x=none)(n:bootBuiltins x=some (.builtin id))(g:PA X (e::es) t)(m:x ≠ "__name__":=by decide)(b:(x == ("__debug__" : Str))=false:=by decide)
  (j:ua (e::es) X.env=(false,vc e X.env)::ua es X.env:=by rfl) (c:(Wc pos (ua es X.env)).any (·.1)=false:=by rfl):PE X (.Call (.Name x p) (e::es) [] pos) (GJ r t):=by
 intro a s d H Q I h;refine Zf (ly I k l n ?_ m b);exact ZI (Je (g pos a s d H _ I h) λus s1 ⟨u,H1,f,q,o⟩=>i a s1 d H1 u us Q f q o) j c
theorem DS(i:tp X (.type T) r)(k:Gl X x)(l:X.mg x=none)(n:bootBuiltins x=some (.type T))(g:PA X (e::es) t)(m:x ≠ "__name__":=by decide)(b:(x == ("__debug__" : Str))=false:=by decide)
  (j:ua (e::es) X.env=(false,vc e X.env)::ua es X.env:=by rfl) (c:(Wc pos (ua es X.env)).any (·.1)=false:=by rfl):PE X (.Call (.Name x p) (e::es) [] pos) (GJ r t):=by
 intro a s d H Q I h;refine Zf (ly I k l n ?_ m b);exact Hf (Je (g pos a s d H _ I h) λus s1 ⟨u,H1,f,q,o⟩=>i a s1 d H1 u us Q f q o) j c
end
end L2
namespace HT
open PySem PyProof.Rows
section
open PySem.SeqAt
open PySem.AutoSeq1 (wpAny_loadPart')
open PySem.MeetsSeq PySem.MeetsSeq2 PySem.MeetsSeq3
end
section
variable{prog:Ca}{w:Ya}{A:Ta}{E:Value->aa->Prop}{s:aa}
theorem Dx(C:bv s.heap t d.toArray)(B:bv s.heap b a.toArray)(u:d≠[])
  (y:a=[]->Q (.ref t) s) (z:a≠[]->Q (.ref s.heap.objs.size) { s with heap:=s.heap.push { cls:=.type "tuple",data:=.seq (d++a).toArray } })
  (m:d.length+a.length<=sizeLine):wpAny (model prog w) A (ff .Add (.ref t) (.ref b)) Q E s:=by
 obtain⟨⟨cls,p,data,x⟩,j,q,n,r⟩:=id C;obtain⟨⟨o,f,l,i⟩,c,g,v,h⟩:=id B;simp only at q r g h;subst q r g h;have e:d.toArray++a.toArray=(d++a).toArray:=by simp
 by_cases k:a=[]
 ·exact Zv ⟨_,j,rfl⟩ ⟨_,c,rfl⟩ Hq Cu dj Ni (Ai _ _)
   (tuple_addW1 t b d.toArray a.toArray n v p f x i (by simpa using u) (by simp[k])) ⟨j,c,y k⟩
 ·refine Zv ⟨_,j,rfl⟩ ⟨_,c,rfl⟩ Hq Cu dj Ni (Ai _ _)
   (tuple_addW2 t b d.toArray a.toArray n v p f x i (by simpa using u) (by simpa using k) (by rw[za,za];exact m)) ⟨j,c,?_⟩
  rw[e];exact z k
noncomputable def kg(n d:Nat):Option Int->Nat
 |none=>d
 |some v=>if v<0 then (v+(n:Int)).toNat else min v.toNat n
theorem ħ(n d:Nat)(b:d<=n)(o:Option Int):kg n d o<=n:=by
 cases o with
 |none=>exact b
 |some v=>
  show (if v<0 then (v+(n:Int)).toNat else min v.toNat n)<=n;by_cases a:v<0
  ·rw[ja a];omega
  ·rw[ka a];exact Nat.min_le_right _ _
theorem vW(v:Int)(n d:Nat):(if v<0 then max (v+(n:Int)) 0 else min v (n:Int))=((kg n d (some v):Nat):Int):=by
 show (if v<0 then max (v+(n:Int)) 0 else min v (n:Int))=(((if v<0 then (v+(n:Int)).toNat else min v.toNat n):Nat):Int);by_cases a:v<0
 ·simp only[ja a];omega
 ·simp only[ka a];omega
theorem m5(lo a:Option Int)(n:Nat):Bh lo a 1 (n:Int)=(((kg n 0 lo:Nat):Int),((kg n n a:Nat):Int)):=by
 have b:¬ ((1:Int)<0):=by omega
 unfold Bh;simp only[b,Lk];refine BW ?_ ?_
 ·cases lo with
  |none=>rfl
  |some v=>exact vW v n 0
 ·cases a with
  |none=>rfl
  |some v=>exact vW v n n
theorem wX(i j:Nat):Sf (i:Int) (j:Int) 1=j - i:=by
 unfold Sf;have a:(1:Int) > 0:=by omega
 simp only[a,zg,Int.ediv_one];split<;>omega
theorem JV(p:jm v o)(h:Q o s):wpAny (model prog w) A (BF v) Q E s:=by
 cases p with
 |none=>exact KN h
 |int i t=>exact slicePart_int h
theorem kP{lo b:Option Int}{n:Nat}(i:s.heap.IsSliceOf f d e .none)(pl:jm d lo)(j:jm e b)
  (h:Q (((kg n 0 lo:Nat):Int),1,kg n n b - kg n 0 lo) s):wpAny (model prog w) A (xl (.ref f) (pure (n:Int))) Q E s:=by
 obtain⟨k,c,g,a⟩:=id i;unfold xl CF;refine da (da (Zl c a (x:=d) rfl (da (Zl c a (x:=e) rfl (da (Zl c a (x:=.none) rfl (ra ?_)))))));refine da (KN ?_);show wpAny _ _ (if ((1:Int) == 0)=true then _ else _) _ _ s;rw[ka (by decide)];refine da (JV pl (da (JV j (da (ra ?_)))));show wpAny _ _ (match Bh lo b 1 (n:Int)with|(lo,b)=>pure (lo,(1:Int),Sf lo b 1)) _ _ s;rw[m5 lo b n];show wpAny _ _ (pure (((kg n 0 lo:Nat):Int),(1:Int),Sf ((kg n 0 lo:Nat):Int) ((kg n n b:Nat):Int) 1)) _ _ s;rw[wX];exact ra h
theorem X3(xs:Array Value)(i k:Nat):((List.range k).filterMap λ(m:Nat)=>xs[((i:Int)+(m:Int) * 1).toNat]?).toArray=((xs.toList.drop i).take k).toArray:=by
 have e:(λ(m:Nat)=>xs[((i:Int)+(m:Int) * 1).toNat]?)=λm=>xs[i+m]?:=by
  funext m;have:((i:Int)+(m:Int) * 1).toNat=i+m:=by omega
  rw[this]
 rw[e];have:=pick_run xs i k;rw[List.filterMap_map]at this;have a:((λx=>xs[x]?) ∘ λx=>i+x)=λm=>xs[i+m]?:=rfl;rw[a]at this;rw[this]
theorem Sk{lo c:Option Int}(d:bv s.heap t a)(k:s.heap.IsSliceOf j l n .none)(pl:jm l lo)(v:jm n c)
  (r:¬ (kg a.size 0 lo=0/\kg a.size a.size c=a.size))
  (h:Q (.ref s.heap.objs.size) { s with heap:=s.heap.push { cls:=.type "tuple",data:=.seq ((a.toList.drop (kg a.size 0 lo)).take (kg a.size a.size c - kg a.size 0 lo)).toArray } })
  (p:a.size<=sizeLine):wpAny (model prog w) A (Bj (.ref t) (.ref j)) Q E s:=by
 have b:sizeOk (.seq ((a.toList.drop (kg a.size 0 lo)).take (kg a.size a.size c - kg a.size 0 lo)).toArray):=by
  show ((a.toList.drop (kg a.size 0 lo)).take (kg a.size a.size c - kg a.size 0 lo)).toArray.size<=sizeLine;rw[za,xh,Sw,Th];omega
 have x:kg a.size a.size c<=a.size:=ħ _ _ (Ea _) c;obtain⟨u,i,f,o⟩:=id k;have e:s.TypeIs (.ref j) "slice":=⟨u,i,f⟩
 unfold Bj;try with_reducible refine Td ?_
 first|refine da (ra ?_)|skip
 refine da (VB d.typeIs (by decide) ?_);refine da (Xu (name:=Cn "__getitem__") d.typeIs Rc
  (Iq Rc d.typeIs Yy ?_ (wA _ _)))
 show wpAny _ _ (yl (.ref t) >>= _) _ _ s;refine da (CW d ?_);refine da (aw e ?_);rw[ja (by decide)];refine da (kP k pl v ?_);have g:¬ ((((kg a.size 0 lo:Nat):Int) == 0 && (1:Int) == 1 && (kg a.size a.size c - kg a.size 0 lo) == a.size)=true):=by
  intro q;rw[La,La]at q;have y:((kg a.size 0 lo:Nat):Int)=0:=eq_of_beq q.1.1;have z:kg a.size a.size c - kg a.size 0 lo=a.size:=eq_of_beq q.2;exact r ⟨by omega,by omega⟩
 show wpAny _ _ (if (((kg a.size 0 lo:Nat):Int) == 0 && (1:Int) == 1 && (kg a.size a.size c - kg a.size 0 lo) == a.size)=true then _ else _) _ _ s;rw[ka g,X3];first
  |exact da (m:=eg _) (Bf (ra ⟨_,rfl,ra h⟩) b)
  |exact da (m:=eg _) (Bf (da (ra (ra ⟨_,rfl,ra h⟩))) b)
  |exact da (da (m:=eg _) (Bf (ra (ra ⟨_,rfl,ra h⟩)) b))
  |exact da (da (m:=eg _) (Bf (ra ⟨_,rfl,ra h⟩) b))
end
end HT
namespace L2
open PySem PySem.Spec PyProof.Rows
abbrev TO:=St->Hp->(Option Int->Hp->Prop)->Prop
def PO(X:Cx)(e:Option Ua)(t:TO):Prop:=
 ∀ (a:List (Addr × Vc)) (s:aa) (σ:St) (H:Hp) (Q:Option Int->Hp->Prop),lb X a σ H s->t σ H Q->
  wpAny (model X.prog X.w) X.A (evalPart e X.env) (λu c=>∃ o b,lb X a σ b c/\jm u o/\Q o b) X.xe s
noncomputable def l4:TO:=λ_ H Q=>Q none H
noncomputable def π(t:TE):TO:=λb H Q=>t b H λx a=>∃ i,x=.int i/\Q (some i) a
theorem fQ:∀ {b:List Value},Se (a.map V.int) b->Cm b a:=by
 induction a with
 |nil=>intro b r;rw[Am]at r;cases r;exact .nil
 |cons n a c=>
  intro b r;rw[Ra]at r;cases r with
  |cons d f=>
   obtain⟨t,e⟩:=d;subst e;exact .cons n t (c f)
section
variable{X:Cx}{e:Ua}{te:TE}{lo hi:Option Ua}{tl th:TO}{pos p2:Ve}
theorem Ŏ:PO X none l4:=by
 intro a s b H Q I h;rw[DW];exact ra ⟨none,H,I,.none,h⟩
theorem þ(h:PE X e te):PO X (some e) (π te):=by
 intro a s g H Q I c;rw[evalPart_some];refine Je (h a s g H _ I c) λu s1 ⟨x,H1,b,f,d⟩=>?_;obtain⟨i,rfl,q⟩:=d;obtain⟨t,rfl⟩:=f;exact⟨some i,H1,b,.int i t,q⟩
def Bw(X:Cx)(r:V->Option Int->Option Int->Hp->VK->Prop):Prop:=
 ∀ (a:List (Addr × Vc)) (s:aa) (σ:St) (H:Hp) (x:V) (v c d:Value) (lo hi:Option Int) (b:Addr) (Q:VK),lb X a σ H s->Qd x v->s.heap.IsSliceOf b c d .none->jm c lo->jm d hi->r x lo hi H Q->
  ∃ T e,typeLookup (.type T) "__getitem__" = pure (some (.builtin e))/\s.TypeIs v T/\wpAny (model X.prog X.w) X.A (Bj v (.ref b)) (EP X a σ Q) X.xe s
theorem Bw.or(h:Bw X r)(h':Bw X d):Bw X (λx lo hi H Q=>r x lo hi H Q\/d x lo hi H Q):=by
 intro a s j H x v g i lo hi f Q I e b pl c q;rcases q with q|q
 ·exact h a s j H x v g i lo hi f Q I e b pl c q
 ·exact h' a s j H x v g i lo hi f Q I e b pl c q
def j9(r:V->Option Int->Option Int->Hp->VK->Prop)(te:TE)(tl th:TO):TE:=λa H Q=>te a H λx b=>tl a b λl c=>th a c λu d=>r x l u d Q
theorem ĩ(z:Bw X r)(p:PE X e te)(y:PO X lo tl)(C:PO X hi th):PE X (.Subscript e (.Slice lo hi none p2) pos) (j9 r te tl th):=by
 intro a s c H Q I h;refine xA (Je (p a s c H _ I h) λv s1 ⟨x,H1,j,G,D⟩=>?_);refine wpAny_Slice (Je (y a s1 c H1 _ j D) λd s2 ⟨l,i,k,pl,E⟩=>Je (C a s2 c i _ k E) λf s3 ⟨u,g,m,pu,F⟩=>?_);rw[DW];refine ra ?_;have n:lb X a c g { s3 with heap:=s3.heap.push { cls:=.type "slice",data:=.fields #[d,f,.none] } }:=m.kept (t':=s3.toks) λb ob q=>qa _ q;obtain⟨T,J,o,B,t⟩:=z a { s3 with heap:=s3.heap.push { cls:=.type "slice",data:=.fields #[d,f,.none] } } c g x v d f l u s3.heap.objs.size Q n G (WB ..) pl pu F;show wpAny (model X.prog X.w) X.A (WW e (.Slice lo hi none p2) v (.ref s3.heap.objs.size)) (EP X a c Q) X.xe { s3 with heap:=s3.heap.push { cls:=.type "slice",data:=.fields #[d,f,.none] } };exact tail_any (ops:=[.ref s3.heap.objs.size,v]) B o t (by with_unfolding_all rfl)
def Py(xs:List V)(lo hi:Option Int):List V:=(xs.drop (HT.kg xs.length 0 lo)).take (HT.kg xs.length xs.length hi - HT.kg xs.length 0 lo)
theorem dQ(xs:List V)(lo hi:Option Int):(Py xs lo hi).length<=xs.length:=by
 unfold Py;rw[xh,Sw];omega
def CP(K:W.Frag):V->Option Int->Option Int->Hp->VK->Prop:=λx lo hi H Q=>∃ a xs,x=.ref a/\qi K H a xs/\
 ¬ (HT.kg xs.length 0 lo=0/\HT.kg xs.length xs.length hi=xs.length)/\∀ p,H p=none->Q (.ref p) (rc H p (.Ga (Py xs lo hi)))
theorem pY:Bw X (CP X.K):=by
 intro f s t H x v n p lo hi m Q I l g pl k h;obtain⟨a,xs,rfl,j,i,q⟩:=h;cases l;obtain⟨its,r,d,e⟩:=I.tuple j;have c:its.toArray.size=xs.length:=by rw[za];exact r.length.symm
 refine⟨"tuple",_,Rc.lookup,d.typeIs,?_⟩;refine HT.Sk d g pl k (by rw[c];exact i) ?_ (by rw[c];exact e);rw[c];refine⟨.ref s.heap.objs.size,_,I.laid (t':=s.toks) (o:=.Ga (Py xs lo hi)) (λb ob q=>qa _ q) (Ea _) ?_,rfl,q _ (I.zd.fresh (Ea _))⟩;exact⟨Qb (dQ xs lo hi) e,_,(r.drop (HT.kg xs.length 0 lo)).take (HT.kg xs.length xs.length hi - HT.kg xs.length 0 lo),bw _ _⟩
def g9(K:W.Frag):R2:=λx y H Q=>∃ a b xs c,x=.ref a/\y=.ref b/\qi K H a xs/\qi K H b c/\xs≠[]/\xs.length+c.length<=sizeLine/\
 (c=[]->Q (.ref a) H)/\(c≠[]->∀ p,H p=none->Q (.ref p) (rc H p (.Ga (xs++c))))
theorem Se.Aq(r:Se xs a):a=[] ↔ xs=[]:=by
 cases r with
 |nil=>simp
 |cons _ _=>simp
theorem hZ:di X (ff .Add) (g9 X.K):=by
 intro g s A H x y v u Q I p r h;obtain⟨a,b,xs,t,rfl,rfl,i,j,k,e,m,n⟩:=h;cases p;cases r;obtain⟨its,d,l,_⟩:=I.tuple i;obtain⟨f,c,p2,_⟩:=I.tuple j;refine HT.Dx l p2 (λz=>k (d.Aq.mp z)) (λz=>⟨.ref a,H,I,rfl,m (c.Aq.mp z)⟩) (λz=>?_) (by rw[<-d.length,<-c.length];exact e);refine⟨.ref s.heap.objs.size,_,I.laid (t':=s.toks) (o:=.Ga (xs++t)) (λb ob q=>qa _ q) (Ea _) ?_,rfl,n (λw=>z (c.Aq.mpr w)) _ (I.zd.fresh (Ea _))⟩;exact⟨by rw[Dd];exact e,_,d.append c,bw _ _⟩
end
noncomputable def Qt(n:Nat)(i:Int):Option Nat:=if 0<=i then (if i<n then some i.toNat else none)else if -(n:Int)<=i then some (i+n).toNat else none
def Ds{a:Type}(xs:List a)(i:Int):Option a:=(Qt xs.length i).bind λj=>xs[j]?
theorem WU(h:Qt n i=some j):seqIndex? i n=some j/\j<n/\-(n:Int)<=i/\i<n:=by
 unfold Qt at h;by_cases b:0<=i
 ·rw[ja b]at h;by_cases a:i<n
  ·rw[ja a]at h;have e:i.toNat=j:=Lb h;exact⟨by rw[Px b a,e],by omega,by omega,a⟩
  ·rw[ka a]at h;cases h
 ·rw[ka b]at h;by_cases a:-(n:Int)<=i
  ·rw[ja a]at h;have e:(i+n).toNat=j:=Lb h;exact⟨by rw[cw (by omega) a,e],by omega,a,by omega⟩
  ·rw[ka a]at h;cases h
theorem aU{xs:List a}{v:a}(h:Ds xs i=some v):∃ j,seqIndex? i xs.length=some j/\xs[j]?=some v/\j<xs.length/\-(xs.length:Int)<=i/\i<xs.length:=by
 unfold Ds at h;cases e:Qt xs.length i with
 |none=>rw[e]at h;cases h
 |some j=>
  rw[e]at h;obtain⟨b,c,d,f⟩:=WU e;exact⟨j,b,h,c,d,f⟩
theorem Tr{xs:List a}{j:Nat}{v:a}(h:xs[j]?=some v):Ds xs (j:Int)=some v:=by
 have b:j<xs.length:=(la.mp h).1;have e:Qt xs.length (j:Int)=some j:=by
  unfold Qt;rw[ja (by omega),ja (by omega)];simp
 unfold Ds;rw[e];exact h
def AM(b:Ua):Prop:=∀ o i,ar b false o i=operate [o,i] (Bj o i)
def xx(X:Cx)(r:R2):Prop:=
 ∀ (b a:Ua) (pins:List (Addr × Vc)) (s:aa) (σ:St) (H:Hp) (x y:V) (v u:Value) (Q:VK),lb X pins σ H s->Qd x v->Qd y u->r x y H Q->
  ar a false v u=operate [v,u] (Bj v u)->wpAny (model X.prog X.w) X.A (WW b a v u) (EP X pins σ Q) X.xe s
def Uu(X:Cx)(b:String)(r:V->List V->Hp->VK->Prop):Prop:=
 ∀ (a:List (Addr × Vc)) (s:aa) (σ:St) (H:Hp) (x:V) (xs:List V) (v:Value) (us:List Value) (Q:VK),lb X a σ H s->Qd x v->Se xs us->r x xs H Q->
  wpAny (model X.prog X.w) X.A (call (.builtin b) (v::us)) (EP X a σ Q) X.xe s
section
variable{X:Cx}{a b:Ua}{ta tb:TE}{pos:Ve}
theorem xx.or(h:xx X r)(h':xx X e):xx X (λx y H Q=>r x y H Q\/e x y H Q):=by
 intro b a c s i H x y v u Q I f g q d;rcases q with q|q
 ·exact h b a c s i H x y v u Q I f g q d
 ·exact h' b a c s i H x y v u Q I f g q d
theorem Uu.or{b:String}(h:Uu X b r)(h':Uu X b c):Uu X b (λx xs H Q=>r x xs H Q\/c x xs H Q):=by
 intro a s g H x xs v f Q I e d q;rcases q with q|q
 ·exact h a s g H x xs v f Q I e d q
 ·exact h' a s g H x xs v f Q I e d q
theorem f7(i:xx X r)(f:PE X a ta)(g:PE X b tb)(j:AM b):PE X (.Subscript a b pos) (aB r ta tb):=by
 intro c s m H Q I h;exact xA (tK f g I h λv u s2 x y d e k l q=>i a b c s2 m d x y v u Q e k l q (j _ _))
noncomputable def GM(K:W.Frag):R2:=λx y H Q=>∃ p xs i v,x=.ref p/\y=.int i/\Rf K H p xs/\Ds xs i=some v/\Q v H
noncomputable def IL(K:W.Frag):R2:=λx y H Q=>∃ p xs i v,x=.ref p/\y=.int i/\qi K H p xs/\Ds xs i=some v/\Q v H
theorem M3:xx X (GM X.K):=by
 intro f e a s m H x y v u Q I E F h l;obtain⟨p,xs,i,z,rfl,rfl,D,B,q⟩:=h;cases E;obtain⟨t,rfl⟩:=F;obtain⟨its,r,pl,M⟩:=I.list D;obtain⟨j,b,n,J,o,A⟩:=aU B;obtain⟨w,g,d⟩:=r.get n;have C:=r.length;have L:=cG;have Vg:EP X a m Q w s:=⟨z,H,I,d,q⟩
 by_cases k:0<=i
 ·have c:i.toNat=j:=by
   rw[Px k A]at b;exact Lb b
  exact item_listR pl.isList k (by omega) (by rw[c];simpa using g) Vg l
 ·have c:(i+(its.toArray.size:Int)).toNat=j:=by
   rw[cw (by omega) o]at b;rw[za,<-C];exact Lb b
  exact dw (x:=w) pl.isList.typeIs XB.lookup
   (wpAny_getItem_list_neg (Q:=λr G=>r=w/\EP X a m Q r G) pl.isList (by omega) (by rw[za]<;>omega) (by omega) (by rw[c];simpa using g) ⟨rfl,Vg⟩) l
theorem k8:xx X (IL X.K):=by
 intro d c a s e H x y v u Q I A B h o;obtain⟨p,xs,i,z,rfl,rfl,n,l,q⟩:=h;cases A;obtain⟨t,rfl⟩:=B;obtain⟨its,r,pl,J⟩:=I.tuple n;obtain⟨j,g,k,D,E,F⟩:=aU l;obtain⟨w,f,b⟩:=r.get k;have m:=r.length;have G:=cG;have Vg:EP X a e Q w s:=⟨z,H,I,b,q⟩
 exact dw (x:=w) pl.typeIs slot_tuple_getitem.lookup
  (getItem_tuple (j:=j) (Q:=λr C=>r=w/\EP X a e Q r C) pl (by omega) (by omega) (by rw[za,<-m];exact g) (by simpa using f) ⟨rfl,Vg⟩) o
theorem w9(a:List Value)(n j:Nat)(u:Value):og (·.setIfInBounds j u) { cls:=.type "list",data:=.seq a.toArray n }={ cls:=.type "list",data:=.seq (a.set j u).toArray n }:=by
 simp[og]
theorem lb.va{a:List (Addr × Vc)}{b:St}{H:Hp}{s:aa}{p:Addr}{xs:List V}(I:lb X a b H s)(h:H p=some (.va xs)) :
  ∃ (its:List Value) (n:Nat),Se xs its/\s.heap.get? p=some { cls:=.type "list",data:=.seq its.toArray n }/\xs.length<=sizeLine:=by
 obtain⟨z,its,n,r,e⟩:=I.zd p _ h;exact⟨its,n,r,e,z⟩
theorem lb.kA{a:List (Addr × Vc)}{its its':List Value}(I:lb X a i H s)(h:H p=some (.va xs))
  (k:s.heap.get? p=some { cls:=.type "list",data:=.seq its.toArray n }) (g:f { cls:=.type "list",data:=.seq its.toArray n }={ cls:=.type "list",data:=.seq its'.toArray c }) (r:Se d its') (l:d.length<=sizeLine) (t:Nat) :
  lb X a i (rc H p (.va d)) { s with heap:=s.heap.update p f,toks:=t }:=by
 have e:(s.heap.update p f).get? p=some { cls:=.type "list",data:=.seq its'.toArray c }:=by
  rw[ft f k (by rw[g]<;>rfl),g]
 refine I.write (x:=p) (e:=p) (by rw[h];trivial) (.inl rfl) (λb u j q=>(Aj _ _ (qf j)).trans q) ⟨_,e⟩ ?_;exact⟨l,its',c,r,e⟩
def í:V->V->V->Hp->(Hp->Prop)->Prop:=λo i v H Q=>∃ p xs k j,o=.ref p/\i=.int k/\H p=some (.va xs)/\Qt xs.length k=some j/\Q (rc H p (.va (xs.set j v)))
theorem Ě:LM X í:=by
 intro a s C H o i v G F u Q I A z B h;obtain⟨p,xs,k,j,rfl,rfl,w,x,q⟩:=h;cases A;obtain⟨t,rfl⟩:=z;obtain⟨its,n,r,e,y⟩:=I.va w;obtain⟨b,D,l,m⟩:=WU x;have d:=r.length;have E:=cG;have f:lb X a C (rc H p (.va (xs.set j v))) { s with heap:=s.heap.update p (og (·.setIfInBounds j u)) }:=
  I.kA w e (w9 its n j u) (r.set B j) (by rw[Qx];exact y) s.toks
 by_cases g:0<=k
 ·have c:k.toNat=j:=by
   rw[Px g m]at b;exact Lb b
  exact W.ki_setAt e g (by omega) (by rw[za,<-d];exact m) (by rw[c];exact⟨_,f,q⟩)
 ·have c:(k+(its.toArray.size:Int)).toNat=j:=by
   rw[cw (by omega) l]at b;rw[za,<-d];exact Lb b
  exact W.ki_setBack e (by omega) (by rw[za,<-d];exact l) (by omega) (by rw[c];exact⟨_,f,q⟩)
theorem mX(lo a:Option Int)(n:Nat):(li lo a none n).1=((HT.kg n 0 lo:Nat):Int)/\(li lo a none n).2.1=((HT.kg n n a:Nat):Int)/\(li lo a none n).2.2=1:=by
 refine⟨?_,?_,rfl⟩
 ·cases lo with
  |none=>simp[li,HT.kg]
  |some i=>
   simp only[li,HT.kg,Yu,show (1:Int) > 0 by decide,zg];by_cases h:i<0
   ·simp only[h,zg]<;>omega
   ·simp only[h,Lk]<;>omega
 ·cases a with
  |none=>simp[li,HT.kg]
  |some i=>
   simp only[li,HT.kg,Yu,show (1:Int) > 0 by decide,zg];by_cases h:i<0
   ·simp only[h,zg]<;>omega
   ·simp only[h,Lk]<;>omega
theorem Ð(a:List Value)(lo b:Option Int):slicePick a.toArray lo b none=((a.drop (HT.kg a.length 0 lo)).take (HT.kg a.length a.length b - HT.kg a.length 0 lo)).toArray:=by
 obtain⟨c,d,e⟩:=mX lo b a.toArray.size;unfold slicePick;rw[c,d,e];simp only[sliceRange_one,pick_run,za]<;>rfl
def kT(K:W.Frag):V->Option Int->Option Int->Hp->VK->Prop:=λx lo b H Q=>∃ a xs,x=.ref a/\Rf K H a xs/\∀ p,H p=none->Q (.ref p) (rc H p (.va (Py xs lo b)))
theorem Ś:Bw X (kT X.K):=by
 intro f s t H x v n p lo d m Q I l g pl k h;obtain⟨a,xs,rfl,i,q⟩:=h;cases l;obtain⟨its,r,e,j⟩:=I.list i;have c:=r.length;refine⟨"list",_,XB.lookup,e.isList.typeIs,?_⟩;refine wpAny_getItem_list_slice e.isList g pl k .none (by simp) ?_ (by rw[za]<;>omega);rw[Ð,<-c];refine⟨.ref s.heap.objs.size,_,I.laid (t':=s.toks) (o:=.va (Py xs lo d)) (λb ob q=>qa _ q) (Ea _) ?_,rfl,q _ (I.zd.fresh (Ea _))⟩;exact⟨Qb (dQ xs lo d) j,_,0,(r.drop (HT.kg xs.length 0 lo)).take (HT.kg xs.length xs.length d - HT.kg xs.length 0 lo),Bb _ rfl⟩
noncomputable def xj:V->Bool
 | .Rb=>true
 | .bl _=>true
 | .int _=>true
 | .str _=>true
 |_=>false
noncomputable def Zj:V->V->Bool
 | .Rb,.Rb=>true
 | .bl a,.bl b=>a == b
 | .bl a,.int b=>(if a then 1 else 0) == b
 | .int a,.bl b=>a == (if b then 1 else 0)
 | .int a,.int b=>a == b
 | .str a,.str b=>a == b
 |_,_=>false
theorem jL(f:Qd y u)(c:Qd x v)(g:xj y=true)(e:xj x=true):ae A s u v (Zj y x):=by
 cases y with
 |Rb=>
  cases f;cases x with
  |Rb=>cases c;exact Ll _
  |bl b=>cases c;exact EW b
  |int b=>obtain⟨t,rfl⟩:=c;exact GW b t
  |str b=>obtain⟨t,rfl⟩:=c;exact HW b t
  |_=>exact absurd (show false=true from e) yb
 |bl a=>
  cases f;cases x with
  |Rb=>cases c;exact IW a
  |bl b=>cases c;exact JW a b
  |int b=>obtain⟨t,rfl⟩:=c;exact KW a b t
  |str b=>obtain⟨t,rfl⟩:=c;exact LW a b t
  |_=>exact absurd (show false=true from e) yb
 |int a=>
  obtain⟨d,rfl⟩:=f;cases x with
  |Rb=>cases c;exact MW a d
  |bl b=>cases c;exact NW a d b
  |int b=>obtain⟨t,rfl⟩:=c;exact QW a d b t
  |str b=>obtain⟨t,rfl⟩:=c;exact Sq a d b t
  |_=>exact absurd (show false=true from e) yb
 |str a=>
  obtain⟨d,rfl⟩:=f;cases x with
  |Rb=>cases c;exact RW a d
  |bl b=>cases c;exact SW a d b
  |int b=>obtain⟨t,rfl⟩:=c;exact Tq a d b t
  |str b=>obtain⟨t,rfl⟩:=c;exact TW a d b t
  |_=>exact absurd (show false=true from e) yb
 |_=>exact absurd (show false=true from g) yb
def Ms(x:V)(u:Value):Bool:=match u with
 | .none=>Zj .Rb x
 | .bool b=>Zj (.bl b) x
 | .int i _=>Zj (.int i) x
 | .str z _=>Zj (.str z) x
 |_=>false
theorem EV(r:Qd y u)(f:xj y=true):Ms x u=Zj y x:=by
 cases y with
 |Rb=>cases r;rfl
 |bl b=>cases r;rfl
 |int i=>obtain⟨t,rfl⟩:=r;rfl
 |str z=>obtain⟨t,rfl⟩:=r;rfl
 |_=>exact absurd (show false=true from f) yb
theorem OC{x:V}:∀ {xs:List V} {us:List Value},Se xs us->xs.all xj=true->us.any (Ms x)=xs.any λy=>Zj y x
 |_,_,.nil,_=>rfl
 |y::xs,u::us,.cons r t,f=>by
  rw[Tf,La]at f;rw[rf,rf,EV r f.1,OC t f.2]
theorem vE{A:Ta}{s:aa}{x:V}{v:Value}(c:Qd x v)(b:xj x=true):∀ {xs:List V} {us:List Value},Se xs us->xs.all xj=true->∀ u∈us,ae A s u v (Ms x u)
 |_,_,.nil,_=>λu a=>by cases a
 |y::xs,u::us,.cons r t,f=>λd a=>by
  rw[Tf,La]at f;rcases Na.mp a with rfl|a
  ·rw[EV r f.1];exact jL r c f.1 b
  ·exact vE c b t f.2 d a
def wB(x:V)(xs:List V):Bool:=xs.any λy=>Zj y x
def eG(K:W.Frag)(a:Bool):R2:=λx y H Q=>∃ p xs,y=.ref p/\(Rf K H p xs\/qi K H p xs)/\xj x=true/\xs.all xj=true/\Q (.bl (if a then !wB x xs else wB x xs)) H
theorem iM:di X (Ub .In) (eG X.K false):=by
 intro e s j H x y v u Q I f i h;obtain⟨p,xs,rfl,a,d,b,q⟩:=h;cases i;rcases a with a|a
 ·obtain⟨its,r,pl,g⟩:=I.list a;refine Tw (Ms x) pl.isList (λw c=>vE f d r b w (by simpa using c)) ⟨.bl _,H,I,rfl,?_⟩;rw[show its.toArray.any (Ms x)=its.any (Ms x) by simp,OC r b];exact q
 ·obtain⟨its,r,pl,g⟩:=I.tuple a;refine ew (Ms x) pl (λw c=>vE f d r b w (by simpa using c)) ⟨.bl _,H,I,rfl,?_⟩;rw[show its.toArray.any (Ms x)=its.any (Ms x) by simp,OC r b];exact q
theorem è:di X (Ub .NotIn) (eG X.K true):=by
 intro e s j H x y v u Q I f i h;obtain⟨p,xs,rfl,a,d,b,q⟩:=h;cases i;rcases a with a|a
 ·obtain⟨its,r,pl,g⟩:=I.list a;refine Du (Ms x) pl.isList (λw c=>vE f d r b w (by simpa using c)) ⟨.bl _,H,I,rfl,?_⟩;rw[show its.toArray.any (Ms x)=its.any (Ms x) by simp,OC r b];exact q
 ·obtain⟨its,r,pl,g⟩:=I.tuple a;refine Wt (Ms x) pl (λw c=>vE f d r b w (by simpa using c)) ⟨.bl _,H,I,rfl,?_⟩;rw[show its.toArray.any (Ms x)=its.any (Ms x) by simp,OC r b];exact q
theorem As:tp X (.builtin "len") (λxs H Q=>∃ p b,xs=[.ref p]/\(Rf X.K H p b\/qi X.K H p b)/\Q (.int b.length) H):=by
 intro e s k H xs j Q I r h;obtain⟨p,b,rfl,c,q⟩:=h;obtain⟨u,rfl,g⟩:=Iw r;cases g;have i:=cG;rcases c with c|c
 ·obtain⟨its,d,pl,f⟩:=I.list c;have a:=d.length;exact Calls.call_len_list pl.isList (by simp only[za]<;>omega) ⟨.int b.length,H,I.tok _,⟨s.toks+1,by rw[za,a]⟩,q⟩
 ·obtain⟨its,d,pl,f⟩:=I.tuple c;have a:=d.length;exact len_tuple pl (by simp only[za]<;>omega) ⟨.int b.length,H,I.tok _,⟨s.toks+1,by rw[za,a]⟩,q⟩
theorem tp.or{r b:List V->Hp->VK->Prop}(h:tp X f r)(h':tp X f b):tp X f (λxs H Q=>r xs H Q\/b xs H Q):=by
 intro a s e H xs d Q I c q;rcases q with q|q
 ·exact h a s e H xs d Q I c q
 ·exact h' a s e H xs d Q I c q
theorem JG:tp X (.type "list") (λxs H Q=>∃ p d,xs=[.ref p]/\(Rf X.K H p d\/qi X.K H p d)/\∀ l,H l=none->Q (.ref l) (rc H l (.va d))):=by
 intro k s z H xs A Q I r h;obtain⟨p,d,rfl,g,q⟩:=h;obtain⟨u,rfl,y⟩:=Iw r;cases y;have Vg:∀ (its:List Value),Se d its->d.length<=sizeLine->∀ (h':Heap) (a:Nat),(∀ b x,s.heap.get? b=some x->h'.get? b=some x)->
   h'.get? s.heap.objs.size=some { cls:=.type "list",dict:=none,data:=.seq its.toArray a,slots:=#[] }->EP X k z Q (.ref s.heap.objs.size) { s with heap:=h' }:=λits c i h' a j e=>
  ⟨.ref s.heap.objs.size,_,I.laid (t':=s.toks) j (Ea _) (show ak X.prog X.w _ h' _ (.va d)from⟨i,its,a,c,e⟩),rfl,q _ (I.zd.fresh (Ea _))⟩
 rcases g with g|g
 ·obtain⟨its,c,pl,i⟩:=I.list g;have f:=c.length;obtain⟨o,v,m,n,t⟩:=pl.isList;exact UW p (.inl rfl) v m t (λh' a j e=>Vg its c i h' a j e) (by simp only[za]<;>omega)
 ·obtain⟨its,c,pl,i⟩:=I.tuple g;have f:=c.length;obtain⟨o,v,m,n,t⟩:=pl;exact UW p (.inr rfl) v m t (λh' a j e=>Vg its c i h' a j e) (by simp only[za]<;>omega)
theorem ZC:tp X (.type "tuple") (λxs H Q=>∃ p c,xs=[.ref p]/\((Rf X.K H p c/\∀ l,H l=none->Q (.ref l) (rc H l (.Ga c)))\/(qi X.K H p c/\Q (.ref p) H))):=by
 intro a s k H xs v Q I r h;obtain⟨p,c,rfl,h⟩:=h;obtain⟨u,rfl,t⟩:=Iw r;cases t;rcases h with⟨d,q⟩|⟨d,q⟩
 ·obtain⟨its,f,pl,j⟩:=I.list d;have i:=f.length;refine call_tuple_list pl.isList (λh' n=>?_) (by simp only[za]<;>omega);have g:lb X a k H { s with heap:=h' }:=I.kept (t':=s.toks) n;have m:lb X a k (rc H h'.objs.size (.Ga c)) { s with heap:=h'.push { cls:=.type "tuple",data:=.seq its.toArray } }:=
   g.laid (t':=s.toks) (λb o e=>qa _ e) (Ea _) (show ak X.prog X.w _ _ _ (.Ga c)from⟨j,its,f,bw _ _⟩)
  exact⟨.ref h'.objs.size,_,m,rfl,q _ (g.zd.fresh (Ea _))⟩
 ·obtain⟨its,f,pl,j⟩:=I.tuple d;exact call_tuple_same pl ⟨.ref p,H,I,rfl,q⟩
def vV(K:W.Frag)(T:String)(x:V)(H:Hp):Prop:=match x with
 | .str _=>T = "str"
 | .int _=>T = "int"
 | .ref p=>(T = "list"/\∃ xs,Rf K H p xs)\/(T = "tuple"/\∃ o,K.lookup p=some o/\o.cls=.type "tuple"/\o.dict=none)\/
   (T = "dict"/\((∃ a,H p=some (.dK a))\/∃ a,H p=some (.dT a)))\/(T = "set"/\∃ S n,H p=some (.set S n))
 |_=>False
theorem Q5(I:lb X d l H s)(r:Qd x v)(ty:vV X.K T x H) :
  s.TypeIs v T/\∀ a,v=.ref a->∃ ob,s.heap.get? a=some ob/\ob.dict=none:=by
 cases x with
 |str z=>
  obtain⟨t,rfl⟩:=r;cases (show T = "str" from ty);exact⟨typeIs_str s z t,λ_ e=>nomatch e⟩
 |int i=>
  obtain⟨t,rfl⟩:=r;cases (show T = "int" from ty);exact⟨typeIs_int s i t,λ_ e=>nomatch e⟩
 |ref p=>
  cases r;rcases ty with⟨rfl,xs,k⟩|⟨rfl,o,b,j,g⟩|⟨rfl,b⟩|⟨rfl,S,n,b⟩
  ·obtain⟨its,_,pl,_⟩:=I.list k;refine⟨pl.isList.typeIs,λa e=>?_⟩;cases e;obtain⟨o,n,e,c,g,_⟩:=pl;exact⟨o,e,g⟩
  ·refine⟨⟨o,I.Dk p o b,j⟩,λa e=>?_⟩;cases e;exact⟨o,I.Dk _ o b,g⟩
  ·have z:∃ o,s.heap.get? p=some o/\o.ExactDict:=by
    rcases b with⟨h,b⟩|⟨h,b⟩
    ·obtain⟨_,_,_,_,o,_,_,e,ex,_⟩:=I.zd p _ b;exact⟨o,e,ex⟩
    ·obtain⟨_,_,_,_,o,_,_,e,ex,_⟩:=I.zd p _ b;exact⟨o,e,ex⟩
   obtain⟨o,e,ex⟩:=z;refine⟨⟨o,e,ex.1⟩,λa f=>?_⟩;cases f;exact⟨o,e,ex.2.1⟩
  ·obtain⟨o,_,_,_,e,ex,_⟩:=I.zd p _ b;refine⟨⟨o,e,ex.1⟩,λa f=>?_⟩;cases f;exact⟨o,e,ex.2.1⟩
 |_=>exact False.elim ty
def tBM(K:W.Frag)(T:String)(r:V->List V->Hp->VK->Prop)(d:TE)(t:TA):TE:=λb H Q=>d b H λx a=>vV K T x a/\t b a λxs c=>r x xs c Q
variable{o e:Ua}{es:List Ua}{to:TE}{t:TA}{name:Str}{apos cpos:Ve}{T id:String}{r:V->List V->Hp->VK->Prop}
theorem O9(B:Qo T)(g:Slot T name id)(i:yt (.builtin id)=pure (.type "method_descriptor"))(y:Uu X id r)(z:PE X o to)(w:PA X (e::es) t)
  (c:oe o name X.env (vc o X.env)=vc o X.env:=by rfl)
  (f:((Wc cpos (ua (e::es) X.env)).all (λx=>!x.1) && (Xj cpos (oh [] X.env)).all (λx=>x.1.isSome)
   && decide ((e::es).length+([]:List Gk).length+(if ([]:List Gk).isEmpty then 0 else 1)<30))=true:=by rfl)
  (d:(apos.endLine == cpos.line)=true:=by rfl) (A:ua (e::es) X.env=(false,vc e X.env)::ua es X.env:=by rfl) (b:(Wc cpos (ua es X.env)).any (·.1)=false:=by rfl) :
  PE X (.Call (.Attribute o name apos) (e::es) [] cpos) (tBM X.K T r to t):=by
 intro a s j H Q I h;refine gw c f d rfl (Je (z a s j H _ I h) λv s1 ⟨x,H1,k,m,ty,C⟩=>?_);obtain⟨q,u⟩:=Q5 k m ty;refine⟨T,id,B,g,i,q,u,?_⟩;have l:=w cpos a s1 j H1 _ k C;rw[A]at l ⊢;refine wj (by show (false || (Wc cpos (ua es X.env)).any (·.1))=false;rw[b]<;>rfl) (Vj ?_);exact Je l λus s2 ⟨F,n,p,E,D⟩=>y a s2 j n x F v us Q p m E D
end
def yR(X:Cx)(b:String)(r:V->List V->Hp->VK->Prop):Prop:=
 ∀ (a:List (Addr × Vc)) (s:aa) (σ:St) (H:Hp) (x:V) (xs:List V) (v:Value) (us:List Value) (Q:VK),lb X a σ H s->Qd x v->Se xs us->r x xs H Q->
  wpAny (model X.prog X.w) X.A (call (.builtin b) (v::us)) (EP X a σ Q) X.xe s
theorem Se.one:∀ {x:V} {us:List Value},Se [x] us->∃ u,us=[u]/\Qd x u
 |_,_,.cons r .nil=>⟨_,rfl,r⟩
theorem Se.two:∀ {x y:V} {us:List Value},Se [x,y] us->∃ u v,us=[u,v]/\Qd x u/\Qd y v
 |_,_,_,.cons r (.cons q .nil)=>⟨_,_,rfl,r,q⟩
theorem Se.zero:∀ {a:List Value},Se [] a->a=[]
 |_,.nil=>rfl
section
variable{X:Cx}{pins:List (Addr × Vc)}{σ:St}{H:Hp}{s:aa}{l b:Addr}{xs ys zs:List V}
theorem lb.jE{its its':List Value}(I:lb X pins σ H s)(a:H l=some (.va xs))
  (e:s.heap.get? l=some { cls:=.type "list",data:=.seq its.toArray n }) (c:f its.toArray=its'.toArray) (g:Se ys its') (h:ys.length<=sizeLine) :
  lb X pins σ (rc H l (.va ys)) { s with heap:=s.heap.update l (og f),toks:=t' }:=by
 have q:=zaA e f;rw[c]at q;refine I.write (x:=l) (e:=l) (by rw[a];exact trivial) (.inl rfl) (λi u b d=>(Aj s.heap (og f) (qf b)).trans d) ⟨_,q⟩ ?_;exact⟨h,its',_,g,q⟩
theorem lb.rz(I:lb X pins σ H s)(a:Se ys its)(b:ys.length<=sizeLine) :
  lb X pins σ (rc H s.heap.objs.size (.va ys)) { s with heap:=s.heap.push { cls:=.type "list",data:=.seq its.toArray },toks:=t' }:=
 I.laid (λ_ _ q=>qa _ q) (Ea _) ⟨b,its,0,a,Bb _ rfl⟩
theorem lb.fresh(I:lb X pins σ H s):H s.heap.objs.size=none:=I.zd.fresh (Ea _)
theorem lb.uv(I:lb X pins σ H s)(a:H l=some (.va xs)):xs.length<=sizeLine/\∃ (its:List Value) (n:Nat),Se xs its/\xs.length=its.length/\s.heap.get? l=some { cls:=.type "list",data:=.seq its.toArray n }:=by
 obtain⟨z,its,n,r,e⟩:=I.zd l _ a;exact⟨z,its,n,r,r.length,e⟩
theorem QX(h:n<=sizeLine):Vh n=false:=by
 unfold Vh;exact Da (by omega)
end
section
variable{X:Cx}
def GK:V->List V->Hp->VK->Prop:=λx a H Q=>∃ l xs y,x=.ref l/\a=[y]/\H l=some (.va xs)/\xs.length<sizeLine/\Q .Rb (rc H l (.va (xs++[y])))
theorem dI:yR X "list.append" GK:=by
 intro b s m H x k v j Q I f d h;obtain⟨l,xs,y,rfl,rfl,a,i,q⟩:=h;cases f;obtain⟨u,rfl,c⟩:=d.one;obtain⟨z,its,n,r,g,e⟩:=I.uv a;refine call_meets F.slot_list_append ⟨_,e,rfl⟩ F.entry_list_append (F.args_list_append_2 _ _) (PySem.list_append l its.toArray n u (by rw[za];omega)) ⟨e,?_⟩;refine⟨.Rb,_,I.jE (its':=its++[u]) a e (by simp) (r.append (.cons c .nil)) ?_,rfl,q⟩;rw[Dd,List.length_singleton];omega
def jP:V->List V->Hp->VK->Prop:=λx c H Q=>∃ l b xs a,x=.ref l/\c=[.ref b]/\H l=some (.va xs)/\H b=some (.va a)/\xs.length+a.length<=sizeLine/\Q .Rb (rc H l (.va (xs++a)))
theorem oY:yR X "list.extend" jP:=by
 intro g s G H x C v B Q I w t h;obtain⟨l,b,xs,E,rfl,rfl,f,j,A,q⟩:=h;cases w;obtain⟨u,rfl,p⟩:=t.one;cases p;obtain⟨z,its,n,r,y,e⟩:=I.uv f;obtain⟨D,a,m,o,k,i⟩:=I.uv j;have d:its.toArray.size+a.toArray.size<=sizeLine:=by rw[za,za];omega
 have c:¬ (!its.toArray.isEmpty && Vh (its.toArray.size+a.toArray.size))=true:=by
  rw[QX d,nk];exact yb
 refine call_meets F.slot_list_extend ⟨_,e,rfl⟩ F.entry_list_extend (F.args_list_extend_2 _ _)
  (AutoSeq1.list_extend_list_list_0 l its.toArray n b a.toArray m c (by rw[za];omega) (by omega)) ⟨e,i,?_⟩
 refine⟨.Rb,_,I.jE (its':=its++a) f e (by simp) (r.append o) ?_,rfl,q⟩;rw[Dd];omega
def nZ:R2:=λx y H Q=>∃ l b xs a,x=.ref l/\y=.ref b/\H l=some (.va xs)/\H b=some (.va a)/\xs.length+a.length<=sizeLine/\∀ p,H p=none->Q (.ref p) (rc H p (.va (xs++a)))
theorem YX:di X (ff .Add) nZ:=by
 intro c s C H x y v u Q I m o h;obtain⟨l,b,xs,B,rfl,rfl,i,g,t,q⟩:=h;cases m;cases o;obtain⟨z,its,n,r,p,e⟩:=I.uv i;obtain⟨A,a,w,k,j,d⟩:=I.uv g;refine PySem.P.add_list e d ?_ (by rw[za,za];omega);have f:its.toArray++a.toArray=(its++a).toArray:=by simp
 rw[f];exact⟨.ref _,_,I.rz (t':=s.toks) (r.append k) (by rw[Dd];omega),rfl,q _ I.fresh⟩
end
section
variable{prog:Ca}{w:Ya}{A:Ta}{E:Value->aa->Prop}{s:aa}
set_option maxRecDepth 100000 in
end
section
variable{X:Cx}
end
end L2
namespace Att
open PySem PySem.W PySem.Calls PyProof.Rows
theorem ő:∀ (c:List Int) (d:List Value),WellAll P h d (c.map gJ)->Cm d c:=by
 intro c;induction c with
 |nil=>
  intro d w;rw[Am]at w;cases w;exact .nil
 |cons n c e=>
  intro d w;rw[Ra]at w;cases w with
  |cons a b=>
   cases a;exact .cons _ _ (e _ b)
theorem Ĳ{l:OpenLaw}(v:l.most=some n)
  (c:l.row.toRowW.claim.pre args=true) (m:WellAll P h e args) :
  ∃ a p b,e=[Nb a]/\args=[WData.list (b.map gJ)]/\h.get? a=some { cls:=.type "list",data:=.seq p.toArray }/\Cm p b/\b.length<=n:=by
 have k:WShape.hasAll [] args [.list .int]=true:=(pre_splitW c).1;have o:l.pre.holds [] { args:=args }=true:=(pre_splitW c).2;obtain⟨d,r,rfl,s,t⟩:=hasAllW_cons k;obtain rfl:=hasAllW_nil t;obtain⟨xs,rfl,u⟩:=hasW_list s;obtain⟨b,rfl⟩:=items_int u;have g:b.length<=n:=by
  unfold OpenLaw.pre at o;have i:(WTm.not (.lt (.lit (.int (n:Int))) (.len (.arg 0)))).holds [] { args:=[.list (b.map .int)] }=true:=by
   have i:=(holds_andW o).1;rw[v]at i;exact i
  have j:=condW_of i (w_not (w_lt w_lit (w_len_list (w_arg rfl))));rw[xb]at j;refine Nat.le_of_not_lt λq=>?_;have x:(n:Int)<((b.length:Nat):Int):=by omega
  first
   |(rw[Ia x]at j;exact absurd j (by decide))
   |(simp at j;omega)
 cases m with
 |cons y z=>
  cases z;cases y with
  |list w f=>exact⟨_,_,b,rfl,rfl,w,ő b _ f,g⟩
theorem W9(l:OpenLaw)(args:List WData):l.row.toRowW.claim.post args (.bool true) args=true:=
 postW_of (r:=l.row.toRowW) (X:=(true == true))
  (show dC [] (.bool true) .bool=true by first|rfl|decide|simp[dC,WShape.arms,WShape.armsAll])
  (show (WTm.eq .res (.lit (.bool true))).value [] { args:=args,res:=some (.bool true),after:=args }=some (.bool (true == true))from w_eq_bool (w_res rfl) w_lit) rfl
theorem om{l:OpenLaw}
  (S:l.most=some n) (y:d.params.defaults=[])
  (j:∀ (w:Ya) (e b:aa) (t B:Str->Option Value) (fa:Addr) (o:Vc) (C s g:Value) (a:Addr) (i:List Value) (u:List Int),
   Ground q c [] D w e t B b.heap->E w b.heap->
   b.heap.get? fa=some o->o.data=.func (docDef d.name d.params d.body d.scope C s g)->b.heap.CodeRec s d.name->t d.name=some (.ref fa)->
   b.heap.get? a=some { cls:=.type "list",data:=.seq i.toArray }->Cm i u->u.length<=n->b.gens=#[]->
   codeAny (model l.prog w) Ch (.call (.ref fa) ⟨[.ref a],[]⟩) (λr v=>r=.ok (.ret (.bool true))/\OldK b.heap v.heap/\v.os=b.os/\zh v.gens) b) :
  WalkO q c D E l.row.toRowW d [] (λf i=>PySem.call f i):=by
 intro w e b t B G Y fa o C s g K kV T O x H z P F J W p I V A Q;obtain rfl:K=.none:=Dflts.none H y;obtain rfl:kV=.none:=Dflts.noKw H;obtain⟨a,i,u,rfl,rfl,m,h,k⟩:=Ĳ S p A;refine enter_call (Oi (j w e b t B fa o C s g a i u G Y T (fd_plain O) x z m h k P) λr v U=>?_);obtain⟨rfl,L,M,N⟩:=U;exact⟨.inl ⟨.bool true,.bool true,[],rfl,λ_=>rfl,.bool true,W9 l _,λ_=>⟨List.Pairwise.nil,λ_ R=>(nomatch R)⟩⟩,L,M,N⟩
section
variable{prog:Ca}{w:Ya}{A:Ta}{E:Value->aa->Prop}{s:aa}{K:Frag}
noncomputable def yks(h:Heap)(L d:Addr):List (Addr × Vc):=(List.range h.objs.size).filterMap λa=>if a=L\/a=d then none else (h.get? a).map λo=>(a,o)
end
end Att
namespace L2
open PySem PySem.Spec PyProof.Rows
theorem DD:∀ {a:List Value} {ns:List Int},Cm a ns->Se (ns.map V.int) a
 |_,_,.nil=>.nil
 |_,_,.cons n t h=>.cons ⟨t,rfl⟩ (DD h)
def vL(H:Hp):Prop:=∀ b,H b=none\/∃ o xs,H b=some (.jc o (.va xs))
theorem F4{K:W.Frag}
  (KX:K.In c.heap) (G:c.heap.Ns mainGlobals M) (g:c.heap.Ns builtinsNs Y) (T:∀ x:Str,x ≠ "__name__"->Y x=bootBuiltins x) (E:c.heap.NoLimit) (hg:c.gens=#[])
  (Q:c.heap.get? a=some { cls:=.type "list",data:=.seq y.toArray }) (hi:Cm y N) (hl:N.length<=sizeLine) (hr:Yd k Ch)
  (F:∀ i:Heap,K.In i->i.Ns mainGlobals M->Yh P w K M i CX k fa fd [x] sp) (t:∀ (s:aa) (u:Value),Mg s fd ⟨[u],[]⟩ [(x,u)])
  (X:∀ H:Hp,vL H->Rf K H a (N.map V.int)->sp [.ref a] H (λv _=>v=.bl true) λ_ _ _=>False)
  (S:∀ H e j,CX [] H c (λ_ _ _=>False) e j->False) :
  codeAny (model P w) Ch (.call (.ref fa) ⟨[.ref a],[]⟩) (λr j=>r=.ok (.ret (.bool true))/\OldK c.heap j.heap/\j.os=c.os/\zh j.gens) c:=by
 have rv:=DD hi;have L:=hi.length;have p:∀ H:Hp,vL H->Rf K H a (N.map V.int)->mj P w H c.heap->(∀ b,H b≠none->b=a)->(H a≠none->K.lookup a=none)->
   codeAny (model P w) Ch (.call (.ref fa) ⟨[.ref a],[]⟩) (λr j=>r=.ok (.ret (.bool true))/\OldK c.heap j.heap/\j.os=c.os/\zh j.gens) c:=by
  intro H hO hS I hA hK;have f:∀ {b:Addr} {o:Vc},c.heap.get? b=some o->H b=none->(xu c.heap H).get? b=some o:=λe n=>cV e n;have Z:∀ {b:Addr} {o:Vc} {C:Array DF} {B:Nat},c.heap.get? b=some o->o.data=.dict C B->H b=none:=fun {b o C B} e d=>by
   cases q:H b with
   |none=>rfl
   |some u=>
    have R:b=a:=hA b (by rw[q];simp);subst R;rw[Q]at e;cases e;have d':Data.seq y.toArray _=Data.dict C B:=d;cases d'
  have l:∀ {b:Addr} {m:Str->Option Value},c.heap.Ns b m->(xu c.heap H).Ns b m:=fun {b m} ⟨o,C,B,e,d,r⟩=>⟨o,C,B,f e (Z e d),d,r⟩
  have D:K.In (xu c.heap H):=λb o e=>f (KX b o e) (by
   cases q:H b with
   |none=>rfl
   |some u=>
    have R:b=a:=hA b (by rw[q];simp);subst R;rw[hK (by rw[q];simp)]at e;cases e)
  have hM:Mod K M (xu c.heap H):=⟨D,l G,⟨Y,l g,T⟩,let ⟨mc,h1,h2⟩:=E;⟨mc,l h1,h2⟩⟩
  have e0:jn P w K M (xu c.heap H) Ch [] c H:=⟨rfl,hM,λb o e=>rT e,dt (fV _ _),trivial,λb g=>absurd (show b∈([]:List Addr)from g) (by simp),I,.of_eq hg⟩
  refine Oi ((F _ D (l G)).Md Ch [] c H ⟨[.ref a],[]⟩ [.ref a] [.ref a] _ _ hr e0 (t c (.ref a)) (.cons rfl .nil) (X H hO hS)) λr j h=>?_;cases r with
  |error e=>exact(S H e j h).elim
  |ok fl=>
   cases fl with
   |next=>exact False.elim h
   |brk=>exact False.elim h
   |cont=>exact False.elim h
   |ret u=>
    obtain⟨v,H',os,A,un,J,r',q⟩:=h;have q':v=.bl true:=q;subst q';obtain rfl:u=rh true:=r';refine⟨rfl,OldK.of_keep λb o e=>?_,os,A⟩;cases q:H b with
    |none=>exact un.keep b o e q (by intro z;exact absurd (show b∈([]:List Addr)from z) (by simp)) (by simp)
    |some u=>
     rcases hO b with z|⟨ob,xs,z⟩
     ·rw[q]at z;cases z
     ·have z2:=un.ui b ob _ z;obtain⟨e1,_⟩:=I b _ z;obtain⟨e2,_⟩:=J b _ z2;rw[e]at e1;cases e1;exact e2
 cases U:K.lookup a with
 |some o=>
  have e:=KX a o U;rw[Q]at e;cases e;refine p (λ_=>none) (λ_=>.inl rfl) (.inr ⟨_,y.toArray,_,U,rfl,rfl,rfl,by rw[za,L];exact hl,by simpa using rv⟩) (λb u z=>by have O:(none:Option HO)=some u:=z;cases O) (λb z=>absurd rfl z) λz=>absurd rfl z
 |none=>
  refine p (λb=>if b=a then some (.jc { cls:=.type "list",data:=.seq y.toArray } (.va (N.map V.int)))else none) (λb=>?_) (.inl (.inr ⟨{ cls:=.type "list",data:=.seq y.toArray },ja rfl⟩)) (λb u z=>?_) (λb z=>?_) λ_=>U
  ·by_cases g:b=a
   ·exact .inr ⟨_,_,ja g⟩
   ·exact .inl (ka g)
  ·by_cases g:b=a
   ·have O:=(ja g).symm.trans z;cases O;subst g;exact⟨Q,by rw[xb];exact hl,y,_,rv,Q⟩
   ·have O:=(ka g).symm.trans z;cases O
  ·by_cases g:b=a
   ·exact g
   ·exact absurd (ka g) z
noncomputable abbrev Ri{K:W.Frag}{h:Heap}(_:K.In h):W.Frag:=K
theorem ygc{l:W.OpenLaw}{K:RN->W.Frag}{J:Ya->fu}{N:Ya->Sp}
  (hn:l.most=some n) (D:n<=sizeLine) (B:d.params.defaults=[]) (hr:Yd k Ch)
  (Z:∀ (w:Ya) (h:Heap),M w h->(K w.params).In h)
  (F:∀ (w:Ya) (p:Str->Option Value) (fa:Addr) (h:Heap),(K w.params).In h->h.Ns mainGlobals p->p d.name=some (.ref fa)->
   ∃ z:Ke,(∀ (s:aa) (u:Value),Mg s z ⟨[u],[]⟩ [(x,u)])/\
    ∀ c:Heap,(K w.params).In c->c.Ns mainGlobals p->Yh l.prog w (K w.params) p c (J w) k fa z [x] (N w))
  (E:∀ (w:Ya) (H:Hp) (a:Addr) (y:List Int),y.length<=n->vL H->Rf (K w.params) H a (y.map V.int)->N w [.ref a] H (λv _=>v=.bl true) λ_ _ _=>False)
  (A:∀ (w:Ya) (H:Hp) (s:aa) (e:Value) (I:aa),J w [] H s (λ_ _ _=>False) e I->False) :
  W.WalkO q m Q M l.row.toRowW d [] (λf P=>PySem.call f P):=by
 refine Att.om hn B λw O t p mb fa o pm cd R a P y G Y ho hd a0 C r j i hg=>?_;have L:=Z w _ Y;obtain⟨z,hb,S⟩:=F w p fa _ L G.T.g C;exact F4 L G.T.g G.T.b G.T.builtins G.T.nolimit hg r j (Qb i D) hr S hb (λH U X=>E w H a y i U X) λH e I=>A w H t e I
noncomputable def qp(s:Stmt):Arguments:=match s with
 | .FunctionDef _ a _ _ _ _ _ _ _ _=>a
 |_=>{ posonlyargs:=[],args:=[],vararg:=none,kwonlyargs:=[],kw_defaults:=[],kwarg:=none,defaults:=[] }
noncomputable def Kj(s:Stmt):List Stmt:=match s with
 | .FunctionDef _ _ b _ _ _ _ _ _ _=>b
 |_=>[]
noncomputable def Pc(s:Stmt):Scope:=match s with
 | .FunctionDef _ _ _ _ _ _ sc _ _ _=>sc
 |_=>{ kind:=.function,names:=[],isGenerator:=false,isCoroutine:=false }
noncomputable abbrev IS:fu:=λ_ _ _ _ _ _=>False
noncomputable abbrev E0:XK:=λ_ _ _=>False
structure Xx(K:W.Frag)(x qual:Str)(st:Stmt)(f:Addr)(fd:Ke):Prop where
 ex:∃ (oc:Value) (od:Option Addr) (kV doc pm:Value) (an:Option Addr) (cdv ct:Value) (osl:Array (Option Value)),
  fd=W.fnOf x qual (qp st) (Kj st) (Pc st) .none kV doc pm an cdv ct/\K.lookup f=some ⟨oc,od,.func fd,osl⟩/\W.codeIn K cdv qual=true
 kp:W.keepIn K (.ref f)=true
section
variable{P:Ca}{w:Ya}{K:W.Frag}{mg:Str->Option Value}{base:Heap}
theorem Xx.ok(F:Xx K x b g f o)(S:wa N m (Pc g))(l:∀ e H Q E,n e H Q E->e.length=m.length)
  (d:∀ (c:Value) (A:Ta) (a:List nh) (s:aa) (H:Hp) (e:List V) (Q:VK) (E:XK),Yd k (A.deeper (Ag b (Pc g) s.heap.objs.size f c))->n e H Q E->
   ∃ t,Ft (Vp IS P w K mg base N b (Pc g) f c A a s H E).Mp (Kj g) t/\t { nx:=λ_ p=>Q .Rb p,rt:=Q } (Bv N e) H):Yh P w K mg base IS (k+1) f o m n:=by
 obtain⟨z,B,kV,r,C,y,c,ct,v,rfl,lk,i⟩:=F.ex;refine UP lk i S l λA a s H e Q E u j=>?_;obtain⟨t,h,q⟩:=d c A a s H e Q E u j;exact⟨t,h.Mp,q⟩
theorem Xx.binds(F:Xx K x a d f k)
  (h:∀ (kV c g:Value) (e:Option Addr) (b ct:Value) (j:List Value),j.length=i.length->bindArgs (W.fnOf x a (qp d) (Kj d) (Pc d) .none kV c g e b ct) ⟨j,[]⟩=pure (i.zip j)):Ws K k i []:=by
 obtain⟨n,o,kV,c,g,e,b,ct,m,rfl,lk,l⟩:=F.ex;exact .all (h kV c g e b ct)
theorem HS{kV d i b ct:Value}(l:K.lookup f=some ⟨j,m,.func (W.fnOf x a (qp e) (Kj e) (Pc e) .none kV d i h b ct),g⟩)
  (c:W.codeIn K b a=true) (k:W.keepIn K (.ref f)=true):Xx K x a e f (W.fnOf x a (qp e) (Kj e) (Pc e) .none kV d i h b ct):=⟨⟨j,m,kV,d,i,h,b,ct,g,rfl,l,c⟩,k⟩
end
theorem rV(h:n<=1000):n<sizeLine:=iw h (by decide)
section
variable{X:Cx}
end
def yw(H a:Hp):Prop:=∀ b o,H b=some o->a b=some o
theorem yw.refl(H:Hp):yw H H:=λ_ _ h=>h
theorem yw.trans(a:yw H d)(b:yw d e):yw H e:=λc o h=>b c o (a c o h)
theorem yw.free(e:yw H a)(h:a l=Option.none):H l=Option.none:=by
 cases q:H l with
 |none=>rfl
 |some o=>
  rw[e l o q]at h;cases h
theorem yw.seq{K:W.Frag}(e:yw H b)(h:Rf K H a xs):Rf K b a xs:=by
 rcases h with(h|⟨o,h⟩)|h
 ·exact .inl (.inl (e _ _ h))
 ·exact .inl (.inr ⟨o,e _ _ h⟩)
 ·exact .inr h
end L2
namespace L4
open PySem PySem.Spec PyProof.Rows L2
theorem FU(a:c):∃ b,b=a:=⟨a,rfl⟩
def Cb{b:Type}(a:b):b:=Classical.choose (FU a)
@[simp] theorem ms(a:b):Cb a=a:=zaB (FU a)
inductive D where
 |Rb|bl (b:Bool)|int (i:Int)|str (x:Str)|Ga (xs:List D)|Uf (ns:List Int)|ref (n:Nat)
 |va (xs:List D)|Bc (ks:List sd) (xs:List D)|obj (c:Nat) (ns:List Str) (xs:List D)|bu (c:Nat)|gt (ss:List Str)
inductive Ob where
 |va (xs:List D)
 |Bc (kvs:List (sd × D))
 |Ld (c:Nat) (fs:List (Str × D))
 |Xf (kvs:List (sd × D))
 |rl (ks:List (List sd))
abbrev nb:=List Ob
abbrev St:=L2.St
abbrev Ev:=List (Option D)
structure Xn where
 cls:Nat
inductive Jk(α:Type) where
 |ok (a:α) (σ:nb)
 |ex (x:Xn) (σ:nb)
 |Xb
abbrev M(a:Type):=nb->Jk a
def ret{b:Type}(a:b):M b:=λc=>.ok a c
def Xb{a:Type}:M a:=λ_=>.Xb
def Jk.bind{c d:Type}(o:Jk c)(k:c->M d):Jk d:=match o with
 | .ok a b=>k a b
 | .ex x b=>.ex x b
 | .Xb=>.Xb
def Pd{a b:Type}(m:M a)(k:a->M b):M b:=λc=>(m c).bind k
inductive Fl where
 |nx (ρ:Ev)|rt (d:D)|bk (ρ:Ev)|ct (ρ:Ev)|xc (ρ:Ev) (x:Xn)
structure Tab where
 P:Addr
 line:Int
 col:Int
 qual:Str
structure Tx where
 mq:List Tab
 bm:Addr
structure Tb where
 K:W.Frag
 ca:Nat->Addr
 tx:Tx
def Tu(q:Str)(c:Addr):Heap->Prop:=λh=>∃ o a t,h.get? c=some o/\o.data=.fields a/\a[1]?=some (.str q t)
def DH(a:Addr):Heap->Prop:=λh=>∃ o,h.get? a=some o/\o.cls=.type "module"/\o.dict=some builtinsNs/\o.data=.plain
def Ct(T:Tb)(b:List Addr)(H:Hp):Prop:=∀ t∈T.tx.mq,(T.tx.bm ∉ b/\∃ d,H T.tx.bm=some (.jc d (.ext (DH T.tx.bm))))/\t.P ∉ b/\∃ a,H t.P=some (.Fm a)/\(a=#[]\/∃ c,a=#[Kf t.line,Kf t.col,.ref c]/\c ∉ b/\H c=some (.ext (Tu t.qual c)))
theorem Ct.grow(h:Ct T d H)(k:∀ b u,H b=some u->a b=some u):Ct T d a:=λt m=>by
 obtain⟨⟨f,o,g⟩,i,p,j,l⟩:=h t m;exact⟨⟨f,o,k _ _ g⟩,i,p,k _ _ j,l.imp id λ⟨c,e,n,z⟩=>⟨c,e,n,k _ _ z⟩⟩
theorem Ct.sub(h:Ct T a H)(k:∀ b∈d,b∈a):Ct T d H:=λt m=>by
 obtain⟨⟨f,g⟩,i,o,j,l⟩:=h t m;exact⟨⟨λz=>f (k _ z),g⟩,λz=>i (k _ z),o,j,l.imp id λ⟨c,e,n,z⟩=>⟨c,e,λy=>n (k _ y),z⟩⟩
theorem Ct.more(h:Ct T a H)(l:H p=none):Ct T (a++[p]) H:=λt m=>by
 obtain⟨⟨i,o,f⟩,j,q,g,k⟩:=h t m;have d:∀ {b:Addr} {u:HO},H b=some u->b ∉ a->b ∉ a++[p]:=fun {b u} e n z=>(bf.mp z).elim n λy=>by
  have r:b=p:=by simpa using y
  subst r;rw[l]at e;cases e
 exact⟨⟨d f i,o,f⟩,d g j,q,g,k.imp id λ⟨c,e,n,z⟩=>⟨c,e,d z n,z⟩⟩
theorem Ct.out(h:Ct T g H)(r:∀ b,b≠a->i b=H b)(q:a∈g\/∃ f,H a=some (.dK f)):Ct T g i:=λt s=>by
 obtain⟨⟨k,v,m⟩,l,w,o,p⟩:=h t s;have j:∀ {b:Addr} {u:HO},H b=some u->b ∉ g->(∀ f,u≠.dK f)->i b=some u:=fun {b u} e n d=>by
  rw[r b (λz=>by
   subst z;rcases q with y|⟨f,y⟩
   ·exact n y
   ·rw[e]at y;cases y;exact d f rfl)]
  exact e
 exact⟨⟨k,v,j m k (λ_ z=>by cases z)⟩,l,w,j o l (λ_ z=>by cases z),p.imp id λ⟨c,e,n,z⟩=>⟨c,e,n,j z n (λ_ y=>by cases y)⟩⟩
noncomputable def Tb.cv(T:Tb)(x:Xn):Value:=.ref (T.ca x.cls)
noncomputable def XA(c:Nat):Option Nat:=if c<100 then none else some (c / 100 - 1)
def zZ(C a:Addr):Heap->Prop:=λh=>∃ o,h.get? a=some o/\o.cls=.ref C
def Ay(C:Addr)(c:Option Addr)(a:Addr):Heap->Prop:=λh=>∃ o,h.get? a=some o/\o.cls=.ref C/\∀ b,c=some b->o.dict=some b/\∃ d,o.data=.fields d
def FH(b:Addr)(n:Nat):Heap->Prop:=λh=>∃ o,h.get? b=some o/\∃ a c t,o.data=.dict a c/\StrKeys a/\nsFind a "pot" = some (.int n t)
def UG(K:W.Frag)(H:Hp)(a:Addr)(c:List Int):Prop:=
 (∃ o,H a=some (.jc o (.va (c.map V.int))))\/
  ∃ (o:Vc) (b:Array Value) (n:Nat),K.lookup a=some o/\o.cls=.type "list"/\o.dict=none/\o.data=.seq b n/\b.size<=sizeLine/\Se (c.map V.int) b.toList
theorem UG.seq{K:W.Frag}(h:UG K H a b):Rf K H a (b.map V.int):=by
 rcases h with⟨o,h⟩|h
 ·exact .inl (.inr ⟨o,h⟩)
 ·exact .inr h
def RA(K:W.Frag)(a:Addr)(c:List Str):Prop:=∃ (o:Vc) (b:Array Value) (n:Nat),K.lookup a=some o/\o.cls=.type "tuple"/\o.data=.seq b n/\b.size<=sizeLine/\Se (c.map V.str) b.toList
mutual
def Qa(T:Tb)(d:List Addr)(H:Hp):D->V->Prop
 | .Rb,v=>v=.Rb
 | .bl b,v=>v=.bl b
 | .int i,v=>v=.int i
 | .str x,v=>v=.str x
 | .Ga ds,v=>∃ p f,v=.ref p/\H p=some (.Ga f)/\Jb T d H ds f
 | .Uf ns,v=>∃ a,v=.ref a/\UG T.K H a ns
 | .ref n,v=>∃ a,v=.ref a/\d[n]?=some a
 | .va ds,v=>∃ a f,v=.ref a/\a ∉ d/\H a=some (.va f)/\Jb T d H ds f
 | .Bc ks ds,v=>∃ a e,v=.ref a/\a ∉ d/\Rd H a (.dK e)/\e.map (·.1)=ks/\Jb T d H ds (e.map (·.2))
 | .obj c ns ds,v=>∃ a k h,v=.ref a/\a ∉ d/\H a=some (.Ld (T.ca c) k h)/\h.map (·.1)=ns/\Jb T d H ds (h.map (·.2))
 | .bu c,v=>∃ a j,v=.ref a/\a ∉ d/\H a=some (.ext (Ay (T.ca c) j a))/\∀ n,XA c=some n->∃ g,j=some g/\g ∉ d/\H g=some (.ext (FH g n))
 | .gt ss,v=>∃ a,v=.ref a/\RA T.K a ss
def Jb(T:Tb)(b:List Addr)(H:Hp):List D->List V->Prop
 |[],a=>a=[]
 |d::ds,a=>∃ v r,a=v::r/\Qa T b H d v/\Jb T b H ds r
end
def Kp(o b:HO):Prop:=b=o\/(∃ d a,o=.dK a/\b=.jc d (.dK a))\/∃ e c,o=.Fm e/\b=.Fm c
theorem Kp.trans(x:Kp a b)(y:Kp b c):Kp a c:=by
 rcases x with rfl|⟨h,d,rfl,rfl⟩|⟨g,e,rfl,rfl⟩
 ·exact y
 ·rcases y with rfl|⟨_,_,z,_⟩|⟨_,_,z,_⟩
  ·exact .inr (.inl ⟨h,d,rfl,rfl⟩)
  ·cases z
  ·cases z
 ·rcases y with rfl|⟨_,_,z,_⟩|⟨_,f,_,rfl⟩
  ·exact .inr (.inr ⟨g,e,rfl,rfl⟩)
  ·cases z
  ·exact .inr (.inr ⟨g,f,rfl,rfl⟩)
structure we(μ:List Addr)(H:Hp)(μ':List Addr)(H':Hp):Prop where
 pre:∃ r,μ'=μ++r
 Ga:∀ p xs,H p=some (.Ga xs)->H' p=some (.Ga xs)
 jc:∀ p o u,H p=some (.jc o u)->H' p=some (.jc o u)
 keep:∀ p o,H p=some o->p ∉ μ->(∃ o',H' p=some o'/\Kp o o')/\p ∉ μ'
theorem we.refl(a:List Addr)(H:Hp):we a H a H:=⟨⟨[],by simp⟩,λ_ _ h=>h,λ_ _ _ h=>h,λ_ _ h n=>⟨⟨_,h,.inl rfl⟩,n⟩⟩
theorem we.trans(a:we g H c e)(b:we c e d f):we g H d f:=by
 obtain⟨⟨r,rfl⟩,A,k,s⟩:=a;obtain⟨⟨z,rfl⟩,B,l,t⟩:=b;exact⟨⟨r++z,by simp⟩,λp xs h=>B p xs (A p xs h),λp o u h=>l p o u (k p o u h),λp o h n=>let ⟨⟨x,m,i⟩,v⟩:=s p o h n;let ⟨⟨y,q,j⟩,w⟩:=t p x m v;⟨⟨y,q,i.trans j⟩,w⟩⟩
theorem we.lj(e:we i H b f)(p:Addr)(o:HO)(h:H p=some o)(n:p ∉ i)(g:(∀ a,o≠.dK a)/\∀ d,o≠.Fm d:=by exact⟨(λ_ z=>by cases z),(λ_ z=>by cases z)⟩):f p=some o/\p ∉ b:=by
 obtain⟨⟨l,j,c⟩,k⟩:=e.keep p o h n;rcases c with rfl|⟨_,a,z,_⟩|⟨d,_,z,_⟩
 ·exact⟨j,k⟩
 ·exact absurd z (g.1 a)
 ·exact absurd z (g.2 d)
theorem we.rd(e:we k H b f)(p:Addr)(a:List (sd × V))(h:Rd H p (.dK a))(n:p ∉ k):Rd f p (.dK a)/\p ∉ b:=by
 rcases h with h|⟨d,h⟩
 ·obtain⟨⟨l,g,c⟩,j⟩:=e.keep p _ h n;rcases c with rfl|⟨d,i,z,rfl⟩|⟨_,_,z,_⟩
  ·exact⟨.inl g,j⟩
  ·cases z;exact⟨.inr ⟨d,g⟩,j⟩
  ·cases z
 ·exact⟨.inr ⟨d,e.jc _ _ _ h⟩,(e.keep p _ h n).2⟩
theorem we.get(e:we c H b d){n:Nat}(h:c[n]?=some a):b[n]?=some a:=by
 obtain⟨⟨r,rfl⟩,_,_⟩:=e;rw[Kb (la.mp h).1];exact h
mutual
theorem Qa.mono{T:Tb}{w m:List Addr}{H s:Hp}(e:we w H m s):∀ (d:D) (v:V),Qa T w H d v->Qa T m s d v
 | .Rb,v,h=>by simpa [Qa]using h
 | .bl b,v,h=>by simpa [Qa]using h
 | .int i,v,h=>by simpa [Qa]using h
 | .str x,v,h=>by simpa [Qa]using h
 | .Ga ds,v,h=>by
  rw[Qa]at h ⊢;obtain⟨p,k,g,f,j⟩:=h;exact⟨p,k,g,e.Ga _ _ f,Jb.mono e ds k j⟩
 | .Uf ns,v,h=>by
  rw[Qa]at h ⊢;obtain⟨a,g,f⟩:=h;refine⟨a,g,?_⟩;rcases f with⟨o,f⟩|f
  ·exact .inl ⟨o,e.jc _ _ _ f⟩
  ·exact .inr f
 | .ref n,v,h=>by
  rw[Qa]at h ⊢;obtain⟨a,g,f⟩:=h;exact⟨a,g,e.get f⟩
 | .va ds,v,h=>by
  rw[Qa]at h ⊢;obtain⟨a,k,g,f,j,l⟩:=h;exact⟨a,k,g,(e.lj _ _ j f).2,(e.lj _ _ j f).1,Jb.mono e ds k l⟩
 | .Bc ks ds,v,h=>by
  rw[Qa]at h ⊢;obtain⟨a,k,g,f,j,r,l⟩:=h;exact⟨a,k,g,(e.rd _ _ j f).2,(e.rd _ _ j f).1,r,Jb.mono e ds _ l⟩
 | .obj c ns ds,v,h=>by
  rw[Qa]at h ⊢;obtain⟨a,A,k,g,f,j,r,l⟩:=h;exact⟨a,A,k,g,(e.lj _ _ j f).2,(e.lj _ _ j f).1,r,Jb.mono e ds _ l⟩
 | .bu c,v,h=>by
  rw[Qa]at h ⊢;obtain⟨a,z,g,f,j,l⟩:=h;exact⟨a,z,g,(e.lj _ _ j f).2,(e.lj _ _ j f).1,λn q=>let ⟨y,B,t,u⟩:=l n q;⟨y,B,(e.lj _ _ u t).2,(e.lj _ _ u t).1⟩⟩
 | .gt ss,v,h=>by rw[Qa]at h ⊢;exact h
theorem Jb.mono{T:Tb}{g a:List Addr}{H f:Hp}(e:we g H a f):∀ (b:List D) (c:List V),Jb T g H b c->Jb T a f b c
 |[],c,h=>by simpa [Jb]using h
 |d::b,c,h=>by
  rw[Jb]at h ⊢;obtain⟨v,r,i,j,k⟩:=h;exact⟨v,r,i,Qa.mono e d v j,Jb.mono e b r k⟩
end
theorem Jb.nil:Jb T a H [] []:=by rw[Jb]
theorem Jb.cons{T:Tb}{b:List Addr}{H:Hp}{d:D}{v:V}{c:List D}{a:List V}(e:Qa T b H d v)(f:Jb T b H c a):Jb T b H (d::c) (v::a):=by
 rw[Jb];exact⟨v,a,rfl,e,f⟩
theorem Jb.length:∀ {b:List D} {a:List V},Jb T e H b a->b.length=a.length
 |[],a,h=>by rw[Jb]at h;subst h;rfl
 |d::b,a,h=>by
  obtain⟨v,r,rfl,_,c⟩:=h;simp[Jb.length c]
theorem Jb.get:∀ {b:List D} {a:List V} {i:Nat} {d:D},Jb T g H b a->b[i]?=some d->∃ v,a[i]?=some v/\Qa T g H d v
 |[],a,i,d,h,e=>by simp at e
 |d::b,a,0,x,h,e=>by
  obtain⟨v,r,rfl,c,f⟩:=h;simp at e;subst e;exact⟨v,rfl,c⟩
 |d::b,a,i+1,x,h,e=>by
  obtain⟨v,r,rfl,c,f⟩:=h;simpa using Jb.get f (by simpa using e)
theorem Jb.append:∀ {e a:List D} {c b:List V},Jb T g H e c->Jb T g H a b->Jb T g H (e++a) (c++b)
 |[],a,c,b,h,f=>by rw[Jb]at h;subst h;simpa using f
 |d::e,a,c,b,h,f=>by
  obtain⟨v,r,rfl,i,j⟩:=h;exact Jb.cons i (Jb.append j f)
theorem Jb.set(g:Qa T e H d v):∀ {b:List D} {a:List V} (i:Nat),Jb T e H b a->Jb T e H (b.set i d) (a.set i v)
 |[],a,i,h=>by rw[Jb]at h;subst h;simpa using Jb.nil
 |x::b,a,0,h=>by
  obtain⟨w,r,rfl,f,c⟩:=h;exact Jb.cons g c
 |x::b,a,i+1,h=>by
  obtain⟨w,r,rfl,f,c⟩:=h;exact Jb.cons f (Jb.set g i c)
theorem Jb.drop:∀ {b:List D} {a:List V} (n:Nat),Jb T c H b a->Jb T c H (b.drop n) (a.drop n)
 |b,a,0,h=>by simpa using h
 |[],a,n+1,h=>by rw[Jb]at h;subst h;simpa using Jb.nil
 |x::b,a,n+1,h=>by
  obtain⟨w,r,rfl,e,d⟩:=h;simpa using Jb.drop n d
theorem Jb.take:∀ {b:List D} {a:List V} (n:Nat),Jb T c H b a->Jb T c H (b.take n) (a.take n)
 |b,a,0,h=>by simpa using Jb.nil
 |[],a,n+1,h=>by rw[Jb]at h;subst h;simpa using Jb.nil
 |x::b,a,n+1,h=>by
  obtain⟨w,r,rfl,d,e⟩:=h;exact Jb.cons d (Jb.take n e)
def zu(T:Tb)(a:List Addr)(H:Hp):List (Str × D)->List (Str × V)->Prop:=Paired λp q=>p.1=q.1/\Qa T a H p.2 q.2
def Dl(T:Tb)(a:List Addr)(H:Hp):List (sd × D)->List (sd × V)->Prop:=Paired λp q=>p.1=q.1/\Qa T a H p.2 q.2
def sq(T:Tb)(e:List Addr)(H:Hp)(a:Addr):Ob->Prop
 | .va ds=>∃ b,H a=some (.va b)/\Jb T e H ds b
 | .Bc d=>∃ b,H a=some (.dK b)/\Dl T e H d b
 | .Ld c g=>∃ f b,H a=some (.Ld (T.ca c) f b)/\zu T e H g b
 | .Xf d=>∃ h b,H a=some (.jc h (.dK b))/\Dl T e H d b
 | .rl ks=>∃ b,H a=some (.dT b)/\b.map (·.1)=ks
structure Xd(T:Tb)(μ:List Addr)(H:Hp)(σ:nb):Prop where
 len:μ.length=σ.length
 nd:μ.Nodup
 obs:∀ (n:Nat) (o:Ob),σ[n]?=some o->∃ a,μ[n]?=some a/\sq T μ H a o
 tb:Ct T μ H
def ji(T:Tb)(c:List Addr)(H:Hp)(b:Ev)(a:St):Prop:=b.length=a.length/\∀ (i:Nat) (d:D),b[i]?=some (some d)->∃ v,a[i]?=some (some v)/\Qa T c H d v
theorem ji.mono(e:we f H a b)(h:ji T f H g c):ji T a b g c:=
 ⟨h.1,λi d q=>let ⟨v,j,k⟩:=h.2 i d q;⟨v,j,Qa.mono e d v k⟩⟩
theorem ji.set(h:ji T b H e c)(i:Nat)(r:Qa T b H d v):ji T b H (e.set i (some d)) (c.set i (some v)):=by
 refine⟨by simpa using h.1,λj x q=>?_⟩;rw[Uc]at q;by_cases a:i=j
 ·subst a;rw[ja rfl]at q;split at q
  ·rename_i k
   cases q;exact⟨v,by rw[Uc,ja rfl,ja (by rw[<-h.1];exact k)],r⟩
  ·cases q
 ·rw[ka a]at q;obtain⟨w,f,g⟩:=h.2 j x q;exact⟨w,by rw[Uc,ka a];exact f,g⟩
def Ĥ(e:Addr)(b d:Value)(h:Heap):Prop:=∃ c a,h.get? e=some c/\c.cls=b/\c.data=.fields a/\1<a.size/\a[0]?=some d/\a[1]?=some .none
def ir(B:Heap)(l:List nh)(e:Addr)(a b:Value)(h:Heap):Prop:=B.StaysIn h/\B.get? e=none/\h.FunFrames B l/\((∃ c,h.TracedAtW B e a b c)\/Ĥ e a b h)
def D8(o:Vc)(n:Nat):Prop:=∃ a b t,o.data=.dict a b/\StrKeys a/\nsFind a "pot" = some (.int n t)
def RE(d:Option Nat)(e:Addr)(B h f:Heap)(c:Hp):Prop:=∀ n,d=some n->∃ a oD b,h.get? e=some b/\b.dict=some a/\B.get? a=some oD/\D8 oD n/\c a=none/\f.get? a=none
structure qz(P:Ca)(w:Ya)(outer:List nh)(H:Hp)(s:aa)(cls:Value)(fd:Option Nat)(H':Hp)(e:Value)(s':aa):Prop where
 ex:∃ (ea:Addr) (a0:Value) (B:Heap),e=.ref ea/\ir B outer ea cls a0 s'.heap/\H' ea=none/\s.heap.get? ea=none/\
  (∀ b o,H' b=some o->∃ ob,B.get? b=some ob)/\(∀ b o,s.heap.get? b=some o->H b=none->b ∉ rk outer->B.get? b=some o)/\(∀ b o,s.heap.get? b=some o->b ∉ rk outer->∃ o',B.get? b=some o')/\RE fd ea B s'.heap s.heap H'
 os:s'.os=s.os
 bare:zh s'.gens
 un:Un (rk outer) [] H H' s.heap s'.heap
 zd:mj P w H' s'.heap
noncomputable def Il(P:Ca)(w:Ya):fu:=λa H s E e f=>∃ b d c,qz P w a H s b d c e f/\E b d c
structure vB(X:Cx)(st:St)(cls:Value)(fd:Option Nat)(H':Hp):Prop where
 mH:∀ (pins:List (Addr × Vc)) (H:Hp) (s:aa) (e:Value) (s':aa),lb X pins st H s->qz X.prog X.w X.stack H s cls fd H' e s'->X.xe e s'
noncomputable abbrev XE(X:Cx)(d:St):XK:=λa c b=>vB X d a c b
def nc{d e:Type}(T:Tb)(E:XK)(R:List Addr->Hp->d->e->Prop)(f:List Addr)(H:Hp)(o:Jk d)(Q:e->Hp->Prop):Prop:=match o with
 | .ok a σ=>∀ b g c,we f H b c->Xd T b c σ->R b c a g->Q g c
 | .ex x σ=>∀ b c,we f H b c->Xd T b c σ->E (T.cv x) (XA x.cls) c
 | .Xb=>False
theorem nc.mono{R:List Addr->Hp->j->k->Prop}{o:Jk j}{Q:k->Hp->Prop}(e:we l H c i)(h:nc T E R l H o Q):nc T E R c i o Q:=by
 cases o with
 |ok a σ=>exact λb g d f r q=>h b g d (e.trans f) r q
 |ex x σ=>exact λb d f r=>h b d (e.trans f) r
 |Xb=>exact h
theorem nc.imp{R:List Addr->Hp->e->f->Prop}{o:Jk e}{Q d:f->Hp->Prop}(h:nc T E R i H o Q)(k:∀ g b,Q g b->d g b):nc T E R i H o d:=by
 cases o with
 |ok a σ=>exact λc g b j r q=>k _ _ (h c g b j r q)
 |ex x σ=>exact h
 |Xb=>exact h
theorem nc.bind{R:List Addr->Hp->j->u->Prop}{p:List Addr->Hp->t->v->Prop}{m:M j}{k:j->M t}{Q:v->Hp->Prop}{o:u->Hp->Prop}
  (h:nc T E p l H (Pd m k i) Q) (f:∀ a b c g d,m i=.ok a b->we l H c d->Xd T c d b->R c d a g->nc T E p c d (k a b) Q->o g d):nc T E R l H (m i) o:=by
 unfold Pd at h;cases e:m i with
 |ok a b=>
  rw[e]at h;exact λn g w s r q=>f a b n g w e s r q (h.mono s)
 |ex x b=>rw[e]at h;exact h
 |Xb=>rw[e]at h;exact h
theorem nc.here{R:List Addr->Hp->c->b->Prop}{d:c}{g:b}{Q:b->Hp->Prop}(h:nc T E R a H (.ok d e) Q)(r:Xd T a H e)(p:R a H d g):Q g H:=h a g H (we.refl _ _) r p
section
variable(T:Tb)(X:Cx)
def tF(f:Ev->M D):TE:=λb H Q=>∃ a c d,ji T a H c b/\Xd T a H d/\nc T (XE X b) (Qa T) a H (f c d) Q
def yN:List Addr->Hp->Bool->Bool->Prop:=λ_ _ a b=>b=a
def tT(f:Ev->M Bool):TT:=λb H Q=>∃ a c d,ji T a H c b/\Xd T a H d/\nc T (XE X b) yN a H (f c d) Q
def tL(f:Ev->M (List D)):TA:=λb H Q=>∃ a c d,ji T a H c b/\Xd T a H d/\nc T (XE X b) (Jb T) a H (f c d) Q
inductive Sr where
 |nx (st:St)|rt (v:V)|bk (st:St)|ct (st:St)|xc (st:St) (cls:Value) (fd:Option Nat)
def Fn(T:Tb)(b:List Addr)(H:Hp):Fl->Sr->Prop
 | .nx a,.nx st=>ji T b H a st
 | .rt d,.rt v=>Qa T b H d v
 | .bk a,.bk st=>ji T b H a st
 | .ct a,.ct st=>ji T b H a st
 | .xc a x,.xc st cls fd=>ji T b H a st/\cls=T.cv x/\fd=XA x.cls
 |_,_=>False
def Dm(X:Cx)(D:Pk):Sr->Hp->Prop
 | .nx st,H=>D.nx st H
 | .rt v,H=>D.rt v H
 | .bk st,H=>D.bk st H
 | .ct st,H=>D.ct st H
 | .xc st cls fd,H=>vB X st cls fd H
noncomputable abbrev EN:XK:=λ_ _ _=>False
def tS(g:Ev->M Fl):TS:=λD d H=>∃ a b c,ji T a H b d/\Xd T a H c/\nc T EN (Fn T) a H (g b c) (Dm X D)
end
def xs{c:Type}(d:Ev)(m:M c)(k:c->M Fl):M Fl:=λe=>match m e with
 | .ok a b=>k a b
 | .ex x b=>.ok (.xc d x) b
 | .Xb=>.Xb
theorem nc.xs{D:Pk}{R:List Addr->Hp->s->u->Prop}{m:M s}{k:s->M Fl}{t:u->Hp->Prop}(w:ji T l H v p)
  (h:nc T EN (Fn T) l H (L4.xs v m k n) (Dm X D)) (f:∀ a b c g i,m n=.ok a b->we l H c i->Xd T c i b->R c i a g->nc T EN (Fn T) c i (k a b) (Dm X D)->t g i):nc T (XE X p) R l H (m n) t:=by
 unfold L4.xs at h;cases e:m n with
 |ok a b=>
  rw[e]at h;exact λd g o j r q=>f a b d g o e j r q (h.mono j)
 |ex x b=>
  rw[e]at h;intro d o j r;exact h d (.xc p (T.cv x) (XA x.cls)) o j r ⟨w.mono j,rfl,rfl⟩
 |Xb=>rw[e]at h;exact h
abbrev FE(T:Tb)(X:Cx)(e:Ua)(f:Ev->M D):Prop:=PE X e (tF T X f)
abbrev FT(T:Tb)(X:Cx)(e:Ua)(f:Ev->M Bool):Prop:=PT X e (tT T X f)
abbrev FW(T:Tb)(X:Cx)(e:Ua)(f:Ev->M Bool):Prop:=PW X e (tT T X f)
abbrev FA(T:Tb)(X:Cx)(a:List Ua)(f:Ev->M (List D)):Prop:=PA X a (tL T X f)
abbrev FS(T:Tb)(X:Cx)(a:Stmt)(g:Ev->M Fl):Prop:=PS X a (tS T X g)
abbrev ym(T:Tb)(X:Cx)(a:List Stmt)(g:Ev->M Fl):Prop:=Ft X a (tS T X g)
end L4
namespace L4
open PySem PySem.Spec PyProof.Rows L2
noncomputable def oi:Nat:=1000
theorem Yz(h:n<=oi):n<=sizeLine:=ug (rV h)
theorem CQ(h:n<oi):n<sizeLine:=rV (ug h)
theorem fL{l:List g}(h:l.Nodup){i j:Nat}{a:g}(k:l[i]?=some a)(m:l[j]?=some a):i=j:=by
 obtain⟨c,d⟩:=la.mp k;obtain⟨e,f⟩:=la.mp m;have b:=List.pairwise_iff_getElem.mp h;rcases Nat.lt_trichotomy i j with z|z|z
 ·exact absurd (d.trans f.symm) (b i j c e z)
 ·exact z
 ·exact absurd (f.trans d.symm) (b j i e c z)
section
variable{T:Tb}{μ μ':List Addr}{H H':Hp}{σ:nb}
theorem wL(e:we μ H μ' H'){xs:List (a × D)}{b:List (a × V)}(h:Paired (λ(p:a × D) (q:a × V)=>p.1=q.1/\Qa T μ H p.2 q.2) xs b) :
  Paired (λ(p:a × D) (q:a × V)=>p.1=q.1/\Qa T μ' H' p.2 q.2) xs b:=L2.Paired.ur h λp q z=>⟨z.1,Qa.mono e _ _ z.2⟩
theorem sq.mono(e:we μ H μ' H')(d:H' a=H a):∀ {o:Ob},sq T μ H a o->sq T μ' H' a o
 | .va ds,⟨b,h,r⟩=>⟨b,d.trans h,Jb.mono e _ _ r⟩
 | .Bc f,⟨b,h,r⟩=>⟨b,d.trans h,wL e r⟩
 | .Ld c j,⟨g,b,h,r⟩=>⟨g,b,d.trans h,wL e r⟩
 | .Xf f,⟨i,b,h,r⟩=>⟨i,b,d.trans h,wL e r⟩
 | .rl ks,⟨b,h,r⟩=>⟨b,d.trans h,r⟩
theorem sq.some:∀ {o:Ob},sq T μ H a o->∃ u,H a=Option.some u/\(∀ xs,u≠.Ga xs)
 | .va ds,⟨b,h,r⟩=>⟨_,h,(λ_ z=>by cases z)⟩
 | .Bc d,⟨b,h,r⟩=>⟨_,h,(λ_ z=>by cases z)⟩
 | .Ld c f,⟨e,b,h,r⟩=>⟨_,h,(λ_ z=>by cases z)⟩
 | .Xf d,⟨g,b,h,r⟩=>⟨_,h,(λ_ z=>by cases z)⟩
 | .rl ks,⟨b,h,r⟩=>⟨_,h,(λ_ z=>by cases z)⟩
theorem sq.zC:∀ {o:Ob},(∀ b,o≠.Xf b)->sq T μ H a o->∃ u,H a=Option.some u/\(∀ xs,u≠.Ga xs)/\(∀ e w,u≠.jc e w)
 | .va ds,_,⟨d,h,r⟩=>⟨_,h,(λ_ z=>by cases z),(λ_ _ z=>by cases z)⟩
 | .Bc b,_,⟨d,h,r⟩=>⟨_,h,(λ_ z=>by cases z),(λ_ _ z=>by cases z)⟩
 | .Ld c g,_,⟨f,d,h,r⟩=>⟨_,h,(λ_ z=>by cases z),(λ_ _ z=>by cases z)⟩
 | .Xf b,n,_=>absurd rfl (n b)
 | .rl ks,_,⟨d,h,r⟩=>⟨_,h,(λ_ z=>by cases z),(λ_ _ z=>by cases z)⟩
theorem Xd.keep(r:Xd T μ H σ)(e:we μ H μ H')(k:∀ a∈μ,H' a=H a)(t:Ct T μ H'):Xd T μ H' σ:=
 ⟨r.len,r.nd,λn o h=>let ⟨a,b,c⟩:=r.obs n o h;⟨a,b,c.mono e (k a (Oa b))⟩,t⟩
theorem Xd.mem(r:Xd T μ H σ)(h:a∈μ):∃ u,H a=some u/\(∀ xs,u≠.Ga xs):=by
 obtain⟨n,c⟩:=Xt h;have f:n<σ.length:=by rw[<-r.len];exact(la.mp c).1
 obtain⟨e,b,d⟩:=r.obs n σ[n] (by simp);rw[c]at b;cases b;exact d.some
theorem vm(a:H p=none):we μ H μ (rc H p o):=
 ⟨⟨[],by simp⟩,λq xs h=>by rw[me (nq h a)];exact h,λq b u h=>by rw[me (nq h a)];exact h,λq b h n=>⟨⟨b,by rw[me (nq h a)];exact h,.inl rfl⟩,n⟩⟩
theorem Xd.fresh(r:Xd T μ H σ)(c:H p=none):Xd T μ (rc H p o) σ:=
 r.keep (vm c) (λa d=>by obtain⟨u,h,_⟩:=r.mem d;rw[me (nq h c)]) (r.tb.grow λb u h=>by rw[me (nq h c)];exact h)
theorem fx(a:H p=none):we μ H (μ++[p]) (rc H p o):=
 ⟨⟨[p],rfl⟩,(vm (μ:=μ) a).Ga,(vm (μ:=μ) a).jc,λq b h n=>⟨((vm a).keep q b h n).1,λz=>(bf.mp z).elim n λz=>nq h a (by simpa using z)⟩⟩
theorem Xd.push(r:Xd T μ H σ)(c:H p=none)(q:sq T (μ++[p]) (rc H p o) p ob):Xd T (μ++[p]) (rc H p o) (σ++[ob]):=by
 refine⟨by simp[r.len],?_,λn x h=>?_,(r.tb.more c).grow λb u h=>by rw[me (nq h c)];exact h⟩
 ·rw[kf];refine⟨r.nd,by simp,λa l b m e=>?_⟩;have i:b=p:=by simpa using m
  subst i;subst e;obtain⟨u,h,_⟩:=r.mem l;rw[c]at h;cases h
 ·by_cases f:n<σ.length
  ·rw[Kb f]at h;obtain⟨a,k,d⟩:=r.obs n x h;obtain⟨u,s,_⟩:=d.some;exact⟨a,by rw[Kb (by rw[r.len];exact f)];exact k,d.mono (fx c) (me (nq s c))⟩
  ·rw[Od (by omega)]at h;have g:n - σ.length=0:=by
    have:=(la.mp h).1;simp at this;omega
   rw[g]at h;simp at h;subst h;have j:n=μ.length:=by rw[r.len];omega
   subst j;exact⟨p,by simp,q⟩
theorem rE(r:Xd T μ H σ):Qa T (μ++[p]) (rc H p o) (.ref σ.length) (.ref p):=by
 rw[Qa];exact⟨p,rfl,by rw[<-r.len];simp⟩
theorem Gw(f:a∈μ)(c:H a=some u)(d:∀ xs,u≠.Ga xs)(e:∀ b w,u≠.jc b w):we μ H μ (rc H a o):=
 ⟨⟨[],by simp⟩,λq xs h=>by rw[me (FN h c (λz=>d xs z.symm))];exact h,λq b w h=>by rw[me (FN h c (λz=>e b w z.symm))];exact h,λq b h n=>⟨⟨b,by rw[me (λz=>n (by rw[z];exact f))];exact h,.inl rfl⟩,n⟩⟩
theorem Xd.write(r:Xd T μ H σ)(d:μ[n]?=some a)(q:sq T μ (rc H a o) a ob)(t:∀ c,σ[n]?≠some (.Xf c):=by intro c z;simp_all [rj]):we μ H μ (rc H a o)/\Xd T μ (rc H a o) (σ.set n ob):=by
 obtain⟨u,s,f,g⟩:∃ u,H a=some u/\(∀ xs,u≠.Ga xs)/\(∀ ob w,u≠.jc ob w):=by
  have p:n<σ.length:=by rw[<-r.len];exact(la.mp d).1
  obtain⟨v,f,g⟩:=r.obs n σ[n] (by simp);rw[d]at f;cases f;exact g.zC λc z=>t c (by rw[Qc p,z])
 have e:we μ H μ (rc H a o):=Gw (Oa d) s f g;refine⟨e,by simp[r.len],r.nd,λm x h=>?_,r.tb.out (λb l=>me l) (.inl (Oa d))⟩;rw[Uc]at h;by_cases i:n=m
 ·subst i;rw[ja rfl]at h;split at h
  ·cases h;exact⟨a,d,q⟩
  ·cases h
 ·rw[ka i]at h;obtain⟨b,j,k⟩:=r.obs m x h;refine⟨b,j,k.mono e (me λz=>i ?_)⟩;subst z;exact fL r.nd d j
theorem Xd.at(r:Xd T μ H σ){n:Nat}{v:V}{o:Ob}(h:Qa T μ H (.ref n) v)(e:σ[n]?=some o):∃ a,v=.ref a/\μ[n]?=some a/\sq T μ H a o:=by
 obtain⟨a,rfl,c⟩:=h;obtain⟨f,b,d⟩:=r.obs n o e;rw[c]at b;cases b;exact⟨a,rfl,c,d⟩
end
noncomputable def ba(i:Nat):Ev->M D:=λa b=>match a[i]? with
 |some (some d)=>.ok d b
 |_=>.Xb
noncomputable def eC(d:D):Ev->M D:=λ_=>ret d
noncomputable def EJ(o:D->D->M D)(m:M D)(x:D):M D:=Pd m (o x)
def ya(o:D->D->M D)(a b:Ev->M D):Ev->M D:=λc=>Pd (a c) (EJ o (b c))
noncomputable def Cd(o:D->M D)(a:Ev->M D):Ev->M D:=λb=>Pd (a b) o
noncomputable def mB(d:D):M Bool:=match d with
 | .bl b=>ret b
 |_=>Xb
def Rk{a:Type}(p q:M a)(c:Bool):M a:=if c=true then p else q
noncomputable def xK(c:Bool):M Bool:=ret (!c)
def jy{a:Type}(k:Bool->M a)(d:D):M a:=Pd (mB d) k
def eT(f:Ev->M D):Ev->M Bool:=λa=>Pd (f a) mB
noncomputable def cu(a b:Ev->M Bool):Ev->M Bool:=λc=>Pd (a c) (Rk (b c) (ret false))
noncomputable def Vl(a b:Ev->M Bool):Ev->M Bool:=λc=>Pd (a c) (Rk (ret true) (b c))
def Mn(a:Ev->M Bool):Ev->M Bool:=λb=>Pd (a b) xK
noncomputable def Li(a b:Ev->M D):Ev->M D:=λc=>Pd (a c) (jy (Rk (b c) (ret (.bl false))))
noncomputable def gK(a b:Ev->M D):Ev->M D:=λc=>Pd (a c) (jy (Rk (ret (.bl true)) (b c)))
noncomputable def nM(c:Bool):M D:=ret (.bl (!c))
def VL(a:Ev->M D):Ev->M D:=λb=>Pd (a b) (jy nM)
noncomputable def dy(t:Ev->M Bool)(a b:Ev->M D):Ev->M D:=λc=>Pd (t c) (Rk (a c) (b c))
noncomputable def Ha:Ev->M (List D):=λ_=>ret []
noncomputable def WM(x:D)(xs:List D):M (List D):=ret (x::xs)
def oJ(m:M (List D))(x:D):M (List D):=Pd m (WM x)
def ia(e:Ev->M D)(r:Ev->M (List D)):Ev->M (List D):=λa=>Pd (e a) (oJ (r a))
def iu(a:List D):M D:=if a.length<=oi then ret (.Ga a)else Xb
def ee(a:Ev->M (List D)):Ev->M D:=λb=>Pd (a b) iu
noncomputable def zD(b:List D):M D:=λa=>.ok (.ref a.length) (a++[.va b])
def iF(a:List D):M D:=if a.length<=oi then zD a else Xb
def zz(a:Ev->M (List D)):Ev->M D:=λb=>Pd (a b) iF
def vy(a:List D):M D:=if a.length<=oi then ret (.va a)else Xb
def Nh(a:Ev->M (List D)):Ev->M D:=λb=>Pd (a b) vy
def zl(T:Tb)(r:R2)(o:D->D->M D):Prop:=∀ (E:XK) a H b x y v u Q,Xd T a H b->Qa T a H x v->Qa T a H y u->nc T E (Qa T) a H (o x y b) Q->r v u H Q
def ES(T:Tb)(r:V->Hp->VK->Prop)(o:D->M D):Prop:=∀ (E:XK) a H b x v Q,Xd T a H b->Qa T a H x v->nc T E (Qa T) a H (o x b) Q->r v H Q
def Hs(T:Tb)(r:List V->Hp->VK->Prop)(o:List D->M D):Prop:=∀ (E:XK) a H c xs b Q,Xd T a H c->Jb T a H xs b->nc T E (Qa T) a H (o xs c) Q->r b H Q
section
variable{T:Tb}{X:Cx}{a b c:Ua}{fa fb:Ev->M D}{ta tb:Ev->M Bool}{pos:Ve}
theorem ga(i:Nat)(j:X.N[i]?=some x:=by rfl)(n:MI X.env.scope x:=by first|exact Or.inl rfl|exact Or.inr (Or.inl rfl)|exact Or.inr (Or.inr rfl))(k:(x == ("__debug__" : Str))=false:=by decide)
  (c:(x == ("__classdict__" : Str))=false:=by decide):FE T X (.Name x pos) (ba i):=by
 intro b s p H Q I h;obtain⟨r,q,t,l,m,a⟩:=h;refine tZ j n k c b s p H Q I ?_;unfold ba at a;cases e:q[i]? with
 |none=>rw[e]at a;exact a.elim
 |some o=>
  cases o with
  |none=>rw[e]at a;exact a.elim
  |some d=>
   rw[e]at a;obtain⟨v,f,g⟩:=l.2 i d e;exact⟨v,f,a.here m g⟩
theorem HB(h:PE X e (tC v))(r:∀ b H,Qa T b H d v):FE T X e (eC d):=by
 intro a s i H Q I f;obtain⟨b,k,l,j,g,c⟩:=f;exact h a s i H Q I (nc.here c g (r _ _))
theorem Fa{j}:FE T X (.Constant (.int i) j pos) (eC (.int i)):=HB M4 λ_ _=>by rw[Qa]
theorem Xp{j}:FE T X (.Constant (.bool i) j pos) (eC (.bl i)):=HB á λ_ _=>by rw[Qa]
theorem On{j}:FE T X (.Constant .none j pos) (eC .Rb):=HB aX λ_ _=>by rw[Qa]
theorem Vd{j}:FE T X (.Constant (.str i) j pos) (eC (.str i)):=HB ð λ_ _=>by rw[Qa]
theorem Bx(b:Gl X x)(c:X.mg x=some u)(r:Qd (.int i) u)(a:(x == ("__debug__" : Str))=false:=by decide):FE T X (.Name x pos) (eC (.int i)):=HB (KM b c r a) λ_ _=>by rw[Qa]
theorem two(n:zl T r o)(h:tF T X (ya o fa fb) f H Q):aB r (tF T X fa) (tF T X fb) f H Q:=by
 obtain⟨A,g,B,e,m,l⟩:=h;exact⟨A,g,B,e,m,l.bind λx c a v C _ j w p s=>⟨a,g,c,e.mono j,w,s.bind λy d b u i _ k z q t=>n _ b i d x y v u Q z (Qa.mono k _ _ p) q t⟩⟩
theorem Rg(g:di X (ff d) r)(i:zl T r o)(e:FE T X a fa)(f:FE T X b fb):FE T X (.BinOp a d b pos) (ya o fa fb):=
 λc s j H Q I h=>ū g e f c s j H Q I (two i h)
theorem Bt(i:di X (Ub d) r)(j:zl T r o)(e:FE T X a fa)(f:FE T X b fb)(g:Pe d b=false):FE T X (.Compare a [d] [b] pos) (ya o fa fb):=
 λc s k H Q I h=>Z6 i e f g c s k H Q I (two j h)
theorem S9(f:xx X r)(i:zl T r o)(d:FE T X a fa)(e:FE T X b fb)(g:AM b):FE T X (.Subscript a b pos) (ya o fa fb):=
 λc s j H Q I h=>f7 f d e g c s j H Q I (two i h)
theorem MA(j:dH X (unaryOp e) r)(m:ES T r o)(g:FE T X a fa):FE T X (.UnaryOp e a pos) (Cd o fa):=by
 intro b s t H Q I h;refine ĳ j g b s t H Q I ?_;obtain⟨u,w,y,i,l,k⟩:=h;exact⟨u,w,y,i,l,k.bind λx d c v f _ z q n p=>m _ c f d x v Q q n p⟩
theorem rH{a:List Addr}{b:List Addr->Hp->e->f->Prop}{k:Bool->M e}{Q:f->Hp->Prop}(r:Qa T a H d v)(h:nc T E b a H (Pd (mB d) k g) Q):∃ c,d=.bl c/\v=.bl c/\nc T E b a H (k c g) Q:=by
 cases d with
 |bl c=>rw[Qa]at r;exact⟨c,rfl,r,h⟩
 |_=>exact h.elim
theorem TJ{b:nb}{a:List Addr}(r:Qa T a H d v)(h:nc T E yN a H (mB d b) Q):∃ c,v=.bl c/\nc T E yN a H (.ok c b) Q:=by
 cases d with
 |bl c=>rw[Qa]at r;exact⟨c,r,h⟩
 |_=>exact h.elim
theorem je(l:di X (Ub e) r)(p:zl T r o)(f:FE T X a fa)(g:FE T X b fb)(j:Pe e b=false):FT T X (.Compare a [e] [b] pos) (eT (ya o fa fb)):=by
 intro c s x H Q I h;refine OL l f g j c s x H Q I ?_;refine two p ?_;obtain⟨y,A,B,i,n,m⟩:=h;refine⟨y,A,B,i,n,m.bind λd C z v E _ F w t u=>?_⟩;obtain⟨k,ev,q⟩:=TJ t u;exact⟨k,ev,q.here w rfl⟩
theorem Xk(h:FE T X e f)(g:∀ a,CA e X.env a=(do let v <-a;Fk e.pos;Lg [v] (truthy v)):=by intro _;rfl):FT T X e (eT f):=by
 intro b s p H Q I l;refine L6 h g b s p H Q I ?_;obtain⟨r,u,w,c,j,i⟩:=l;refine⟨r,u,w,c,j,i.bind λd x t v y _ z o m n=>?_⟩;obtain⟨k,ev,q⟩:=TJ m n;exact⟨k,ev,q.here o rfl⟩
theorem So(h:FT T X a ta):FT T X (.UnaryOp .Not a pos) (Mn ta):=by
 intro b s l H Q I g;refine E7 h b s l H Q I ?_;obtain⟨m,o,p,d,f,e⟩:=g;exact⟨m,o,p,d,f,e.bind λc q n v r _ t k i j=>by cases i;exact j.here k rfl⟩
variable{rest:List Ua}
theorem Mw(h:FT T X a ta):FW T X (.BoolOp .And [a] pos) ta:=m3 h
theorem pp(h:FT T X a ta):FW T X (.BoolOp .Or [a] pos) ta:=fZ h
theorem Iv(h:FT T X a ta)(m:FW T X (.BoolOp .And (b::rest) pos) tb):FW T X (.BoolOp .And (a::b::rest) pos) (cu ta tb):=by
 intro t e s r H Q I p;refine â h m t e s r H Q I ?_;obtain⟨u,k,w,i,o,n⟩:=p;refine⟨u,k,w,i,o,n.bind λc g f v x _ l j q d=>?_⟩;cases q;cases c with
 |true=>unfold Rk at d;rw[ja rfl]at d ⊢;exact⟨f,k,g,i.mono l,j,d⟩
 |false=>unfold Rk at d;rw[ka yb]at d ⊢;exact d.here j rfl
theorem Nm(h:FT T X a ta)(m:FW T X (.BoolOp .Or (b::rest) pos) tb):FW T X (.BoolOp .Or (a::b::rest) pos) (Vl ta tb):=by
 intro t e s r H Q I p;refine W7 h m t e s r H Q I ?_;obtain⟨u,k,w,i,o,n⟩:=p;refine⟨u,k,w,i,o,n.bind λc g f v x _ l j q d=>?_⟩;cases q;cases c with
 |true=>unfold Rk at d;rw[ja rfl]at d ⊢;exact d.here j rfl
 |false=>unfold Rk at d;rw[ka yb]at d ⊢;exact⟨f,k,g,i.mono l,j,d⟩
theorem rn{op}(h:FE T X a fa):FE T X (.BoolOp op [a] pos) fa:=z8 h
theorem aj(h:FE T X a fa)(m:FE T X (.BoolOp .And (b::rest) pos) fb):FE T X (.BoolOp .And (a::b::rest) pos) (Li fa fb):=by
 intro e s u H Q I p;refine A7 h m e s u H Q I ?_;obtain⟨w,k,x,i,o,n⟩:=p;refine⟨w,k,x,i,o,n.bind λd g f v y _ l j r t=>?_⟩;obtain⟨c,rfl,ev,q⟩:=rH r t;refine⟨c,ev,?_⟩;cases c with
 |true=>unfold Rk at q;rw[ja rfl]at q ⊢;exact⟨f,k,g,i.mono l,j,q⟩
 |false=>unfold Rk at q;rw[ka yb]at q ⊢;exact nc.here q j (by rw[Qa])
theorem yqq(h:FE T X a fa)(m:FE T X (.BoolOp .Or (b::rest) pos) fb):FE T X (.BoolOp .Or (a::b::rest) pos) (gK fa fb):=by
 intro e s u H Q I p;refine ġ h m e s u H Q I ?_;obtain⟨w,k,x,i,o,n⟩:=p;refine⟨w,k,x,i,o,n.bind λd g f v y _ l j r t=>?_⟩;obtain⟨c,rfl,ev,q⟩:=rH r t;refine⟨c,ev,?_⟩;cases c with
 |true=>unfold Rk at q;rw[ja rfl]at q ⊢;exact nc.here q j (by rw[Qa])
 |false=>unfold Rk at q;rw[ka yb]at q ⊢;exact⟨f,k,g,i.mono l,j,q⟩
theorem rX(h:FE T X a fa):FE T X (.UnaryOp .Not a pos) (VL fa):=by
 intro b s m H Q I i;refine bX h b s m H Q I ?_;obtain⟨n,p,r,e,g,f⟩:=i;refine⟨n,p,r,e,g,f.bind λd t o v u _ w l j k=>?_⟩;obtain⟨c,rfl,ev,q⟩:=rH j k;exact⟨c,ev,nc.here q l (by rw[Qa])⟩
theorem xC(o:FT T X c ta)(m:FE T X a fa)(n:FE T X b fb):FE T X (.IfExp c a b pos) (dy ta fa fb):=by
 intro f s u H Q I r;refine n7 o m n f s u H Q I ?_;obtain⟨w,j,x,i,q,p⟩:=r;refine⟨w,j,x,i,q,p.bind λd h g v y _ k l t e=>?_⟩;cases t;cases d with
 |true=>unfold Rk at e;rw[ja rfl]at e ⊢;exact⟨g,j,h,i.mono k,l,e⟩
 |false=>unfold Rk at e;rw[ka yb]at e ⊢;exact⟨g,j,h,i.mono k,l,e⟩
variable{e:Ua}{es:List Ua}{fe:Ev->M D}{fs:Ev->M (List D)}
theorem mm:FA T X [] Ha:=by
 intro pos a s e H Q I d;refine Zz pos a s e H Q I ?_;obtain⟨g,h,i,f,c,b⟩:=d;exact nc.here b c Jb.nil
theorem Ja(k:FE T X e fe)(b:FA T X es fs)(m:ua (e::es) X.env=(false,vc e X.env)::ua es X.env:=by rfl):FA T X (e::es) (ia fe fs):=by
 intro pos a s w H Q I n;refine sx k b m pos a s w H Q I ?_;obtain⟨x,h,z,g,b,l⟩:=n;exact⟨x,h,z,g,b,l.bind λd f c v B _ i t o q=>⟨c,h,f,g.mono i,t,q.bind λD A y E C _ j u p r=>nc.here r u (Jb.cons (Qa.mono j _ _ o) p)⟩⟩
theorem DB{a:List Addr}{e:nb}{c:List V}(h:nc T E (Qa T) a H (.ok (.Ga d) e) Q)(r:Xd T a H e)(q:Jb T a H d c)(b:H p=none):Q (.ref p) (rc H p (.Ga c)):=
 h a (.ref p) _ (vm b) (r.fresh b) (by rw[Qa];exact⟨p,c,rfl,Mh,Jb.mono (vm b) _ _ q⟩)
theorem WF{a:List Addr}{e:nb}{c:List V}(h:nc T E (Qa T) a H (zD d e) Q)(r:Xd T a H e)(q:Jb T a H d c)(b:H p=none):Q (.ref p) (rc H p (.va c)):=
 h (a++[p]) (.ref p) _ (fx b) (r.push b ⟨c,Mh,Jb.mono (fx b) _ _ q⟩) (rE r)
theorem pe{x1}(h:FA T X es fs):FE T X (.Tuple es x1 pos) (ee fs):=by
 intro a s l H Q I j;refine ŋ h a s l H Q I ?_;obtain⟨m,o,q,g,i,d⟩:=j;refine⟨m,o,q,g,i,d.bind λf r n v t _ u k e b=>?_⟩;unfold iu at b;by_cases c:f.length<=oi
 ·rw[ja c]at b;exact⟨by rw[<-e.length];exact Yz c,λp d=>DB b k e d⟩
 ·rw[ka c]at b;exact b.elim
theorem SC(h:FA T X es fs):FE T X (.List es pos) (zz fs):=by
 intro a s l H Q I j;refine GV h a s l H Q I ?_;obtain⟨m,o,q,g,i,d⟩:=j;refine⟨m,o,q,g,i,d.bind λf r n v t _ u k e b=>?_⟩;unfold iF at b;by_cases c:f.length<=oi
 ·rw[ja c]at b;exact⟨by rw[<-e.length];exact Yz c,λp d=>WF b k e d⟩
 ·rw[ka c]at b;exact b.elim
theorem QH{b:List Addr}{c:List V}(h:nc T E (Qa T) b H (.ok (.va d) f) Q)(r:Xd T b H f)(q:Jb T b H d c)(a:H p=none):Q (.ref p) (rc H p (.va c)):=
 h b (.ref p) _ (vm a) (r.fresh a) (by rw[Qa];exact⟨p,c,rfl,λg=>(by obtain⟨u,e,_⟩:=r.mem g;rw[a]at e;cases e),Mh,Jb.mono (vm a) _ _ q⟩)
theorem bj(h:FA T X es fs):FE T X (.List es pos) (Nh fs):=by
 intro a s l H Q I j;refine GV h a s l H Q I ?_;obtain⟨m,o,q,g,i,d⟩:=j;refine⟨m,o,q,g,i,d.bind λf r n v t _ u k e b=>?_⟩;unfold vy at b;by_cases c:f.length<=oi
 ·rw[ja c]at b;exact⟨by rw[<-e.length];exact Yz c,λp d=>QH b k e d⟩
 ·rw[ka c]at b;exact b.elim
end
noncomputable def oI(g:Int->Int->Int):D->D->M D
 | .int i,.int j=>ret (.int (g i j))
 |_,_=>Xb
noncomputable def oB(g:Int->Int->Bool):D->D->M D
 | .int i,.int j=>ret (.bl (g i j))
 |_,_=>Xb
noncomputable def Mx(C:Int->Int->Bool)(g:Int->Int->Int):D->D->M D
 | .int i,.int j=>if C i j=true then ret (.int (g i j))else Xb
 |_,_=>Xb
def VM(i j:Int):Bool:=Cb ((decide (-(2 ^ 64)<i) && decide (i<2 ^ 64)) || (decide (-(2 ^ 64)<j) && decide (j<2 ^ 64)))
def MK(_ j:Int):Bool:=Cb (decide (0<j) && decide (j<1073741824))
def MM(_ j:Int):Bool:=Cb (decide (0<j))
def vx(i j:Int):Bool:=Cb (decide (0<=j) && decide (j<=1000000) && decide (i.natAbs<2 ^ 64))
def BM(_ j:Int):Bool:=Cb (decide (0<=j))
abbrev dB:=oI (λi j=>i - j)
abbrev Dt:=Mx VM (λi j=>i * j)
abbrev du:=Mx MK (λi j=>i / j)
abbrev zo:=Mx MM (λi j=>i % j)
abbrev Vm:=Mx vx (λi j=>i ^ j.toNat)
abbrev dF:=Mx BM (λi j=>i / 2 ^ j.toNat)
abbrev NG:=oI (λi j=>dg i j)
abbrev oLt:=oB (λi j=>decide (i<j))
abbrev oLe:=oB (λi j=>decide (i<=j))
abbrev ky:=oB (λi j=>decide (j<i))
abbrev tH:=oB (λi j=>decide (j<=i))
noncomputable def Ny:D->M D
 | .int i=>ret (.int (-i))
 |_=>Xb
noncomputable def rD(T:Tb)(o:D->D->M D):R2:=λv u H Q=>∃ (E:XK) (a:List Addr) (σ:nb) (x y:D),Xd T a H σ/\Qa T a H x v/\Qa T a H y u/\nc T E (Qa T) a H (o x y σ) Q
theorem pf:zl T (rD T o) o:=λE a H b x y v u Q r p q h=>⟨E,a,b,x,y,r,p,q,h⟩
section
variable{T:Tb}{X:Cx}
theorem pq(h:Qa T a H (.int i) v):v=.int i:=by simpa [Qa]using h
theorem VV:zl T (mr λi j=>.int (g i j)) (oI g):=by
 intro E a H b x y v u Q r p q h;cases x with
 |int i=>
  cases y with
  |int j=>exact⟨i,j,pq p,pq q,nc.here h r (by rw[Qa])⟩
  |_=>exact h.elim
 |_=>exact h.elim
theorem RG:zl T (mr λi j=>.bl (g i j)) (oB g):=by
 intro E a H b x y v u Q r p q h;cases x with
 |int i=>
  cases y with
  |int j=>exact⟨i,j,pq p,pq q,nc.here h r (by rw[Qa])⟩
  |_=>exact h.elim
 |_=>exact h.elim
theorem VD(d:∀ i j,C i j=true->b i j):zl T (rI b λi j=>.int (g i j)) (Mx C g):=by
 intro E f H k x y v u Q r p q h;cases x with
 |int i=>
  cases y with
  |int j=>
   by_cases a:C i j=true
   ·have c:nc T E (Qa T) f H (ret (.int (g i j)) k) Q:=by
     have e:Mx C g (.int i) (.int j)=ret (.int (g i j)):=by show (if C i j=true then _ else _)=_;rw[ja a]
     rw[e]at h;exact h
    exact⟨i,j,pq p,pq q,d i j a,nc.here c r (by rw[Qa])⟩
   ·have e:Mx C g (.int i) (.int j)=Xb:=by show (if C i j=true then _ else _)=_;rw[ka a]
    rw[e]at h;exact h.elim
  |_=>exact h.elim
 |_=>exact h.elim
theorem bF:zl T (mr λi j=>.int (i - j)) dB:=VV
theorem mF:zl T (rI bI λi j=>.int (i * j)) Dt:=VD λi j h=>by
 simp only[VM,ms,Kg,La,jd]at h;exact h
theorem pv:zl T (rI ZR λi j=>.int (i / j)) du:=VD λi j h=>by
 simp only[MK,ms,La,jd]at h;exact h
theorem Dq:zl T (rI (λ_ j=>0<j) λi j=>.int (i % j)) zo:=VD λi j h=>by
 simp only[MM,ms,jd]at h;exact h
theorem Js:zl T (rI UO λi j=>.int (i ^ j.toNat)) Vm:=VD λi j h=>by
 simp only[vx,ms,La,jd]at h;exact⟨h.1.1,h.1.2,h.2⟩
theorem Z8:zl T (rI (λ_ j=>0<=j) λi j=>.int (i / 2 ^ j.toNat)) dF:=VD λi j h=>by
 simp only[BM,ms,jd]at h;exact h
theorem Ó:zl T (mr λi j=>.int (dg i j)) NG:=VV
theorem Gz:zl T (mr λi j=>.bl (decide (i<j))) oLt:=RG
theorem iT:zl T (mr λi j=>.bl (decide (i<=j))) oLe:=RG
theorem ZA:zl T (mr λi j=>.bl (decide (j<i))) ky:=RG
theorem YJ:zl T (mr λi j=>.bl (decide (j<=i))) tH:=RG
theorem BB:ES T (rU λi=>.int (-i)) Ny:=by
 intro E a H b x v Q r p h;cases x with
 |int i=>exact⟨i,pq p,nc.here h r (by rw[Qa])⟩
 |_=>exact h.elim
end
noncomputable def sc:D->Option V
 | .Rb=>some .Rb
 | .bl b=>some (.bl b)
 | .int i=>some (.int i)
 | .str x=>some (.str x)
 |_=>none
noncomputable def rj(a:nb)(n:Nat):Option (List D):=match a[n]? with
 |some (.va xs)=>some xs
 |_=>none
theorem BV{xs:List D}(h:rj a n=some xs):a[n]?=some (.va xs):=by
 unfold rj at h;cases e:a[n]? with
 |none=>rw[e]at h;cases h
 |some o=>rw[e]at h;cases o<;>simp at h;subst h;rfl
inductive Kd where
 |s (v:V)|t (xs:List D)|l (xs:List D)|o
def kd(a:nb):D->Kd
 | .Rb=>.s .Rb
 | .bl b=>.s (.bl b)
 | .int i=>.s (.int i)
 | .str x=>.s (.str x)
 | .Ga xs=>.t xs
 | .va xs=>.l xs
 | .ref n=>match rj a n with
  |some xs=>.l xs
  |none=>.o
 |_=>.o
noncomputable def Bp(f:D->D->Option Bool):List D->List D->Option Bool
 |[],[]=>some true
 |[],_::_=>some false
 |_::_,[]=>some false
 |x::xs,y::a=>match f x y,Bp f xs a with
  |some b,some c=>some (b && c)
  |_,_=>none
def To(f:D->D->Option Bool):Kd->Kd->Option Bool
 | .s a,.s b=>some (Zj a b)
 | .t xs,.t c=>Bp f xs c
 | .l xs,.l c=>Bp f xs c
 | .s _,.t _=>some false
 | .t _,.s _=>some false
 | .s _,.l _=>some false
 | .l _,.s _=>some false
 | .t _,.l _=>some false
 | .l _,.t _=>some false
 |_,_=>none
def yj(a:nb):Nat->D->D->Option Bool
 |0,x,y=>To (λ_ _=>none) (kd a x) (kd a y)
 |n+1,x,y=>To (yj a n) (kd a x) (kd a y)
noncomputable def uu(f:D->D->Option Bool)(xs c:List D)(j:Nat):Bool:=match xs[j]?,c[j]? with
 |some a,some b=>(f a b).getD false
 |_,_=>false
theorem tR(f:D->D->Option Bool):∀ (xs d:List D) (b:Bool),Bp f xs d=some b->
  (∀ (j:Nat) (a c:D),xs[j]?=some a->d[j]?=some c->∃ k,f a c=some k)/\b=((List.range (min xs.length d.length)).all (uu f xs d) && xs.length == d.length)
 |[],[],b,h=>by simp[Bp]at h;subst h;simp
 |[],y::d,b,h=>by simp[Bp]at h;subst h;simp
 |x::xs,[],b,h=>by simp[Bp]at h;subst h;simp
 |x::xs,y::d,b,h=>by
  unfold Bp at h;cases e:f x y with
  |none=>rw[e]at h;cases h
  |some m=>
   cases g:Bp f xs d with
   |none=>rw[e,g]at h;cases h
   |some n=>
    rw[e,g]at h;cases h;obtain⟨t,u⟩:=tR f xs d n g;refine⟨λj a c i l=>?_,?_⟩
    ·cases j with
     |zero=>simp at i l;subst i;subst l;exact⟨m,e⟩
     |succ j=>exact t j a c (by simpa using i) (by simpa using l)
    ·have o:min (x::xs).length (y::d).length=min xs.length d.length+1:=by simp
     have p:∀ j,uu f (x::xs) (y::d) (j+1)=uu f xs d j:=λj=>by simp[uu]
     have q:uu f (x::xs) (y::d) 0=m:=by simp[uu,e]
     rw[o,Wr,Tf,Xr,q,u];have r:(uu f (x::xs) (y::d) ∘ Nat.succ)=uu f xs d:=funext λj=>p j;have s:((x::xs).length == (y::d).length)=(xs.length == d.length):=by simp
     rw[r,s,Zy]
section
variable{T:Tb}{μ:List Addr}{H:Hp}{σ:nb}
theorem Xd.va(r:Xd T μ H σ){n:Nat}{v:V}{xs:List D}(h:Qa T μ H (.ref n) v)(e:rj σ n=some xs):∃ a b,v=.ref a/\μ[n]?=some a/\H a=some (.va b)/\Jb T μ H xs b:=by
 obtain⟨a,rfl,c,b,d,f⟩:=r.at h (BV e);exact⟨a,b,rfl,c,d,f⟩
theorem eH(h:Qa T μ H d v)(e:sc d=some a):v=a:=by
 cases d<;>simp[sc]at e<;>subst e<;>simpa [Qa]using h
theorem SS(e:sc d=some a):xj a=true:=by
 cases d<;>simp[sc]at e<;>subst e<;>rfl
theorem D4(h:xj a=true):Zj a a=true:=by cases a<;>simp[xj,Zj]at h ⊢
theorem Iy(r:Xd T μ H σ){d:D}{v:V}(h:Qa T μ H d v):match kd σ d with
  | .s a=>v=a/\xj a=true
  | .t xs=>∃ p c,v=.ref p/\H p=some (.Ga c)/\Jb T μ H xs c
  | .l xs=>∃ p c,v=.ref p/\H p=some (.va c)/\Jb T μ H xs c
  | .o=>True:=by
 cases d with
 |Rb=>exact⟨by simpa [Qa]using h,rfl⟩
 |bl b=>exact⟨by simpa [Qa]using h,rfl⟩
 |int b=>exact⟨by simpa [Qa]using h,rfl⟩
 |str b=>exact⟨by simpa [Qa]using h,rfl⟩
 |Ga xs=>rw[Qa]at h;exact h
 |va xs=>rw[Qa]at h;obtain⟨a,c,f,_,g,i⟩:=h;exact⟨a,c,f,g,i⟩
 |ref n=>
  unfold kd;dsimp only;cases e:rj σ n with
  |none=>trivial
  |some xs=>obtain⟨a,c,f,_,g,i⟩:=r.va h e;exact⟨a,c,f,g,i⟩
 |_=>trivial
theorem yM{f:D->D->Option Bool}(j:∀ (x y:D) (v:V) (b:Bool),Qa T μ H x v->Qa T μ H y v->f x y=some b->b=true):∀ (xs a:List D) (g:List V) (b:Bool),Jb T μ H xs g->Jb T μ H a g->Bp f xs a=some b->b=true
 |[],a,g,b,d,c,h=>by
  rw[Jb]at d;subst d;cases a with
  |nil=>simp[Bp]at h;exact h
  |cons y a=>rw[Jb]at c;obtain⟨_,_,z,_⟩:=c;cases z
 |x::xs,a,g,b,d,c,h=>by
  rw[Jb]at d;obtain⟨v,r,rfl,m,o⟩:=d;cases a with
  |nil=>rw[Jb]at c;cases c
  |cons y a=>
   rw[Jb]at c;obtain⟨s,q,z,n,p⟩:=c;cases z;unfold Bp at h;cases e:f x y with
   |none=>rw[e]at h;cases h
   |some k=>
    cases i:Bp f xs a with
    |none=>rw[e,i]at h;cases h
    |some l=>
     rw[e,i]at h;cases h;rw[j x y v k m n e,yM j xs a r l o p i];rfl
theorem EL(r:Xd T μ H σ)(z:∀ (x y:D) (v:V) (b:Bool),Qa T μ H x v->Qa T μ H y v->f x y=some b->b=true)(A:Qa T μ H x v)(B:Qa T μ H y v)(h:To f (kd σ x) (kd σ y)=some b):b=true:=by
 have n:=Iy r A;have g:=Iy r B;generalize kd σ x=C at h n;generalize kd σ y=u at h g;cases C with
 |s a=>
  obtain⟨rfl,fa⟩:=n;cases u with
  |s c=>obtain⟨rfl,_⟩:=g;cases h;exact D4 fa
  |t xs=>obtain⟨p,k,rfl,_⟩:=g;simp[xj]at fa
  |l xs=>obtain⟨p,k,rfl,_⟩:=g;simp[xj]at fa
  |o=>cases h
 |t xs=>
  obtain⟨p,k,rfl,i,w⟩:=n;cases u with
  |s c=>obtain⟨e,fa⟩:=g;rw[<-e]at fa;simp[xj]at fa
  |t m=>
   obtain⟨q,ws,e,d,j⟩:=g;cases e;rw[i]at d;cases d;exact yM z xs m k b w j h
  |l m=>obtain⟨q,ws,e,d,j⟩:=g;cases e;rw[i]at d;cases d
  |o=>cases h
 |l xs=>
  obtain⟨p,k,rfl,i,w⟩:=n;cases u with
  |s c=>obtain⟨e,fa⟩:=g;rw[<-e]at fa;simp[xj]at fa
  |t m=>obtain⟨q,ws,e,d,j⟩:=g;cases e;rw[i]at d;cases d
  |l m=>
   obtain⟨q,ws,e,d,j⟩:=g;cases e;rw[i]at d;cases d;exact yM z xs m k b w j h
  |o=>cases h
 |o=>cases h
theorem iS(r:Xd T μ H σ):∀ (n:Nat) (x y:D) (v:V) (b:Bool),Qa T μ H x v->Qa T μ H y v->yj σ n x y=some b->b=true
 |0,x,y,v,b,a,c,h=>EL r (λ_ _ _ _ _ _ z=>by cases z) a c h
 |n+1,x,y,v,b,a,c,h=>EL r (λx y v b d e f=>iS r n x y v b d e f) a c h
end
section
variable{T:Tb}{X:Cx}{pins:List (Addr × Vc)}{st:St}{μ:List Addr}{H:Hp}{s:aa}{σ:nb}
theorem EH(fa:xj a=true)(r:Qd a u)(c:s.heap.IsTuple p e)(d:A.units<cLine):ae A s u (.ref p) false/\ae A s (.ref p) u false/\ni A s u (.ref p) false/\ni A s (.ref p) u false/\ci A s u (.ref p) true/\ci A s (.ref p) u true:=by
 cases a with
 |Rb=>cases r;exact⟨.none_tuple c d,.tuple_none c d,.none_tuple c d,.tuple_none c d,.none_tuple c d,.tuple_none c d⟩
 |bl b=>cases r;exact⟨.bool_tuple b c d,.tuple_bool b c d,.bool_tuple b c d,.tuple_bool b c d,.bool_tuple b c d,.tuple_bool b c d⟩
 |int b=>obtain⟨t,rfl⟩:=r;exact⟨.int_tuple b t c d,.tuple_int b t c d,.int_tuple b t c d,.tuple_int b t c d,.int_tuple b t c d,.tuple_int b t c d⟩
 |str b=>obtain⟨t,rfl⟩:=r;exact⟨.str_tuple b t c d,.tuple_str b t c d,.str_tuple b t c d,.tuple_str b t c d,.str_tuple b t c d,.tuple_str b t c d⟩
 |_=>simp[xj]at fa
theorem sQ(fa:xj a=true)(r:Qd a u)(c:s.heap.IsList p e)(d:A.units<cLine):ni A s u (.ref p) false/\ni A s (.ref p) u false/\ci A s u (.ref p) true/\ci A s (.ref p) u true:=by
 cases a with
 |Rb=>cases r;exact⟨.none_list c d,.list_none c d,.none_list c d,.list_none c d⟩
 |bl b=>cases r;exact⟨.bool_list b c d,.list_bool b c d,.bool_list b c d,.list_bool b c d⟩
 |int b=>obtain⟨t,rfl⟩:=r;exact⟨.int_list b t c d,.list_int b t c d,.int_list b t c d,.list_int b t c d⟩
 |str b=>obtain⟨t,rfl⟩:=r;exact⟨.str_list b t c d,.list_str b t c d,.str_list b t c d,.list_str b t c d⟩
 |_=>simp[xj]at fa
theorem zhs(fa:xj a=true)(r:Qd a u)(c:s.heap.IsList p e)(d:A.units<cLine):ae A s u (.ref p) false:=by
 cases a with
 |Rb=>cases r;exact .none_list c d
 |bl b=>cases r;exact .bool_list b c d
 |int b=>obtain⟨t,rfl⟩:=r;exact .int_list b t c d
 |str b=>obtain⟨t,rfl⟩:=r;exact .str_list b t c d
 |_=>simp[xj]at fa
theorem D9(fa:xj a=true)(r:Qd a u)(c:s.heap.IsList p e)(d:A.units<cLine):ae A s (.ref p) u false:=by
 cases a with
 |Rb=>cases r;exact .list_none c d
 |bl b=>cases r;exact .list_bool b c d
 |int b=>obtain⟨t,rfl⟩:=r;exact .list_int b t c d
 |str b=>obtain⟨t,rfl⟩:=r;exact .list_str b t c d
 |_=>simp[xj]at fa
theorem J0(f:Qd a u)(d:Qd b w)(fa:xj a=true)(e:xj b=true):ni A s u w (Zj a b)/\ci A s u w (!Zj a b):=by
 cases a with
 |Rb=>
  cases f;cases b with
  |Rb=>cases d;exact⟨.none_none,.none_none⟩
  |bl y=>cases d;exact⟨.none_bool y,.none_bool y⟩
  |int y=>obtain⟨t,rfl⟩:=d;exact⟨.none_int y t,.none_int y t⟩
  |str y=>obtain⟨t,rfl⟩:=d;exact⟨.none_str y t,.none_str y t⟩
  |_=>simp[xj]at e
 |bl x=>
  cases f;cases b with
  |Rb=>cases d;exact⟨.bool_none x,.bool_none x⟩
  |bl y=>cases d;exact⟨.bool_bool x y,.bool_bool x y⟩
  |int y=>obtain⟨t,rfl⟩:=d;exact⟨.bool_int x y t,.bool_int x y t⟩
  |str y=>obtain⟨t,rfl⟩:=d;exact⟨.bool_str x y t,.bool_str x y t⟩
  |_=>simp[xj]at e
 |int x=>
  obtain⟨c,rfl⟩:=f;cases b with
  |Rb=>cases d;exact⟨.int_none x c,.int_none x c⟩
  |bl y=>cases d;exact⟨.int_bool x c y,.int_bool x c y⟩
  |int y=>obtain⟨t,rfl⟩:=d;exact⟨.int_int x c y t,.int_int x c y t⟩
  |str y=>obtain⟨t,rfl⟩:=d;exact⟨.int_str x c y t,.int_str x c y t⟩
  |_=>simp[xj]at e
 |str x=>
  obtain⟨c,rfl⟩:=f;cases b with
  |Rb=>cases d;exact⟨.str_none x c,.str_none x c⟩
  |bl y=>cases d;exact⟨.str_bool x c y,.str_bool x c y⟩
  |int y=>obtain⟨t,rfl⟩:=d;exact⟨.str_int x c y t,.str_int x c y t⟩
  |str y=>obtain⟨t,rfl⟩:=d;exact⟨.str_str x c y t,.str_str x c y t⟩
  |_=>simp[xj]at e
 |_=>simp[xj]at fa
theorem iI{xs:List V}{i:Nat}(r:Se xs b)(h:b[i]?=some u):∃ x,xs[i]?=some x/\Qd x u:=by
 have e:=r.length;have d:=(la.mp h).1;obtain⟨f,a,c⟩:=r.get (i:=i) (x:=xs[i]'(by omega)) (by simp);rw[h]at a;cases a;exact⟨_,by simp,c⟩
theorem CJ{i:Nat}(r:Jb T μ H a c)(h:c[i]?=some v):∃ d,a[i]?=some d/\Qa T μ H d v:=by
 have g:=r.length;have f:=(la.mp h).1;obtain⟨j,b,e⟩:=r.get (i:=i) (d:=a[i]'(by omega)) (by simp);rw[h]at b;cases b;exact⟨_,by simp,e⟩
theorem SJ(I:∀ (x y:D) (v w:V) (z C:Value) (b:Bool),Qa T μ H x v->Qa T μ H y w->Qd v z->Qd w C->f x y=some b->ae A s z C b)
  {xs c:List D} (r:Jb T μ H xs B) (t:Jb T μ H c ws) (p:Se B a) (q:Se ws d) (h:Bp f xs c=some b) :
  (∀ j (n:j<a.toArray.size) (o:j<d.toArray.size),ae A s a.toArray[j] d.toArray[j] (uu f xs c j))/\b=((List.range (min a.toArray.size d.toArray.size)).all (uu f xs c) && a.toArray.size == d.toArray.size):=by
 obtain⟨n,o⟩:=tR f xs c b h;have l1:=r.length;have l2:=t.length;have J:=p.length;have K:=q.length;refine⟨λj N O=>?_,?_⟩
 ·obtain⟨v,E,M⟩:=iI (i:=j) (u:=a.toArray[j]) p (by simp);obtain⟨w,F,e⟩:=iI (i:=j) (u:=d.toArray[j]) q (by simp);obtain⟨x,g,L⟩:=CJ r E;obtain⟨y,l,p4⟩:=CJ t F;obtain⟨k,m⟩:=n j x y g l;have G:uu f xs c j=k:=by simp[uu,g,l,m]
  rw[G];exact I x y v w _ _ k L p4 M e m
 ·simp only[za];rw[o,l1,l2,J,K]
abbrev sV(A:Ta)(s:aa)(v w:Value)(b:Bool):Prop:=ni A s v w b/\ci A s v w (!b)
theorem fN(I:lb X pins st H s)(r:Xd T μ H σ)(hu:A.units+1<cLine)
  (Z:∀ (x y:D) (v w:V) (N O:Value) (b:Bool),Qa T μ H x v->Qa T μ H y w->Qd v N->Qd w O->f x y=some b->ae A.in1 s N O b) (hx:Qa T μ H x v) (hy:Qa T μ H y w) (M:Qd v N) (d:Qd w O) (h:To f (kd σ x) (kd σ y)=some b):sV A s N O b:=by
 have g:A.units<cLine:=by omega
 have Q:=Iy r hx;have k:=Iy r hy;generalize kd σ x=k1 at h Q;generalize kd σ y=S at h k;cases k1 with
 |o=>cases h
 |s a=>
  obtain⟨rfl,fa⟩:=Q;cases S with
  |o=>cases h
  |s c=>obtain⟨rfl,J⟩:=k;cases h;exact J0 M d fa J
  |t B=>
   obtain⟨q,ws,rfl,j,u⟩:=k;cases h;cases d;obtain⟨its,_,n,_⟩:=L2.lb.tuple I (qi.of j);obtain⟨_,_,C,E,F,G⟩:=EH fa M n g;exact⟨C,F⟩
  |l B=>
   obtain⟨q,ws,rfl,j,u⟩:=k;cases h;cases d;obtain⟨its,_,pl,_⟩:=L2.lb.list I (Rf.of j);obtain⟨C,E,F,G⟩:=sQ fa M pl.isList g;exact⟨C,F⟩
 |t xs=>
  obtain⟨p,vs,rfl,R,Y⟩:=Q;cases M;obtain⟨its,U,L,_⟩:=L2.lb.tuple I (qi.of R);cases S with
  |o=>cases h
  |s c=>
   obtain⟨rfl,J⟩:=k;cases h;obtain⟨_,_,C,E,F,G⟩:=EH J d L g;exact⟨E,G⟩
  |t B=>
   obtain⟨q,ws,rfl,j,u⟩:=k;cases d;obtain⟨i,W,n,_⟩:=L2.lb.tuple I (qi.of j);obtain⟨K,P⟩:=SJ Z Y u U W h;rw[P];exact⟨.tuples L n (by omega) K,.tuples L n (by omega) K⟩
  |l B=>
   obtain⟨q,ws,rfl,j,u⟩:=k;cases h;cases d;obtain⟨i,_,pl,_⟩:=L2.lb.list I (Rf.of j);exact⟨.tuple_list L pl.isList g,.tuple_list L pl.isList g⟩
 |l xs=>
  obtain⟨p,vs,rfl,R,Y⟩:=Q;cases M;obtain⟨its,U,pl,_⟩:=L2.lb.list I (Rf.of R);cases S with
  |o=>cases h
  |s c=>
   obtain⟨rfl,J⟩:=k;cases h;obtain⟨C,E,F,G⟩:=sQ J d pl.isList g;exact⟨E,G⟩
  |t B=>
   obtain⟨q,ws,rfl,j,u⟩:=k;cases h;cases d;obtain⟨i,_,n,_⟩:=L2.lb.tuple I (qi.of j);exact⟨.list_tuple pl.isList n g,.list_tuple pl.isList n g⟩
  |l B=>
   obtain⟨q,ws,rfl,j,u⟩:=k;cases d;obtain⟨i,W,m,_⟩:=L2.lb.list I (Rf.of j);obtain⟨K,P⟩:=SJ Z Y u U W h;by_cases z:its.toArray.size=i.toArray.size
   ·have e:b=(List.range its.toArray.size).all (uu f xs B):=by rw[P,<-z];simp
    rw[e];exact⟨.lists pl.isList m.isList z (by omega) K,.lists pl.isList m.isList z (by omega) K⟩
   ·have e:b=false:=by rw[P,Oe.mpr z,nk]
    rw[e];exact⟨.lists_lengths pl.isList m.isList (by simpa using z) (by omega),.lists_lengths pl.isList m.isList (by simpa using z) (by omega)⟩
theorem FR(I:lb X pins st H s)(r:Xd T μ H σ)(S:A.units+1<cLine)
  (O:∀ (x y:D) (v w:V) (B C:Value) (b:Bool),Qa T μ H x v->Qa T μ H y w->Qd v B->Qd w C->f x y=some b->ae A.in1 s B C b)
  (R:∀ (x y:D) (v:V) (b:Bool),Qa T μ H x v->Qa T μ H y v->f x y=some b->b=true) (E:Qa T μ H x v) (F:Qa T μ H y w) (m:Qd v B) (d:Qd w C) (h:To f (kd σ x) (kd σ y)=some b):ae A s B C b:=by
 have j:A.units<cLine:=by omega
 have G:=(fN I r S O E F m d h).1;by_cases i:v=w
 ·subst i;have N:=EL r R E F h;have k:=Iy r E;have g:=Iy r F;generalize kd σ x=L at h k;generalize kd σ y=z at h g;cases L with
  |o=>cases h
  |s a=>
   obtain⟨rfl,fa⟩:=k;cases z with
   |o=>cases h
   |s c=>obtain⟨rfl,n⟩:=g;cases h;exact jL m d fa n
   |t u=>obtain⟨q,ws,e,_⟩:=g;rw[e]at fa;simp[xj]at fa
   |l u=>obtain⟨q,ws,e,_⟩:=g;rw[e]at fa;simp[xj]at fa
  |t xs=>
   obtain⟨p,M,rfl,_⟩:=k;cases m;cases d;rw[N];exact Ll _
  |l xs=>
   obtain⟨p,M,rfl,_⟩:=k;cases m;cases d;rw[N];exact Ll _
 ·have k:=Iy r E;have g:=Iy r F;generalize kd σ x=L at h k;generalize kd σ y=z at h g;cases L with
  |o=>cases h
  |s a=>
   obtain⟨rfl,fa⟩:=k;cases z with
   |o=>cases h
   |s c=>obtain⟨rfl,n⟩:=g;cases h;exact jL m d fa n
   |t u=>
    obtain⟨q,ws,rfl,K,W⟩:=g;cases h;cases d;obtain⟨its,_,Q,_⟩:=L2.lb.tuple I (qi.of K);exact(EH fa m Q j).1
   |l u=>
    obtain⟨q,ws,rfl,K,W⟩:=g;cases h;cases d;obtain⟨its,_,pl,_⟩:=L2.lb.list I (Rf.of K);exact zhs fa m pl.isList j
  |t xs=>
   obtain⟨p,M,rfl,J,U⟩:=k;cases m;cases z with
   |o=>cases h
   |s c=>
    obtain⟨rfl,n⟩:=g;cases h;obtain⟨its,_,P,_⟩:=L2.lb.tuple I (qi.of J);exact(EH n d P j).2.1
   |t u=>obtain⟨q,ws,rfl,_⟩:=g;cases d;exact .of_refs (λe=>i (by rw[e])) G
   |l u=>obtain⟨q,ws,rfl,_⟩:=g;cases d;exact .of_refs (λe=>i (by rw[e])) G
  |l xs=>
   obtain⟨p,M,rfl,J,U⟩:=k;cases m;cases z with
   |o=>cases h
   |s c=>
    obtain⟨rfl,n⟩:=g;cases h;obtain⟨its,_,pl,_⟩:=L2.lb.list I (Rf.of J);exact D9 n d pl.isList j
   |t u=>obtain⟨q,ws,rfl,_⟩:=g;cases d;exact .of_refs (λe=>i (by rw[e])) G
   |l u=>obtain⟨q,ws,rfl,_⟩:=g;cases d;exact .of_refs (λe=>i (by rw[e])) G
theorem jI(I:lb X pins st H s)(r:Xd T μ H σ):∀ (n:Nat) (A:Ta) (x y:D) (v w:V) (c d:Value) (b:Bool),A.units+n+1<cLine->Qa T μ H x v->Qa T μ H y w->Qd v c->Qd w d->yj σ n x y=some b->ae A s c d b
 |0,A,x,y,v,w,c,d,b,o,i,j,k,a,h=>FR I r (by omega) (λ_ _ _ _ _ _ _ _ _ _ _ z=>by cases z) (λ_ _ _ _ _ _ z=>by cases z) i j k a h
 |n+1,A,x,y,v,w,c,d,b,o,i,j,k,a,h=>FR I r (by omega) (λx y v w c d b e f g l m=>jI I r n A.in1 x y v w c d b (by show A.units+1+n+1<cLine;omega) e f g l m) (λx y v b e f g=>iS r n x y v b e f g) i j k a h
theorem ZU(I:lb X pins st H s)(r:Xd T μ H σ)(n:Nat)(o:A.units+n+1<cLine)(e:Qa T μ H x v)(f:Qa T μ H y w)(g:Qd v c)(a:Qd w d)(h:yj σ n x y=some b):sV A s c d b:=by
 cases n with
 |zero=>exact fN I r (by omega) (λ_ _ _ _ _ _ _ _ _ _ _ z=>by cases z) e f g a h
 |succ n=>exact fN I r (by omega) (λx y v w c d b i j k l m=>jI I r n A.in1 x y v w c d b (by show A.units+1+n+1<cLine;omega) i j k l m) e f g a h
end
section
variable{T:Tb}{X:Cx}{pins:List (Addr × Vc)}{st:St}{μ:List Addr}{H:Hp}{s:aa}{σ:nb}
def se(x y:D):M D:=λσ=>match yj σ 8 x y with
 |some b=>.ok (.bl b) σ
 |none=>.Xb
def uh(x y:D):M D:=λσ=>match yj σ 8 x y with
 |some b=>.ok (.bl (!b)) σ
 |none=>.Xb
theorem Sg(i:X.A.units+9<cLine):di X (Ub .Eq) (rD T se):=by
 intro pins s st H v u k j Q I g f h;obtain⟨E,μ,σ,x,y,r,c,d,a⟩:=h;unfold se at a;cases e:yj σ 8 x y with
 |none=>rw[e]at a;exact a.elim
 |some b=>
  rw[e]at a;have:=(ZU I r 8 (by omega) c d g f e).1 X.prog X.w X.xe (EP X pins st Q) ⟨.bl b,H,I,rfl,nc.here a r (by rw[Qa])⟩;exact this
theorem Lp(i:X.A.units+9<cLine):di X (Ub .NotEq) (rD T uh):=by
 intro pins s st H v u k j Q I g f h;obtain⟨E,μ,σ,x,y,r,c,d,a⟩:=h;unfold uh at a;cases e:yj σ 8 x y with
 |none=>rw[e]at a;exact a.elim
 |some b=>
  rw[e]at a;have:=(ZU I r 8 (by omega) c d g f e).2 X.prog X.w X.xe (EP X pins st Q) ⟨.bl (!b),H,I,rfl,nc.here a r (by rw[Qa])⟩;exact this
noncomputable def Wp(x y:D):M D:=λσ=>match y with
 | .Rb=>(match x with
  | .Rb=>.ok (.bl true) σ
  |_=>.ok (.bl false) σ)
 |_=>.Xb
noncomputable def xy(x y:D):M D:=λσ=>match y with
 | .Rb=>(match x with
  | .Rb=>.ok (.bl false) σ
  |_=>.ok (.bl true) σ)
 |_=>.Xb
theorem dO(h:Qa T μ H x v):decide (v=.Rb)=(match x with | .Rb=>true|_=>false):=by
 cases x with
 |Rb=>rw[Qa]at h;subst h;rfl
 |Ga ds=>rw[Qa]at h;obtain⟨p,_,rfl,_⟩:=h;simp
 |Uf ds=>rw[Qa]at h;obtain⟨p,rfl,_⟩:=h;simp
 |ref ds=>rw[Qa]at h;obtain⟨p,rfl,_⟩:=h;simp
 |va ds=>rw[Qa]at h;obtain⟨p,_,rfl,_⟩:=h;simp
 |Bc ks ds=>rw[Qa]at h;obtain⟨p,_,rfl,_⟩:=h;simp
 |obj c ks ds=>rw[Qa]at h;obtain⟨p,_,_,rfl,_⟩:=h;simp
 |bu c=>rw[Qa]at h;obtain⟨p,_,rfl,_⟩:=h;simp
 |gt ds=>rw[Qa]at h;obtain⟨p,rfl,_⟩:=h;simp
 |_=>rw[Qa]at h;subst h;simp
theorem rA:zl T (λx y H Q=>y=.Rb/\Q (.bl (decide (x=.Rb))) H) Wp:=by
 intro E μ H σ x y v u Q r p q h;cases y with
 |Rb=>
  refine⟨by rw[Qa]at q;exact q,?_⟩;rw[dO p];cases x<;>exact nc.here h r (by rw[Qa])
 |_=>exact h.elim
theorem zN:zl T (λx y H Q=>y=.Rb/\Q (.bl (!decide (x=.Rb))) H) xy:=by
 intro E μ H σ x y v u Q r p q h;cases y with
 |Rb=>
  refine⟨by rw[Qa]at q;exact q,?_⟩;rw[dO p];cases x<;>exact nc.here h r (by rw[Qa]<;>rfl)
 |_=>exact h.elim
theorem L1(r:Jb T μ H a b)(h:Ds a k=some d):∃ v,Ds b k=some v/\Qa T μ H d v:=by
 unfold Ds at h ⊢;rw[<-r.length];cases e:Qt a.length k with
 |none=>rw[e]at h;cases h
 |some j=>rw[e]at h;exact r.get h
theorem nE:∀ (a:List Int),Jb T μ H (a.map D.int) (a.map V.int)
 |[]=>Jb.nil
 |n::a=>Jb.cons (by rw[Qa]) (nE a)
def zk(σ:nb):D->Option (List D)
 | .Ga xs=>some xs
 | .Uf ns=>some (ns.map D.int)
 | .ref n=>rj σ n
 | .va xs=>some xs
 | .gt ss=>some (ss.map D.str)
 |_=>none
def Ma(x i:D):M D:=λσ=>match i with
 | .int k=>(match zk σ x with
  |some xs=>(match Ds xs k with
   |some d=>.ok d σ
   |none=>.Xb)
  |none=>.Xb)
 |_=>.Xb
theorem VG:∀ (a:List Str),Jb T μ H (a.map D.str) (a.map V.str)
 |[]=>Jb.nil
 |n::ns=>Jb.cons (by rw[Qa]) (VG ns)
theorem wz(r:Xd T μ H σ){xs:List D}(h:Qa T μ H x v)(e:zk σ x=some xs):∃ p c,v=.ref p/\Jb T μ H xs c/\(Rf T.K H p c\/qi T.K H p c):=by
 cases x with
 |Ga ds=>cases e;rw[Qa]at h;obtain⟨p,c,rfl,b,d⟩:=h;exact⟨p,c,rfl,d,.inr (qi.of b)⟩
 |Uf ns=>cases e;rw[Qa]at h;obtain⟨p,rfl,b⟩:=h;exact⟨p,_,rfl,nE ns,.inl b.seq⟩
 |ref n=>obtain⟨a,c,rfl,_,b,d⟩:=r.va h e;exact⟨a,c,rfl,d,.inl (Rf.of b)⟩
 |va ds=>cases e;rw[Qa]at h;obtain⟨p,c,rfl,_,b,d⟩:=h;exact⟨p,c,rfl,d,.inl (Rf.of b)⟩
 |gt ss=>cases e;rw[Qa]at h;obtain⟨p,rfl,b⟩:=h;exact⟨p,_,rfl,VG ss,.inr (.inr b)⟩
 |_=>cases e
theorem Ĭ(l:T.K=X.K):zl T (λx y H Q=>GM X.K x y H Q\/IL X.K x y H Q) Ma:=by
 intro E μ H σ x y v u Q r p q h;cases y with
 |int k=>
  unfold Ma at h;cases e:zk σ x with
  |none=>simp only[e]at h;exact h.elim
  |some xs=>
   simp only[e]at h;cases c:Ds xs k with
   |none=>rw[c]at h;exact h.elim
   |some d=>
    rw[c]at h;obtain⟨a,i,rfl,j,b⟩:=wz r p e;obtain⟨w,f,g⟩:=L1 j c;rw[l]at b;rcases b with b|b
    ·exact .inl ⟨a,i,k,w,rfl,pq q,b,f,nc.here h r g⟩
    ·exact .inr ⟨a,i,k,w,rfl,pq q,b,f,nc.here h r g⟩
 |_=>exact h.elim
theorem ē:xx X (λx y H Q=>GM X.K x y H Q\/IL X.K x y H Q):=M3.or k8
def Tv(d:D):Bool:=(sc d).isSome
def zx(x y:D):Bool:=match sc x,sc y with
 |some a,some b=>Zj a b
 |_,_=>false
def ju(a:Bool)(x y:D):M D:=λσ=>match zk σ y with
 |some xs=>if (Tv x && xs.all Tv)=true then .ok (.bl (if a then !(xs.any λz=>zx z x)else xs.any λz=>zx z x)) σ else .Xb
 |none=>.Xb
theorem uR:∀ {c:List D} {b:List V},Jb T μ H c b->c.all Tv=true->b.all xj=true
 |[],b,h,_=>by rw[Jb]at h;subst h;rfl
 |d::c,b,h,e=>by
  obtain⟨v,r,rfl,g,i⟩:=h;rw[Tf,La]at e ⊢;obtain⟨a,f⟩:=jf.mp e.1;exact⟨by rw[eH g f];exact SS f,uR i e.2⟩
theorem JP{x:D}{a:V}(ex:sc x=some a):∀ {b:List D} {f:List V},Jb T μ H b f->b.all Tv=true->(b.any λz=>zx z x)=f.any λy=>Zj y a
 |[],f,h,_=>by rw[Jb]at h;subst h;rfl
 |d::b,f,h,e=>by
  obtain⟨v,r,rfl,i,j⟩:=h;rw[Tf,La]at e;obtain⟨c,g⟩:=jf.mp e.1;rw[rf,rf,JP ex j e.2];have:zx d x=Zj v a:=by unfold zx;rw[g,ex,eH i g]
  rw[this]
theorem bK(l:T.K=X.K)(d:Bool):zl T (eG X.K d) (ju d):=by
 intro E μ H σ x y v u Q r p q h;unfold ju at h;cases e:zk σ y with
 |none=>rw[e]at h;exact h.elim
 |some xs=>
  rw[e]at h;by_cases c:(Tv x && xs.all Tv)=true
  ·simp only[c]at h;rw[La]at c;obtain⟨a,f⟩:=jf.mp c.1;obtain⟨b,j,rfl,g,i⟩:=wz r q e;rw[l]at i;refine⟨b,j,rfl,i,by rw[eH p f];exact SS f,uR g c.2,?_⟩;have k:wB v j=xs.any λz=>zx z x:=by unfold wB;rw[JP f g c.2,eH p f]
   rw[k];exact nc.here h r (by rw[Qa])
  ·simp only[c]at h;exact h.elim
def Hl(xs:List D):M D:=λσ=>match xs with
 |[x]=>(match zk σ x with
  |some a=>.ok (.int a.length) σ
  |none=>.Xb)
 |_=>.Xb
theorem Qs(i:T.K=X.K):Hs T (λxs H Q=>∃ p a,xs=[.ref p]/\(Rf X.K H p a\/qi X.K H p a)/\Q (.int a.length) H) Hl:=by
 intro E μ H σ xs f Q r p h
 match xs with
 |[]=>exact h.elim
 |[x]=>
  obtain⟨v,w,rfl,j,d⟩:=p;rw[Jb]at d;subst d;unfold Hl at h;cases e:zk σ x with
  |none=>simp only[e]at h;exact h.elim
  |some a=>
   simp only[e]at h;obtain⟨b,f,rfl,g,c⟩:=wz r j e;rw[i]at c;exact⟨b,f,rfl,c,by rw[<-g.length];exact nc.here h r (by rw[Qa])⟩
 |_::_::_=>exact h.elim
def Fs(xs:List D):M D:=λσ=>match xs with
 |[x]=>(match zk σ x with
  |some a=>zD a σ
  |none=>.Xb)
 |_=>.Xb
theorem BH(i:T.K=X.K):Hs T (λxs H Q=>∃ p a,xs=[.ref p]/\(Rf X.K H p a\/qi X.K H p a)/\∀ l,H l=none->Q (.ref l) (rc H l (.va a))) Fs:=by
 intro E μ H σ xs f Q r p h
 match xs with
 |[]=>exact h.elim
 |[x]=>
  obtain⟨v,w,rfl,k,d⟩:=p;rw[Jb]at d;subst d;unfold Fs at h;cases e:zk σ x with
  |none=>simp only[e]at h;exact h.elim
  |some a=>
   simp only[e]at h;obtain⟨b,f,rfl,g,c⟩:=wz r k e;rw[i]at c;exact⟨b,f,rfl,c,λl j=>WF h r g j⟩
 |_::_::_=>exact h.elim
noncomputable def bL:D->Bool
 | .gt _=>true
 |_=>false
def Cw(xs:List D):M D:=λσ=>match xs with
 |[x]=>(match zk σ x with
  |some a=>if bL x=true then .Xb else .ok (.Ga a) σ
  |none=>.Xb)
 |_=>.Xb
theorem FD(m:T.K=X.K):Hs T (λxs H Q=>∃ p g,xs=[.ref p]/\((Rf X.K H p g/\∀ l,H l=none->Q (.ref l) (rc H l (.Ga g)))\/(qi X.K H p g/\Q (.ref p) H))) Cw:=by
 intro E μ H σ xs f Q r p h
 match xs with
 |[]=>exact h.elim
 |[x]=>
  obtain⟨v,w,rfl,c,k⟩:=p;rw[Jb]at k;subst k;have h:nc T E (Qa T) μ H (match zk σ x with|some g=>if bL x=true then .Xb else .ok (.Ga g) σ|none=>.Xb) Q:=h;cases e:zk σ x with
  |none=>simp only[e]at h;exact h.elim
  |some g=>
   simp only[e]at h;cases x with
   |gt ss=>exact h.elim
   |Ga ds=>
    cases e;have o:=c;rw[Qa]at c;obtain⟨b,f,rfl,d,j⟩:=c;exact⟨b,f,rfl,.inr ⟨qi.of d,nc.here h r o⟩⟩
   |Uf ns=>
    cases e;rw[Qa]at c;obtain⟨b,rfl,d⟩:=c;exact⟨b,_,rfl,.inl ⟨by rw[<-m];exact d.seq,λl i=>DB h r (nE ns) i⟩⟩
   |ref n=>
    obtain⟨a,f,rfl,_,d,j⟩:=r.va c e;exact⟨a,f,rfl,.inl ⟨Rf.of d,λl i=>DB h r j i⟩⟩
   |va ds=>
    cases e;rw[Qa]at c;obtain⟨b,f,rfl,_,d,j⟩:=c;exact⟨b,f,rfl,.inl ⟨Rf.of d,λl i=>DB h r j i⟩⟩
   |_=>cases e
 |_::_::_=>exact h.elim
end
def Xh(o:List D->M D)(a:Ev->M (List D)):Ev->M D:=λb=>Pd (a b) o
section
variable{T:Tb}{X:Cx}{x:Str}{p pos:Ve}{e:Ua}{es:List Ua}{fs:Ev->M (List D)}{id ty:String}{r:List V->Hp->VK->Prop}{o:List D->M D}
theorem CO(j:Hs T r o)(h:tF T X (Xh o fs) c H Q):GJ r (tL T X fs) c H Q:=by
 obtain⟨p,q,s,f,i,g⟩:=h;exact⟨p,q,s,f,i,g.bind λe b a n d _ t m k l=>j _ a d b e n Q m k l⟩
theorem Kn(f:tp X (.builtin id) r)(l:Hs T r o)(i:Gl X x)(j:X.mg x=none)(m:bootBuiltins x=some (.builtin id))(d:FA T X (e::es) fs)(k:x ≠ "__name__":=by decide)(b:(x == ("__debug__" : Str))=false:=by decide)
  (g:ua (e::es) X.env=(false,vc e X.env)::ua es X.env:=by rfl) (c:(Wc pos (ua es X.env)).any (·.1)=false:=by rfl):FE T X (.Call (.Name x p) (e::es) [] pos) (Xh o fs):=
 λa s n H Q I h=>fM f i j m d k b g c a s n H Q I (CO l h)
theorem Mv(f:tp X (.type ty) r)(l:Hs T r o)(i:Gl X x)(j:X.mg x=none)(m:bootBuiltins x=some (.type ty))(d:FA T X (e::es) fs)(k:x ≠ "__name__":=by decide)(b:(x == ("__debug__" : Str))=false:=by decide)
  (g:ua (e::es) X.env=(false,vc e X.env)::ua es X.env:=by rfl) (c:(Wc pos (ua es X.env)).any (·.1)=false:=by rfl):FE T X (.Call (.Name x p) (e::es) [] pos) (Xh o fs):=
 λa s n H Q I h=>DS f i j m d k b g c a s n H Q I (CO l h)
end
def pi(a:nb):D->Option (List D)
 | .ref n=>rj a n
 | .va xs=>some xs
 |_=>none
theorem Xd.ls(r:Xd T g H i){xs:List D}(h:Qa T g H x v)(e:pi i x=some xs):∃ a b,v=.ref a/\H a=some (.va b)/\Jb T g H xs b:=by
 cases x with
 |ref n=>obtain⟨a,b,c,_,d,f⟩:=r.va h e;exact⟨a,b,c,d,f⟩
 |va j=>cases e;rw[Qa]at h;obtain⟨a,b,c,_,d,f⟩:=h;exact⟨a,b,c,d,f⟩
 |_=>cases e
def ax(o:D->List D->M D)(m:M (List D))(x:D):M D:=λa=>match pi a x with
 |some _=>Pd m (o x) a
 |none=>.Xb
def LA(o:D->List D->M D)(f:Ev->M D)(b:Ev->M (List D)):Ev->M D:=λa=>Pd (f a) (ax o (b a))
def HA(T:Tb)(r:V->List V->Hp->VK->Prop)(o:D->List D->M D):Prop:=∀ (E:XK) a H c x xs v b Q,Xd T a H c->Qa T a H x v->Jb T a H xs b->nc T E (Qa T) a H (o x xs c) Q->r v b H Q
def yq(x:D)(xs:List D):M D:=λb=>match x,xs with
 | .ref n,[y]=>(match rj b n with
  |some a=>if a.length<oi then .ok .Rb (b.set n (.va (a++[y])))else .Xb
  |none=>.Xb)
 |_,_=>.Xb
section
variable{T:Tb}{X:Cx}{o e:Ua}{es:List Ua}{f:Ev->M D}{fs:Ev->M (List D)}{name:Str}{apos cpos:Ve}{id:String}{r:V->List V->Hp->VK->Prop}{g:D->List D->M D}
theorem MH(R:Qo "list")(l:Slot "list" name id)(q:yt (.builtin id)=pure (.type "method_descriptor"))(K:Uu X id r)(O:HA T r g)(L:FE T X o f)(J:FA T X (e::es) fs)
  (c:oe o name X.env (vc o X.env)=vc o X.env:=by rfl)
  (i:((Wc cpos (ua (e::es) X.env)).all (λx=>!x.1) && (Xj cpos (oh [] X.env)).all (λx=>x.1.isSome)
   && decide ((e::es).length+([]:List Gk).length+(if ([]:List Gk).isEmpty then 0 else 1)<30))=true:=by rfl)
  (d:(apos.endLine == cpos.line)=true:=by rfl) (p:ua (e::es) X.env=(false,vc e X.env)::ua es X.env:=by rfl) (b:(Wc cpos (ua es X.env)).any (·.1)=false:=by rfl) :
  FE T X (.Call (.Attribute o name apos) (e::es) [] cpos) (LA g f fs):=by
 intro j s V H Q I h;refine O9 R l q K L J c i d p b j s V H Q I ?_;obtain⟨Y,B,Z,y,N,M⟩:=h;refine⟨Y,B,Z,y,N,M.bind λx m t v H1 _ E A z k=>?_⟩;unfold ax at k;cases n:pi m x with
 |none=>rw[n]at k;exact k.elim
 |some xs=>
  rw[n]at k;obtain⟨a,W,rfl,G,h2⟩:=A.ls z n;refine⟨.inl ⟨rfl,W,Rf.of G⟩,t,B,m,y.mono E,A,k.bind λD w u ws C _ F U P S=>?_⟩;exact O _ u C w x D (.ref a) ws Q U (Qa.mono F _ _ z) P S
theorem BG:HA T GK yq:=by
 intro E l H o x xs v d Q r p q h;cases x with
 |ref n=>
  match xs with
  |[]=>exact h.elim
  |[y]=>
   obtain⟨w,z,rfl,m,i⟩:=q;rw[Jb]at i;subst i;unfold yq at h;cases b:rj o n with
   |none=>simp only[b]at h;exact h.elim
   |some k=>
    simp only[b]at h;by_cases c:k.length<oi
    ·rw[ja c]at h;obtain⟨a,d,rfl,g,e,f⟩:=r.va p b;have j:=r.write (ob:=.va (k++[y])) g ⟨_,Mh,by
      have ex:we l H l (rc H a (.va (d++[w]))):=Gw (Oa g) e (λ_ z=>by cases z) (λ_ _ z=>by cases z);exact Jb.append (Jb.mono ex _ _ f) (Jb.cons (Qa.mono ex _ _ m) Jb.nil)⟩
     exact⟨a,d,w,rfl,rfl,e,by rw[<-f.length];exact CQ c,h _ _ _ j.1 j.2 (by rw[Qa])⟩
    ·rw[ka c]at h;exact h.elim
  |_::_::_=>exact h.elim
 |_=>exact h.elim
end
inductive BT where
 |int|bool|str|tuple|list|dict
noncomputable def BT.nm:BT->String
 | .int=>"int" | .bool=>"bool" | .str=>"str" | .tuple=>"tuple" | .list=>"list" | .dict=>"dict"
noncomputable def SI(a:nb)(c:BT):D->Option Bool
 | .Rb=>some false
 | .bl _=>some (match c with | .int=>true | .bool=>true|_=>false)
 | .int _=>some (match c with | .int=>true|_=>false)
 | .str _=>some (match c with | .str=>true|_=>false)
 | .Ga _=>some (match c with | .tuple=>true|_=>false)
 | .Uf _=>none
 | .va _=>some (match c with | .list=>true|_=>false)
 | .Bc _ _=>some (match c with | .dict=>true|_=>false)
 | .obj _ _ _=>none
 | .bu _=>none
 | .gt _=>none
 | .ref n=>match a[n]? with
  |some (.va _)=>some (match c with | .list=>true|_=>false)
  |some (.Bc _)=>some (match c with | .dict=>true|_=>false)
  |_=>none
def dq(c:BT)(x:D):M D:=λa=>match SI a c x with
 |some b=>.ok (.bl b) a
 |none=>.Xb
section
variable{T:Tb}{X:Cx}
def gR(K:W.Frag)(H:Hp)(x:V)(t:Value):Prop:=Ql K H x t\/∃ a b,x=.ref a/\Rd H a (.dK b)/\t=.type "dict"
def t0(K:W.Frag)(c:String):List V->Hp->VK->Prop:=λxs H Q=>∃ x t b,xs=[x,.ty c]/\gR K H x t/\W.kitOne K t (.type c)=some b/\Q (.bl b) H
theorem Å(c:String):tp X (.builtin "isinstance") (t0 X.K c):=by
 intro f s v H xs w Q I r h;obtain⟨x,t,b,rfl,ty,e,q⟩:=h;obtain⟨u,u2,rfl,g,d⟩:=rW r;cases d;rcases ty with ty|⟨a,k,rfl,rd,rfl⟩
 ·exact ľ I g ty e λl=>⟨.bl b,H,I.tok _,rfl,q⟩
 ·cases (g);obtain⟨_,_,y,_,p⟩:=(rd.ok I.zd)
  obtain⟨o,n,m,i,j,_⟩:=p;exact W.kia_one W.kitx_dict I.Dk ⟨o,i,j.1⟩ e (λz=>nomatch z) λl=>⟨.bl b,H,I.tok _,rfl,q⟩
theorem Q0(r:Xd T m H j)(p:Qa T m H x v)(h:SI j c x=some b):∃ t,gR X.K H v t/\W.kitOne X.K t (.type c.nm)=some b:=by
 cases x with
 |Rb=>rw[Qa]at p;subst p;refine⟨_,.inl (.Rb),?_⟩;cases c<;>cases h<;>rfl
 |bl i=>rw[Qa]at p;subst p;refine⟨_,.inl (.bl i),?_⟩;cases c<;>cases h<;>rfl
 |int i=>rw[Qa]at p;subst p;refine⟨_,.inl (.int i),?_⟩;cases c<;>cases h<;>rfl
 |str i=>rw[Qa]at p;subst p;refine⟨_,.inl (.str i),?_⟩;cases c<;>cases h<;>rfl
 |Ga ds=>rw[Qa]at p;obtain⟨q,f,rfl,d,_⟩:=p;refine⟨_,.inl (.Ga d),?_⟩;cases c<;>cases h<;>rfl
 |Uf ns=>cases h
 |va ds=>rw[Qa]at p;obtain⟨q,f,rfl,_,d,_⟩:=p;refine⟨_,.inl (.va d),?_⟩;cases c<;>cases h<;>rfl
 |Bc ks ds=>rw[Qa]at p;obtain⟨q,f,rfl,_,d,_⟩:=p;refine⟨_,.inr ⟨q,_,rfl,d,rfl⟩,?_⟩;cases c<;>cases h<;>rfl
 |obj k ks ds=>cases h
 |bu k=>cases h
 |gt ss=>cases h
 |ref n=>
  unfold SI at h;dsimp only at h;cases e:j[n]? with
  |none=>rw[e]at h;cases h
  |some o=>
   rw[e]at h;obtain⟨a,rfl,_,l⟩:=r.at p e;cases o with
   |va xs=>obtain⟨f,g,_⟩:=l;refine⟨_,.inl (.va g),?_⟩;cases c<;>cases h<;>rfl
   |Bc xs=>obtain⟨f,g,_⟩:=l;refine⟨_,.inl (.dK g),?_⟩;cases c<;>cases h<;>rfl
   |Ld k s=>cases h
   |Xf xs=>cases h
   |rl _=>cases h
theorem wv(c:BT)(C:FE T X e f)(E:Gl X "isinstance")(F:X.mg "isinstance" = none)(m:Gl X a)(n:X.mg a=none)(r:bootBuiltins a=some (.type c.nm))(o:a ≠ "__name__":=by decide)(l:(a == ("__debug__" : Str))=false:=by decide)
  (w:ua [e,.Name a j] X.env=(false,vc e X.env)::ua [.Name a j] X.env:=by rfl) (q:(Wc g (ua [.Name a j] X.env)).any (·.1)=false:=by rfl) :
  FE T X (.Call (.Name "isinstance" p) [e,.Name a j] [] g) (Cd (dq c) f):=by
 intro d s L H Q I h;refine fM (Å c.nm) E F boot_isinstance (sx C (sx (Á m n r (v:=.ty c.nm) rfl o l) Zz) w) (by decide) (by decide) w q d s L H Q I ?_;obtain⟨N,P,R,B,J,G⟩:=h;refine⟨N,P,R,B,J,G.bind λx u O v S _ U y K i=>?_⟩;unfold dq at i;cases k:SI u c x with
 |none=>rw[k]at i;exact i.elim
 |some b=>
  rw[k]at i;obtain⟨t,z,A⟩:=Q0 y K k;exact⟨v,t,b,rfl,z,A,nc.here i y (by rw[Qa])⟩
end
noncomputable def vf:Ev->M Fl:=λa=>ret (.nx a)
noncomputable def HC(h:Ev->M Fl):Fl->M Fl
 | .nx a=>h a
 | .rt d=>ret (.rt d)
 | .bk a=>ret (.bk a)
 | .ct a=>ret (.ct a)
 | .xc a x=>ret (.xc a x)
def ub(g h:Ev->M Fl):Ev->M Fl:=λa=>Pd (g a) (HC h)
noncomputable def MJ:D->M Fl:=λd=>ret (.rt d)
def Tc(f:Ev->M D):Ev->M Fl:=λa=>xs a (f a) MJ
noncomputable def vN(a:Ev):D->M Fl:=λ_=>ret (.nx a)
def Jp(f:Ev->M D):Ev->M Fl:=λa=>xs a (f a) (vN a)
noncomputable def dE(i:Nat)(a:Ev):D->M Fl:=λd=>ret (.nx (a.set i (some d)))
def lf(i:Nat)(f:Ev->M D):Ev->M Fl:=λa=>xs a (f a) (dE i a)
noncomputable def Ue(t:Ev->M Bool)(a b:Ev->M Fl):Ev->M Fl:=λc=>xs c (t c) (Rk (a c) (b c))
section
variable{T:Tb}{X:Cx}{st':Stmt}{rest:List Stmt}{g h:Ev->M Fl}{e:Ua}{f:Ev->M D}{pos:Ve}
theorem Af:ym T X [] vf:=by
 intro a s b H D I f;obtain⟨h,i,j,c,e,d⟩:=f;exact GT a s b H D I (nc.here (g:=Sr.nx b) d e c)
theorem ů{h:List Addr}{e:Fl}{D:Pk}(r:Xd T h H i)(q:Fn T h H e b)(k:Fl->M Fl)
  (j:∀ a,e=.nx a->∀ f,b=.nx f->ji T h H a f->N f H) (g:(∀ a,e≠.nx a)->nc T EN (Fn T) h H (.ok e i) (Dm X D)):Dm X { D with nx:=N } b H:=by
 cases e with
 |nx a=>cases b with
  |nx f=>exact j a rfl f rfl q
  |_=>exact q.elim
 |rt d=>cases b with
  |rt v=>have z:=nc.here (g λ_ z=>by cases z) r q;exact z
  |_=>exact q.elim
 |bk a=>cases b with
  |bk v=>have z:=nc.here (g λ_ z=>by cases z) r q;exact z
  |_=>exact q.elim
 |ct a=>cases b with
  |ct v=>have z:=nc.here (g λ_ z=>by cases z) r q;exact z
  |_=>exact q.elim
 |xc a x=>cases b with
  |xc v c fd=>have z:=nc.here (g λ_ z=>by cases z) r q;exact z
  |_=>exact q.elim
theorem Yb(k:FS T X st' g)(l:ym T X rest h):ym T X (st'::rest) (ub g h):=by
 intro b s u H D I r;refine aS k l b s u H D I ?_;obtain⟨w,x,y,m,q,p⟩:=r;refine⟨w,x,y,m,q,p.bind λj d c C z _ A f t e=>?_⟩;refine ů f t (λ_=>Xb) (λa i v B n=>?_) (λo=>?_)
 ·subst i;exact⟨c,a,d,n,f,e⟩
 ·cases j with
  |nx a=>exact(o a rfl).elim
  |_=>exact e
theorem Hh(a:FS T X st' g):ym T X [st'] g:=G5 a
theorem B1(c:FE T X e f):FS T X (.Return (some e) pos) (Tc f):=by
 intro a s n H D I j;refine Ķ c a s n H D I ?_;obtain⟨o,q,r,b,i,h⟩:=j;exact⟨o,q,r,b,i,h.xs b λd t p v u _ w m l k=>nc.here (g:=Sr.rt v) k m l⟩
theorem zq(i:FE T X e f)(l:Xi e none pos.line X.env=pure false:=by rfl):FS T X (.Expr e pos) (Jp f):=by
 intro a s c H D I m;refine Z9 i l a s c H D I ?_;obtain⟨p,r,t,b,k,j⟩:=m;exact⟨p,r,t,b,k,j.xs b λd u q v w _ h o x n=>nc.here (g:=Sr.nx c) n o (b.mono h)⟩
theorem YK(k:X.N.Nodup)(n:X.N[i]?=some x)(t:Loc X.env.scope x)(l:FE T X e f)(q:Xi e (some (.Name x a)) pos.line X.env=pure false:=by rfl)(m:X.fn x=true\/X.env.scope.names.lookup x=some .local:=by first|exact .inl rfl|exact .inr rfl|assumption) :
  FS T X (.Assign [.Name x a] e pos) (lf i f):=by
 intro b s h H D I r;refine Ţ k n t l q m b s h H D I ?_;obtain⟨z,B,C,c,p,o⟩:=r;exact⟨z,B,C,c,p,o.xs c λd E A v F _ j y w u=>nc.here (g:=Sr.nx (h.set i (some v))) u y ((c.mono j).set i w)⟩
theorem gf(q:FT T X c n)(o:ym T X a k)(p:ym T X b l):FS T X (.If c a b pos) (Ue n k l):=by
 intro e s x H D I u;refine sS q o p e s x H D I ?_;obtain⟨y,i,z,h,t,r⟩:=u;refine⟨y,i,z,h,t,r.xs h λc g f v A _ j m w d=>?_⟩;cases w;cases c with
 |true=>unfold Rk at d;rw[ja rfl]at d ⊢;exact⟨f,i,g,h.mono j,m,d⟩
 |false=>unfold Rk at d;rw[ka yb]at d ⊢;exact⟨f,i,g,h.mono j,m,d⟩
noncomputable def gD(T:Tb)(f:D->Ev->Option Ev):TG:=λv e H Q=>∃ b g c d a,ji T b H c e/\Xd T b H g/\Qa T b H d v/\f d c=some a/\∀ st',ji T b H a st'->Q st' H
noncomputable def G2(T:Tb)(f:List D->Ev->Option Ev):sy:=λg e H Q=>∃ b h d c a,ji T b H d e/\Xd T b H h/\Jb T b H c g/\f c d=some a/\∀ st',ji T b H a st'->Q st' H
abbrev FG(T:Tb)(X:Cx)(t:Ua)(a:D->Ev->Option Ev):Prop:=PG X t (gD T a)
abbrev CI(T:Tb)(X:Cx)(b:List Ua)(a:List D->Ev->Option Ev):Prop:=eE X b (G2 T a)
noncomputable def Lf(i:Nat):D->Ev->Option Ev:=λd a=>some (a.set i (some d))
noncomputable def Mr:List D->Ev->Option Ev
 |[],a=>some a
 |_::_,_=>none
noncomputable def Ck(t:D->Ev->Option Ev)(u:List D->Ev->Option Ev):List D->Ev->Option Ev
 |[],_=>none
 |d::ds,b=>(t d b).bind λa=>u ds a
noncomputable def gr(n:Nat)(t:List D->Ev->Option Ev):D->Ev->Option Ev
 | .Ga ds,a=>if ds.length=n then t ds a else none
 |_,_=>none
theorem rK(c:X.N.Nodup)(g:X.N[i]?=some x)(l:Loc X.env.scope x)(f:X.fn x=true\/X.env.scope.names.lookup x=some .local:=by first|exact .inl rfl|exact .inr rfl|assumption):FG T X (.Name x pos) (Lf i):=by
 intro a s m H v u Q I r h;obtain⟨p,t,q,d,n,b,o,e,k,j⟩:=h;cases k;exact o1 c g l f a s m H v u Q I r (j _ (b.set i e))
theorem ay:CI T X [] Mr:=by
 intro a s i H m j Q I r h;obtain⟨n,p,o,b,k,f,l,c,e,g⟩:=h;cases b with
 |nil=>cases e;rw[Jb]at c;subst c;exact B2 a s i H [] j Q I r ⟨rfl,g _ f⟩
 |cons d b=>cases e
theorem Lr(x:FG T X e t)(y:CI T X c u)
  (C:(df (e::c) X.env).map (·.2)=gm e X.env::(df c X.env).map (·.2):=by rfl):CI T X (e::c) (Ck t u):=by
 intro a s E H K G Q I r h;obtain⟨n,o,J,f,k,z,l,A,m,B⟩:=h;cases f with
 |nil=>cases m
 |cons d f=>
  obtain⟨v,w,rfl,i,j⟩:=A;obtain⟨b,p,q⟩:=Ui.mp m;refine qY x y C a s E H (v::w) G Q I r ⟨v,w,rfl,n,o,J,d,b,z,l,i,p,λF g=>?_⟩;exact⟨n,o,b,f,k,g,l,j,q,B⟩
theorem wy(m:X.Aa=true)(h:CI T X c t)
  (q:(df c X.env).length=n:=by rfl) (f:(df c X.env).findIdx? (·.1)=none:=by rfl):FG T X (.Tuple c k pos) (gr n t):=by
 intro b s z H v u Q I r y;obtain⟨B,E,C,d,g,l,x,o,a,w⟩:=y;cases d with
 |Ga ds=>
  obtain⟨p,A,rfl,j,i⟩:=o;unfold gr at a;dsimp only at a;by_cases e:ds.length=n
  ·rw[ja e]at a;exact Ą m h q f b s z H (.ref p) u Q I r ⟨p,A,rfl,qi.of j,by rw[<-i.length];exact e,B,E,C,ds,g,l,x,i,a,w⟩
  ·rw[ka e]at a;cases a
 |_=>cases a
noncomputable def JF(b:D->Ev->Option Ev)(c:Ev)(d:D):M Fl:=match b d c with
 |some a=>ret (.nx a)
 |none=>Xb
def yG(f:Ev->M D)(b:D->Ev->Option Ev):Ev->M Fl:=λa=>xs a (f a) (JF b a)
theorem KR(u:FE T X e f)(w:FG T X a t)(A:Zn [a] e pos.line X.env=pure false:=by rfl)(B:ao [a] e X.env=pure none:=by rfl)
  (r:(df [a] X.env).map (·.2)=[gm a X.env]:=by rfl):FS T X (.Assign [a] e pos) (yG f t):=by
 intro c s E H D I y;refine dL u w A B r c s E H D I ?_;obtain⟨F,m,G,h,z,x⟩:=y;refine⟨F,m,G,h,z,x.xs h λd o l v J _ q p C b=>?_⟩;unfold JF at b;cases j:t d m with
 |none=>simp only[j]at b;exact b.elim
 |some n=>simp only[j]at b;exact⟨l,o,m,d,n,h.mono q,p,C,j,λk i=>nc.here (g:=Sr.nx k) b p i⟩
def EA(x i d:D):M Unit:=λa=>match x,i with
 | .ref n,.int k=>(match rj a n with
  |some xs=>(match Qt xs.length k with
   |some j=>.ok () (a.set n (.va (xs.set j d)))
   |none=>.Xb)
  |none=>.Xb)
 |_,_=>.Xb
def kz(b:Ev)(d x i:D):M Fl:=λc=>match EA x i d c with
 | .ok _ a=>.ok (.nx b) a
 |_=>.Xb
def aN(a:Ev)(fi:Ev->M D)(d x:D):M Fl:=xs a (fi a) (kz a d x)
def FL(a:Ev)(b fi:Ev->M D)(d:D):M Fl:=xs a (b a) (aN a fi d)
def sM(f b fi:Ev->M D):Ev->M Fl:=λa=>xs a (f a) (FL a b fi)
theorem ż(V:FE T X e f)(Y:FE T X o L)(W:FE T X i fi)
  (S:∀ v,gm (.Subscript o i b) X.env v=(do
   let r <-Lg [v] (vc o X.env);let y <-Lg [v,r] (vc i X.env)
   Fk b
   Lg [v,r,y] (uw r y v)
   release [v,r,y] []):=by intro _;rfl)
  (hs:Zn [.Subscript o i b] e pos.line X.env=pure false:=by rfl) (hw:ao [.Subscript o i b] e X.env=pure none:=by rfl)
  (q:(df [.Subscript o i b] X.env).map (·.2)=[gm (.Subscript o i b) X.env]:=by rfl):FS T X (.Assign [.Subscript o i b] e pos) (sM f L fi):=by
 intro l s Q H D I hq;refine dL V (YT Y W Ě S) hs hw q l s Q H D I ?_;obtain⟨μ,E,σ,g,hr,Z⟩:=hq;refine⟨μ,E,σ,g,hr,Z.xs g λd F B v H1 _ h r1 q1 p1=>?_⟩;refine⟨B,E,F,g.mono h,r1,p1.xs (g.mono h) λx G C vo H2 _ p r2 q2 p2=>?_⟩;refine⟨C,E,G,(g.mono h).mono p,r2,p2.xs ((g.mono h).mono p) λk J m vi K _ t P q3 c=>?_⟩;have U:=Qa.mono t _ _ (Qa.mono p _ _ q1);have hx:=Qa.mono t _ _ q2;unfold kz EA at c;cases x with
 |ref n=>
  cases k with
  |int k=>
   dsimp only at c;cases w:rj J n with
   |none=>rw[w]at c;exact c.elim
   |some xs=>
    rw[w]at c;dsimp only at c;cases u:Qt xs.length k with
    |none=>rw[u]at c;exact c.elim
    |some j=>
     rw[u]at c;obtain⟨a,R,rfl,O,q,N⟩:=P.va hx w;have A:=P.write (ob:=.va (xs.set j d)) O ⟨_,Mh,by
      have ex:we m K m (rc K a (.va (R.set j v))):=Gw (Oa O) q (λ_ z=>by cases z) (λ_ _ z=>by cases z);exact Jb.set (Qa.mono ex _ _ U) j (Jb.mono ex _ _ N)⟩
     exact⟨a,R,k,j,rfl,pq q3,q,by rw[<-N.length];exact u,c _ (.nx Q) _ A.1 A.2 (((g.mono h).mono p).mono t |>.mono A.1)⟩
  |_=>exact c.elim
 |_=>exact c.elim
end
inductive ip where
 |seq (ds:List D)
 |wu (n:Nat)
def ip.nx:ip->Nat->nb->Option (Option D)
 | .seq ds,i,_=>some ds[i]?
 | .wu n,i,σ=>(rj σ n).map λxs=>xs[i]?
def VH(T:Tb)(c:List Addr)(g:Hp)(a:ip)(J:It):Prop:=∀ b H f i,we c g b H->Xd T b H f->match a.nx i f with
 |none=>True
 |some none=>J.stop i H
 |some (some d)=>J.go i H/\∀ x e,J.JA i H x e->e=H/\Qa T b H d x
def tI(T:Tb)(X:Cx)(f:Ev->M ip):TI:=λb H R=>∃ a c d,ji T a H c b/\Xd T a H d/\nc T (XE X b) (VH T) a H (f c d) R
abbrev FI(T:Tb)(X:Cx)(b a:Ua)(f:Ev->M ip):Prop:=PI X b a (tI T X f)
noncomputable def qA(n:Nat):List D:=(List.range n).map λ(i:Nat)=>D.int (i:Int)
def JB(d:D):M ip:=λa=>match d with
 | .Ga ds=>.ok (.seq ds) a
 | .va ds=>.ok (.seq ds) a
 | .Uf ns=>.ok (.seq (ns.map D.int)) a
 | .ref n=>(match rj a n with
  |some _=>.ok (.wu n) a
  |none=>.Xb)
 |_=>.Xb
def vj(f:Ev->M D):Ev->M ip:=λa=>Pd (f a) JB
def SG(j:Int):Bool:=Cb (decide (-(2 ^ 62)<=j) && decide (j<2 ^ 62))
def uy(d:D):M ip:=λa=>match d with
 | .int j=>if SG j=true then .ok (.seq (qA j.toNat)) a else .Xb
 |_=>.Xb
def Fy(f:Ev->M D):Ev->M ip:=λa=>Pd (f a) uy
section
variable{T:Tb}{X:Cx}{tg iter:Ua}{f:Ev->M D}
def yyg(K:W.Frag)(c:TE):TI:=λd H R=>c d H λx b=>∃ a,x=.ref a/\(((∃ xs,Rf K b a xs)/\R (WK K a) b)\/((∃ xs,qi K b a xs)/\R (TK K a) b))
theorem t6(k:PE X l j):PI X tg l (yyg X.K j):=by
 intro d s t H R I h;refine Je (k d s t H _ I h) λv s1 ⟨x,H1,c,n,i⟩=>?_;obtain⟨a,e,i⟩:=i;subst e;cases n;rcases i with⟨⟨xs,g⟩,q⟩|⟨⟨xs,g⟩,q⟩
 ·obtain⟨its,r,p,m⟩:=c.list g;refine Op p.isList ?_;refine⟨s1.heap.objs.size,[s1.heap.objs.size],_,_,H1,rfl,c.kept λb o e=>qa _ e,EX a _,⟨_,Bb _ rfl,rfl,rfl⟩,λb f=>?_,q⟩;have e:b=s1.heap.objs.size:=by simpa using f
  subst e;exact c.qr (Ea _) (c.zd.fresh (Ea _))
 ·obtain⟨its,r,p,m⟩:=c.tuple g;refine yA (p) ?_;refine⟨s1.heap.objs.size,[s1.heap.objs.size],_,_,H1,rfl,c.kept λb o e=>qa _ e,Ũ a _,⟨_,Bb _ rfl,rfl,rfl⟩,λb f=>?_,q⟩;have e:b=s1.heap.objs.size:=by simpa using f
  subst e;exact c.qr (Ea _) (c.zd.fresh (Ea _))
theorem aT{K:W.Frag}(h:∀ b f,we j n b f->∃ c,Rf K f a c/\Jb T b f k c):VH T j n (.seq k) (WK K a):=by
 intro b f p i ex r;obtain⟨c,l,o⟩:=h b f ex;show match some k[i]? with|none=>True|some none=>_|some (some d)=>_
 cases e:k[i]? with
 |none=>exact⟨c,l,by rw[<-o.length];exact Kc.mp e⟩
 |some d=>
  obtain⟨v,g,m⟩:=o.get e;refine⟨⟨c,v,l,g⟩,λx q y=>?_⟩;obtain⟨rfl,y⟩:=y;have:=y c l;rw[g]at this;cases this;exact⟨rfl,m⟩
theorem HZ{K:W.Frag}(h:∀ b f,we j n b f->∃ c,qi K f a c/\Jb T b f k c):VH T j n (.seq k) (TK K a):=by
 intro b f p i ex r;obtain⟨c,l,o⟩:=h b f ex;show match some k[i]? with|none=>True|some none=>_|some (some d)=>_
 cases e:k[i]? with
 |none=>exact⟨c,l,by rw[<-o.length];exact Kc.mp e⟩
 |some d=>
  obtain⟨v,g,m⟩:=o.get e;refine⟨⟨c,v,l,g⟩,λx q y=>?_⟩;obtain⟨rfl,y⟩:=y;have:=y c l;rw[g]at this;cases this;exact⟨rfl,m⟩
theorem Uo(N:T.K=X.K)(h:FE T X iter f):FI T X tg iter (vj f):=by
 intro t s W H R I S;refine t6 h t s W H R I ?_;obtain⟨Y,Z,σ,M,Q,P⟩:=S;refine⟨Y,Z,σ,M,Q,P.bind λd C B v F _ e1 w u c=>?_⟩;cases d with
 |Ga ds=>
  obtain⟨p,l,rfl,j,m⟩:=u;exact⟨p,rfl,.inr ⟨⟨l,qi.of j⟩,nc.here c w (HZ λb g ex=>⟨l,qi.of (ex.Ga _ _ j),Jb.mono ex _ _ m⟩)⟩⟩
 |va ds=>
  obtain⟨p,l,rfl,O,j,m⟩:=u;exact⟨p,rfl,.inl ⟨⟨l,Rf.of j⟩,nc.here c w (aT λb g ex=>⟨l,Rf.of (ex.lj _ _ j O).1,Jb.mono ex _ _ m⟩)⟩⟩
 |Uf ns=>
  obtain⟨p,rfl,j⟩:=u;have q:∀ b g,we B F b g->Rf X.K g p (ns.map V.int):=λb g ex=>by
   have m:Qa T b g (.Uf ns) (.ref p):=Qa.mono ex _ _ (by rw[Qa];exact⟨p,rfl,j⟩);obtain⟨p',G,o⟩:=m;cases G;rw[<-N];exact o.seq
  exact⟨p,rfl,.inl ⟨⟨_,q _ _ (we.refl _ _)⟩,nc.here c w (aT λb g ex=>⟨_,q b g ex,nE ns⟩)⟩⟩
 |ref n=>
  unfold JB at c;dsimp only at c;cases k:rj C n with
  |none=>rw[k]at c;exact c.elim
  |some xs=>
   rw[k]at c;obtain⟨a,l,rfl,_,j,m⟩:=w.va u k;refine⟨a,rfl,.inl ⟨⟨l,Rf.of j⟩,nc.here c w λb g z i ex U=>?_⟩⟩;show match (rj z n).map (λxs=>xs[i]?)with|none=>True|some none=>_|some (some d)=>_
   cases L:rj z n with
   |none=>trivial
   |some E=>
    obtain⟨a',ws,J,_,o,D⟩:=U.va (Qa.mono ex _ _ u) L;cases J;show match some (E[i]?)with|none=>True|some none=>_|some (some d)=>_
    cases e:E[i]? with
    |none=>exact⟨ws,Rf.of o,by rw[<-D.length];exact Kc.mp e⟩
    |some d=>
     obtain⟨v,r,A⟩:=D.get e;refine⟨⟨ws,v,Rf.of o,r⟩,λx H' y=>?_⟩;obtain⟨rfl,y⟩:=y;have:=y ws (Rf.of o);rw[r]at this;cases this;exact⟨rfl,A⟩
 |_=>exact c.elim
theorem V4(h:i<n):(qA n)[i]?=some (.int i):=by simp[qA,h]
theorem Ω(n:Nat):(qA n).length=n:=by simp[qA]
theorem AN(h:Gl X "range")(o:X.mg "range" = none)(n:FE T X a f)(e:ua [a] X.env=[(false,vc a X.env)]:=by rfl):FI T X tg (.Call (.Name "range" p) [a] [] l) (Fy f):=by
 intro g s z H R I t;refine R8 h o (sx n Zz e) e g s z H R I ?_;obtain⟨A,D,E,m,r,q⟩:=t;refine⟨A,D,E,m,r,q.bind λd F B v K _ M w u b=>?_⟩;cases d with
 |int j=>
  subst u;unfold uy at b;dsimp only at b;by_cases c:SG j=true
  ·rw[ja c]at b;simp only[SG,ms,La,jd]at c;refine⟨j,rfl,c.1,c.2,nc.here b w λC L G i ex N=>?_⟩;show match some (qA j.toNat)[i]? with|none=>True|some none=>_|some (some d)=>_
   by_cases k:i<j.toNat
   ·rw[V4 k];refine⟨k,λx J y=>?_⟩;obtain⟨rfl,rfl⟩:=y;exact⟨rfl,by rw[Qa,Int.zero_add]⟩
   ·rw[Kc.mpr (by rw[Ω];omega)];exact LN.mp k
  ·rw[ka c]at b;exact b.elim
 |_=>exact b.elim
end
noncomputable def Nw(k:Ev->M Fl):Fl->M Fl
 | .nx a=>k a
 | .ct a=>k a
 | .bk a=>ret (.nx a)
 | .rt d=>ret (.rt d)
 | .xc b x=>ret (.xc b x)
def El(e:D->Ev->Option Ev)(a:Ev->M Fl):List D->Ev->M Fl
 |[],b=>ret (.nx b)
 |d::ds,b=>match e d b with
  |none=>Xb
  |some c=>Pd (a c) (Nw (El e a ds))
def WA(e:D->Ev->Option Ev)(a:Ev->M Fl)(n:Nat):Nat->Nat->Ev->M Fl
 |0,_,_=>Xb
 |k+1,i,f=>λc=>match rj c n with
  |none=>.Xb
  |some xs=>match xs[i]? with
   |none=>.ok (.nx f) c
   |some d=>match e d f with
    |none=>.Xb
    |some b=>Pd (a b) (Nw (WA e a n k (i+1))) c
def IJ(b:D->Ev->Option Ev)(a:Ev->M Fl)(c:Ev):ip->M Fl
 | .seq ds=>El b a ds c
 | .wu n=>WA b a n 1001 0 c
def nu(b:Ev->M ip)(d:D->Ev->Option Ev)(a:Ev->M Fl):Ev->M Fl:=λc=>xs c (b c) (IJ d a c)
section
variable{T:Tb}{X:Cx}
theorem xM{D:Pk}(l:Xd T d f h)(e:Fn T d f j g)(i:nc T EN (Fn T) d f (Nw k j h) (Dm X D))
  (m:∀ b a,ji T d f b a->nc T EN (Fn T) d f (k b h) (Dm X D)->N a f):Dm X { D with nx:=N,ct:=N,bk:=D.nx } g f:=by
 cases j with
 |nx b=>cases g with
  |nx a=>exact m b a e i
  |_=>exact e.elim
 |ct b=>cases g with
  |ct a=>exact m b a e i
  |_=>exact e.elim
 |bk b=>cases g with
  |bk a=>have z:Dm X D (Sr.nx a) f:=nc.here i l e;exact z
  |_=>exact e.elim
 |rt o=>cases g with
  |rt v2=>have z:=nc.here i l e;exact z
  |_=>exact e.elim
 |xc b x=>cases g with
  |xc a c n=>have z:=nc.here i l e;exact z
  |_=>exact e.elim
variable{tgt iter:Ua}{body:List Stmt}{src:Ev->M ip}{t:D->Ev->Option Ev}{g:Ev->M Fl}{pos:Ve}
theorem qv(W:Kq (model X.prog X.w) X.A X.env X.xe)(hc:X.Aa=true)(hi:FI T X tgt iter src)(hg:FG T X tgt t)(hb:ym T X body g)
  (hs:∀ x,Ah iter X.env x=pure x:=by intro _;rfl):FS T X (.For tgt iter body [] pos) (nu src t g):=by
 intro R s st H D I hq;refine qU W hc hi hg hb hs R s st H D I ?_;obtain⟨e,l,r,U,hr,W⟩:=hq;refine⟨e,l,r,U,hr,W.xs U λsrc C k J P _ e1 r1 q1 p1=>?_⟩;cases src with
 |seq ds=>
  have L:nc T EN (Fn T) k P (El t g ds l C) (Dm X D):=p1;refine⟨λi m p b=>m=ds.length - i/\∃ e l r,we k P e b/\ji T e b l p/\Xd T e b r/\nc T EN (Fn T) e b (El t g (ds.drop i) l r) (Dm X D),⟨ds.length,by simp,k,l,C,we.refl _ _,U.mono e1,r1,by simpa using L⟩,?_⟩;rintro i m p b ⟨rfl,f,v,j,ex,u,B,c⟩;have so:=q1 f b j i ex B;have a:match (some ds[i]?)with|none=>True|some none=>J.stop i b|some (some d)=>J.go i b/\∀ x Q,J.JA i b x Q->Q=b/\Qa T f b d x:=so
  cases E:ds[i]? with
  |none=>
   rw[E]at a;rw[Yr (Kc.mp E)]at c;exact .inl ⟨a,nc.here (g:=Sr.nx p) c B u⟩
  |some d=>
   rw[E]at a;obtain⟨hl,ed⟩:=la.mp E;have hd:ds.drop i=d::ds.drop (i+1):=by rw[<-ed];exact(vg hl)
   rw[hd]at c;unfold El at c;refine .inr ⟨a.1,λq o=>∃ e l r,we k P e o/\ji T e o l q/\Xd T e o r/\nc T EN (Fn T) e o (El t g (ds.drop (i+1)) l r) (Dm X D),λq o h=>⟨ds.length - (i+1),by omega,rfl,h⟩,λx o y=>?_⟩;obtain⟨rfl,Y⟩:=a.2 x o y;cases K:t d v with
   |none=>rw[K]at c;exact c.elim
   |some z=>
    rw[K]at c;exact⟨f,j,v,d,z,u,B,Y,K,λq F=>⟨f,z,j,F,B,c.bind λfl O M gl H4 _ V S q4 p4=>xM S q4 p4 λN a0 G Z=>⟨M,N,O,ex.trans V,G,S,Z⟩⟩⟩
 |wu n=>
  have L:nc T EN (Fn T) k P (WA t g n 1001 0 l C) (Dm X D):=p1;refine⟨λi m p b=>∃ e l r,we k P e b/\ji T e b l p/\Xd T e b r/\nc T EN (Fn T) e b (WA t g n m i l r) (Dm X D),⟨1001,k,l,C,we.refl _ _,U.mono e1,r1,L⟩,?_⟩;rintro i m p b ⟨f,v,j,ex,u,B,c⟩;cases m with
  |zero=>exact c.elim
  |succ m=>
   unfold WA at c;have so:=q1 f b j i ex B;have a:match ((rj j n).map λxs=>xs[i]?)with|none=>True|some none=>J.stop i b|some (some d)=>J.go i b/\∀ x Q,J.JA i b x Q->Q=b/\Qa T f b d x:=so
   cases el:rj j n with
   |none=>simp only[el]at c;exact c.elim
   |some xs=>
    simp only[el]at c a;cases E:xs[i]? with
    |none=>
     simp only[E,Vn]at c a;exact .inl ⟨a,nc.here (g:=Sr.nx p) c B u⟩
    |some d=>
     simp only[E,Vn]at c a;refine .inr ⟨a.1,λq o=>∃ e l r,we k P e o/\ji T e o l q/\Xd T e o r/\nc T EN (Fn T) e o (WA t g n m (i+1) l r) (Dm X D),λq o h=>⟨m,Ed _,h⟩,λx o y=>?_⟩;obtain⟨rfl,Y⟩:=a.2 x o y;cases K:t d v with
     |none=>simp only[K]at c;exact c.elim
     |some z=>
      simp only[K]at c;exact⟨f,j,v,d,z,u,B,Y,K,λq F=>⟨f,z,j,F,B,c.bind λfl O M gl H4 _ V S q4 p4=>xM S q4 p4 λN a0 G Z=>⟨M,N,O,ex.trans V,G,S,Z⟩⟩⟩
end
mutual
def cl:D->Bool
 | .Ga xs=>wg xs
 | .va xs=>wg xs
 | .Bc _ xs=>wg xs
 | .obj _ _ xs=>wg xs
 | .ref _=>false
 | .Rb=>true
 | .bl _=>true
 | .int _=>true
 | .str _=>true
 | .Uf _=>true
 | .bu _=>true
 | .gt _=>true
def wg:List D->Bool
 |[]=>true
 |d::ds=>cl d && wg ds
end
noncomputable def En(f:D->Option D):List D->Option (List D)
 |[]=>some []
 |d::ds=>match f d,En f ds with
  |some x,some xs=>some (x::xs)
  |_,_=>none
def fz(k:Nat)(a:nb):Nat->D->Option D
 |0,d=>if cl d=true then some d else match d with
  | .ref n=>if n<k then some (.ref n)else none
  |_=>none
 |m+1,d=>if cl d=true then some d else match d with
  | .ref n=>if n<k then some (.ref n)else match a[n]? with
   |some (.va xs)=>(En (fz k a m) xs).map .va
   |some (.Bc b)=>(En (fz k a m) (b.map (·.2))).map (.Bc (b.map (·.1)))
   |some (.Ld c e)=>(En (fz k a m) (e.map (·.2))).map (.obj c (e.map (·.1)))
   |some (.Xf _)=>none
   |some (.rl _)=>none
   |none=>none
  | .Ga xs=>(En (fz k a m) xs).map .Ga
  | .va xs=>(En (fz k a m) xs).map .va
  | .Bc ks xs=>(En (fz k a m) xs).map (.Bc ks)
  | .obj c ns xs=>(En (fz k a m) xs).map (.obj c ns)
  |_=>none
open Classical in
def gi(b:nb):Jk D->Jk D
 | .ok d a=>if a.take b.length=b then (match fz b.length a 6 d with
  |some c=>.ok c b
  |none=>.Xb)else .Xb
 | .ex x a=>if a.take b.length=b then .ex x b else .Xb
 | .Xb=>.Xb
def jc(f:M D):M D:=λa=>gi a (f a)
section
variable{T:Tb}{μ μ':List Addr}{H H':Hp}{σ σ':nb}
mutual
theorem QJ(e:∃ r,μ'=μ++r):∀ (d:D) (v:V),cl d=true->Qa T μ' H d v->Qa T μ H d v
 | .Rb,v,_,h=>by simpa [Qa]using h
 | .bl b,v,_,h=>by simpa [Qa]using h
 | .int i,v,_,h=>by simpa [Qa]using h
 | .str x,v,_,h=>by simpa [Qa]using h
 | .Ga ds,v,c,h=>by
  rw[Qa]at h ⊢;obtain⟨p,l,f,g,j⟩:=h;exact⟨p,l,f,g,qD e ds l (by simpa [cl]using c) j⟩
 | .Uf ns,v,_,h=>by rw[Qa]at h ⊢;exact h
 | .ref n,v,c,h=>by simp[cl]at c
 | .va ds,v,c,h=>by
  rw[Qa]at h ⊢;obtain⟨a,l,f,g,j,m⟩:=h;exact⟨a,l,f,λz=>g (by obtain⟨r,rfl⟩:=e;exact qb _ z),j,qD e ds l (by simpa [cl]using c) m⟩
 | .Bc ks ds,v,c,h=>by
  rw[Qa]at h ⊢;obtain⟨a,l,f,g,j,o,m⟩:=h;exact⟨a,l,f,λz=>g (by obtain⟨r,rfl⟩:=e;exact qb _ z),j,o,qD e ds _ (by simpa [cl]using c) m⟩
 | .obj k ns ds,v,c,h=>by
  rw[Qa]at h ⊢;obtain⟨a,u,l,f,g,j,o,m⟩:=h;exact⟨a,u,l,f,λz=>g (by obtain⟨r,rfl⟩:=e;exact qb _ z),j,o,qD e ds _ (by simpa [cl]using c) m⟩
 | .bu k,v,_,h=>by
  rw[Qa]at h ⊢;obtain⟨a,t,f,g,j,m⟩:=h;exact⟨a,t,f,λz=>g (by obtain⟨r,rfl⟩:=e;exact qb _ z),j,λn q=>let ⟨s,w,y,A⟩:=m n q;⟨s,w,λz=>y (by obtain⟨r,rfl⟩:=e;exact qb _ z),A⟩⟩
 | .gt ss,v,_,h=>by rw[Qa]at h ⊢;exact h
theorem qD(e:∃ r,μ'=μ++r):∀ (a:List D) (b:List V),wg a=true->Jb T μ' H a b->Jb T μ H a b
 |[],b,_,h=>by simpa [Jb]using h
 |d::a,b,c,h=>by
  rw[Jb]at h ⊢;obtain⟨v,r,g,i,j⟩:=h;have f:cl d=true/\wg a=true:=by simpa [wg,La]using c
  exact⟨v,r,g,QJ e d v f.1 i,qD e a r f.2 j⟩
end
mutual
theorem Qa.down(e:∃ r,μ'=μ++r):∀ (d:D) (v0 v:V),Qa T μ H d v0->Qa T μ' H' d v->Qa T μ H' d v
 | .Rb,v0,v,_,h=>by simpa [Qa]using h
 | .bl b,v0,v,_,h=>by simpa [Qa]using h
 | .int i,v0,v,_,h=>by simpa [Qa]using h
 | .str x,v0,v,_,h=>by simpa [Qa]using h
 | .Ga ds,v0,v,c,h=>by
  rw[Qa]at h c ⊢;obtain⟨p,m,g,f,l⟩:=h;obtain⟨G,j,_,_,w⟩:=c;exact⟨p,m,g,f,Jb.down e ds j m w l⟩
 | .Uf ns,v0,v,_,h=>by rw[Qa]at h ⊢;exact h
 | .ref n,v0,v,c,h=>by
  rw[Qa]at h c ⊢;obtain⟨a,g,f⟩:=h;obtain⟨b,_,u⟩:=c;refine⟨a,g,?_⟩;obtain⟨r,rfl⟩:=e;rw[Kb (la.mp u).1]at f;exact f
 | .va ds,v0,v,c,h=>by
  rw[Qa]at h c ⊢;obtain⟨a,m,g,f,l,o⟩:=h;obtain⟨_,j,_,_,_,s⟩:=c;exact⟨a,m,g,λz=>f (by obtain⟨r,rfl⟩:=e;exact qb _ z),l,Jb.down e ds j m s o⟩
 | .Bc ks ds,v0,v,c,h=>by
  rw[Qa]at h c ⊢;obtain⟨a,m,g,f,l,t,o⟩:=h;obtain⟨_,j,_,_,_,_,s⟩:=c;exact⟨a,m,g,λz=>f (by obtain⟨r,rfl⟩:=e;exact qb _ z),l,t,Jb.down e ds _ _ s o⟩
 | .obj k ns ds,v0,v,c,h=>by
  rw[Qa]at h c ⊢;obtain⟨a,B,m,g,f,l,t,o⟩:=h;obtain⟨_,_,j,_,_,_,_,s⟩:=c;exact⟨a,B,m,g,λz=>f (by obtain⟨r,rfl⟩:=e;exact qb _ z),l,t,Jb.down e ds _ _ s o⟩
 | .bu k,v0,v,_,h=>by
  rw[Qa]at h ⊢;obtain⟨a,A,g,f,l,o⟩:=h;exact⟨a,A,g,λz=>f (by obtain⟨r,rfl⟩:=e;exact qb _ z),l,λn q=>let ⟨y,C,E,F⟩:=o n q;⟨y,C,λz=>E (by obtain⟨r,rfl⟩:=e;exact qb _ z),F⟩⟩
 | .gt ss,v0,v,_,h=>by rw[Qa]at h ⊢;exact h
theorem Jb.down(e:∃ r,μ'=μ++r):∀ (b:List D) (a f:List V),Jb T μ H b a->Jb T μ' H' b f->Jb T μ H' b f
 |[],a,f,_,h=>by simpa [Jb]using h
 |d::b,a,f,c,h=>by
  rw[Jb]at h c ⊢;obtain⟨v,r,j,k,l⟩:=h;obtain⟨m,r0,_,g,i⟩:=c;exact⟨v,r,j,Qa.down e d m v g k,Jb.down e b r0 r i l⟩
end
theorem KI{f:Type}(e:∃ r,μ'=μ++r):∀ {xs:List (f × D)} {g h:List (f × V)},Paired (λ(p:f × D) (q:f × V)=>p.1=q.1/\Qa T μ H p.2 q.2) xs h->Paired (λ(p:f × D) (q:f × V)=>p.1=q.1/\Qa T μ' H' p.2 q.2) xs g->Paired (λ(p:f × D) (q:f × V)=>p.1=q.1/\Qa T μ H' p.2 q.2) xs g
 |_,_,_,.nil,.nil=>.nil
 |_,_,_,.cons a b,.cons c d=>.cons ⟨c.1,Qa.down e _ _ _ a.2 c.2⟩ (KI e b d)
theorem sq.down(e:∃ r,μ'=μ++r):∀ {o:Ob},sq T μ H a o->sq T μ' H' a o->sq T μ H' a o
 | .va ds,⟨_,_,c⟩,⟨b,h,r⟩=>⟨b,h,Jb.down e _ _ _ c r⟩
 | .Bc f,⟨_,_,c⟩,⟨b,h,r⟩=>⟨b,h,KI e c r⟩
 | .Ld c i,⟨_,_,_,d⟩,⟨g,b,h,r⟩=>⟨g,b,h,KI e d r⟩
 | .Xf f,⟨_,_,_,d⟩,⟨ob,b,h,r⟩=>⟨ob,b,h,KI e d r⟩
 | .rl ks,_,⟨b,h,r⟩=>⟨b,h,r⟩
theorem Xd.down(r0:Xd T μ H σ)(r:Xd T μ' H' σ')(e:we μ H μ' H')(m:σ'.take σ.length=σ):Xd T μ H' σ/\we μ H μ H':=by
 refine⟨⟨r0.len,r0.nd,λn o h=>?_,r.tb.sub λb k=>by obtain⟨z,rfl⟩:=e.pre;exact qb _ k⟩,⟨⟨[],by simp⟩,e.Ga,e.jc,λp o h n=>⟨(e.keep p o h n).1,n⟩⟩⟩;obtain⟨a,d,g⟩:=r0.obs n o h;have f:σ'[n]?=some o:=by
  have l:=(la.mp h).1;rw[<-m,Uq l]at h;exact h
 obtain⟨b,i,j⟩:=r.obs n o f;have c:=e.get d;rw[i]at c;cases c;exact⟨a,d,g.down e.pre j⟩
theorem CL{c:Type}:∀ {xs:List (c × D)} {d:List (c × V)},Paired (λ(p:c × D) (q:c × V)=>p.1=q.1/\Qa T μ H p.2 q.2) xs d->d.map (·.1)=xs.map (·.1)/\Jb T μ H (xs.map (·.2)) (d.map (·.2))
 |_,_,.nil=>⟨rfl,Jb.nil⟩
 |_,_,.cons a b=>by
  obtain⟨e,f⟩:=CL b;exact⟨by simp[e,a.1],Jb.cons a.2 f⟩
theorem IP{f:D->Option D}(j:∀ d i v,f d=some i->Qa T μ' H d v->Qa T μ H i v):∀ (b a:List D) (e:List V),En f b=some a->Jb T μ' H b e->Jb T μ H a e
 |[],a,e,h,r=>by cases h;simpa [Jb]using r
 |d::b,a,e,h,r=>by
  unfold En at h;cases c:f d with
  |none=>rw[c]at h;cases h
  |some x=>
   cases g:En f b with
   |none=>rw[c,g]at h;cases h
   |some xs=>
    rw[c,g]at h;cases h;obtain⟨v,w,rfl,k,l⟩:=r;exact Jb.cons (j d x v c k) (IP j b xs w g l)
theorem OU(e:∃ r,μ'=μ++r)(r:Xd T μ' H σ'):∀ (m:Nat) (d C:D) (v:V),fz μ.length σ' m d=some C->Qa T μ' H d v->Qa T μ H C v:=by
 have I:∀ n v,n<μ.length->Qa T μ' H (.ref n) v->Qa T μ H (.ref n) v:=λn v s h=>by
  obtain⟨a,j,f⟩:=h;obtain⟨q,rfl⟩:=e;rw[Kb s]at f;exact⟨a,j,f⟩
 intro m;induction m with
 |zero=>
  intro d C v h l;unfold fz at h;by_cases y:cl d=true
  ·rw[ja y]at h;cases h;exact QJ e _ _ y l
  ·rw[ka y]at h;cases d with
   |ref n=>
    dsimp only at h;by_cases s:n<μ.length
    ·rw[ja s]at h;cases h;exact I n v s l
    ·rw[ka s]at h;cases h
   |_=>cases h
 |succ m S=>
  intro d C v h l;unfold fz at h;by_cases y:cl d=true
  ·rw[ja y]at h;cases h;exact QJ e _ _ y l
  ·rw[ka y]at h;have x:=IP (λd C v a b=>S d C v a b);cases d with
   |ref n=>
    dsimp only at h;by_cases s:n<μ.length
    ·rw[ja s]at h;cases h;exact I n v s l
    ·rw[ka s]at h;cases L:σ'[n]? with
     |none=>rw[L]at h;cases h
     |some o=>
      rw[L]at h;obtain⟨a,rfl,Q,A⟩:=r.at l L;have B:a ∉ μ:=λz=>by
       obtain⟨i,P⟩:=Xt z;obtain⟨q,rfl⟩:=e;have R:=(la.mp P).1;have:=fL r.nd (by rw[Kb R];exact P) Q;omega
      cases o with
      |va xs=>
       obtain⟨k,j,f⟩:=Eb.mp h;subst f;obtain⟨g,F,G⟩:=A;exact⟨a,g,rfl,B,F,x xs k g j G⟩
      |Bc O=>
       obtain⟨k,j,f⟩:=Eb.mp h;subst f;obtain⟨g,F,G⟩:=A;obtain⟨M,N⟩:=CL G;exact⟨a,g,rfl,B,(.inl F),M,x _ k _ j N⟩
      |Ld c U=>
       obtain⟨k,j,f⟩:=Eb.mp h;subst f;obtain⟨J,g,F,G⟩:=A;obtain⟨M,N⟩:=CL G;exact⟨a,J,g,rfl,B,F,M,x _ k _ j N⟩
      |Xf O=>cases h
      |rl _=>cases h
   |Ga xs=>
    obtain⟨k,j,f⟩:=Eb.mp h;subst f;obtain⟨p,g,t,u,w⟩:=l;exact⟨p,g,t,u,x xs k g j w⟩
   |va xs=>
    obtain⟨k,j,f⟩:=Eb.mp h;subst f;obtain⟨p,g,t,E,u,w⟩:=l;exact⟨p,g,t,λz=>E (by obtain⟨r,rfl⟩:=e;exact qb _ z),u,x xs k g j w⟩
   |Bc ks xs=>
    obtain⟨k,j,f⟩:=Eb.mp h;subst f;obtain⟨p,g,t,E,u,K,w⟩:=l;exact⟨p,g,t,λz=>E (by obtain⟨r,rfl⟩:=e;exact qb _ z),u,K,x xs k _ j w⟩
   |obj c ks xs=>
    obtain⟨k,j,f⟩:=Eb.mp h;subst f;obtain⟨p,J,g,t,E,u,K,w⟩:=l;exact⟨p,J,g,t,λz=>E (by obtain⟨r,rfl⟩:=e;exact qb _ z),u,K,x xs k _ j w⟩
   |_=>cases h
theorem nc.jc{E:XK}{f:M D}{Q:V->Hp->Prop}(r:Xd T μ H σ)(h:nc T E (Qa T) μ H (jc f σ) Q):nc T E (Qa T) μ H (f σ) Q:=by
 unfold L4.jc at h;cases e:f σ with
 |Xb=>rw[e]at h;exact h
 |ex x a=>
  rw[e]at h;unfold gi at h;dsimp only at h;by_cases b:a.take σ.length=σ
  ·rw[ja b]at h;intro m i c g;obtain⟨l,j⟩:=Xd.down r g c b;exact h μ i j l
  ·rw[ka b]at h;exact h.elim
 |ok d a=>
  rw[e]at h;unfold gi at h;dsimp only at h;by_cases b:a.take σ.length=σ
  ·rw[ja b]at h;cases k:fz σ.length a 6 d with
   |none=>rw[k]at h;exact h.elim
   |some n=>
    rw[k]at h;intro m v i c g o;obtain⟨l,j⟩:=Xd.down r g c b;exact h μ v i j l (OU c.pre g 6 d n v (by rw[r.len];exact k) o)
  ·rw[ka b]at h;exact h.elim
end
def ki(f:Ev->M D):Ev->M D:=λa=>jc (f a)
theorem Ho(h:FE T X e f):FE T X e (ki f):=by
 intro a s i H Q I g;obtain⟨j,k,l,c,b,d⟩:=g;exact h a s i H Q I ⟨j,k,l,c,b,nc.jc b d⟩
end L4
namespace L4
open PySem PySem.Spec PyProof.Rows L2
def DK(h c:Heap):Prop:=∀ (a:Nat) o,h.objs[a]?=some o->∃ b:Vc,c.objs[a]?=some b/\b.dict=o.dict
theorem DK.refl(h:Heap):DK h h:=λ_ o e=>⟨o,e,rfl⟩
theorem DK.trans(x:DK d f)(y:DK f g):DK d g:=λa o e=>by
 obtain⟨i,h,q⟩:=x a o e;obtain⟨c,b,j⟩:=y a i h;exact⟨c,b,j.trans q⟩
theorem DK.push(h:Heap)(o:Vc):DK h (h.push o):=λa u e=>by
 obtain⟨b,l⟩:=h;have e:=e;have c:=(Nd.mp e).1;refine⟨u,?_,rfl⟩;show (b.push o)[a]?=some u;rw[Array.getElem?_push_lt c];exact(Bi c).symm.trans e
theorem DK.update(h:Heap)(b:Addr)(g:∀ o,(f o).dict=o.dict):DK h (h.update b f):=λa u e=>by
 obtain⟨c,l⟩:=h;have e:=e;show ∃ i:Vc,(c.modify b f)[a]?=some i/\_;rw[Array.getElem?_modify];by_cases d:b=a
 ·rw[ja d,e];exact⟨f u,rfl,g u⟩
 ·rw[ka d];exact⟨u,e,rfl⟩
theorem DK.get(x:DK h b)(e:h.get? a=some o)(d:b.get? a=some c):c.dict=o.dict:=by
 obtain⟨u,f,g⟩:=x a o ((jw _ _ _).1 e).1;have:=((jw _ _ _).1 d).1;have z:=f.symm.trans this;cases z;exact g
structure KD{α:Type}(t:iq α):Prop where
 out:∀ (M:fm) (Γ:PySem.Ctx) (Q:α->Ve->aa->Prop) (E:Value->Ve->aa->Prop) (p:Ve) (s:aa),Sem.wp M Γ t Q E p s->Sem.wp M Γ t (λa p' s'=>Q a p' s'/\DK s.heap s'.heap) (λe p' s'=>E e p' s'/\DK s.heap s'.heap) p s
namespace KD
variable{α β:Type}
theorem gu(a:α):KD (Pure.pure a:iq α):=⟨λ_ _ _ _ _ s h=>⟨h,.refl _⟩⟩
theorem vv(w:String):KD (PySem.unsupported w:iq α):=⟨λ_ _ _ _ _ _ h=>h⟩
theorem Pd(g:KD m)(e:∀ a,KD (f a)):KD (m >>= f):=⟨λM b Q E p s h=>by
 rw[An]at h ⊢;refine Eu M b m (λa c d z=>?_) (λ_ _ _ z=>z) p s (g.out M b _ _ p s h);exact Eu M b (f a) (λ_ _ _ q=>⟨q.1,z.2.trans q.2⟩) (λ_ _ _ q=>⟨q.1,z.2.trans q.2⟩) c d ((e a).out M b _ _ c d z.1)⟩
theorem xo{c:Prop}[Decidable c]{t u:iq α}(a:KD t)(b:KD u):KD (if c then t else u):=by split<;>assumption
theorem ld(a:Addr):KD (PySem.load a):=⟨λ_ _ _ _ _ _ h=>by obtain⟨o,b,h⟩:=h;exact⟨o,b,h,.refl _⟩⟩
theorem rc(a:Addr)(b:∀ o,(f o).dict=o.dict):KD (PySem.update a f):=⟨λ_ _ _ _ _ _ h=>⟨h.1,h.2,.update _ _ b⟩⟩
theorem wq:KD PySem.stack:=⟨λM a Q E p s h=>by
 exact⟨h,.refl _⟩⟩
theorem Yv(o:Vc):KD (PySem.alloc o):=⟨λ_ _ _ _ _ _ h=>⟨h,.push _ _⟩⟩
theorem fld(v:Value)(i:Nat):KD (PySem.field v i):=⟨λ_ g Q E p s h=>by
 rw[qw]at h ⊢;obtain⟨a,o,f,x,b,c,d,e,h⟩:=h;exact⟨a,o,f,x,b,c,d,e,h,.refl _⟩⟩
theorem set(v:Value)(i:Nat)(x:Value):KD (PySem.setField v i x):=⟨λ_ m Q E p s h=>by
 rw[aJ]at h ⊢;obtain⟨a,o,k,e,f,g,j,h⟩:=h;exact⟨a,o,k,e,f,g,j,h,.update _ _ λo=>by obtain⟨c,d,b,l⟩:=o;cases b<;>rfl⟩⟩
end KD
theorem dZ(a:nh)(l:List nh):KD (SN a l):=by unfold SN;(repeat' with_reducible first|assumption|exact KD.gu _|exact KD.vv _|exact KD.fld _ _|exact KD.set _ _ _|exact KD.ld _|exact KD.rc _ (λ_=>rfl)|exact KD.wq|exact KD.Yv _|apply KD.xo|apply KD.Pd|intro _|split)
theorem Z7:KD underTheClaimsCaller:=by unfold underTheClaimsCaller;(repeat' with_reducible first|assumption|exact KD.gu _|exact KD.vv _|exact KD.fld _ _|exact KD.set _ _ _|exact KD.ld _|exact KD.rc _ (λ_=>rfl)|exact KD.wq|exact KD.Yv _|apply KD.xo|apply KD.Pd|intro _|split)
theorem k7(a:nh)(i:Bool)(l:List nh):KD (keptBack a i l):=by
 have:=Z7;cases l<;>unfold keptBack<;>(repeat' with_reducible first|assumption|exact KD.gu _|exact KD.vv _|exact KD.fld _ _|exact KD.set _ _ _|exact KD.ld _|exact KD.rc _ (λ_=>rfl)|exact KD.wq|exact KD.Yv _|apply KD.xo|apply KD.Pd|intro _|split)
theorem VR:∀ l:List nh,KD (readyFrames l)
 |[]=>KD.gu _
 |env::l=>by
  have c:=VR l;have b:=dZ env l;have a:=λi=>k7 env i l;unfold readyFrames
  (repeat' with_reducible first|assumption|exact KD.gu _|exact KD.vv _|exact KD.fld _ _|exact KD.set _ _ _|exact KD.ld _|exact KD.rc _ (λ_=>rfl)|exact KD.wq|exact KD.Yv _|apply KD.xo|apply KD.Pd|intro _|split)
  all_goals first|exact a _|skip
theorem C3(l:List nh):KD (frameObject l):=by
 cases l with
 |nil=>exact KD.gu _
 |cons env l=>
  have:=VR (env::l);unfold frameObject
  (repeat' with_reducible first|assumption|exact KD.gu _|exact KD.vv _|exact KD.fld _ _|exact KD.set _ _ _|exact KD.ld _|exact KD.rc _ (λ_=>rfl)|exact KD.wq|exact KD.Yv _|apply KD.xo|apply KD.Pd|intro _|split)
theorem W5:KD frameEnvs:=by unfold frameEnvs;(repeat' with_reducible first|assumption|exact KD.gu _|exact KD.vv _|exact KD.fld _ _|exact KD.set _ _ _|exact KD.ld _|exact KD.rc _ (λ_=>rfl)|exact KD.wq|exact KD.Yv _|apply KD.xo|apply KD.Pd|intro _|split)
theorem OZ(a:nh):KD (PySem.frameOf a):=by
 have c:=W5;have b:=C3;unfold PySem.frameOf
 (repeat' with_reducible first|assumption|exact KD.gu _|exact KD.vv _|exact KD.fld _ _|exact KD.set _ _ _|exact KD.ld _|exact KD.rc _ (λ_=>rfl)|exact KD.wq|exact KD.Yv _|apply KD.xo|apply KD.Pd|intro _|split)
 all_goals first|exact b _|skip
theorem MY(f:Addr)(b:Bool):KD (entryPlaceOf f b):=by unfold entryPlaceOf;(repeat' with_reducible first|assumption|exact KD.gu _|exact KD.vv _|exact KD.fld _ _|exact KD.set _ _ _|exact KD.ld _|exact KD.rc _ (λ_=>rfl)|exact KD.wq|exact KD.Yv _|apply KD.xo|apply KD.Pd|intro _|split)
theorem Q4(a b c d e:Value)(l:List Value):KD (Lq a b c d e l):=by
 unfold Lq newFields newObj newObjAsIs
 (repeat' with_reducible first|assumption|exact KD.gu _|exact KD.vv _|exact KD.fld _ _|exact KD.set _ _ _|exact KD.ld _|exact KD.rc _ (λ_=>rfl)|exact KD.wq|exact KD.Yv _|apply KD.xo|apply KD.Pd|intro _|split)
theorem eY(e:Value)(a:nh):KD (ph e a):=by
 have d:=OZ a;have b:=MY;have c:=Q4;unfold ph
 (repeat' with_reducible first|assumption|exact KD.gu _|exact KD.vv _|exact KD.fld _ _|exact KD.set _ _ _|exact KD.ld _|exact KD.rc _ (λ_=>rfl)|exact KD.wq|exact KD.Yv _|apply KD.xo|apply KD.Pd|intro _|split)
 all_goals first|exact b _ _|exact c _ _ _ _ _ _|skip
theorem î(e:Value)(f:Option Addr):KD (Yj e f):=by unfold Yj;(repeat' with_reducible first|assumption|exact KD.gu _|exact KD.vv _|exact KD.fld _ _|exact KD.set _ _ _|exact KD.ld _|exact KD.rc _ (λ_=>rfl)|exact KD.wq|exact KD.Yv _|apply KD.xo|apply KD.Pd|intro _|split)
theorem kR{M:fm}{t:iq e}{Q:e->aa->Prop}(k:KD t)(h:wpAny M A t Q E s):wpAny M A t (λa d=>Q a d/\DK s.heap d.heap) E s:=
 λc p b=>Eu M c t (λ_ _ _ z=>z) (λ_ _ _ z=>z.1) p s (k.out M c _ _ p s (h c p b))
section
variable{P:Ca}{w:Ya}{H H':Hp}{h h':Heap}{a:Addr}{o:HO}
theorem MP(x:ak P w H h a o):∃ u,h.get? a=some u:=by
 cases o with
 |va xs=>obtain⟨_,_,_,_,e⟩:=x;exact⟨_,e⟩
 |Ga xs=>obtain⟨_,_,_,d,e,_⟩:=x;exact⟨_,e⟩
 |dK b=>obtain⟨_,_,_,_,o,_,_,e,_⟩:=x;exact⟨_,e⟩
 |dT b=>obtain⟨_,_,_,_,o,_,_,e,_⟩:=x;exact⟨_,e⟩
 |set S n=>obtain⟨o,_,_,_,e,_⟩:=x;exact⟨_,e⟩
 |Ld C g c=>obtain⟨_,_,_,e,_⟩:=x;exact⟨_,e⟩
 |own y=>obtain⟨_,e⟩:=x;exact⟨_,e⟩
 |xd c=>obtain⟨_,⟨_,_,_,e,_⟩,_⟩:=x;exact⟨_,e⟩
 |fG lo i=>obtain⟨_,_,_,e⟩:=x;exact⟨_,e⟩
 |jc d u=>obtain⟨e,_⟩:=x;exact⟨_,e⟩
 |Fm j=>exact⟨_,x⟩
 |met f y=>exact⟨_,x⟩
 |ext k=>obtain⟨_,⟨_,e⟩,_⟩:=x;exact⟨_,e⟩
theorem mL(x:mj P w H h)(k:∀ b o u,H b=some o->h.get? b=some u->h'.get? b=some u):mj P w H h':=λb o e=>
 (x b o e).Uk (λc v a q=>by
  rcases a with rfl|a
  ·exact k _ _ _ e q
  ·exact k _ _ _ a q) (λ_ q=>q) λ_ _ q=>q
end
section
variable{X:Cx}{pins:List (Addr × Vc)}{st:St}{H H':Hp}{s s':aa}{cls:Value}{h':Heap}{ea:Addr}{args:List Value}{M:fm}{E:Value->aa->Prop}{Q:Unit->aa->Prop}
theorem YY(x:fC B l ea cls a h):ir B l ea cls a h:=⟨x.1,x.2.1,x.2.2.1,.inl ⟨.none,x.2.2.2.at⟩⟩
theorem ir.there(x:ir B l ea cls b h):∃ a,h.get? ea=some a/\a.cls=cls:=by
 obtain⟨_,_,_,⟨f,q⟩|⟨c,g,d,e,_⟩⟩:=x
 ·exact q.there
 ·exact⟨c,d,e⟩
theorem ir.RM(x:ir B l ea cls d h)(c:h.get? ea=some o):∃ a,o.data=.fields a:=by
 obtain⟨_,_,_,⟨k,g,a,T,oT,n,f,b,e,_⟩|⟨g,a,i,m,j,_⟩⟩:=x
 ·cases f.symm.trans c;exact⟨a,e⟩
 ·cases i.symm.trans c;exact⟨a,j⟩
theorem RE.next(x:RE a ea B h b H')(k:DK h h')(e:∃ o,h'.get? ea=some o):RE a ea B h' b H':=λn q=>by
 obtain⟨c,oD,i,d,f,g⟩:=x n q;obtain⟨o,e⟩:=e;exact⟨c,oD,o,e,(k.get d e).trans f,g⟩
theorem kL(x:ir B l ea cls d s.heap)(i:∀ a,ir B l ea cls d a->s.heap.UpToSlots a->DK s.heap a->Q () { s with heap:=a }):wpAny M A (Yj (.ref ea) none) Q E s:=by
 obtain⟨f,g,h,⟨y,c⟩|c⟩:=x
 ·have k:wpAny M A (Yj (.ref ea) none) (λ_ s'=>∃ a,s'={ s with heap:=a }/\ir B l ea cls d a/\s.heap.UpToSlots a) E s:=
   wpAny_setFlight_noneW f h c λa p q r t=>⟨a,rfl,YY ⟨p,g,q,r⟩,λb o e n=>⟨o.slots,t b o e n⟩⟩
  exact Hc (kR (î _ _) k) (λ_ _ ⟨⟨a,e,u,v⟩,w⟩=>by subst e;exact i a u v w) λ_ _ z=>z
 ·obtain⟨G,H,m,D,j,F,C,a⟩:=id c;refine da (Zl m j a ?_);exact ra (i s.heap ⟨f,g,h,.inr c⟩ (.refl _) (.refl _))
theorem T5(w:A.frames=some (c::a))(u:c.frame=some L)(x:ir B (c::a) ea cls m s.heap)
  (K:∀ h,jq B (c::a) ea cls m L h->s.heap.UpToSlots h->Q () { s with heap:=h }):wpAny M A (ph (.ref ea) c) Q E s:=by
 obtain⟨H,z,I,⟨C,r⟩|r⟩:=x
 ·by_cases hm:C=Kf L
  ·subst hm;exact wpAny_noteFrame_againW u r (K s.heap ⟨H,z,I,r⟩ (.refl _))
  ·obtain⟨U,W,T,oT,ts,l,N,j,h,y,i,D,d,Z⟩:=r;have V:3<ts.size:=(Nd.mp Z).1;have f:∀ b,b≠T->(s.heap.update T (gj (·.setIfInBounds 3 lc))).get? b=s.heap.get? b:=λb F=>Aj _ _ (qf F);have nr:∀ b o,s.heap.get? b=some o->(∀ v,o.data≠.fields v)->b≠T:=λb o F hn q=>by
    rw[q,D]at F;cases F;exact hn ts d
   have g:=ft (gj (·.setIfInBounds 3 lc)) D (Obj.isFreed_of_fields (am d _));have up:s.heap.UpToSlots (s.heap.update T (gj (·.setIfInBounds 3 lc))):=λb o e n=>⟨o.slots,(f b (nr b o e n)).trans e⟩
   have F0:fC B (c::a) ea cls m (s.heap.update T (gj (·.setIfInBounds 3 lc))):=
    ⟨λb o e=>(f b λq=>by rw[q,y]at e;cases e).trans (H b o e),z,I.of_keeps λb o e n=>⟨o,(f b (nr b o e n)).trans e,rfl⟩,
     U,W,T,_,_,(f ea (qf i)).trans l,N,j,h,y,i,g,am d _,by simp[V]⟩
   have P:=wpAny_looks_onW (M:=M) (E:=E) (s:={ s with heap:=s.heap.update T (gj (·.setIfInBounds 3 lc)) }) w u F0 λh2 q1 q2=>K h2 q1 (up.trans q2);intro Γ p O;have k:=P Γ p O;unfold ph at k ⊢;simp only[u]at k ⊢;rw[An,qw]at k ⊢;obtain⟨a1,R,v1,x1,e1,g1,Y,i1,k⟩:=k;cases e1;have t:s.heap.get? ea=some R:=(f ea (qf i)).symm.trans g1;have S:R=U:=by rw[l]at t;cases t;rfl
   subst S;rw[j]at Y;cases Y;rw[h]at i1;cases i1;refine⟨ea,R,W,.ref T,rfl,l,j,h,?_⟩;have nn:(Nb T != lc)=true:=by simp
   simp only[nn,zg]at k ⊢;rw[An,qw]at k ⊢;obtain⟨a2,o2,v2,x2,e2,g2,d2,i2,k⟩:=k;cases e2;have J:=g.symm.trans g2;cases J;have G:=(am d (·.setIfInBounds 3 lc)).symm.trans d2;cases G;have X:x2=lc:=by
    have:(ts.setIfInBounds 3 lc)[3]?=some lc:=by simp[V]
    rw[this]at i2;cases i2;rfl
   subst X;refine⟨T,oT,ts,C,rfl,D,d,Z,?_⟩;have n1:(lc == Kf L)=false:=by simp[Kf]
   have n2:(C == Kf L)=false:=by
    cases q:C == Kf L with
    |false=>rfl
    |true=>exact absurd (wh.mp q) hm
   simp only[n1,n2,Ml,Lk]at k ⊢;rw[An,aJ]at k ⊢;obtain⟨a3,o3,v3,e3,g3,d3,i3,k⟩:=k;cases e3;refine⟨T,oT,ts,rfl,D,d,V,?_⟩;simp only[Heap.update_setField_twice]at k;exact k
 ·obtain⟨U,W,l,N,j,hz,h0,h⟩:=r;unfold ph;simp only[u];refine da (Zl l j h ?_);refine wpAny_entryW (base:=B) (outer:=a) (a0:=m) w I u l H z j hz h0 λh4 hN=>?_;obtain⟨k1,k2,k3,k4⟩:=hN;rw[N]at k3;exact K h4 ⟨k1,z,k2,k3⟩ k4
theorem LV(f:A.frames=some (b::a))(j:b.frame=some L)(x:ir B (b::a) ea cls d s.heap)
  (i:∀ c,jq B (b::a) ea cls d L c->s.heap.UpToSlots c->DK s.heap c->Q () { s with heap:=c }):wpAny M A (ph (.ref ea) b) Q E s:=by
 have k:wpAny M A (ph (.ref ea) b) (λ_ s'=>∃ c,s'={ s with heap:=c }/\jq B (b::a) ea cls d L c/\s.heap.UpToSlots c) E s:=T5 f j x λc g h=>⟨c,rfl,g,h⟩
 exact Hc (kR (eY _ _) k) (λ_ _ ⟨⟨c,e,g,h⟩,l⟩=>by subst e;exact i c g h l) λ_ _ z=>z
theorem jQ(x:jq B l ea cls a L h):ir B l ea cls a h:=⟨x.1,x.2.1,x.2.2.1,.inl ⟨_,x.2.2.2⟩⟩
theorem bY(d:A.frames=some (b::a))(h:b.frame=some L)(x:ir B (b::a) ea cls e s.heap)
  (g:∀ c,ir B a ea cls e c->s.heap.UpToSlots c->DK s.heap c->Q () { s with heap:=c }):wpAny M A (leaving b (.ref ea)) Q E s:=by
 refine da (LV d h x λc m n o=>?_);refine kL (jQ m) λf p q r=>?_;obtain⟨i,j,⟨_,_,k⟩,l⟩:=p;exact g f ⟨i,j,k,l⟩ (n.trans q) (o.trans r)
theorem AG(c:X.stack=X.env::X.outer)(a:X.env.frame=some X.env.locals):b∈rk X.stack ↔ b=X.env.locals\/b∈rk X.outer:=by
 rw[c];unfold rk;rw[ai,a];exact Na
theorem o8(I:lb X pins st H s)(m:X.stack=X.env::X.outer)(l:X.env.frame=some X.env.locals)(p:X.ex=[])(d:Un (rk X.stack) [] H H' s.heap f):Un (rk X.outer) [] X.H₀ H' X.s₀.heap f:=by
 have a:∀ b,b ∉ X.ex:=λb z=>by rw[p]at z;cases z
 have i:∀ b o,X.s₀.heap.get? b=some o->b≠X.env.locals:=λb o e=>Sa (Xa (Ba e) I.ok.above);refine⟨λb o e n g _=>?_,λb o e n g _=>?_,λb o e n _=>?_,λb o e _=>?_,λb xs e=>d.Gj b xs (I.base.Gj b xs e),λb o u e=>d.ui b o u (I.base.ui b o u e),λb t e=>?_⟩
 ·exact d.keep b o (I.base.keep b o e n g (a b)) (I.base.free b o e n (a b)) (λz=>((AG m l).mp z).elim (i b o e) g) (by simp)
 ·obtain⟨v,c⟩:=I.base.slot b o e n g (a b);obtain⟨k,h⟩:=d.slot b _ c (I.base.free b o e n (a b)) ((AG m l).mpr (.inr g)) (by simp);exact⟨k,h⟩
 ·obtain⟨j,c⟩:=I.base.there b o e (a b);exact d.free b j c (I.base.free b o e n (a b)) (by simp)
 ·obtain⟨j,c⟩:=I.base.there b o e (a b);exact d.there b j c (by simp)
 ·obtain⟨q,c⟩:=I.base.tj b t e;obtain⟨r,h⟩:=d.tj b _ c;exact⟨q++r,by rw[h,wl]⟩
theorem UL(F:qz P w a H s cls x H' e s'){B:Heap}(z:∀ b o,s.heap.get? b=some o->H b=none->b ∉ rk a->B.get? b=some o)(A:∀ b o,H' b=some o->∃ v,B.get? b=some v)
  (y:∀ b o,s.heap.get? b=some o->b ∉ rk a->∃ g,B.get? b=some g) (p:∀ b o,B.get? b=some o->s'.heap.get? b=some o) (f:∀ b o,B.get? b=some o->l.get? b=some o) (j:s'.heap.UpToSlots l) (i:∀ b∈rk a,∃ o,s.heap.get? b=some o/\(∀ E,o.data≠.fields E)/\H b=none) :
  Un (rk a) [] H H' s.heap l/\mj P w H' l:=by
 refine⟨⟨λb o e n d _=>f b o (z b o e n d),λb o e n d t=>?_,F.un.free,λb o e t=>?_,F.un.Gj,F.un.ui,F.un.tj⟩,mL F.zd λb o u e q=>?_⟩
 ·obtain⟨D,c⟩:=F.un.slot b o e n d t;obtain⟨g,h,r,_⟩:=i b d;rw[e]at h;cases h;obtain⟨k,m⟩:=j b _ c r;exact⟨k,m⟩
 ·by_cases d:b∈rk a
  ·obtain⟨g,h,r,C⟩:=i b d;rw[e]at h;cases h;obtain⟨D,c⟩:=F.un.slot b o e C d t;obtain⟨k,m⟩:=j b _ c r;exact⟨_,m⟩
  ·obtain⟨g,c⟩:=y b o e d;exact⟨g,f b g c⟩
 ·obtain⟨v,c⟩:=A b o e;have:=p b v c;rw[q]at this;cases this;exact f b _ c
theorem UJ(I:lb X pins st H s):∀ b∈rk X.stack,∃ o,s.heap.get? b=some o/\(∀ d,o.data≠.fields d)/\H b=none:=λb a=>by
 obtain⟨_,o,e,c⟩:=I.stack.mem a;exact⟨o,e,c,I.vl b a⟩
theorem ZX(I:lb X pins st H s)(f:X.stack=X.env::X.outer)(k:X.env.frame=some X.env.locals)(c:X.ex=[])(F:qz X.prog X.w X.stack H s cls l H' e s')
  (O:∀ i,qz X.prog X.w X.outer X.H₀ X.s₀ cls l H' e i->Q () i):wpAny M X.A (leaving X.env e) Q E s':=by
 obtain⟨ea,y,B,rfl,D,P,d,K,J,G,N⟩:=F.ex;have m:ir B (X.env::X.outer) ea cls y s'.heap:=by rw[<-f];exact D
 refine bY (by rw[<-f];exact I.ok.frames) k m λp x U V=>O _ ?_;obtain⟨T,t⟩:=UL F J K G D.1 x.1 U (UJ I);have a:∀ b,b ∉ X.ex:=λb z=>by rw[c]at z;cases z
 have g:∀ b o,X.s₀.heap.get? b=some o->b≠X.env.locals:=λb o e=>Sa (Xa (Ba e) I.ok.above);have h:∀ b,s.heap.get? b=none->X.s₀.heap.get? b=none:=λb e=>by
  cases q:X.s₀.heap.get? b with
  |none=>rfl
  |some u=>obtain⟨v,C⟩:=I.base.there _ _ q (a _);rw[e]at C;cases C
 have r:RE l ea B p X.s₀.heap H':=λn q=>by
  obtain⟨L,oD,S,W,Y,Z,z4,z5,z6⟩:=N.next V (let ⟨o,e,_⟩:=x.there;⟨o,e⟩) n q;exact⟨L,oD,S,W,Y,Z,z4,z5,h _ z6⟩
 refine⟨⟨ea,y,B,rfl,x,P,?_,K,λb o e n j=>?_,λb o e j=>?_,r⟩,F.os.trans I.os,F.bare,o8 I f k c T,t⟩
 ·cases q:X.s₀.heap.get? ea with
  |none=>rfl
  |some u=>obtain⟨v,e⟩:=I.base.there _ _ q (a _);rw[d]at e;cases e
 ·exact J b o (I.base.keep b o e n j (a b)) (I.base.free b o e n (a b)) λz=>((AG f k).mp z).elim (g b o e) j
 ·obtain⟨R,q⟩:=I.base.there b o e (a b);exact G b R q λz=>((AG f k).mp z).elim (g b o e) j
end
theorem Ë{P:Ca}{w:Ya}{K:W.Frag}{m:Str->Option Value}{d:Heap}{N:List Str}{g:Str}{c:Scope}{f:Addr}{l:Value}{A:Ta}{b:List nh}{s:aa}{H:Hp}{E:XK}{o:St}{a:Value}{j:Option Nat}{i:Hp}
  (h:E a j i):vB (Vp (Il P w) P w K m d N g c f l A b s H E) o a j i where
 mH:=λk p s1 e q I F=>ZX I rfl rfl rfl F λn G=>⟨a,j,i,G,h⟩
theorem vB.made(t:vB X r j none h)(I:lb X d r h s)(c:Heap.MadeExcOf s.heap h' f j i):X.xe (.ref f) { s with heap:=h' }:=by
 have w:=W.funFrames_hide I.stack (λl m a x=>Kl.mpr ⟨l,m,x⟩);have g:∀ b o,s.heap.get? b=some o->b ∉ rk X.stack->(W.hideAll s.heap (rk X.stack)).get? b=some o:=λb o e n=>W.hideAll_get _ e n;obtain⟨B,m,A,C⟩:=c.there;have p:∀ b o,h b=some o->b ∉ rk X.stack:=λb o e z=>by rw[I.vl b z]at e;cases e
 have y:h f=none:=by
  cases q:h f with
  |none=>rfl
  |some u=>obtain⟨v,e⟩:=MP (I.zd _ _ q);rw[c.new]at e;cases e
 refine t.mH d h s (.ref f) _ I ⟨⟨f,.ref B,W.hideAll s.heap (rk X.stack),rfl,⟨λb o q=>c.keeps b o (W.of_hideAll _ q),?_,w.of_keeps λb o e _=>⟨o,c.keeps b o e,rfl⟩,.inr ⟨_,_,m,rfl,rfl,by simp,rfl,rfl⟩⟩,y,c.new,λb o e=>?_,λb o e n k=>g b o e k,λb o e k=>⟨o,g b o e k⟩,λn q=>by cases q⟩,rfl,I.bare,⟨λb o e n k _=>c.keeps b o e,λb o e n k _=>⟨o.slots,c.keeps b o e⟩,λb o e n _=>n,λb o e _=>⟨o,c.keeps b o e⟩,λ_ _ e=>e,λ_ _ _ e=>e,λb D e=>⟨#[],by rw[e];simp⟩⟩,mL I.zd λb o u e q=>c.keeps b u q⟩
 ·cases q:(W.hideAll s.heap (rk X.stack)).get? f with
  |none=>rfl
  |some u=>have:=W.of_hideAll _ q;rw[c.new]at this;cases this
 ·obtain⟨u,q⟩:=MP (I.zd _ _ e);exact⟨u,g b u q (p b o e)⟩
theorem Rr{K:W.Frag} :
  Kq (model P w) (Vp (Il P w) P w K g c N d b f e A a s H E).A (Vp (Il P w) P w K g c N d b f e A a s H E).env (Vp (Il P w) P w K g c N d b f e A a s H E).xe:=zaC
noncomputable def S1:Fl->M D
 | .nx _=>ret .Rb
 | .rt d=>ret d
 | .xc _ x=>λa=>.ex x a
 |_=>Xb
def kx:Jk Fl->Jk D
 | .ok a σ=>S1 a σ
 |_=>.Xb
def Md(n:Nat)(g:Ev->M Fl)(a:List D):M D:=λb=>kx (g (a.map some++List.replicate (n - a.length) none) b)
noncomputable def uq(T:Tb)(n:Nat)(f:List D->M D):Sp:=λd H Q E=>∃ b c a,Jb T b H a d/\a.length=n/\Xd T b H c/\nc T E (Qa T) b H (f a c) Q
noncomputable def Ls(n:Nat)(f:List D->M D)(a:List D)(b:List D):M D:=if (b++a).length=n then f (b++a)else Xb
def Xc(n:Nat)(f:List D->M D)(a:List D)(b:Ev->M (List D)):Ev->M D:=λc=>Pd (b c) (Ls n f a)
section
variable{T:Tb}{X:Cx}
theorem K5(h:Jb T j H a g):ji T j H (a.map some++List.replicate (N.length - a.length) none) (L2.Bv N g):=by
 have f:=h.length;refine⟨by simp[L2.Bv,f],λi d e=>?_⟩;by_cases c:i<a.length
 ·rw[Kb (by simpa using c),zb]at e;cases b:a[i]? with
  |none=>rw[b]at e;cases e
  |some x=>
   rw[b]at e;cases e;obtain⟨v,k,l⟩:=h.get b;refine⟨v,?_,l⟩;unfold L2.Bv;rw[Kb (by simpa [<-f]using c),zb,k];rfl
 ·rw[Od (by simpa using c),Dr]at e;split at e<;>cases e
variable{k:Nat}{f C:Addr}{fd:Ke}{ps:List Str}{dvs:List V}{dval:List Value}{dds:List D}{x:Str}{p pos:Ve}{e:Ua}{es:List Ua}{fn:List D->M D}{fs:Ev->M (List D)}{sp:Sp}{t:TA}
theorem YL(F:Yh X.prog X.w X.K X.mg X.base (Il X.prog X.w) k f fd ps sp)(p:Yd k X.A)(m:Ws X.K fd ps dval)(n:Se dvs dval)
  (I:lb X a g H s) (r:Se vs b) (h:sp (vs++dvs) H Q (XE X g)):wpAny (model X.prog X.w) X.A (call (.ref f) b) (EP X a g Q) X.xe s:=by
 have i:=r.append n;have o:(b++dval).length=ps.length:=by rw[<-i.length];exact F.len _ _ _ _ h
 refine Oo (Oi (F.Md X.A X.stack s H ⟨b,[]⟩ (b++dval) (vs++dvs) Q (XE X g) p I.FC (m s b I.Dk o) i h) λr t d=>?_);cases r with
 |error e=>obtain⟨j,fd,v,c,q⟩:=d;exact q.mH a H s e t I c
 |ok l=>
  cases l with
  |ret u=>exact I.after d
  |next=>exact False.elim d
  |brk=>exact False.elim d
  |cont=>exact False.elim d
theorem DN(F:Yh X.prog X.w X.K X.mg X.base (Il X.prog X.w) k f fd ps (uq T ps.length fn))(N:Yd k X.A)(G:Gl X x)(L:X.mg x=some (.ref f))(J:W.keepIn X.K (.ref f)=true)(C:Ws X.K fd ps dval)(D:Se dvs dval)(g:∀ n H,Jb T n H dds dvs)
  (B:FA T X (e::es) fs) (d:(x == ("__debug__" : Str))=false:=by decide) (E:ua (e::es) X.env=(false,vc e X.env)::ua es X.env:=by rfl) (j:(Wc pos (ua es X.env)).any (·.1)=false:=by rfl) :
  FE T X (.Call (.Name x p) (e::es) [] pos) (Xc ps.length fn dds fs):=by
 intro a s y H Q I h;refine Zf (yB I G L ?_ d);obtain⟨n,R,S,z,l,M⟩:=h;refine W.callWith_K I.ok.mod.My J (Je (B pos a s y H (λm c=>uq T ps.length fn (m++dvs) c Q (XE X y)) I ⟨n,R,S,z,l,M.bind λv t o m c _ U P O b=>?_⟩) λus s1 ⟨m,c,u,r,q⟩=>⟨u.Dk,?_⟩) E j
 ·unfold Ls at b;by_cases i:(v++dds).length=ps.length
  ·rw[ja i]at b;exact⟨o,t,v++dds,O.append (g _ _),i,P,b⟩
  ·rw[ka i]at b;exact b.elim
 ·exact YL F N C D u r q
variable{P:Ca}{w:Ya}{K:W.Frag}{mg:Str->Option Value}{base:Heap}
theorem NA{e:Stmt}{G kV j J d ct oc:Value}{t:Array (Option Value)}
  (lk:K.lookup f=some ⟨oc,od,.func (W.fnOf x a c (Kj e) (Pc e) G kV j J F d ct),t⟩) (r:W.codeIn K d a=true) (S:wa N ps (Pc e))
  (Y:∀ (A:Ta) (b:List nh) (s:aa) (H:Hp) (E:XK),Yd k (A.deeper (Ag a (Pc e) s.heap.objs.size f d))->ym T (Vp (Il P w) P w K mg base N a (Pc e) f d A b s H E) (Kj e) g) :
  Yh P w K mg base (Il P w) (k+1) f (W.fnOf x a c (Kj e) (Pc e) G kV j J F d ct) ps (uq T ps.length (Md N.length g)):=by
 refine UP lk r S (λvs H Q E h=>?_) (λA b s H vs Q E Z h=>?_)
 ·obtain⟨L,C,n,q,I,_⟩:=h;rw[<-q.length];exact I
 ·obtain⟨L,C,n,q,I,X,i⟩:=h;refine⟨_,Y A b s H E Z,L,_,C,K5 q,X,?_⟩;unfold Md at i;cases o:g (n.map some++List.replicate (N.length - n.length) none) C with
  |Xb=>rw[o]at i;exact i
  |ex x D=>rw[o]at i;exact i.elim
  |ok V D=>
   rw[o]at i;intro y p O R u l;have m:=i.mono R;cases V with
   |nx B=>cases p with
    |nx v=>have z:=nc.here m u (by rw[Qa]);exact z
    |_=>exact l.elim
   |rt d2=>cases p with
    |rt v2=>have z:=nc.here m u l;exact z
    |_=>exact l.elim
   |xc B x2=>cases p with
    |xc v c2 U=>
     obtain⟨_,rfl,rfl⟩:=l;exact Ë (m y O (we.refl _ _) u)
    |_=>exact l.elim
   |_=>exact m.elim
theorem HF(F:Yh P w K mg base (Il P w) k f fd ps (uq T ps.length fn)):Yh P w K mg base (Il P w) k f fd ps (uq T ps.length (λa=>jc (fn a))):=
 F.imp λj H Q E h=>by
  obtain⟨g,i,a,c,d,b,e⟩:=h;exact⟨g,i,a,c,d,b,nc.jc b e⟩
end
noncomputable def gk(e:nh)(a:List (Str × Pf))(b:List (Str × Addr)):List (Str × Addr):=
 a.foldl (λd y=>if (y.2 == .free)=true then (match e.cells.lookup y.1 with|some c=>(y.1,c)::d|none=>d)else d) b
theorem PJ(b:nh):∀ (d:List (Str × Pf)) (acc:List (Str × Addr)),(∀ y∈d,y.2=.free->∃ c,b.cells.lookup y.1=some c)->
  (forIn d acc (λx (cs:List (Str × Addr))=>match x with|(name,kind)=>if (kind == .free)=true then (do let a <-cellOf b name;pure (ForInStep.yield ((name,a)::cs)))else pure (ForInStep.yield cs)):iq (List (Str × Addr)))=pure (gk b d acc)
 |[],acc,_=>rfl
 |(n,k)::r,acc,h=>by
  rw[List.forIn_cons];by_cases e:(k == Ib)=true
  ·obtain⟨c,i⟩:=h (n,k) Wa (by simpa using e);have j:cellOf b n=pure c:=by unfold cellOf;rw[i]
   simp only[e,j];show (forIn r ((n,c)::acc) _:iq (List (Str × Addr)))=_;rw[PJ b r ((n,c)::acc) λy g=>h y (Za _ g)];have f:gk b ((n,k)::r) acc=gk b r ((n,c)::acc):=by
    unfold gk;rw[Wo];simp only[e,zg,i]
   rw[f]
  ·simp only[e];show (forIn r acc _:iq (List (Str × Addr)))=_;rw[PJ b r acc λy g=>h y (Za _ g)];have f:gk b ((n,k)::r) acc=gk b r acc:=by
    unfold gk;rw[Wo];simp only[e];rfl
   rw[f]
theorem pJ(b:nh)(a:Scope)(h:∀ y∈a.names,y.2=.free->∃ c,b.cells.lookup y.1=some c):closureFor a b=pure (gk b a.names []):=by
 have e:=PJ b a.names [] h;unfold closureFor;simp only[bind_pure];exact e
theorem HL(a:nh):∀ (b:List (Str × Pf)) (acc:List (Str × Addr)) (n:Str) (c:Addr),(∀ n c,acc.lookup n=some c->a.cells.lookup n=some c)->(gk a b acc).lookup n=some c->a.cells.lookup n=some c
 |[],acc,n,c,h,e=>h n c e
 |(y,k)::r,acc,n,c,h,e=>by
  refine HL a r _ n c (λn c q=>?_) e;by_cases g:(k == Ib)=true
  ·simp only[g,zg]at q;cases d:a.cells.lookup y with
   |none=>rw[d]at q;exact h n c q
   |some i=>
    rw[d]at q;rw[Ab]at q;cases f:(n == y)with
    |true=>rw[f]at q;cases q;rw[eq_of_beq f];exact d
    |false=>rw[f]at q;exact h n c q
  ·simp only[g]at q;exact h n c q
theorem JT(a:nh):∀ (b:List (Str × Pf)) (acc:List (Str × Addr)) (n:Str),(∃ c,acc.lookup n=some c)->∃ c,(gk a b acc).lookup n=some c
 |[],acc,n,h=>h
 |(y,k)::r,acc,n,h=>by
  refine JT a r _ n ?_;by_cases d:(k == Ib)=true
  ·simp only[d,zg];cases f:a.cells.lookup y with
   |none=>exact h
   |some e=>
    rw[Ab];cases g:(n == y)with
    |true=>exact⟨e,rfl⟩
    |false=>exact h
  ·simp only[d];exact h
theorem AE(b:nh):∀ (a:List (Str × Pf)) (acc:List (Str × Addr)) (n:Str),(n,Ib)∈a->(∃ c,b.cells.lookup n=some c)->∃ c,(gk b a acc).lookup n=some c
 |[],acc,n,h,_=>nomatch h
 |(y,k)::r,acc,n,h,d=>by
  rcases Na.mp h with e|e
  ·cases e;refine JT b r _ _ ?_;obtain⟨c,d⟩:=d;refine⟨c,?_⟩;simp[d]
  ·exact AE b r _ n e d
theorem mM{a:nh}:∀ {c:List (Str × Pf)} {x:Str} {k:Pf},
  (c.map λ(n,k)=>if (k == Ib && a.scope.kind == .function && a.kindOf n == some .cell)then (n,ud)else (n,k)).lookup x=some k->∃ d,c.lookup x=some d/\(k=d\/(d=.free/\k=.cell))
 |[],_,_,h=>by simp at h
 |(n,d)::r,x,k,h=>by
  have g:=@mM a r x k;have b:List.lookup x ((if (d == Ib && a.scope.kind == .function && a.kindOf n == some .cell)=true then (n,ud)else (n,d))::(r.map λ(n,k)=>if (k == Ib && a.scope.kind == .function && a.kindOf n == some .cell)then (n,ud)else (n,k)))=some k:=h;cases f:x == n with
  |true=>
   by_cases e:(d == Ib && a.scope.kind == .function && a.kindOf n == some .cell)=true
   ·rw[ja e]at b;simp only[Ab,f]at b ⊢;cases b;simp only[La]at e;exact⟨d,rfl,.inr ⟨by simpa using e.1.1,rfl⟩⟩
   ·rw[ka e]at b;simp only[Ab,f]at b ⊢;cases b;exact⟨d,rfl,.inl rfl⟩
  |false=>
   by_cases e:(d == Ib && a.scope.kind == .function && a.kindOf n == some .cell)=true
   ·rw[ja e]at b;simp only[Ab,f]at b ⊢;exact g b
   ·rw[ka e]at b;simp only[Ab,f]at b ⊢;exact g b
theorem xW{env:nh}:∀ {a:List (Str × Pf)} {x:Str},a.lookup x=some .free->
  (a.map λ(n,k)=>if (k == Ib && env.scope.kind == .function && env.kindOf n == some .cell)then (n,ud)else (n,k)).lookup x=some .cell\/
  (a.map λ(n,k)=>if (k == Ib && env.scope.kind == .function && env.kindOf n == some .cell)then (n,ud)else (n,k)).lookup x=some .free
 |[],_,h=>by simp at h
 |(n,k)::r,x,h=>by
  have f:=@xW env r x;have b:∀ z,List.lookup x ((if (k == Ib && env.scope.kind == .function && env.kindOf n == some .cell)=true then (n,ud)else (n,k))::(r.map λ(n,k)=>if (k == Ib && env.scope.kind == .function && env.kindOf n == some .cell)then (n,ud)else (n,k)))=z->
   (List.map (λ(n,k)=>if (k == Ib && env.scope.kind == .function && env.kindOf n == some .cell)then (n,ud)else (n,k)) ((n,k)::r)).lookup x=z:=λz e=>e
  cases c:x == n with
  |true=>
   simp only[Ab,c]at h;cases h;by_cases d:(Ib == Ib && env.scope.kind == .function && env.kindOf n == some .cell)=true
   ·exact .inl (b _ (by rw[ja d];simp only[Ab,c]))
   ·exact .inr (b _ (by rw[ka d];simp only[Ab,c]))
  |false=>
   simp only[Ab,c]at h;have e:List.lookup x ((if (k == Ib && env.scope.kind == .function && env.kindOf n == some .cell)=true then (n,ud)else (n,k))::(r.map λ(n,k)=>if (k == Ib && env.scope.kind == .function && env.kindOf n == some .cell)then (n,ud)else (n,k))) =
     (r.map λ(n,k)=>if (k == Ib && env.scope.kind == .function && env.kindOf n == some .cell)then (n,ud)else (n,k)).lookup x:=by
    by_cases d:(k == Ib && env.scope.kind == .function && env.kindOf n == some .cell)=true
    ·rw[ja d];simp only[Ab,c]
    ·rw[ka d];simp only[Ab,c]
   rcases f h with q|q
   ·exact .inl (b _ (e.trans q))
   ·exact .inr (b _ (e.trans q))
theorem zw{a:List (Str × Pf)}(h:a.lookup x=some k):(x,k)∈a:=zf h
noncomputable def Iu(X:Cx)(b:List Str)(a:Scope)(cl:List (Str × Addr))(C:Addr)(s₀:aa)(H₀:Hp)(ex:List Addr):Cx:=
 { X with N:=b,s₀:=s₀,H₀:=H₀,env:=compEnvC a cl C X.env,outer:=X.stack,stack:=X.stack,ex:=ex,fn:=λ_=>false,pn:=[],xe:=λ_ _=>False }
structure yo(X:Cx)(x:Str)(M':List Str)(ix:List Nat)(scope:Scope):Prop where
 kind:scope.kind=.function
 cell:(scope.names.all λy=>!(y.2 == .cell))=true
 names:(scope.names.all λy=>!(y.2 == .local) || scope.names.lookup y.1 == some .local)=true
 free:(scope.names.all λy=>!(y.2 == .free) || (X.env.scope.names.lookup y.1 == some .cell || X.env.scope.names.lookup y.1 == some .free))=true
 at_:ix.map (λi=>X.N[i]?)=M'.map some
 aR:(M'.all λy=>(X.env.scope.names.lookup y == some .cell || X.env.scope.names.lookup y == some .free) && scope.names.lookup y == some .free)=true
noncomputable def iJ(a:List Nat)(b:Ev):Ev:=none::a.map λi=>(b[i]?).getD none
noncomputable def yW(a:List Nat)(b:St):St:=none::a.map λi=>(b[i]?).getD none
theorem wQ(f:List Nat)(h:ji T m H a k):ji T m H (iJ f a) (yW f k):=by
 refine⟨by simp[iJ,yW],λi d e=>?_⟩;cases i with
 |zero=>simp[iJ]at e
 |succ j=>
  have b:(f.map λi=>(a[i]?).getD none)[j]?=some (some d):=e;rw[zb]at b;cases l:f[j]? with
  |none=>rw[l]at b;cases b
  |some c=>
   rw[l]at b;have g:(a[c]?).getD none=some d:=Lb b;have n:a[c]?=some (some d):=by
    cases q:a[c]? with
    |none=>rw[q]at g;cases g
    |some o=>rw[q]at g;exact yc some g
   obtain⟨v,p,r⟩:=h.2 c d n;refine⟨v,?_,r⟩;show (f.map λi=>(k[i]?).getD none)[j]?=_;rw[zb,l];show some ((k[c]?).getD none)=_;rw[p];rfl
section
variable{X:Cx}{pins:List (Addr × Vc)}{st:St}{H:Hp}{s:aa}{x:Str}{M':List Str}{ix:List Nat}{scope:Scope}{fp:List Addr}
theorem X1(L:yo X x M' ix scope)(y:Str × Pf)(a:y∈scope.names)(e:y.2=.free):X.env.kindOf y.1=some .cell\/X.env.kindOf y.1=some .free:=by
 have q:=cc.mp L.free y a;rw[e]at q;simp only[beq_self_eq_true,Bool.not_true,zA,Kg]at q;rcases q with q|q
 ·exact .inl (eq_of_beq q)
 ·exact .inr (eq_of_beq q)
theorem Fz(I:lb X pins st H s)(L:yo X x M' ix scope):∀ y∈scope.names,y.2=.free->∃ c,X.env.cells.lookup y.1=some c:=λy a e=>I.ok.has y.1 (X1 L y a e)
theorem WE(L:yo X x M' ix scope):∀ y∈scope.names,y.2≠.cell:=λy a e=>by
 have q:=cc.mp L.cell y a;rw[e]at q;simp at q
end
def Mp{a:Type}(m:M a):M a:=λb=>match m b with
 | .ex _ _=>.Xb
 |o=>o
theorem nc.Rv{E E0:XK}{R:List Addr->Hp->j->u->Prop}{p:List Addr->Hp->t->v->Prop}{m:M j}{k:j->M t}{Q:v->Hp->Prop}{o:u->Hp->Prop}
  (h:nc T E p l H (Pd (Mp m) k i) Q) (f:∀ a b c g d,m i=.ok a b->we l H c d->Xd T c d b->R c d a g->nc T E p c d (k a b) Q->o g d):nc T E0 R l H (m i) o:=by
 unfold Pd Mp at h;cases e:m i with
 |ok a b=>
  simp only[e]at h;exact λn g w s r q=>f a b n g w e s r q (h.mono s)
 |ex x b=>simp only[e]at h;exact h.elim
 |Xb=>simp only[e]at h;exact h
def oE(T:Tb)(X:Cx)(b:List Ua)(f:Ev->M Bool):Prop:=
 ∀ (a:List (Addr × Vc)) (s:aa) (st:St) (H:Hp) (Q:Bool->Hp->Prop),lb X a st H s->tT T X f st H Q->
  wpAny (model X.prog X.w) X.A (forIn b true λc r=>if r=true then do let ok <-CA c X.env (vc c X.env);pure (ForInStep.yield ok)else pure (ForInStep.yield r)) (TP X a st Q) X.xe s
noncomputable def Fq:Ev->M Bool:=λ_=>ret true
section
variable{T:Tb}{X:Cx}
theorem mx:oE T X [] Fq:=by
 intro a s e H Q I h;obtain⟨f,g,i,d,c,b⟩:=h;exact wpAny_tests_nil ⟨H,I,nc.here b c rfl⟩
theorem TB(h:FT T X c f):oE T X [c] f:=λa s d H Q I b=>wpAny_tests_one (h a s d H Q I b)
theorem yf8(u:Un i ex H g h j)(d:qg C j k)(l:h.objs.size<=C):Un i ex H g h k:=by
 have f:∀ b o,h.get? b=some o->b≠C:=λb o e=>Sa (Xa (Ba e) l);refine⟨λb o e n c a=>(d.2 b (f b o e)).trans (u.keep b o e n c a),λb o e n c a=>?_,u.free,λb o e a=>?_,u.Gj,u.ui,u.tj⟩
 ·obtain⟨p,q⟩:=u.slot b o e n c a;exact⟨p,(d.2 b (f b o e)).trans q⟩
 ·obtain⟨m,q⟩:=u.there b o e a;exact⟨m,(d.2 b (f b o e)).trans q⟩
theorem E9(ok:mj P w H d)(h:qg C d f)(g:H C=none):mj P w H f:=λb i e=>by
 refine(ok b i e).Uk (λc j a q=>(h.2 c ?_).trans q) (λ_ q=>q) λ_ _ q=>q;rintro rfl;rcases a with rfl|a
 ·rw[g]at e;cases e
 ·rw[g]at a;cases a
theorem G3(r:Xd T b H c)(d:b[n]?=some a)(e:Qa T b H y v)(h:nc T E (Qa T) b H (yq (.ref n) [y] c) Q):GK (.ref a) [v] H Q:=
 BG E b H c (.ref n) [y] (.ref a) [v] Q r (by rw[Qa];exact⟨a,rfl,d⟩) (Jb.cons e Jb.nil) h
theorem HH{m m':M b}{k:b->M c}(h:m a=m' a):Pd m k a=Pd m' k a:=by unfold Pd;rw[h]
theorem pL{m:M b}{k:b->M c}{l:c->M d}:Pd (Pd m k) l=Pd m λa=>Pd (k a) l:=by
 funext e;unfold Pd;cases m e<;>rfl
end
def iC(x y:D):M D:=λa=>match pi a x,pi a y with
 |some xs,some b=>if xs.length+b.length<=oi then .ok (.va (xs++b)) a else .Xb
 |_,_=>.Xb
def kh(x y:D):M D:=match x,y with
 | .int i,.int j=>ret (.int (i+j))
 | .Ga xs,.Ga c=>if xs.length+c.length<=oi then ret (.Ga (xs++c))else Xb
 | .str a,.str b=>if a.length+b.length<=100000 then ret (.str (a++b))else Xb
 |x,y=>iC x y
theorem P7(h:n<=100000):n<=sizeLine:=Qb h (by decide)
section
variable{T:Tb}{X:Cx}{a b c:Ua}{fa fb fc:Ev->M D}{pos:Ve}
theorem å{c:Ca}{t b:Addr}{l:List Value}(v:bv s.heap t (#[]:Array Value))(q:bv s.heap b l.toArray)(p:Q (.ref b) s):wpAny (model c w) A (ff .Add (.ref t) (.ref b)) Q F s:=by
 obtain⟨⟨m,o,j,y⟩,k,r,n,u⟩:=id v;obtain⟨⟨i,e,d,h⟩,a,f,x,g⟩:=id q;subst r u f g;exact Zv ⟨_,k,rfl⟩ ⟨_,a,rfl⟩ Hq Cu dj Ni (Ai _ _)
  (tuple_addW0 t b #[] l.toArray n x o e y h rfl) ⟨k,a,p⟩
theorem QG{b:List (Addr × Vc)}(I:lb X b h H s)(F:Qd v j)(C:Qd u i)(r:Xd T d H e)(z:Qa T d H x v)(B:Qa T d H y u)(a:nc T E (Qa T) d H (iC x y e) Q) :
  wpAny (model X.prog X.w) X.A (ff .Add j i) (EP X b h Q) X.xe s:=by
 unfold iC at a;cases c:pi e x with
 |none=>rw[c]at a;exact a.elim
 |some xs=>
  cases f:pi e y with
  |none=>rw[c,f]at a;exact a.elim
  |some K=>
   rw[c,f]at a;dsimp only at a;by_cases g:xs.length+K.length<=oi
   ·rw[ja g]at a;obtain⟨p,G,rfl,n,k⟩:=r.ls z c;obtain⟨q,J,rfl,o,m⟩:=r.ls B f;exact YX b s h H _ _ j i Q I F C ⟨p,q,G,J,rfl,rfl,n,o,by rw[<-k.length,<-m.length];exact Yz g,λl t=>QH a r (Jb.append k m) t⟩
   ·rw[ka g]at a;exact a.elim
theorem X9(S:T.K=X.K):di X (ff .Add) (rD T kh):=by
 intro d s B H v u D C Q I m k h;obtain⟨E,W,Y,x,y,r,f,g,c⟩:=h;cases x with
 |int i=>
  cases y with
  |int j=>exact N6 d s B H v u D C Q I m k ⟨i,j,pq f,pq g,nc.here c r (by rw[Qa])⟩
  |_=>exact QG I m k r f g c
 |str a=>
  cases y with
  |str b=>
   unfold kh at c;dsimp only at c;by_cases n:a.length+b.length<=100000
   ·rw[ja n]at c;exact w8 d s B H v u D C Q I m k ⟨a,b,by simpa [Qa]using f,by simpa [Qa]using g,P7 n,nc.here c r (by rw[Qa])⟩
   ·rw[ka n]at c;exact c.elim
  |_=>exact QG I m k r f g c
 |Ga xs=>
  cases y with
  |Ga L=>
   unfold kh at c;dsimp only at c;by_cases n:xs.length+L.length<=oi
   ·rw[ja n]at c;have z:=f;have A:=g;obtain⟨p,R,rfl,F,t⟩:=f;obtain⟨q,ws,rfl,G,w⟩:=g;cases R with
    |nil=>
     have o:xs=[]:=by have:=t.length;simpa using this
     subst o;cases m;cases k;obtain⟨its,N,O,_⟩:=L2.lb.tuple I (qi.of F);obtain⟨J,U,P,_⟩:=L2.lb.tuple I (qi.of G);cases N;exact å O P ⟨.ref q,H,I,rfl,nc.here c r (by simpa using A)⟩
    |cons v0 V=>
     refine hZ d s B H _ _ D C Q I m k ⟨p,q,_,ws,rfl,rfl,qi.of F,qi.of G,by simp,?_,λe=>?_,λe l M=>?_⟩
     ·rw[<-t.length,<-w.length];exact Yz n
     ·subst e;have o:L=[]:=by have:=w.length;simpa using this
      subst o;exact nc.here c r (by simpa using z)
     ·exact DB c r (Jb.append t w) M
   ·rw[ka n]at c;exact c.elim
  |_=>exact QG I m k r f g c
 |_=>exact QG I m k r f g c
noncomputable def jK(a:D->D->M D)(c:M D)(y:D):D->M D:=jy (Rk (Pd c (a y)) (ret (.bl false)))
def HM(o a:D->D->M D)(c:M D)(x y:D):M D:=Pd (o x y) (jK a c y)
def kK(o a:D->D->M D)(b c:M D)(x:D):M D:=Pd b (HM o a c x)
def vM(o e:D->D->M D)(a b c:Ev->M D):Ev->M D:=λd=>Pd (a d) (kK o e (b d) (c d))
theorem r8(Y:di X (Ub j) r)(hs:zl T r o)(g:di X (Ub d) L)(i:zl T L J)(S:FE T X a fa)(U:FE T X b fb)(V:FE T X c fc)
  (W:lastMarks [j,d] [b,c]=false:=by with_unfolding_all rfl):FE T X (.Compare a [j,d] [b,c] pos) (vM o J fa fb fc):=by
 intro e s st H Q I h;refine š Y g S U V W e s st H Q I ?_;obtain⟨μ,q,σ,f,hr,Z⟩:=h;refine⟨μ,q,σ,f,hr,Z.bind λx t l v H1 _ E r1 q1 p1=>⟨l,q,t,f.mono E,r1,p1.bind λy A m w O _ F r2 K p2=>?_⟩⟩;refine hs _ m O A x y v w _ r2 (Qa.mono F _ _ q1) K (p2.bind λz B n u H3 _ G N q3 p3=>?_);obtain⟨k,rfl,ev,p4⟩:=rH q3 p3;refine⟨k,ev,?_⟩;cases k with
 |true=>
  exact⟨n,q,B,((f.mono E).mono F).mono G,N,p4.bind λz C p u5 P _ R r5 q5 p5=>i _ p P C y z w u5 Q r5 (Qa.mono R _ _ (Qa.mono G _ _ K)) q5 p5⟩
 |false=>unfold Rk at p4;rw[ka yb]at p4 ⊢;exact nc.here p4 N (by rw[Qa])
theorem Sd(a:Yd k A):A.units+9<cLine:=by have:=a.un;omega
end
def fg(K:W.Frag)(d:Str->Option Value)(x:Str)(e:Stmt)(c:List Str):Prop:=
 ∃ f b,d x=some (.ref f)/\Xx K x x e f b/\∀ a:List Value,a.length=c.length->bindArgs b ⟨a,[]⟩=pure (c.zip a)
def Le(T:Tb)(P:Ca)(w:Ya)(e:Str->Option Value)(a:Heap)(k:Nat)(x:Str)(b:List Str)(g:List D->M D):Prop:=
 ∃ f d,e x=some (.ref f)/\W.keepIn T.K (.ref f)=true/\(∀ c:List Value,c.length=b.length->bindArgs d ⟨c,[]⟩=pure (b.zip c))/\Yh P w T.K e a (Il P w) k f d b (uq T b.length g)
section
variable{T:Tb}{X:Cx}
theorem l3(h:Le T X.prog X.w X.mg X.base k x l fn)(m:T.K=X.K)(t:Yd k X.A)(r:Gl X x)
  (n:FA T X (e::a) g) (c:(x == ("__debug__" : Str))=false:=by decide) (q:ua (e::a) X.env=(false,vc e X.env)::ua a X.env:=by rfl) (d:(Wc b (ua a X.env)).any (·.1)=false:=by rfl) :
  FE T X (.Call (.Name x p) (e::a) [] b) (Xc l.length fn [] g):=by
 obtain⟨f,u,s,j,o,i⟩:=h;rw[m]at j i;exact DN i t r s j (.all o) .nil (λ_ _=>Jb.nil) n c q d
variable{P:Ca}{w:Ya}{K:W.Frag}{mg:Str->Option Value}{base:Heap}{ca:Nat->Addr}{tx:Tx}
theorem uI(h:fg K mg x c i)(S:wa N i (Pc c))
  (l:∀ (f:Addr) (a:Value) (A:Ta) (b:List nh) (s:aa) (H:Hp) (E:XK),Yd k (A.deeper (Ag x (Pc c) s.heap.objs.size f a))->ym ⟨K,ca,tx⟩ (Vp (Il P w) P w K mg base N x (Pc c) f a A b s H E) (Kj c) g) :
  Le ⟨K,ca,tx⟩ P w mg base (k+1) x i (Md N.length g):=by
 obtain⟨f,p,m,F,d⟩:=h;obtain⟨q,r,kV,j,t,o,a,ct,n,rfl,lk,e⟩:=F.ex;exact⟨f,_,m,F.kp,d,NA lk e S (l f a)⟩
theorem Le.jc{k:Nat}{x:Str}{b:List Str}{a:List D->M D}(h:Le T P w mg base k x b a):Le T P w mg base k x b (λc=>L4.jc (a c)):=by
 obtain⟨f,d,e,g,i,j⟩:=h;exact⟨f,d,e,g,i,HF j⟩
theorem QS{kV d i b ct:Value}(X:K.In h)(G:h.Ns mainGlobals mg)
  (o:∀ (kV d i:Value) (g:Option Addr) (b ct:Value) (n:List Value),n.length=m.length->bindArgs (W.fnOf x x (qp e) (Kj e) (Pc e) .none kV d i g b ct) ⟨n,[]⟩=pure (m.zip n))
  (a:W.nsIn K mainGlobals x=some (some (.ref f))) (l:K.lookup f=some ⟨p,q,.func (W.fnOf x x (qp e) (Kj e) (Pc e) .none kV d i g b ct),j⟩)
  (c:W.codeIn K b x=true) (k:W.keepIn K (.ref f)=true):fg K mg x e m:=
 ⟨f,_,W.mg_of X G a,HS l c k,o kV d i g b ct⟩
theorem Ō(X:K.In h)(G:h.Ns mainGlobals mg)(a:W.nsIn K mainGlobals x=some (some (.int i t))):∃ t,mg x=some (.int i t):=⟨t,W.mg_of X G a⟩
end
def XJ(T:Tb)(P:Ca)(w:Ya)(e:Str->Option Value)(k:Nat)(x:Str)(b:List Str)(g:List D->M D):Prop:=
 ∃ f d,e x=some (.ref f)/\(∀ c:List Value,c.length=b.length->bindArgs d ⟨c,[]⟩=pure (b.zip c))/\∀ a:Heap,Yh P w T.K e a (Il P w) k f d b (uq T b.length g)
theorem J1{K:W.Frag}(h:fg K j x d l)(S:wa N l (Pc d))
  (o:∀ (a:Heap) (f:Addr) (b:Value) (A:Ta) (c:List nh) (s:aa) (H:Hp) (E:XK),Yd k (A.deeper (Ag x (Pc d) s.heap.objs.size f b))->ym ⟨K,m,tx⟩ (Vp (Il P w) P w K j a N x (Pc d) f b A c s H E) (Kj d) g) :
  XJ ⟨K,m,tx⟩ P w j (k+1) x l (Md N.length g):=by
 obtain⟨f,t,p,F,e⟩:=h;obtain⟨u,v,kV,n,y,r,b,ct,q,rfl,lk,i⟩:=F.ex;exact⟨f,_,p,e,λa=>NA lk i S (o a f b)⟩
theorem V8{K:W.Frag}(k:K.In h)(f:W.excIn K C c a=true) :
  ∃ g N x y n j z e m d o r s t u v B,h.get? C=some (excClassObj x y C N n g j z e m d o r s t u v a)/\h.Ns N B/\B "__init__" = none/\OwnTail h c g:=by
 unfold W.excIn at f;split at f
 ·rename_i o b P lk
  split at f
  ·rename_i D g r s t u w v i p
   have q:((((D=C/\w=a)/\b.hasDel=false)/\W.tailIn K c g=true)/\W.nsOkIn K b.ns=true)/\W.nsIn K b.ns "__init__" = some none:=by
    simpa using f
   obtain⟨⟨⟨⟨⟨E,F⟩,G⟩,H⟩,A⟩,I⟩:=q;subst E;subst F;obtain⟨x,n,M,O,y,L,z,e,m,d,J⟩:=b;cases i;cases G;obtain⟨l⟩:=P;cases p;exact⟨g,O,x,y,n,L,z,e,m,d,o,r,s,t,u,v,_,k _ _ lk,.of_isNs (W.isNs_of_in k A),W.nsMap_none_of_in k A I,W.tail_of_in k H⟩
  ·cases f
 ·cases f
def vH(c:Nat)(b:Ev)(a:List D):M Fl:=if a.length<=oi then ret (.xc b ⟨c⟩)else Xb
def Iz(c:Nat)(b:Ev->M (List D)):Ev->M Fl:=λa=>xs a (b a) (vH c a)
section
variable{T:Tb}{X:Cx}
theorem tE(c:Nat)(J:ExcBaseFacts B b d j)(hK:T.K=X.K)(U:W.excIn T.K (T.ca c) j b=true)(hm:X.mg x=some (.ref (T.ca c)))
  (hg:Gl X x) (hc:X.Aa=true) (ha:FA T X (e::i) R) (w:(x == ("__debug__" : Str))=false:=by decide) (S:ua (e::i) X.env=(false,vc e X.env)::ua i X.env:=by rfl)
  (A:(Wc a (ua i X.env)).any (·.1)=false:=by rfl) (y:XA c=none:=by rfl):FS T X (.Raise (some (.Call (.Name x np) (e::i) [] a)) none C) (Iz c R):=by
 intro o s E H D I hw;obtain⟨μ,ρ,σ,v,hr,hp⟩:=hw;rw[hK]at U;obtain⟨O,N,nm,qn,P,f,sn,p,L,k,Q,V,Y,Z,k3,k5,mN,hC,hN,z,tl⟩:=V8 I.ok.mod.My U;have m:(Wc a (ua (e::i) X.env)).any (·.1)=false:=by
  rw[S];show (false || (Wc a (ua i X.env)).any (·.1))=false;rw[A];rfl
 refine wpAny_Raise_call_subT (nm:=nm) (q:=qn) (N:=N) (bs:=P) (bm:=O) (hdct:=f) (sn:=sn) (sub:=p) (ab:=L) (col:=k) (dd:=Q) (k0:=V) (k1:=Y) (k2:=Z) (k3:=k3) (k5:=k5) J (tl.hasType J.hasBase) (I.ok.hd hc) m z (yB I hg hm ⟨rfl,?_⟩ w);have h:=ha a o s E H (λG u=>G.length<=oi/\vB X E (T.cv ⟨c⟩) none u) I ⟨μ,ρ,σ,v,hr,hp.xs v λds a1 a0 G u _ e1 r1 q1 n=>by
  unfold vH at n;by_cases l:ds.length<=oi
  ·rw[ja l]at n;exact⟨by rw[<-q1.length];exact l,nc.here (g:=Sr.xc E (T.cv ⟨c⟩) none) n r1 ⟨v.mono e1,rfl,y.symm⟩⟩
  ·rw[ka l]at n;exact n.elim⟩
 rw[S]at h ⊢;refine Vj (Je h λus s1 ⟨G,u,t,r,l,F⟩=>?_);exact⟨rfl,by rw[<-r.length];exact Yz l,t.bk _ _ hC,hN.keeps t.bk,tl.keeps t.bk,λh' ea hx=>F.made t hx⟩
end
structure Hd where
 t:Nat->Option Bool
 nm:Option Nat
 g:Ev->M Fl
noncomputable def wU(i:Nat):Fl->M Fl
 | .nx a=>ret (.nx (a.set i none))
 | .rt d=>ret (.rt d)
 | .bk a=>ret (.bk (a.set i none))
 | .ct a=>ret (.ct (a.set i none))
 | .xc _ _=>Xb
noncomputable def bG:Fl->M Fl
 | .nx a=>ret (.nx a)
 | .rt d=>ret (.rt d)
 | .bk a=>ret (.bk a)
 | .ct a=>ret (.ct a)
 | .xc _ _=>Xb
def hit(h:Hd)(a:Ev)(x:Xn):M Fl:=match h.nm with
 |none=>Pd (h.g a) bG
 |some i=>Pd (h.g (a.set i (some (.bu x.cls)))) (wU i)
def bx(a:Ev)(x:Xn):List Hd->M Fl
 |[]=>Xb
 |h::r=>match h.t x.cls with
  |some true=>hit h a x
  |some false=>bx a x r
  |none=>Xb
def RD(b:List Hd):Fl->M Fl
 | .xc a x=>bx a x b
 | .nx a=>ret (.nx a)
 | .rt d=>ret (.rt d)
 | .bk a=>ret (.bk a)
 | .ct a=>ret (.ct a)
def GI(g:Ev->M Fl)(a:List Hd):Ev->M Fl:=λb=>Pd (g b) (RD a)
noncomputable abbrev Cx.cx(X:Cx)(e:Value):Cx:={ X with A:=X.A.mark (some e),Aa:=false,xe:=λ_ _=>False }
abbrev Cx.UF(X:Cx)(a:List (Addr × Vc))(xe:Value->aa->Prop):Cx:={ X with xe:=xe,pn:=X.pn++a }
section
variable{T:Tb}{X:Cx}{pins:List (Addr × Vc)}{st:St}{H:Hp}{s:aa}{e:Value}{xe:Value->aa->Prop}
theorem ü(I:lb X pins st H s):lb (Cx.UF X pins xe) [] st H s:=
 ⟨⟨I.ok.mod,I.ok.kind,I.ok.glob,I.ok.blt,I.ok.above,I.ok.inj,I.ok.has,I.ok.Yx,I.ok.hd,I.ok.frames,I.ok.wq,I.ok.Bz,I.ok.bs,I.ok.Xs,I.ok.vr,I.ok.xr,I.ok.Pj,I.ok.Jv⟩,I.os,I.bare,I.base,I.loc,I.cell,I.free,I.Ug,λp a=>I.pin p (by simpa using a),I.zd,I.len⟩
theorem ID(I:lb (Cx.UF X pins xe) b st H s):lb X pins st H s:=
 ⟨⟨I.ok.mod,I.ok.kind,I.ok.glob,I.ok.blt,I.ok.above,I.ok.inj,I.ok.has,I.ok.Yx,I.ok.hd,I.ok.frames,I.ok.wq,I.ok.Bz,I.ok.bs,I.ok.Xs,I.ok.vr,I.ok.xr,I.ok.Pj,I.ok.Jv⟩,I.os,I.bare,I.base,I.loc,I.cell,I.free,I.Ug,λp a=>I.pin p (qb _ a),I.zd,I.len⟩
theorem LF(I:lb X pins st H s):lb (Cx.cx X e) pins st H s:=
 ⟨⟨I.ok.mod,I.ok.kind,I.ok.glob,I.ok.blt,I.ok.above,I.ok.inj,I.ok.has,I.ok.Yx,λz=>(by cases z),I.ok.frames,I.ok.wq,I.ok.Bz,I.ok.bs,I.ok.Xs,I.ok.vr,I.ok.xr,I.ok.Pj,I.ok.Jv⟩,I.os,I.bare,I.base,I.loc,I.cell,I.free,I.Ug,I.pin,I.zd,I.len⟩
theorem nF(ok:X.Ok)(I:lb (Cx.cx X e) pins st H s):lb X pins st H s:=
 ⟨ok,I.os,I.bare,I.base,I.loc,I.cell,I.free,I.Ug,I.pin,I.zd,I.len⟩
theorem pZ{D:Pk}(h:SP (Cx.UF X pins xe) [] D f c):SP X pins D f c:=by
 cases f with
 |next=>obtain⟨a,b,I,q⟩:=h;exact⟨a,b,ID I,q⟩
 |brk=>obtain⟨a,b,I,q⟩:=h;exact⟨a,b,ID I,q⟩
 |cont=>obtain⟨a,b,I,q⟩:=h;exact⟨a,b,ID I,q⟩
 |ret u=>obtain⟨v,a,b,I,r,q⟩:=h;exact⟨v,a,b,ID I,r,q⟩
theorem DZ(ok:X.Ok){D:Pk}(h:SP (Cx.cx X e) pins D f c):SP X pins D f c:=by
 cases f with
 |next=>obtain⟨a,b,I,q⟩:=h;exact⟨a,b,nF ok I,q⟩
 |brk=>obtain⟨a,b,I,q⟩:=h;exact⟨a,b,nF ok I,q⟩
 |cont=>obtain⟨a,b,I,q⟩:=h;exact⟨a,b,nF ok I,q⟩
 |ret u=>obtain⟨v,a,b,I,r,q⟩:=h;exact⟨v,a,b,nF ok I,r,q⟩
end
def Su(X:Cx)(a:List (Addr × Vc))(f:St)(H:Hp)(s:aa)(d:Addr)(b:Value)(e:Option Nat):Prop:=∃ c s0,lb X a f c s0/\qz X.prog X.w X.stack c s0 b e H (.ref d) s
section
variable{T:Tb}{X:Cx}{pins:List (Addr × Vc)}{st:St}{H:Hp}{s:aa}{ea:Addr}{cls:Value}{fd:Option Nat}
theorem Su.inv(L:Su X pins st H s ea cls fd):lb X pins st H s:=by
 obtain⟨a,s0,I,F⟩:=L;exact L2.lb.Pv I F.os F.un F.zd F.bare λb z=>absurd z (by simp)
theorem Su.next(L:Su X pins st H s ea cls fd){M:fm}(h:∀ l,Su X pins st H l ea cls fd->Q () l):wpAny M A (Yj (.ref ea) none) Q E s:=by
 obtain⟨m,s0,I,F⟩:=L;obtain⟨p,n,B,e,g,r,b,k,j,i,q⟩:=F.ex;cases e;refine kL g λu a f c=>h _ ?_;obtain⟨t,d⟩:=UL F j k i g.1 a.1 f (UJ I);exact⟨m,s0,I,⟨ea,n,B,rfl,a,r,b,k,j,i,q.next c (let ⟨o,e,_⟩:=a.there;⟨o,e⟩)⟩,F.os,F.bare,t,d⟩
theorem Su.obj(L:Su X pins st H s ea cls fd):H ea=none/\(∃ o,s.heap.get? ea=some o/\o.cls=cls)/\∃ s0:aa,s0.heap.get? ea=none/\∃ b,lb X pins st b s0:=by
 obtain⟨b,s0,I,F⟩:=L;obtain⟨c,g,B,e,d,f,a,k,i,h,j⟩:=F.ex;cases e;exact⟨f,d.there,s0,a,b,I⟩
theorem kJ(I:lb X pins st H s)(h:lb X pins st A s0)(d:s0.heap.get? a=none)(C:H a=none)(D:s.heap.get? a=some o)(l:φ s.heap)
  (E:∀ r t:Heap,φ r->(∀ u,r.get? a=some u->t.get? a=some u)->φ t):lb X pins st (rc H a (.ext φ)) s:=by
 have j:∀ b u,s0.heap.get? b=some u->b≠a:=λb u e z=>by rw[z,d]at e;cases e
 have g:∀ b u,H b=some u->b≠a:=λb u e z=>by rw[z,C]at e;cases e
 have F:∀ b u,X.s₀.heap.get? b=some u->b ∉ X.ex->b≠a:=λb u e i=>by obtain⟨N,B⟩:=h.base.there b u e i;exact j b N B
 refine⟨I.ok,I.os,I.bare,⟨I.base.keep,I.base.slot,λb u e n i=>?_,I.base.there,λb xs e=>?_,λb G u e=>?_,λb M e=>?_⟩,I.loc,I.cell,?_,λx c e=>?_,λp y=>?_,λb u e=>?_,I.len⟩
 ·rw[me (F b u e i)];exact I.base.free b u e n i
 ·have q:=I.base.Gj b xs e;rw[me (g b _ q)];exact q
 ·have q:=I.base.ui b G u e;rw[me (g b _ q)];exact q
 ·obtain⟨f,q⟩:=I.base.tj b M e;exact⟨f,by rw[me (g b _ q)];exact q⟩
 ·obtain⟨m,⟨u,_,_,k,_⟩,_⟩:=h.loc;rw[me (j _ u k)];exact I.free
 ·obtain⟨v,u,k,_⟩:=h.cell x c e;rw[me (j _ u k)];exact I.Ug x c e
 ·obtain⟨J,K,L⟩:=I.pin p y;refine⟨J,?_,L⟩;rw[me (j _ _ (h.pin p y).1)];exact K
 ·by_cases w:b=a
  ·subst w;rw[Mh]at e;cases e;exact⟨l,⟨o,D⟩,E⟩
  ·rw[me w]at e;exact(I.zd b u e).Uk (λc v _ q=>q) (λc q=>by rw[me (g c _ q)];exact q) λc xs q=>by rw[me (g c _ q)];exact q
theorem kW:∀ b c:Heap,Ay C d a b->(∀ u,b.get? a=some u->c.get? a=some u)->Ay C d a c:=λb c ⟨u,e,q⟩ k=>⟨u,k u e,q⟩
theorem J6:∀ b c:Heap,FH a n b->(∀ u,b.get? a=some u->c.get? a=some u)->FH a n c:=λb c ⟨u,d,q⟩ k=>⟨u,k u d,q⟩
theorem Su.mC(L:Su X pins st H s ea (.ref C) fd):∃ w g,lb X pins st g s/\g ea=some (.ext (Ay C w ea))/\(∀ n,fd=some n->∃ a,w=some a/\H a=none/\g a=some (.ext (FH a n)))/\(∀ b u,H b=some u->g b=some u)/\∀ b u,g b=some u->H b=some u\/H b=none:=by
 have I:=L.inv;obtain⟨P,s0,p,F⟩:=L;obtain⟨J,Q,B,e,k,d,c,T,S,R,K⟩:=F.ex;cases e;obtain⟨o,f,x⟩:=k.there;cases t:fd with
 |none=>
  have r:=kJ (φ:=Ay C none ea) I p c d f ⟨o,f,x,λ_ z=>by cases z⟩ kW;refine⟨none,_,r,Mh,(λn q=>by cases q),λb u e=>?_,λb u e=>?_⟩
  ·rw[me (λz=>by rw[z,d]at e;cases e)];exact e
  ·by_cases h:b=ea
   ·rw[h];exact .inr d
   ·rw[me h]at e;exact .inl e
 |some n=>
  obtain⟨a,oD,A,D,M,E,N,l,O⟩:=K n t;have v:A=o:=by rw[f]at D;cases D;rfl
  subst v;have i:=k.1 a oD E;have j:a≠ea:=λz=>by
   have:=k.2.1;rw[<-z,E]at this;cases this
  have r:=kJ (φ:=Ay C (some a) ea) I p c d f ⟨A,f,x,λ_ z=>by cases z;exact⟨M,k.RM f⟩⟩ kW;have G:=kJ r p O (by rw[me j];exact l) i ⟨oD,i,N⟩ J6;refine⟨some a,_,G,by rw[me (qf j)];exact Mh,λm q=>?_,λb u e=>?_,λb u e=>?_⟩
  ·cases q;exact⟨a,rfl,l,Mh⟩
  ·rw[me (λz=>by rw[z,l]at e;cases e),me (λz=>by rw[z,d]at e;cases e)];exact e
  ·by_cases y:b=a
   ·rw[y];exact .inr l
   ·rw[me y]at e;by_cases h:b=ea
    ·rw[h];exact .inr d
    ·rw[me h]at e;exact .inl e
theorem S0(I:lb X pins st H s)(m:X.stack=X.env::X.outer)(C:X.env.frame=some X.env.locals)(F:qz X.prog X.w X.stack H s cls fd r e n){M:fm}{Q:Value->aa->Prop}
  (h:∀ ea d,e=.ref ea->Su X pins st r d ea cls fd->Q e d):wpAny M X.A (ph e X.env) (λ_ s2=>wpAny M X.A (Yj e none) (λ_ G=>Q e G) E s2) E n:=by
 obtain⟨ea,f,B,rfl,t,D,c,x,v,u,z⟩:=F.ex;have j:ir B (X.env::X.outer) ea cls f n.heap:=by rw[<-m];exact t
 refine LV (by rw[<-m];exact I.ok.frames) C j λK b p g=>?_;refine kL (jQ b) λy k q i=>h ea _ rfl ?_;have a:ir B X.stack ea cls f y:=by rw[m];exact k
 obtain⟨J,l⟩:=UL F v x u t.1 a.1 (p.trans q) (UJ I);exact⟨H,s,I,⟨ea,f,B,rfl,a,D,c,x,v,u,z.next (g.trans i) (let ⟨o,e,_⟩:=a.there;⟨o,e⟩)⟩,F.os,F.bare,J,l⟩
end
def gL(X:Cx)(x:Str)(a:Value):Prop:=X.mg x=some a\/(X.mg x=none/\bootBuiltins x=some a/\x ≠ "__name__")
inductive nz(T:Tb)(X:Cx):List Tg->List Hd->Prop where
 |nil {r:List Tg}:nz T X r []
 |cons {x:Str} {np pos:Ve} {cv:Value} {b₀:Stmt} {suite:List Stmt} {t:Nat->Option Bool} {g:Ev->M Fl} {r:List Tg} {hs:List Hd} (hg:Gl X x) (hd:(x == ("__debug__" : Str))=false) (hm:gL X x cv) (ht:∀ c b,t c=some b->W.exmOne X.K (.ref (T.ca c)) cv=some b)
   (hb:∀ e,ym T (Cx.cx X e) (b₀::suite) g) (hr:nz T X r hs):nz T X (.ExceptHandler (some (.Name x np)) none (b₀::suite) pos::r) (⟨t,none,g⟩::hs)
 |Rz {x n:Str} {i:Nat} {np pos:Ve} {cv:Value} {b₀:Stmt} {suite:List Stmt} {t:Nat->Option Bool} {g:Ev->M Fl} {r:List Tg} {hs:List Hd} (hg:Gl X x) (hd:(x == ("__debug__" : Str))=false) (hm:gL X x cv) (ht:∀ c b,t c=some b->W.exmOne X.K (.ref (T.ca c)) cv=some b)
   (hN:X.N.Nodup) (hi:X.N[i]?=some n) (hl:X.env.scope.names.lookup n=some .local)
   (hb:∀ e,ym T (Cx.cx X e) (b₀::suite) g) (hr:nz T X r hs):nz T X (.ExceptHandler (some (.Name x np)) (some n) (b₀::suite) pos::r) (⟨t,some i,g⟩::hs)
section
variable{T:Tb}{X:Cx}
theorem ER(I:lb X b j H s)(f:Gl X x)(e:(x == ("__debug__" : Str))=false)(a:gL X x d)(h:Q d s):wpAny (model X.prog X.w) X.A (vc (.Name x c) X.env) Q E s:=by
 rcases a with a|⟨a,i,g⟩
 ·exact yB I f a h e
 ·exact ly I f a i h g e
theorem l9{D:Pk}(c:nc T EN (Fn T) j H (o.bind bG) (Dm X D)):nc T EN (Fn T) j H o (Dm (Cx.cx X e) D):=by
 cases o with
 |Xb=>exact c
 |ex x σ=>exact c
 |ok k σ=>
  intro a g d f h b;cases k with
  |nx i=>cases g with
   |nx st=>exact c a (.nx st) d f h b
   |_=>exact b.elim
  |rt i=>cases g with
   |rt st=>exact c a (.rt st) d f h b
   |_=>exact b.elim
  |bk i=>cases g with
   |bk st=>exact c a (.bk st) d f h b
   |_=>exact b.elim
  |ct i=>cases g with
   |ct st=>exact c a (.ct st) d f h b
   |_=>exact b.elim
  |xc i x=>exact c.elim
theorem EM(h:ji T c H e b)(i:Nat):ji T c H (e.set i none) (b.set i none):=by
 refine⟨by simpa using h.1,λj d q=>?_⟩;rw[Uc]at q;by_cases a:i=j
 ·subst a;rw[ja rfl]at q;split at q<;>cases q
 ·rw[ka a]at q;obtain⟨v,f,g⟩:=h.2 j d q;exact⟨v,by rw[Uc,ka a];exact f,g⟩
theorem Ğ{D:Pk}(d:nc T EN (Fn T) l H (o.bind (wU i)) (Dm X D)):nc T EN (Fn T) l H o (Dm (Cx.cx X e) ⟨λa H=>D.nx (a.set i none) H,D.rt,λa H=>D.bk (a.set i none) H,λa H=>D.ct (a.set i none) H⟩):=by
 cases o with
 |Xb=>exact d
 |ex x σ=>exact d
 |ok m σ=>
  intro b h f g j c;cases m with
  |nx k=>cases h with
   |nx a=>exact d b (.nx (a.set i none)) f g j (EM c i)
   |_=>exact c.elim
  |rt k=>cases h with
   |rt a=>exact d b (.rt a) f g j c
   |_=>exact c.elim
  |bk k=>cases h with
   |bk a=>exact d b (.bk (a.set i none)) f g j (EM c i)
   |_=>exact c.elim
  |ct k=>cases h with
   |ct a=>exact d b (.ct (a.set i none)) f g j (EM c i)
   |_=>exact c.elim
  |xc k x=>exact d.elim
theorem E1{M:St}(I:lb X a M H s)(S:X.N.Nodup)(V:X.N[i]?=some n)(hl:X.env.scope.names.lookup n=some .local)(Y:s.heap.Ns X.env.locals m)(F:h'.Ns X.env.locals λy=>if y=n then w else m y)(d:qg X.env.locals s.heap h'):lb X a (M.set i none) H { s with heap:=h',toks:=t }:=by
 have f:∀ b o,X.s₀.heap.get? b=some o->b≠X.env.locals:=λb o e=>Sa (Xa (Ba e) I.ok.above);obtain⟨J,E,l⟩:=I.loc;have P:J=m:=by
  obtain⟨o,es,ep,Z,T,hk,U⟩:=E;obtain⟨K,R,Q,x,h,W,C⟩:=Y;rw[Z]at x;cases x;rw[T]at h;cases h;funext y;rw[<-U y,<-C y]
 subst P;refine⟨I.ok,I.os,I.bare,⟨λb o e n B A=>(d.2 b (f b o e)).trans (I.base.keep b o e n B A),λb o e n B A=>?_,I.base.free,λb o e A=>?_,I.base.Gj,I.base.ui,I.base.tj⟩,⟨_,F,λj y v G g O=>?_⟩,λy c e=>?_,I.free,I.Ug,λp hp=>?_,mL I.zd λb o u e q=>?_,by simpa using I.len⟩
 ·obtain⟨sl,q⟩:=I.base.slot b o e n B A;exact⟨sl,(d.2 b (f b o e)).trans q⟩
 ·obtain⟨K,q⟩:=I.base.there b o e A;exact⟨K,(d.2 b (f b o e)).trans q⟩
 ·rw[Uc]at g;by_cases D:i=j
  ·subst D;rw[ja rfl]at g;split at g<;>cases g
  ·rw[ka D]at g;obtain⟨u,r,lk⟩:=l j y v G g O;refine⟨u,r,?_⟩;have hy:y≠n:=λz=>D (WJ S V (z ▸ G));rcases lk with⟨k,q⟩|⟨k,c,q,z⟩
   ·exact .inl ⟨k,by show (if y=n then w else J y)=some u;rw[ka hy];exact q⟩
   ·exact .inr ⟨k,c,q,z.sameBut d (I.QD y c q)⟩
 ·obtain⟨v,z⟩:=I.cell y c e;exact⟨v,z.sameBut d (I.QD y c e)⟩
 ·obtain⟨q1,q2,L,q4⟩:=I.pin p hp;exact⟨(d.2 p.1 L).trans q1,q2,L,q4⟩
 ·exact(d.2 b λz=>by rw[z,I.free]at e;cases e).trans q
theorem Z4{D:Pk}{K:St}(h:nz T X Z hs)(hE:ji T F H ρ K)(hr:Xd T F H σ)(d:nc T EN (Fn T) F H (bx ρ x hs σ) (Dm X D)) :
  ∀ s,Su X c K H s l (T.cv x) (XA x.cls)->wpAny (model X.prog X.w) X.A (TN (.ref l) X.env Z) (SP X c D) X.xe s:=by
 induction h with
 |nil=>exact d.elim
 |@cons y np pos cv V S t g r hs hg hd hm ht hb Q ih=>
  intro s L;have I:=L.inv;obtain⟨_,⟨o,ho,hc⟩,_⟩:=L.obj;refine az (Uw (ER (LF I) hg hd hm ?_)) (by intro q;cases q);unfold bx at d;dsimp only at d;cases O:t x.cls with
  |none=>rw[O]at d;exact d.elim
  |some b=>
   rw[O]at d;have LT:W.Looks (model X.prog X.w) s.heap (yt (.ref l)) (T.cv x):=by rw[<-hc];exact(W.Looks.ld ho).andThen .now
   refine(W.exm_one I.Dk LT (ht x.cls b O)).here ?_;cases b with
   |false=>exact ih d s L
   |true=>
    refine codeAny_handlers_suite (L.next λs' L'=>?_);exact Hc (hb (.ref l) c s' K H D (LF L'.inv) ⟨F,ρ,σ,hE,hr,l9 d⟩) (λf s2 q=>DZ I.ok q) λ_ _ z=>z.elim
 |@Rz y n i np pos cv V S t g r hs hg hd hm ht hN hi hl hb Q ih=>
  intro s L;have I:=L.inv;obtain⟨_,⟨o,ho,hc⟩,_⟩:=L.obj;refine az (Uw (ER (LF I) hg hd hm ?_)) (by intro q;cases q);unfold bx at d;dsimp only at d;cases O:t x.cls with
  |none=>rw[O]at d;exact d.elim
  |some b=>
   rw[O]at d;have LT:W.Looks (model X.prog X.w) s.heap (yt (.ref l)) (T.cv x):=by rw[<-hc];exact(W.Looks.ld ho).andThen .now
   refine(W.exm_one I.Dk LT (ht x.cls b O)).here ?_;cases b with
   |false=>exact ih d s L
   |true=>
    refine codeAny_handlers_suite_as (L.next λs' L'=>?_);have hn:=L'.obj.1;obtain⟨dd,H1,I1,a3,a2,C,a7⟩:=Su.mC L';have B:∀ b,b∈F->∃ u,H b=some u:=λb z=>by obtain⟨u,E,_⟩:=hr.mem z;exact⟨u,E⟩
    have P:we F H F H1:=⟨⟨[],by simp⟩,λp xs e=>C _ _ e,λp o u e=>C _ _ e,λp o e n=>⟨⟨o,C _ _ e,.inl rfl⟩,n⟩⟩
    have a5:l ∉ F:=λz=>by obtain⟨u,E⟩:=B _ z;rw[hn]at E;cases E
    have rp:Qa T F H1 (.bu x.cls) (.ref l):=by
     refine⟨l,dd,rfl,a5,a3,λn q=>?_⟩;obtain⟨dN,z1,z2,z3⟩:=a2 n q;exact⟨dN,z1,λz=>(by obtain⟨u,E⟩:=B _ z;rw[z2]at E;cases E),z3⟩
    refine ZG (X:=Cx.cx X (.ref l)) (v:=.ref l) (LF I1) hN hi (.inl hl) rfl (λs2 I2=>?_) (.inr hl);refine Hc (hb (.ref l) c s2 _ _ ⟨λK H=>D.nx (K.set i none) H,D.rt,λK H=>D.bk (K.set i none) H,λK H=>D.ct (K.set i none) H⟩ I2 ⟨F,ρ.set i (some (.bu x.cls)),σ,(hE.mono P).set i rp,hr.keep P (λa ha=>by obtain⟨u,E⟩:=B a ha;rw[C _ _ E,E]) (hr.tb.grow C),Ğ (nc.mono P d)⟩) (λf s3 q=>?_) λ_ _ z=>z.elim;have Y:(X.env.scope.kind == .class || (X.env.scope.kind == .module && X.env.locals != X.env.globals))=false:=by rw[I.ok.kind];rfl
    have go:∀ {j:St} {M:Hp},lb (Cx.cx X (.ref l)) c j M s3->(∀ U,lb X c (j.set i none) M U->SP X c D f U)->wpAny (model X.prog X.w) X.A (do bindName X.env n .none;unbindBehindTheSuite X.env n pos) (λ_ a1=>SP X c D f a1) X.xe s3:=fun {j M} G k=>by
     have J:=nF I.ok G;obtain⟨m,a0,_⟩:=id J.loc;exact wpAny_nameGoes_keeps hl a0 Y λh4 v4 a4 a6=>k _ (E1 J hN hi hl a0 a4 a6)
    cases f with
    |next=>obtain⟨j,M,G,R⟩:=q;exact go G λU N=>⟨_,_,N,R⟩
    |brk=>obtain⟨j,M,G,R⟩:=q;exact go G λU N=>⟨_,_,N,R⟩
    |cont=>obtain⟨j,M,G,R⟩:=q;exact go G λU N=>⟨_,_,N,R⟩
    |ret u=>obtain⟨v,j,M,G,r3,R⟩:=q;exact go G λU N=>⟨v,_,_,N,r3,R⟩
theorem QQ(G:X.stack=X.env::X.outer)(hf:X.env.frame=some X.env.locals)
  (Z:∀ a P,Kq (model X.prog X.w) X.A X.env P->ym T (Cx.UF X a P) l g) (hh:nz T X (b::i) E):FS T X (.Try l (b::i) [] [] J) (GI g E):=by
 intro a s j H D I hw;obtain⟨R,m,N,Y,hr,hp⟩:=hw;refine wpAny_Try_except ?_;refine Hc (Z a (λe r=>wpAny (model X.prog X.w) X.A (ph e X.env) (λ_ t=>wpAny (model X.prog X.w) X.A (Yj e none) (λ_ d=>wpAny (model X.prog X.w) X.A (TN e X.env (b::i)) (SP X a D) X.xe d) X.xe t) X.xe r) zaD [] s j H D (ü I)
  ⟨R,m,N,Y,hr,?_⟩) (λf s1 q=>?_) λ_ _ z=>z
 ·have c:nc T EN (Fn T) R H ((g m N).bind (RD E)) (Dm X D):=hp;cases B:g m N with
  |Xb=>rw[B]at c;exact c
  |ex x O=>rw[B]at c;exact c
  |ok W O=>
   rw[B]at c;intro k n v U p h;have o:=c.mono U;cases W with
   |nx m=>cases n with
    |nx j=>exact o k (.nx j) v (we.refl _ _) p h
    |_=>exact h.elim
   |rt m=>cases n with
    |rt j=>exact o k (.rt j) v (we.refl _ _) p h
    |_=>exact h.elim
   |bk m=>cases n with
    |bk j=>exact o k (.bk j) v (we.refl _ _) p h
    |_=>exact h.elim
   |ct m=>cases n with
    |ct j=>exact o k (.ct j) v (we.refl _ _) p h
    |_=>exact h.elim
   |xc a1 x=>cases n with
    |xc a0 cls fd=>
     obtain⟨C,rfl,rfl⟩:=h;refine⟨λp0 H0 s0 e s' S F=>?_⟩;exact S0 (ID S) G hf F (Q:=λe d=>wpAny (model X.prog X.w) X.A (TN e X.env (b::i)) (SP X a D) X.xe d) λea K V L=>by subst V;exact Z4 hh C p o K L
    |_=>exact h.elim
 ·have y:=pZ q;cases f with
  |next=>exact Kk y
  |brk=>exact y
  |cont=>exact y
  |ret u=>exact y
end
theorem KJ(h:FS T X u (lf i f)):FS T X u (lf i (ki f)):=by
 intro r s W H D I U;obtain⟨w,k,c,J,y,S⟩:=U;refine h r s W H D I ⟨w,k,c,J,y,?_⟩;have a:nc T EN (Fn T) w H (xs k (jc (f k)) (dE i k) c) (Dm X D):=S;show nc T EN (Fn T) w H (xs k (f k) (dE i k) c) (Dm X D);unfold xs jc at a;unfold xs;cases e:f k c with
 |Xb=>rw[e]at a;exact a
 |ex x g=>
  rw[e]at a;unfold gi at a;dsimp only at a ⊢;by_cases l:g.take c.length=c
  ·rw[ja l]at a;intro O F A o z t;cases F with
   |xc n Q E=>
    obtain⟨L,B⟩:=Xd.down y z o l;obtain⟨P,V⟩:=t;refine a w (.xc n Q E) A B L ⟨⟨P.1,λj d b=>?_⟩,V⟩;obtain⟨v,p,q⟩:=P.2 j d b;obtain⟨N,_,G⟩:=J.2 j d b;exact⟨v,p,Qa.down o.pre d N v G q⟩
   |_=>exact t.elim
  ·rw[ka l]at a;exact a.elim
 |ok d g=>
  rw[e]at a;unfold gi at a;dsimp only at a ⊢;by_cases l:g.take c.length=c
  ·rw[ja l]at a;cases C:fz c.length g 6 d with
   |none=>rw[C]at a;exact a.elim
   |some d'=>
    rw[C]at a;intro O F A o z t;cases F with
    |nx n=>
     obtain⟨L,B⟩:=Xd.down y z o l;have m:=t;refine a w (.nx n) A B L ⟨by simpa using m.1,λj x b=>?_⟩;rw[Uc]at b;by_cases K:i=j
     ·subst K;rw[ja rfl]at b;split at b
      ·rename_i R
       cases b;obtain⟨v,p,q⟩:=m.2 i d (by rw[Uc,ja rfl,ja R]);exact⟨v,p,OU o.pre z 6 d d' v (by rw[y.len];exact C) q⟩
      ·cases b
     ·rw[ka K]at b;obtain⟨v,p,q⟩:=m.2 j x (by rw[Uc,ka K];exact b);obtain⟨N,_,G⟩:=J.2 j x b;exact⟨v,p,Qa.down o.pre x N v G q⟩
    |_=>exact t.elim
  ·rw[ka l]at a;exact a.elim
noncomputable def xB:List D->Option (List Bool)
 |[]=>some []
 | .bl b::r=>(xB r).map (b::·)
 |_::_=>none
noncomputable def Lu:List D->Option (List Int)
 |[]=>some []
 | .int b::r=>(Lu r).map (b::·)
 |_::_=>none
theorem cW{T:Tb}{j:List Addr}{H:Hp}:∀ {c:List D} {a:List V} {bs:List Bool},Jb T j H c a->xB c=some bs->a=bs.map V.bl
 |[],a,bs,r,h=>by cases h;rw[Jb]at r;exact r
 |d::c,a,bs,r,h=>by
  obtain⟨v,w,rfl,e,i⟩:=r;cases d with
  |bl b=>
   obtain⟨k,f,g⟩:=Eb.mp h;subst g;rw[Qa]at e;subst e;rw[cW i f];rfl
  |_=>cases h
theorem uG{T:Tb}{j:List Addr}{H:Hp}:∀ {c:List D} {a:List V} {bs:List Int},Jb T j H c a->Lu c=some bs->a=bs.map V.int
 |[],a,bs,r,h=>by cases h;rw[Jb]at r;exact r
 |d::c,a,bs,r,h=>by
  obtain⟨v,w,rfl,e,i⟩:=r;cases d with
  |int b=>
   obtain⟨k,f,g⟩:=Eb.mp h;subst g;rw[Qa]at e;subst e;rw[uG i f];rfl
  |_=>cases h
def NC(xs:List D):M D:=λa=>match xs with
 |[x]=>(match (zk a x).bind xB with
  |some bs=>.ok (.bl (bs.all id)) a
  |none=>.Xb)
 |_=>.Xb
def Pu(xs:List D):M D:=λa=>match xs with
 |[x]=>(match (zk a x).bind Lu with
  |some bs=>.ok (.int bs.sum) a
  |none=>.Xb)
 |_=>.Xb
section
variable{T:Tb}{X:Cx}
def lS(K:W.Frag)(g:List Bool->Bool):List V->Hp->VK->Prop:=λxs H Q=>∃ p a,xs=[.ref p]/\(Rf K H p (a.map V.bl)\/qi K H p (a.map V.bl))/\Q (.bl (g a)) H
def fR(K:W.Frag):List V->Hp->VK->Prop:=λxs H Q=>∃ (p:Addr) (bs:List Int),xs=[.ref p]/\(Rf K H p (bs.map V.int)\/qi K H p (bs.map V.int))/\Q (.int bs.sum) H
theorem mO:∀ {a:List Bool} {us:List Value},Se (a.map V.bl) us->us=a.map rh
 |[],us,h=>by cases h;rfl
 |b::a,us,h=>by
  cases h with
  |cons r t=>cases r;rw[mO t];rfl
theorem AU{c:Type}(g:c->Bool)(d:c):∀ (a:List c),(List.range a.length).all (λi=>g (a.getD i d))=a.all g
 |[]=>rfl
 |b::a=>by
  rw[bc,Wr,Tf,Xr,Tf];rw[<-AU g d a];congr 1
theorem Ŀ(f:List Bool):TruthOf d w A (λi v=>(f.map rh).toArray[i]?=some v) (λi=>f.getD i false):=by
 intro i v s Q E a g;simp only[jt,zb]at a;cases e:f[i]? with
 |none=>rw[e]at a;cases a
 |some b=>
  rw[e]at a;cases a;have c:Q (f.getD i false) s:=g;rw[si,e]at c;exact Ud c
theorem aV{s:aa}{a:Heap}(k:∀ b u,b ∉ [s.heap.objs.size]->(s.heap.push o).get? b=some u->a.get? b=some u):∀ b u,s.heap.get? b=some u->a.get? b=some u:=λb u e=>
 k b u (λz=>absurd (Ba e) (by rw[ti.mp z];exact ge _)) (qa _ e)
theorem wP(n:X.A.handled=none)(I:lb X c q H s)(f:Rf X.K H p l\/qi X.K H p l)
  (h:∀ (its:List Value) (It:Addr) (m:List Addr) (St:Nat->Heap->Prop) (s2:aa),Se l its->Walks X.prog X.w X.A.in1 It m [It] its.toArray.size (λi v=>its.toArray[i]?=some v) St->St 0 s2.heap->(∀ b∈m,b<s2.heap.objs.size)->
   (∀ h' k,(∀ b o,b ∉ [It]->s2.heap.get? b=some o->h'.get? b=some o)->lb X c q H { s2 with heap:=h',toks:=k })->Q (.ref It) s2):wpAny (model X.prog X.w) X.A.in1 (pyIter (.ref p)) Q E s:=by
 rcases f with f|f
 ·obtain⟨its,j,pl,r⟩:=I.list f;have a:p<s.heap.objs.size:=by obtain⟨_,e,_⟩:=pl.isList;exact Ba e
  refine Op pl.isList (h its s.heap.objs.size [s.heap.objs.size,p] _ _ j (Pp (A:=X.A.in1) n _ p (Sa a) its.toArray) ⟨⟨_,Bb _ rfl,rfl,rfl⟩,pl.isList.push _⟩ (λb d=>?_) (λh' k g=>I.kept (aV g)));rw[Wg];simp only[Na,He,Wn]at d;rcases d with rfl|rfl
  ·exact Ed _
  ·exact Vi a
 ·obtain⟨its,j,pl,r⟩:=I.tuple f;have a:=pl.lt;refine yA (pl) (h its s.heap.objs.size [s.heap.objs.size,p] _ _ j (Walks.tuple (A:=X.A.in1) n _ p (Sa a) its.toArray) ⟨⟨_,Bb _ rfl,rfl,rfl⟩,bJ (show s.heap.IsTuple p _ from pl) _⟩ (λb d=>?_) (λh' k g=>I.kept (aV g)));rw[Wg];simp only[Na,He,Wn]at d;rcases d with rfl|rfl
  ·exact Ed _
  ·exact Vi a
theorem A6(f:X.Aa=true):tp X (.builtin "all") (lS X.K λa=>a.all id):=by
 intro b s t H xs v Q I r h;obtain⟨p,a,rfl,j,q⟩:=h;obtain⟨u,rfl,k⟩:=Iw r;cases k;refine call_all_walk (wP (I.ok.hd f) I j λits It n St s2 l W d o e=>?_);have c:=mO l;subst c;refine⟨_,_,_,_,_,_,λi=>a.getD i false,rfl,W,d,Ŀ a,λh' m g=>⟨.bl (a.all id),H,e h' m g,?_,q⟩⟩;rw[za,xb];exact yc rh (AU id false a)
theorem GU:∀ (a:List Int) (n:Nat),n<=a.length->preSum (λi=>a.getD i 0) n=(a.take n).sum
 |a,0,_=>by simp[preSum]
 |a,n+1,h=>by
  rw[preSum,GU a n (by omega),List.take_succ_eq_append_getElem (by omega),List.sum_append];simp[show n<a.length by omega]
theorem NF(n:X.Aa=true):tp X (.builtin "sum") (fR X.K):=by
 intro f s C H xs D Q I r h;obtain⟨p,a,rfl,y,q⟩:=h;obtain⟨u,rfl,z⟩:=Iw r;cases z;refine call_sum_walkG (wP (I.ok.hd n) I y λits It B St s2 g W k o m=>?_);refine⟨_,_,_,_,_,_,λi=>a.getD i 0,rfl,W,k,o,λi v d=>?_,λh' A t' w=>⟨.int a.sum,H,m h' A w,⟨t',?_⟩,q⟩⟩
 ·simp only[jt]at d;obtain⟨x,c,l⟩:=iI g d;rw[zb]at c;cases e:a[i]? with
  |none=>rw[e]at c;cases c
  |some b=>
   rw[e]at c;cases c;obtain⟨t,rfl⟩:=l;exact⟨t,by show ii b t=ii (a.getD i 0) t;rw[si,e];rfl⟩
 ·have j:its.toArray.size=a.length:=by rw[za,<-g.length,xb]
  rw[j,GU a _ (Ea _),nj]
theorem eW{g:List D->Option c}{a:c}(h:(zk d x).bind g=some a):∃ b,zk d x=some b/\g b=some a:=Ui.mp h
theorem wY(j:T.K=X.K):Hs T (lS X.K λa=>a.all id) NC:=by
 intro E o H m xs l Q r p h
 match xs with
 |[]=>exact h.elim
 |[x]=>
  obtain⟨v,w,rfl,k,d⟩:=p;rw[Jb]at d;subst d;unfold NC at h;cases e:(zk m x).bind xB with
  |none=>simp only[e]at h;exact h.elim
  |some a=>
   simp only[e]at h;obtain⟨n,f,g⟩:=eW e;obtain⟨b,l,rfl,i,c⟩:=wz r k f;rw[j,cW i g]at c;exact⟨b,a,rfl,c,nc.here h r (by rw[Qa])⟩
 |_::_::_=>exact h.elim
theorem LG(i:T.K=X.K):Hs T (fR X.K) Pu:=by
 intro E n H l xs k Q r p h
 match xs with
 |[]=>exact h.elim
 |[x]=>
  obtain⟨v,w,rfl,j,c⟩:=p;rw[Jb]at c;subst c;unfold Pu at h;cases e:(zk l x).bind Lu with
  |none=>simp only[e]at h;exact h.elim
  |some bs=>
   simp only[e]at h;obtain⟨m,d,f⟩:=eW e;obtain⟨b,k,rfl,g,a⟩:=wz r j d;rw[i,uG g f]at a;exact⟨b,bs,rfl,a,nc.here h r (by rw[Qa])⟩
 |_::_::_=>exact h.elim
noncomputable def cT(xs:List D):M D:=match xs with
 |[.int i,.int j]=>ret (.int (max i j))
 |_=>Xb
noncomputable def Oy(xs:List D):M D:=match xs with
 |[.int i,.int j]=>ret (.int (min i j))
 |_=>Xb
theorem yQ(p:Jb T a H [x,y] b):∃ v u,b=[v,u]/\Qa T a H x v/\Qa T a H y u:=by
 obtain⟨v,w,rfl,c,d⟩:=p;obtain⟨u,f,rfl,e,p4⟩:=d;rw[Jb]at p4;subst p4;exact⟨v,u,rfl,c,e⟩
theorem zwf:Hs T (λxs H Q=>∃ i j,xs=[.int i,.int j]/\Q (.int (if j > i then j else i)) H) cT:=by
 intro E d H f xs c Q r p h;unfold cT at h;split at h
 ·rename_i i j
  obtain⟨v,u,rfl,a,b⟩:=yQ p;refine⟨i,j,by rw[pq a,pq b],?_⟩;have e:(if j > i then j else i)=max i j:=by rw[Int.max_def];split<;>split<;>omega
  rw[e];exact nc.here h r (by rw[Qa])
 ·exact h.elim
theorem wM:Hs T (λxs H Q=>∃ i j,xs=[.int i,.int j]/\Q (.int (if j<i then j else i)) H) Oy:=by
 intro E d H f xs c Q r p h;unfold Oy at h;split at h
 ·rename_i i j
  obtain⟨v,u,rfl,a,b⟩:=yQ p;refine⟨i,j,by rw[pq a,pq b],?_⟩;have e:(if j<i then j else i)=min i j:=by rw[Int.min_def];split<;>split<;>omega
  rw[e];exact nc.here h r (by rw[Qa])
 ·exact h.elim
noncomputable def WC(a:Bool)(x y:D):M D:=λb=>match y with
 | .bl k=>(match x with
  | .bl c=>.ok (.bl (if a then !(c == k)else c == k)) b
  | .Rb=>.ok (.bl a) b
  | .int _=>.ok (.bl a) b
  | .str _=>.ok (.bl a) b
  |_=>.Xb)
 |_=>.Xb
theorem JL:di X (Ub .Is) (rD T (WC false)):=by
 intro f s j H v u m l Q I d g h;obtain⟨E,n,o,x,y,r,a,e,b⟩:=h;cases y with
 |bl k=>
  rw[Qa]at e;subst e;cases g;cases x with
  |bl c=>rw[Qa]at a;subst a;cases d;exact is_bool ⟨.bl (c == k),H,I,rfl,nc.here b r (by rw[Qa];rfl)⟩
  |Rb=>rw[Qa]at a;subst a;cases d;exact kt rfl (by intro z;cases z) ⟨.bl false,H,I,rfl,nc.here b r (by rw[Qa])⟩
  |int i=>rw[Qa]at a;subst a;obtain⟨t,rfl⟩:=d;exact kt rfl (by intro z;cases z) ⟨.bl false,H,I,rfl,nc.here b r (by rw[Qa])⟩
  |str i=>rw[Qa]at a;subst a;obtain⟨t,rfl⟩:=d;exact kt rfl (by intro z;cases z) ⟨.bl false,H,I,rfl,nc.here b r (by rw[Qa])⟩
  |_=>exact b.elim
 |_=>exact b.elim
noncomputable def Nu(a:List Int):List Int:=a.foldl step_dedup []
theorem D5(a:List Int):firstMet (λi=>a.getD i 0) a.length=Nu a:=by
 unfold firstMet Nu;congr 1;apply List.ext_getElem?;intro i;by_cases h:i<a.length
 ·simp[h]
 ·simp[h]
def RC(x:D):M D:=λa=>match (pi a x).bind Lu with
 |some ns=>if ns.length<=oi then .ok (.int (Nu ns).length) a else .Xb
 |none=>.Xb
def y9(K:W.Frag):List V->Hp->VK->Prop:=λxs H Q=>∃ (p:Addr) (ns:List Int),xs=[.ref p]/\Rf K H p (ns.map V.int)/\ns.length<=oi/\∀ l,H l=none->Q (.ref l) (rc H l (.set (λk=>(Nu ns).any (·== k)) (Nu ns).length))
theorem η(h:n<=oi):n+1<scanBound:=iw (Nat.succ_le_succ h) (by decide)
theorem B5(i:X.Aa=true):tp X (.type "set") (y9 X.K):=by
 intro f s t H xs w Q I r h;obtain⟨p,d,rfl,l,k,q⟩:=h;obtain⟨u,rfl,m⟩:=Iw r;cases m;obtain⟨its,g,pl,n⟩:=I.list l;have a:its.length=d.length:=by rw[<-g.length,xb]
 refine call_set_list (I.ok.hd i) pl.isList (fQ g) (by rw[za,a];exact η k) λh' v c j=>?_;rw[show its.toArray.size=d.length by rw[za,a],D5]at c;refine⟨.ref s.heap.objs.size,_,I.laid (λb o e=>j b o (Ba e) e) (Ea _) ?_,rfl,q _ (I.zd.fresh (Ea _))⟩;exact c
theorem l7 : tp X (.builtin "len") (λxs H Q => ∃ (p : Addr) (S : Int -> Bool) (n : Nat), xs = [.ref p] /\ H p = some (.set S n) /\ Q (.int n) H) := by
  intro a s w H xs x Q I r h;obtain ⟨p, S, n, rfl, g, q⟩ := h;obtain ⟨u, rfl, i⟩ := Iw r;cases i;obtain ⟨o, k, j, t, b, c, d, l, m, v, e, f⟩ := (I.zd p _ g)
  refine call_len_set b c d e (by have : scanBound <= 2 ^ 62 := (by decide);omega) ⟨.int n, H, I.tok _, ⟨_, by rw [f]⟩, q⟩
theorem S2(hK:T.K=X.K)(G:X.Aa=true)(L:Gl X "len")(N:X.mg "len" = none)(n:Gl X "set")(q:X.mg "set" = none)(J:FE T X e f)
  (y:ua [e] X.env=(false,vc e X.env)::ua [] X.env:=by rfl) (r:(Wc b (ua [] X.env)).any (·.1)=false:=by rfl)
  (i:ua [.Call (.Name "set" t) [e] [] b] X.env=(false,vc (.Call (.Name "set" t) [e] [] b) X.env)::ua [] X.env:=by rfl) (g:(Wc k (ua [] X.env)).any (·.1)=false:=by rfl) :
  FE T X (.Call (.Name "len" p) [.Call (.Name "set" t) [e] [] b] [] k) (Cd RC f):=by
 intro j s S H Q I h;refine fM l7 L N qc (sx (DS (B5 G) n q rfl (sx J Zz y) (by decide) (by decide) y r) Zz i) (by decide) (by decide) i g j s S H Q I ?_;obtain⟨U,V,W,F,P,O⟩:=h;refine⟨U,V,W,F,P,O.bind λd w u v Y _ Z z R c=>?_⟩;unfold RC at c;cases m:(pi w d).bind Lu with
 |none=>rw[m]at c;exact c.elim
 |some ns=>
  rw[m]at c;dsimp only at c;by_cases o:ns.length<=oi
  ·rw[ja o]at c;obtain⟨ys,A,B⟩:=Ui.mp m;obtain⟨a,vs,rfl,C,E⟩:=z.ls R A;have ev:=uG E B;subst ev;refine⟨a,ns,rfl,Rf.of C,o,λl x=>?_⟩;exact⟨l,_,_,rfl,Mh,c u (.int (Nu ns).length) _ (vm x) (z.fresh x) (by rw[Qa])⟩
  ·rw[ka o]at c;exact c.elim
def Gv(xs:List D)(lo a:Option Int):List D:=(xs.drop (HT.kg xs.length 0 lo)).take (HT.kg xs.length xs.length a - HT.kg xs.length 0 lo)
theorem f9{xs:List D}{lo a:Option Int}(h:HT.kg xs.length 0 lo=0/\HT.kg xs.length xs.length a=xs.length):Gv xs lo a=xs:=by
 unfold Gv;rw[h.1,h.2];simp
theorem GN{xs:List D}(r:Jb T c H xs b)(lo a:Option Int):Jb T c H (Gv xs lo a) (Py b lo a):=by
 unfold Gv Py;rw[r.length];exact Jb.take _ (Jb.drop _ r)
end
end L4
namespace HT
open PySem PySem.Spec PyProof.Rows
variable{prog:Ca}{w:Ya}{A:Ta}{E:Value->aa->Prop}{s:aa}
theorem kl{lo d:Option Int}(b:bv s.heap t a)(j:s.heap.IsSliceOf i l m .none)(pl:jm l lo)(q:jm m d)
  (k:kg a.size 0 lo=0/\kg a.size a.size d=a.size) (h:Q (.ref t) s):wpAny (model prog w) A (Bj (.ref t) (.ref i)) Q E s:=by
 obtain⟨p,g,f,n⟩:=id j;have e:s.TypeIs (.ref i) "slice":=⟨p,g,f⟩
 unfold Bj;try with_reducible refine Td ?_
 refine da (VB b.typeIs (by decide) ?_);refine da (Xu b.typeIs Rc
  (Iq Rc b.typeIs Yy ?_ (wA _ _)))
 show wpAny _ _ (yl (.ref t) >>= _) _ _ s;refine da (CW b ?_);refine da (aw e ?_);refine da (kP j pl q ?_);have c:(((kg a.size 0 lo):Int) == 0 && (1:Int) == 1 && (kg a.size a.size d - kg a.size 0 lo) == a.size)=true:=by
  rw[k.1,k.2];simp
 show wpAny _ _ (if (((kg a.size 0 lo):Int) == 0 && 1 == 1 && (kg a.size a.size d - kg a.size 0 lo) == a.size)=true then _ else _) _ _ s;rw[ja c];obtain⟨o,u,r,v⟩:=id b;refine da (da (aw b.typeIs ?_));refine ra ?_;refine da (wpAny_rule ?_);first
  |exact ra ⟨_,rfl,ra h⟩
  |exact ra (ra ⟨_,rfl,ra h⟩)
  |exact da (ra (ra ⟨_,rfl,ra h⟩))
end HT
namespace L4
open PySem PySem.Spec PyProof.Rows L2
section
variable{T:Tb}{X:Cx}
def VN(K:W.Frag):V->Option Int->Option Int->Hp->VK->Prop:=λx lo b H Q=>∃ a xs,x=.ref a/\qi K H a xs/\(HT.kg xs.length 0 lo=0/\HT.kg xs.length xs.length b=xs.length)/\Q (.ref a) H
theorem B6:Bw X (VN X.K):=by
 intro d s n H x v o p lo k m Q I j e pl i h;obtain⟨a,xs,rfl,g,f,q⟩:=h;cases j;obtain⟨its,r,c,l⟩:=I.tuple g;have b:its.toArray.size=xs.length:=by rw[za];exact r.length.symm
 exact⟨"tuple",_,Rc.lookup,c.typeIs,HT.kl c e pl i (by rw[b];exact f) ⟨.ref a,H,I,rfl,q⟩⟩
abbrev PF:=Option (Ev->M D)
noncomputable def oK(d:D):M (Option Int):=match d with
 | .int i=>ret (some i)
 |_=>Xb
def iz(p:PF):Ev->M (Option Int):=match p with
 |none=>λ_=>ret none
 |some f=>λa=>Pd (f a) oK
def tP(T:Tb)(X:Cx)(f:Ev->M (Option Int)):TO:=λd H Q=>∃ c e g,ji T c H e d/\Xd T c H g/\nc T (XE X d) (λ_ _ a b=>b=a) c H (f e g) Q
abbrev FO(T:Tb)(X:Cx)(e:Option Ua)(p:PF):Prop:=PO X e (tP T X (iz p))
theorem KC:FO T X none none:=by
 intro a s d H Q I h;obtain⟨f,g,i,e,c,b⟩:=h;exact Ŏ a s d H Q I (nc.here b c rfl)
theorem oC(g:FE T X e f):FO T X (some e) (some f):=by
 intro a s n H Q I h;refine þ g a s n H Q I ?_;obtain⟨o,q,r,c,k,j⟩:=h;refine⟨o,q,r,c,k,nc.bind j λd t p v u _ w m l b=>?_⟩;cases d with
 |int i=>exact⟨i,pq l,nc.here b m rfl⟩
 |_=>exact b.elim
def yU(x:D)(lo b:Option Int):M D:=λa=>match x with
 | .Ga xs=>.ok (.Ga (Gv xs lo b)) a
 | .Uf ns=>.ok (.va (Gv (ns.map D.int) lo b)) a
 |x=>(match pi a x with
  |some xs=>.ok (.va (Gv xs lo b)) a
  |none=>.Xb)
def Fx(x:D)(lo:Option Int)(a:Option Int):M D:=yU x lo a
def DJ(x:D)(a:M (Option Int))(lo:Option Int):M D:=Pd a (Fx x lo)
def sN(lo a:M (Option Int))(x:D):M D:=Pd lo (DJ x a)
def dA(f:Ev->M D)(lo b:PF):Ev->M D:=λa=>Pd (f a) (sN (iz lo a) (iz b a))
theorem eF{lo W:Option Ua}(hK:T.K=X.K)(he:FE T X e f)(hl:FO T X lo pl)(hh:FO T X W Y):FE T X (.Subscript e (.Slice lo W none C) E) (dA f pl Y):=by
 intro x s Z H Q I h;refine ĩ (Bw.or pY (Bw.or B6 Ś)) he hl hh x s Z H Q I ?_;obtain⟨μ,P,σ,A,hr,hp⟩:=h;refine⟨μ,P,σ,A,hr,hp.bind λd R L v H1 _ U r1 q1 p1=>⟨L,P,R,A.mono U,r1,p1.bind λl S N g H2 _ V r2 q2 C=>⟨N,P,S,(A.mono U).mono V,r2,C.bind λu o O i z _ e3 y q3 c=>?_⟩⟩⟩;have F:=q2;have G:=q3;subst F;subst G;have rd:=Qa.mono e3 _ _ (Qa.mono V _ _ q1);have b:∀ m,pi o d=some m->nc T (XE X Z) (Qa T) O z (.ok (.va (Gv m g i)) o) Q->CP X.K v g i z Q\/VN X.K v g i z Q\/kT X.K v g i z Q:=λm t p4=>by
  obtain⟨a,j,rfl,r,k⟩:=y.ls rd t;exact .inr (.inr ⟨a,j,rfl,Rf.of r,λp w=>QH p4 y (GN k g i) w⟩)
 cases d with
 |Ga xs=>
  have J:=rd;obtain⟨p,j,rfl,r,k⟩:=rd;by_cases B:HT.kg j.length 0 g=0/\HT.kg j.length j.length i=j.length
  ·refine .inr (.inl ⟨p,j,rfl,qi.of r,B,nc.here c y ?_⟩);rw[f9 (by rw[k.length];exact B)];exact J
  ·exact .inl ⟨p,j,rfl,qi.of r,B,λq w=>DB c y (GN k g i) w⟩
 |ref n=>
  unfold Fx yU at c;dsimp only at c;cases t:pi o (.ref n)with
  |none=>rw[t]at c;exact c.elim
  |some m=>rw[t]at c;exact b m t c
 |va m=>exact b m rfl c
 |Uf ns=>
  obtain⟨p,rfl,r⟩:=rd;have k:=r.seq;rw[hK]at k;exact .inr (.inr ⟨p,_,rfl,k,λp w=>QH c y (GN (nE ns) g i) w⟩)
 |_=>exact c.elim
end
def uM(K:W.Frag)(j:Str->Option Value)(x:Str)(e:Stmt)(g:List Str)(i:List Value):Prop:=
 ∃ f b,j x=some (.ref f)/\W.keepIn K (.ref f)=true/\(∃ (k:Value) (l:Option Addr) (h kV c m:Value) (an:Option Addr) (a ct:Value) (d:Array (Option Value)),
  b=W.fnOf x x (qp e) (Kj e) (Pc e) h kV c m an a ct/\K.lookup f=some ⟨k,l,.func b,d⟩/\W.codeIn K a x=true)/\Ws K b g []/\Ws K b g i
def Wu(T:Tb)(P:Ca)(w:Ya)(d:Str->Option Value)(a:Heap)(k:Nat)(x:Str)(b:List Str)(e:List Value)(g:List D->M D):Prop:=
 ∃ f c,d x=some (.ref f)/\W.keepIn T.K (.ref f)=true/\Ws T.K c b []/\Ws T.K c b e/\Yh P w T.K d a (Il P w) k f c b (uq T b.length g)
section
variable{T:Tb}{X:Cx}
theorem U1(h:Wu T X.prog X.w X.mg X.base k x m n fn)(o:T.K=X.K)(u:Yd k X.A)(s:Gl X x)
  (q:FA T X (e::a) g) (c:(x == ("__debug__" : Str))=false:=by decide) (r:ua (e::a) X.env=(false,vc e X.env)::ua a X.env:=by rfl) (d:(Wc b (ua a X.env)).any (·.1)=false:=by rfl) :
  FE T X (.Call (.Name x p) (e::a) [] b) (Xc m.length fn [] g):=by
 obtain⟨f,v,t,l,j,_,i⟩:=h;rw[o]at l i j;exact DN i u s t l j .nil (λ_ _=>Jb.nil) q c r d
theorem Î(h:Wu T X.prog X.w X.mg X.base k x r l fn)(s:T.K=X.K)(z:Yd k X.A)(v:Gl X x)(B:Se b l)(i:∀ C H,Jb T C H a b)
  (t:FA T X (e::c) m) (g:(x == ("__debug__" : Str))=false:=by decide) (u:ua (e::c) X.env=(false,vc e X.env)::ua c X.env:=by rfl) (j:(Wc d (ua c X.env)).any (·.1)=false:=by rfl) :
  FE T X (.Call (.Name x p) (e::c) [] d) (Xc r.length fn a m):=by
 obtain⟨f,E,y,q,_,o,n⟩:=h;rw[s]at q n o;exact DN n z v y q o B i t g u j
theorem wR:Se [V.Rb] [lc]:=.cons rfl .nil
theorem aW(a:List Addr)(H:Hp):Jb T a H [D.Rb] [V.Rb]:=Jb.cons (by rw[Qa]) Jb.nil
variable{P:Ca}{w:Ya}{K:W.Frag}{mg:Str->Option Value}{base:Heap}{ca:Nat->Addr}{tx:Tx}
theorem Ř(h:uM K mg x c e i)(S:wa N e (Pc c))
  (n:∀ (f:Addr) (a:Value) (A:Ta) (b:List nh) (s:aa) (H:Hp) (E:XK),Yd k (A.deeper (Ag x (Pc c) s.heap.objs.size f a))->ym ⟨K,ca,tx⟩ (Vp (Il P w) P w K mg base N x (Pc c) f a A b s H E) (Kj c) g) :
  Wu ⟨K,ca,tx⟩ P w mg base (k+1) x e i (Md N.length g):=by
 obtain⟨f,u,p,o,⟨v,y,t,kV,m,z,r,a,ct,q,rfl,lk,d⟩,j,l⟩:=h;exact⟨f,_,p,o,j,l,NA lk d S (n f a)⟩
theorem Wu.jc{k:Nat}{x:Str}{c:List Str}{a:List Value}{b:List D->M D}(h:Wu T P w mg base k x c a b):Wu T P w mg base k x c a (λd=>L4.jc (b d)):=by
 obtain⟨f,e,g,i,j,l,m⟩:=h;exact⟨f,e,g,i,j,l,HF m⟩
theorem Θ{D j z:Option Addr}{kV e m b ct:Value}{w:Nat}(X:K.In h)(G:h.Ns mainGlobals mg)
  (B:∀ (t:Addr) (kV e m:Value) (j:Option Addr) (b ct:Value) (s:aa) (o:Vc) (n:Nat) (i:List Value),s.heap.get? t=some o->o.data=.seq p.toArray n->((i++[]).length=r.length->Mg s (W.fnOf x x (qp g) (Kj g) (Pc g) (.ref t) kV e m j b ct) ⟨i,[]⟩ (r.zip (i++[])))/\
   ((i++p).length=r.length->Mg s (W.fnOf x x (qp g) (Kj g) (Pc g) (.ref t) kV e m j b ct) ⟨i,[]⟩ (r.zip (i++p))))
  (a:W.nsIn K mainGlobals x=some (some (.ref f))) (l:K.lookup f=some ⟨C,D,.func (W.fnOf x x (qp g) (Kj g) (Pc g) (.ref t) kV e m j b ct),q⟩)
  (c:W.codeIn K b x=true) (k:W.keepIn K (.ref f)=true) (d:K.lookup t=some ⟨y,z,.seq p.toArray w,A⟩):uM K mg x g r p:=
 ⟨f,_,W.mg_of X G a,k,⟨C,D,_,kV,e,m,j,b,ct,q,rfl,l,c⟩,λs i u v=>(B t kV e m j b ct s _ w i (u _ _ d) rfl).1 v,λs i u v=>(B t kV e m j b ct s _ w i (u _ _ d) rfl).2 v⟩
end
noncomputable def jG(l:List (Nat × Bool)):Nat->Option Bool:=λc=>l.lookup c
abbrev vY:List Value:=[.type "ValueError",.type "Exception",.type "BaseException",.type "object"]
def BI(K:W.Frag)(a:Nat->Addr)(b:Value)(l:List (Nat × Bool)):Prop:=∀ p∈l,W.exmOne K (.ref (a p.1)) b=some p.2
theorem N3{K:W.Frag}:BI K a b []:=λ_ h=>nomatch h
theorem n3{K:W.Frag}(h:W.exmOne K (.ref (a c)) d=some b)(r:BI K a d l):BI K a d ((c,b)::l):=λp e=>by
 rcases Na.mp e with rfl|e
 ·exact h
 ·exact r p e
theorem RQ:∀ {l:List (Nat × Bool)} {c:Nat} {b:Bool},l.lookup c=some b->(c,b)∈l
 |[],_,_,h=>by simp at h
 |(n,d)::r,c,b,h=>by
  rw[Ab]at h;cases e:c == n with
  |true=>rw[e]at h;cases h;rw[eq_of_beq e];exact Wa
  |false=>rw[e]at h;exact Za _ (RQ h)
theorem O5{K:W.Frag}(h:BI K a d l):∀ c b,jG l c=some b->W.exmOne K (.ref (a c)) d=some b:=λc b e=>h (c,b) (RQ e)
theorem Le.Cb(h:Le T P w c a k x d b):Le T P w c a k x d (L4.Cb b):=by rw[ms];exact h
theorem Wu.Cb(h:Wu T P w d a k x e b c):Wu T P w d a k x e b (L4.Cb c):=by rw[ms];exact h
section
variable{T:Tb}{X:Cx}{μ:List Addr}{H:Hp}{σ:nb}
def Rl(σ:nb):D->Option (Nat × List (Str × D))
 | .obj c ns ds=>if ns.length=ds.length then some (c,ns.zip ds)else none
 | .ref n=>match σ[n]? with
  |some (.Ld c a)=>some (c,a)
  |_=>none
 |_=>none
theorem XU:∀ {b:List Str} {ds:List D} {a:List (Str × V)},a.map (·.1)=b->Jb T μ H ds (a.map (·.2))->zu T μ H (b.zip ds) a
 |[],ds,[],_,h=>by
  cases ds with
  |nil=>exact Paired.nil
  |cons d ds=>have:=h.length;simp at this
 |[],ds,f::a,e,_=>by simp at e
 |n::b,ds,[],e,_=>by simp at e
 |n::b,[],f::a,e,h=>by have:=h.length;simp at this
 |n::b,d::ds,f::a,e,h=>by
  simp only[Ra,Yt]at e;rw[Ra,Jb]at h;obtain⟨v,r,c,j,k⟩:=h;simp only[Yt]at c;obtain⟨g,i⟩:=c;subst i;exact Paired.cons ⟨e.1.symm,by rw[g];exact j⟩ (XU e.2 k)
theorem QB(r:Xd T μ H σ)(h:Qa T μ H d v)(e:Rl σ d=some (c,k)):∃ a f b,v=.ref a/\H a=some (.Ld (T.ca c) f b)/\zu T μ H k b:=by
 cases d with
 |obj m ns ds=>
  unfold Rl at e;by_cases l:ns.length=ds.length
  ·simp only[l]at e;obtain⟨rfl,rfl⟩:=e;obtain⟨a,f,b,rfl,_,i,j,s⟩:=h;exact⟨a,f,b,rfl,i,XU j s⟩
  ·simp[l]at e
 |ref n=>
  unfold Rl at e;dsimp only at e;cases g:σ[n]? with
  |none=>rw[g]at e;cases e
  |some o=>
   rw[g]at e;obtain⟨a,rfl,_,q⟩:=r.at h g;cases o with
   |Ld m p=>cases e;obtain⟨f,b,i,j⟩:=q;exact⟨a,f,b,rfl,i,j⟩
   |va _=>cases e
   |Bc _=>cases e
   |Xf _=>cases e
   |rl _=>cases e
 |_=>cases e
theorem UC{f:Str}:∀ {b:List (Str × D)} {i:List (Str × V)},zu T μ H b i->(∀ d,b.lookup f=some d->∃ v,i.lookup f=some v/\Qa T μ H d v)/\(b.lookup f=none->i.lookup f=none)
 |_,_,.nil=>⟨λd e=>by simp at e,λ_=>rfl⟩
 |(g,x)::b,(o,v)::i,.cons ⟨e,h⟩ t=>by
  have j:=e;subst j;obtain⟨k,l⟩:=UC t;by_cases c:(f == g)=true
  ·refine⟨λd q=>?_,λq=>?_⟩
   ·rw[Ab,c]at q;cases q;exact⟨v,by rw[Ab,c],h⟩
   ·rw[Ab,c]at q;cases q
  ·have a:(f == g)=false:=by simpa using c
   refine⟨λd q=>?_,λq=>?_⟩
   ·rw[Ab,a]at q;obtain⟨w,m,n⟩:=k d q;exact⟨w,by rw[Ab,a];exact m,n⟩
   ·rw[Ab,a]at q;rw[Ab,a];exact l q
def Ln(T:Tb)(a:List Nat)(f:Str):Prop:=∀ c,a.contains c=true->Ap T.K (T.ca c)/\Zh T.K (T.ca c) f
theorem zr:Ln T [] f:=λc h=>by simp at h
theorem kj(e:Ap T.K (T.ca c))(g:Zh T.K (T.ca c) f)(h:Ln T b f):Ln T (c::b) f:=λd a=>by
 rw[List.contains_cons,Kg,wh]at a;rcases a with rfl|a
 ·exact⟨e,g⟩
 ·exact h d a
def Nc(a:List Nat)(f:Str)(x:D):M D:=λσ=>match Rl σ x with
 |some (c,b)=>if a.contains c=true then (match b.lookup f with
  |some d=>.ok d σ
  |none=>.Xb)else .Xb
 |none=>.Xb
theorem v7(F:T.K=X.K)(J:Ln T k f)(L:FE T X e g)
  (G:oe e f X.env (vc e X.env)=vc e X.env:=by rfl):FE T X (.Attribute e f n) (Cd (Nc k f) g):=by
 intro j s R H Q I h;refine r6 L G j s R H Q I ?_;obtain⟨μ,V,σ,E,O,N⟩:=h;refine⟨μ,V,σ,E,O,nc.bind N λd o U v W _ Y t P b=>?_⟩;unfold Nc at b;cases l:Rl o d with
 |none=>rw[l]at b;exact b.elim
 |some p=>
  obtain⟨c,x⟩:=p;rw[l]at b;dsimp only at b;by_cases i:k.contains c=true
  ·rw[ja i]at b;obtain⟨a,u,S,rfl,z,A⟩:=QB t P l;cases m:x.lookup f with
   |none=>rw[m]at b;exact b.elim
   |some y=>
    rw[m]at b;obtain⟨w,B,C⟩:=(UC A).1 y m;obtain⟨q,r⟩:=J c i;rw[F]at q r;exact⟨a,_,u,S,w,rfl,z,q,r,B,nc.here b t C⟩
  ·rw[ka i]at b;exact b.elim
noncomputable def Bo(f:Str)(v:D):List (Str × D)->List (Str × D)
 |[]=>[(f,v)]
 |(g,x)::r=>if g=f then (g,v)::r else (g,x)::Bo f v r
theorem OJ{f:Str}{d:D}{v:V}(c:Qa T μ H d v):∀ {b:List (Str × D)} {i:List (Str × V)},zu T μ H b i->zu T μ H (Bo f d b) (vp f v i)
 |_,_,.nil=>Paired.cons ⟨rfl,c⟩ Paired.nil
 |(g,x)::b,(k,w)::i,.cons ⟨e,h⟩ t=>by
  have j:=e;subst j;unfold Bo vp;by_cases a:g=f
  ·rw[ja a,ja a];exact Paired.cons ⟨rfl,c⟩ t
  ·rw[ka a,ka a];exact Paired.cons ⟨rfl,h⟩ (OJ c t)
theorem zu.mono(e:we μ H a b)(h:zu T μ H c d):zu T a b c d:=Paired.ur h λ_ _ q=>⟨q.1,Qa.mono e _ _ q.2⟩
theorem zu.length(h:zu T μ H a b):a.length=b.length:=Paired.length h
def uB(b:List Nat)(f:Str)(d x:D):M Unit:=λσ=>match x with
 | .ref n=>(match σ[n]? with
  |some (.Ld c a)=>if (b.contains c && decide (a.length<1000))=true then .ok () (σ.set n (.Ld c (Bo f d a)))else .Xb
  |_=>.Xb)
 |_=>.Xb
def Jz(c:Ev)(b:List Nat)(f:Str)(d x:D):M Fl:=λσ=>match uB b f d x σ with
 | .ok _ a=>.ok (.nx c) a
 |_=>.Xb
def rN(a:Ev)(b:List Nat)(f:Str)(c:Ev->M D)(d:D):M Fl:=xs a (c a) (Jz a b f d)
def Rn(b:List Nat)(f:Str)(d c:Ev->M D):Ev->M Fl:=λa=>xs a (d a) (rN a b f c)
theorem Yp(U:T.K=X.K)(V:Ln T m f)(Y:FE T X o C)(hv:FE T X e F)
  (hs:Xi e (some (.Attribute o f h)) k.line X.env=pure false:=by rfl):FS T X (.Assign [.Attribute o f h] e k) (Rn m f F C):=by
 intro j s Q H D I hq;refine G4 Y hv hs j s Q H D I ?_;obtain⟨μ,S,σ,i,hr,Z⟩:=hq;refine⟨μ,S,σ,i,hr,Z.xs i λd w u v H1 _ q r1 q1 p1=>?_⟩;refine⟨u,S,w,i.mono q,r1,p1.xs (i.mono q) λx y l vo A _ B P q2 b=>?_⟩;have W:=Qa.mono B _ _ q1;unfold Jz uB at b;cases x with
 |ref n=>
  dsimp only at b;cases r:y[n]? with
  |none=>rw[r]at b;exact b.elim
  |some ob=>
   rw[r]at b;cases ob with
   |va _=>exact b.elim
   |Bc _=>exact b.elim
   |Xf _=>exact b.elim
   |rl _=>exact b.elim
   |Ld c E=>
    dsimp only at b;by_cases g:(m.contains c && decide (E.length<1000))=true
    ·rw[ja g]at b;rw[La,jd]at g;obtain⟨a,rfl,L,p,R,G,J⟩:=P.at q2 r;have ex:we l A l (rc A a (.Ld (T.ca c) p (vp f v R))):=Gw (Oa L) G (λ_ z=>by cases z) (λ_ _ z=>by cases z);have t:=P.write (ob:=.Ld c (Bo f d E)) L ⟨p,_,Mh,OJ (Qa.mono ex _ _ W) (zu.mono ex J)⟩;obtain⟨N,O⟩:=V c g.1;rw[U]at N O;exact⟨a,_,p,R,rfl,G,N,O,by rw[<-J.length];exact g.2,b _ (.nx Q) _ t.1 t.2 ((i.mono q).mono B |>.mono t.1)⟩
    ·rw[ka g]at b;exact b.elim
 |_=>exact b.elim
noncomputable def mD(n:Nat):Jk D->Jk D
 | .ok .Rb a=>.ok (.ref n) a
 | .ok _ _=>.Xb
 | .ex x a=>.ex x a
 | .Xb=>.Xb
def Mq(c n:Nat)(b:List D->M D)(a:List D):M D:=λσ=>if a.length+1=n then mD σ.length (b (.ref σ.length::a) (σ++[.Ld c []]))else .Xb
def Ut(c n:Nat)(a:List D->M D)(b:Ev->M (List D)):Ev->M D:=λd=>Pd (b d) (Mq c n a)
def yi(T:Tb)(P:Ca)(w:Ya)(g:Str->Option Value)(a:Heap)(k:Nat)(f:Addr)(b:List Str)(e:List D->M D):Prop:=
 ∃ d,(∀ c:List Value,c.length=b.length->bindArgs d ⟨c,[]⟩=pure (b.zip c))/\Yh P w T.K g a (Il P w) k f d b (uq T b.length e)
def ļ(T:Tb)(P:Ca)(w:Ya)(b:Str->Option Value)(a:Heap)(k:Nat)(x:Str)(c:Nat)(e:List Str)(d:List D->M D):Prop:=
 ∃ f,b x=some (.ref (T.ca c))/\Mk T.K (T.ca c) f/\yi T P w b a k f e d
theorem AT{s:List Str}(r:Xd T μ H σ)(q:Jb T μ H h z)(p:nc T E (Qa T) μ H (Mq c s.length m h σ) Q) :
  ∀ x a,H x=none->H a=none->a≠x->uq T s.length m (.ref x::(z++[])) (rc (rc H a (.own x)) x (.Ld (T.ca c) a [])) (λv A=>v=.Rb/\Q (.ref x) A) E:=by
 intro x a C i o;unfold Mq at p;by_cases n:h.length+1=s.length
 ·rw[ja n]at p;have b:we μ H μ (rc H a (.own x)):=vm i;have u:Xd T μ (rc H a (.own x)) σ:=r.fresh i;have j:rc H a (.own x) x=none:=by unfold rc;rw[ka (qf o)];exact C
  have f:we μ (rc H a (.own x)) (μ++[x]) (rc (rc H a (.own x)) x (.Ld (T.ca c) a [])):=fx j;have G:Xd T (μ++[x]) (rc (rc H a (.own x)) x (.Ld (T.ca c) a [])) (σ++[.Ld c []]):=u.push j ⟨a,[],Mh,Paired.nil⟩;refine⟨μ++[x],σ++[.Ld c []],.ref σ.length::h,Jb.cons (rE u) (by rw[Uh];exact Jb.mono (b.trans f) _ _ q),by rw[bc];exact n,G,?_⟩;cases e:m (.ref σ.length::h) (σ++[.Ld c []])with
  |Xb=>rw[e]at p;exact p.elim
  |ex y w=>rw[e]at p;exact λg l k t=>p g l ((b.trans f).trans k) t
  |ok d w=>
   rw[e]at p;intro g v l k t F;have B:d=.Rb:=by cases d<;>first|rfl|exact p.elim
   subst B;refine⟨F,p g (.ref x) l ((b.trans f).trans k) t ?_⟩;exact Qa.mono k _ _ (rE u)
 ·rw[ka n]at p;exact p.elim
theorem PV(M:Mk X.K C f)(F:Yh X.prog X.w X.K X.mg X.base (Il X.prog X.w) k f n o z)(O:Yd (k+1) X.A)(J:Ws X.K n o g)(L:Se d g)
  (I:lb X b m H s) (r:Se p c)
  (h:∀ x l,H x=none->H l=none->l≠x->z (.ref x::(p++d)) (rc (rc H l (.own x)) x (.Ld C l [])) (λv B=>v=.Rb/\Q (.ref x) B) (XE X m)) :
  wpAny (model X.prog X.w) X.A (call (.ref C) c) (EP X b m Q) X.xe s:=by
 have t:=h (s.heap.objs.size+1) s.heap.objs.size (I.zd.fresh (Xo _)) (I.zd.fresh (Ea _)) (Sa (Ed _));have j:=lb.made (C:=C) I;have y:Se (V.ref (s.heap.objs.size+1)::(p++d)) (Nb (s.heap.objs.size+1)::(c++g)):=.cons rfl (r.append L);have N:(Nb (s.heap.objs.size+1)::c++g).length=o.length:=by
  have e:=y.length;rw[F.len _ _ _ _ t]at e;exact e.symm
 refine Oo (IX I.Dk M.makes M.init (wh.mp M.fn) (Oi (F.Md _ X.stack _ _ ⟨Nb (s.heap.objs.size+1)::c,[]⟩ (Nb (s.heap.objs.size+1)::(c++g)) _ _ (XE X m) (O.make C c [])
  (j.FC.make C c []) (J _ (Nb (s.heap.objs.size+1)::c) j.Dk N) y t) λr T a=>?_))
 cases r with
 |error e=>obtain⟨E,n,q,i,P⟩:=a;exact P.mH b _ _ e T j i
 |ok G=>
  cases G with
  |ret u=>
   obtain⟨v,q,D,S,ev,R⟩:=j.after a;subst ev;exact⟨S,⟨V.ref (s.heap.objs.size+1),q,D,rfl,R⟩⟩
  |next=>exact False.elim a
  |brk=>exact False.elim a
  |cont=>exact False.elim a
theorem qB(h:ļ T X.prog X.w X.mg X.base k x c ps fn)(E:T.K=X.K)(R:Yd (k+1) X.A)(L:Gl X x)
  (F:FA T X (e::d) u) (l:(x == ("__debug__" : Str))=false:=by decide) (J:ua (e::d) X.env=(false,vc e X.env)::ua d X.env:=by rfl) (m:(Wc a (ua d X.env)).any (·.1)=false:=by rfl) :
  FE T X (.Call (.Name x p) (e::d) [] a) (Ut c ps.length fn u):=by
 obtain⟨f,N,j,fd,G,y⟩:=h;rw[E]at j y;intro g s z H Q I P;obtain⟨μ,Z,σ,C,n,O⟩:=P;refine Zf (yB I L N ?_ l);refine W.callWith_K I.ok.mod.My j.kp (Je (F a g s z H (λo b=>∀ x i,b x=none->b i=none->i≠x->uq T ps.length fn (.ref x::(o++[])) (rc (rc b i (.own x)) x (.Ld (T.ca c) i [])) (λv B=>v=.Rb/\Q (.ref x) B) (XE X z)) I ⟨μ,Z,σ,C,n,O.bind λds a0 Y o b _ e1 V S U=>AT V S U⟩) λus s1 ⟨o,b,t,r,q⟩=>⟨t.Dk,?_⟩) J m;exact PV j y R (.all G) .nil t r q
structure sL(T:Tb)(P:Ca)(w:Ya)(mg:Str->Option Value)(base:Heap)(k:Nat)(m:Str)(c:Nat)(ps:List Str)(fn:List D->M D):Prop where
 cl:Ap T.K (T.ca c)
 ex:∃ f,ng T.K (T.ca c) m f/\yi T P w mg base k f ps fn
abbrev Mt:=List (Nat × (List D->M D))
noncomputable def Xw:Mt->Nat->Option (List D->M D)
 |[],_=>none
 |(c,fn)::r,d=>if c == d then some fn else Xw r d
noncomputable def Ik(n:Nat)(b:List D->M D)(x:D)(a:List D):M D:=if a.length+1=n then b (x::a)else Xb
def Km(d:Mt)(n:Nat)(m:Str)(a:M (List D))(x:D):M D:=λσ=>match Rl σ x with
 |some (c,b)=>(match Xw d c,b.lookup m with
  |some fn,none=>Pd a (Ik n fn x) σ
  |_,_=>.Xb)
 |none=>.Xb
def xg(c:Mt)(n:Nat)(m:Str)(f:Ev->M D)(b:Ev->M (List D)):Ev->M D:=λa=>Pd (f a) (Km c n m (b a))
theorem AJ:∀ {a:Mt} {c:Nat} {fn:List D->M D},Xw a c=some fn->(c,fn)∈a
 |[],_,_,h=>by cases h
 |(d,g)::r,c,fn,h=>by
  unfold Xw at h;by_cases e:(d == c)=true
  ·rw[ja e]at h;cases h;rw[wh.mp e];exact Wa
  ·rw[ka e]at h;exact Za _ (AJ h)
theorem ģ(hK:T.K=X.K)(he:FE T X o f)(h:∀ q∈L,sL T X.prog X.w X.mg X.base k m q.1 G q.2)(hr:Yd k X.A)(ha:FA T X (e::n) P)
  (Z:ua (e::n) X.env=(false,vc e X.env)::ua n X.env:=by rfl) (V:(Wc b (ua n X.env)).any (·.1)=false:=by rfl)
  (ht:vc (.Call (.Attribute o m i) (e::n) [] b) X.env=(do
   let ov <-vc o X.env
   Fk i.atName
   let (f,first) <-Lg [ov] (Bm ov m pl)
   Wx b f first (Wc b (ua (e::n) X.env)) (Xj b (oh [] X.env))):=by rfl) :
  FE T X (.Call (.Attribute o m i) (e::n) [] b) (xg L G.length m f P):=by
 intro j s J H Q I hq;obtain⟨μ,ρ,σ,hE,Y,hp⟩:=hq;have R:=hE;refine W.methodCall_KW (Je (he j s J H (λx t=>∃ a c F l fn,x=.ref a/\t a=some (.Ld (T.ca c) F l)/\Xw L c=some fn/\l.lookup m=none/\tL T X P J t λus N=>uq T G.length fn (x::(us++[])) N Q (XE X J)) I ⟨μ,ρ,σ,hE,Y,hp.bind λd E a0 v t _ e1 r1 q1 g=>?_⟩) λu s1 ⟨x,t,I1,rx,a,c,F,l,fn,ex,ea,p,B,q⟩=>?_) ht
 ·unfold Km at g;cases O:Rl E d with
  |none=>rw[O]at g;exact g.elim
  |some z=>
   obtain⟨c,gs⟩:=z;rw[O]at g;dsimp only at g;cases p:Xw L c with
   |none=>rw[p]at g;exact g.elim
   |some fn=>
    cases B:gs.lookup m with
    |some y=>rw[p,B]at g;exact g.elim
    |none=>
     rw[p,B]at g;dsimp only at g;obtain⟨a,F,l,rfl,h1,h2⟩:=QB r1 q1 O;refine⟨a,c,F,l,fn,rfl,h1,p,(UC h2).2 B,a0,ρ,E,R.mono e1,r1,g.bind λds a2 a1 us N _ e2 r2 q2 C=>?_⟩;unfold Ik at C;by_cases U:ds.length+1=G.length
     ·rw[ja U]at C;exact⟨a1,a2,d::ds,Jb.cons (Qa.mono e2 _ _ q1) (by rw[Uh];exact q2),by rw[bc];exact U,r2,C⟩
     ·rw[ka U]at C;exact C.elim
 ·subst ex;obtain rfl:u=Nb a:=rx;obtain⟨hC,f',S,fd,hb,hF⟩:=h _ (AJ p);rw[hK]at hC S hF;refine ZT I1 ea hC S B ?_;refine W.callWith_K I.ok.mod.My S.kp (Je (ha b j s1 J t _ I1 q) λus s2 ⟨l,N,I2,r,q2⟩=>⟨I2.Dk,?_⟩) Z V;exact YL (vs:=.ref a::l) hF hr (.all hb) .nil I2 (.cons rfl r) q2
theorem İ(hK:T.K=X.K)(he:FE T X o f)(h:∀ q∈F,sL T X.prog X.w X.mg X.base k m q.1 B q.2)(hr:Yd k X.A)
  (ht:vc (.Call (.Attribute o m e) [] [] g) X.env=(do
   let U <-vc o X.env
   Fk e.atName
   let (f,first) <-Lg [U] (Bm U m pl)
   Wx g f first (Wc g (ua [] X.env)) (Xj g (oh [] X.env))):=by rfl) :
  FE T X (.Call (.Attribute o m e) [] [] g) (xg F B.length m f Ha):=by
 intro t s P H Q I hq;obtain⟨μ,ρ,σ,hE,O,hp⟩:=hq;refine W.methodCall_KW (Je (he t s P H (λx n=>∃ a c E l fn,x=.ref a/\n a=some (.Ld (T.ca c) E l)/\Xw F c=some fn/\l.lookup m=none/\uq T B.length fn (x::([]++[])) n Q (XE X P)) I ⟨μ,ρ,σ,hE,O,hp.bind λd i C v n _ e1 Y V b=>?_⟩) λu s1 ⟨x,n,G,rx,a,c,E,l,fn,ex,Z,j,p,q⟩=>?_) ht
 ·unfold Km at b;cases J:Rl i d with
  |none=>rw[J]at b;exact b.elim
  |some z=>
   obtain⟨c,gs⟩:=z;rw[J]at b;dsimp only at b;cases j:Xw F c with
   |none=>rw[j]at b;exact b.elim
   |some fn=>
    cases p:gs.lookup m with
    |some y=>rw[j,p]at b;exact b.elim
    |none=>
     rw[j,p]at b;dsimp only at b;obtain⟨a,E,l,rfl,h1,h2⟩:=QB Y V J;have r:nc T (XE X P) (Qa T) C n (Ik B.length fn d [] i) Q:=b;unfold Ik at r;by_cases N:([]:List D).length+1=B.length
     ·rw[ja N]at r;exact⟨a,c,E,l,fn,rfl,h1,j,(UC h2).2 p,C,i,[d],Jb.cons V Jb.nil,N,Y,r⟩
     ·rw[ka N]at r;exact r.elim
 ·subst ex;obtain rfl:u=Nb a:=rx;obtain⟨R,f',L,fd,hb,S⟩:=h _ (AJ j);rw[hK]at R L S;refine ZT G Z R L p ?_;exact W.callWith_K0 G.Dk L.kp (YL (vs:=[.ref a]) S hr (.all hb) .nil G (.cons rfl .nil) q)
structure OkU(T:Tb)(P:Ca)(w:Ya)(mg:Str->Option Value)(base:Heap)(k:Nat)(x m:Str)(c:Nat)(ps:List Str)(fn:List D->M D):Prop where
 gl:mg x=some (.ref (T.ca c))
 sp:W.specialIn T.K (.ref (T.ca c)) (Cn "__getattribute__")=some (some (.builtin "type.__getattribute__"))
 ex:∃ f mc,W.readsIn T.K (T.ca c) mc=true/\W.findCls T.K (.ref (T.ca c)) mc m=some (.val (.ref f))/\W.keepIn T.K (.ref f)=true/\yi T P w mg base k f ps fn
end
structure Hg(K:W.Frag)(C:Addr)(x qual:Str)(st:Stmt)(ps:List Str)(f:Addr):Prop where
 ex:∃ fd,Xx K x qual st f fd/\∀ us:List Value,us.length=ps.length->bindArgs fd ⟨us,[]⟩=pure (ps.zip us)
section
variable{P:Ca}{w:Ya}{K:W.Frag}{mg:Str->Option Value}{base:Heap}{ca:Nat->Addr}{tx:Tx}
theorem DV(h:Hg K C x a d j f)(S:wa N j (Pc d))
  (m:∀ (b:Value) (A:Ta) (c:List nh) (s:aa) (H:Hp) (E:XK),Yd k (A.deeper (Ag a (Pc d) s.heap.objs.size f b))->ym ⟨K,ca,tx⟩ (Vp (Il P w) P w K mg base N a (Pc d) f b A c s H E) (Kj d) g) :
  yi ⟨K,ca,tx⟩ P w mg base (k+1) f j (Md N.length g):=by
 obtain⟨p,F,e⟩:=h.ex;obtain⟨q,r,kV,l,t,o,b,ct,n,rfl,lk,i⟩:=F.ex;exact⟨_,e,NA lk i S (m b)⟩
theorem yi.jc{T:Tb}{k:Nat}{f:Addr}{b:List Str}{a:List D->M D}(h:yi T P w mg base k f b a):yi T P w mg base k f b (λc=>L4.jc (a c)):=by
 obtain⟨d,e,g⟩:=h;exact⟨d,e,HF g⟩
theorem yi.Cb(h:yi T P w mg base k f b a):yi T P w mg base k f b (L4.Cb a):=by rw[ms];exact h
end
noncomputable def lh(s:Stmt)(j:Nat):Stmt:=match s with
 | .ClassDef _ _ _ b _ _ _ _ _ _ _=>b.getD j (.Pass ⟨0,0,0,0⟩)
 |s=>s
theorem T4{K:W.Frag}{kV d h b ct:Value}
  (n:∀ (kV d h:Value) (g:Option Addr) (b ct:Value) (m:List Value),m.length=j.length->bindArgs (W.fnOf x a (qp e) (Kj e) (Pc e) .none kV d h g b ct) ⟨m,[]⟩=pure (j.zip m))
  (l:K.lookup f=some ⟨o,p,.func (W.fnOf x a (qp e) (Kj e) (Pc e) .none kV d h g b ct),i⟩)
  (c:W.codeIn K b a=true) (k:W.keepIn K (.ref f)=true):Hg K C x a e j f:=⟨⟨_,HS l c k,n kV d h g b ct⟩⟩
section
variable{T:Tb}{P:Ca}{w:Ya}{mg:Str->Option Value}{base:Heap}
def Bk(T:Tb)(P:Ca)(w:Ya)(mg:Str->Option Value)(base:Heap)(k:Nat)(m:Str)(a:List Str)(b:Mt):Prop:=∀ q∈b,sL T P w mg base k m q.1 a q.2
theorem Jn:Bk T P w mg base k m a []:=λq h=>nomatch h
theorem sZ(n:Ap T.K (T.ca c))(o:ng T.K (T.ca c) m f)(p:yi T P w mg base j f e g)(r:j<=k)(h:Bk T P w mg base k m e i):Bk T P w mg base k m e ((c,g)::i):=λq d=>by
 rcases Na.mp d with rfl|d
 ·obtain⟨l,a,b⟩:=p;exact⟨n,f,o,l,a,b.mono r⟩
 ·exact h q d
end
section
variable{T:Tb}{X:Cx}
end
end L4
namespace L4
open PySem L2
theorem nr{a b:c}(h:a=b):a=b:=h
section
variable{α β:Type}{ρ:Ev}{σ:nb}
@[simp] theorem lg(a:α)(σ:nb)(k:α->M β):(Jk.ok a σ).bind k=k a σ:=rfl
@[simp] theorem ynb(a:α)(σ:nb):ret a σ=.ok a σ:=nr rfl
@[simp] theorem Jr(m:M α)(k:α->M β)(σ:nb):Pd m k σ=(m σ).bind k:=nr rfl
@[simp] theorem S3(d:D):eC d ρ σ=.ok d σ:=rfl
@[simp] theorem mE(d:D)(r:Ev):ba 0 (some d::r) σ=.ok d σ:=rfl
@[simp] theorem VO(i:Nat)(o:Option D)(r:Ev):ba (i+1) (o::r) σ=ba i r σ:=rfl
@[simp] theorem zyn(o:D->D->M D)(a b:Ev->M D):ya o a b ρ σ=(a ρ σ).bind (EJ o (b ρ)):=rfl
@[simp] theorem zx2(o:D->D->M D)(m:M D)(x:D):EJ o m x σ=(m σ).bind (o x):=rfl
@[simp] theorem yh4(o:D->M D)(a:Ev->M D):Cd o a ρ σ=(a ρ σ).bind o:=nr rfl
@[simp] theorem yoa(b:Bool):mB (.bl b) σ=.ok b σ:=nr rfl
@[simp] theorem yrh(p q:M α):Rk p q true σ=p σ:=nr rfl
@[simp] theorem yrg(p q:M α):Rk p q false σ=q σ:=nr rfl
@[simp] theorem ycb(c:Bool):xK c σ=.ok (!c) σ:=nr rfl
@[simp] theorem zwy(k:Bool->M α)(b:Bool):jy k (.bl b) σ=k b σ:=nr rfl
@[simp] theorem ztz(c:Bool):nM c σ=.ok (.bl (!c)) σ:=nr rfl
@[simp] theorem yqk(f:Ev->M D):eT f ρ σ=(f ρ σ).bind mB:=nr rfl
@[simp] theorem zxz(a b:Ev->M Bool):cu a b ρ σ=(a ρ σ).bind (Rk (b ρ) (ret false)):=nr rfl
@[simp] theorem ygy(a b:Ev->M Bool):Vl a b ρ σ=(a ρ σ).bind (Rk (ret true) (b ρ)):=nr rfl
@[simp] theorem zx0(a:Ev->M Bool):Mn a ρ σ=(a ρ σ).bind xK:=nr rfl
@[simp] theorem zym(a b:Ev->M D):Li a b ρ σ=(a ρ σ).bind (jy (Rk (b ρ) (ret (.bl false)))):=nr rfl
@[simp] theorem yh2(a b:Ev->M D):gK a b ρ σ=(a ρ σ).bind (jy (Rk (ret (.bl true)) (b ρ))):=nr rfl
@[simp] theorem zyr(a:Ev->M D):VL a ρ σ=(a ρ σ).bind (jy nM):=nr rfl
@[simp] theorem yhy(t:Ev->M Bool)(a b:Ev->M D):dy t a b ρ σ=(t ρ σ).bind (Rk (a ρ) (b ρ)):=nr rfl
@[simp] theorem BN:Ha ρ σ=.ok [] σ:=nr rfl
@[simp] theorem hJ(e:Ev->M D)(r:Ev->M (List D)):ia e r ρ σ=(e ρ σ).bind (oJ (r ρ)):=rfl
@[simp] theorem qM(m:M (List D))(x:D):oJ m x σ=(m σ).bind (WM x):=rfl
@[simp] theorem HN(x:D)(xs:List D):WM x xs σ=.ok (x::xs) σ:=rfl
@[simp] theorem J9(a:Ev->M (List D)):ee a ρ σ=(a ρ σ).bind iu:=nr rfl
@[simp] theorem yoc:iu [] σ=.ok (.Ga []) σ:=nr rfl
@[simp] theorem yod(a:D):iu [a] σ=.ok (.Ga [a]) σ:=nr rfl
@[simp] theorem m8(a b:D):iu [a,b] σ=.ok (.Ga [a,b]) σ:=nr rfl
@[simp] theorem yof(a b c:D):iu [a,b,c] σ=.ok (.Ga [a,b,c]) σ:=nr rfl
@[simp] theorem yog(a b c d:D):iu [a,b,c,d] σ=.ok (.Ga [a,b,c,d]) σ:=nr rfl
@[simp] theorem yoh(a b c d e:D):iu [a,b,c,d,e] σ=.ok (.Ga [a,b,c,d,e]) σ:=nr rfl
@[simp] theorem yhz(a:Ev->M (List D)):Nh a ρ σ=(a ρ σ).bind vy:=nr rfl
@[simp] theorem zyp(a:Ev->M (List D)):zz a ρ σ=(a ρ σ).bind iF:=nr rfl
@[simp] theorem ykx:iF [] σ=.ok (.ref σ.length) (σ++[.va []]):=nr rfl
@[simp] theorem ysv(g:Int->Int->Int)(i j:Int):oI g (.int i) (.int j) σ=.ok (.int (g i j)) σ:=nr rfl
@[simp] theorem ysr(g:Int->Int->Bool)(i j:Int):oB g (.int i) (.int j) σ=.ok (.bl (g i j)) σ:=nr rfl
theorem GE(h:C i j=true):Mx C g (.int i) (.int j) σ=.ok (.int (g i j)) σ:=by
 show (if C i j=true then ret _ else Xb) σ=_;rw[ja h];rfl
@[simp] theorem ycg(i j:Int)(h:0<j)(a:j<1073741824):du (.int i) (.int j) σ=.ok (.int (i / j)) σ:=GE (by simp[MK,h,a])
@[simp] theorem KO(i j:Int)(h:0<j):zo (.int i) (.int j) σ=.ok (.int (i % j)) σ:=GE (by simp[MM,h])
theorem nC(h:-(2 ^ 64)<i)(a:i<2 ^ 64):Dt (.int i) (.int j) σ=.ok (.int (i * j)) σ:=GE (by simp only[VM,ms,Kg,La,jd];exact .inl ⟨h,a⟩)
@[simp] theorem ň(i j:Int)(h:0<=j):dF (.int i) (.int j) σ=.ok (.int (i / 2 ^ j.toNat)) σ:=GE (by simp[BM,h])
theorem GA(h:vx i j=true):Vm (.int i) (.int j) σ=.ok (.int (i ^ j.toNat)) σ:=GE h
@[simp] theorem p12:Vm (.int 10) (.int 12) σ=.ok (.int 1000000000000) σ:=GA (by simp[vx])
@[simp] theorem p6:Vm (.int 10) (.int 6) σ=.ok (.int 1000000) σ:=GA (by simp[vx])
@[simp] theorem p4:Vm (.int 10) (.int 4) σ=.ok (.int 10000) σ:=GA (by simp[vx])
@[simp] theorem yct(i:Int):Ny (.int i) σ=.ok (.int (-i)) σ:=nr rfl
@[simp] theorem zt5(i j:Int):kh (.int i) (.int j) σ=.ok (.int (i+j)) σ:=nr rfl
theorem HE{xs a:List D}(h:xs.length+a.length<=oi):kh (.Ga xs) (.Ga a) σ=.ok (.Ga (xs++a)) σ:=by show (if _ then _ else _:M D) σ=_;rw[ja h];rfl
theorem IC{xs a:List D}(h:xs.length+a.length<=oi):kh (.va xs) (.va a) σ=.ok (.va (xs++a)) σ:=by
 show iC (.va xs) (.va a) σ=_;unfold iC;simp only[pi];rw[ja h]
@[simp] theorem zuh(σ:nb):Wp .Rb .Rb σ=.ok (.bl true) σ:=nr rfl
@[simp] theorem zuf(b:Int):Wp (.int b) .Rb σ=.ok (.bl false) σ:=nr rfl
@[simp] theorem zui(b:List D):Wp (.Ga b) .Rb σ=.ok (.bl false) σ:=nr rfl
@[simp] theorem zug(b:List D):Wp (.va b) .Rb σ=.ok (.bl false) σ:=nr rfl
@[simp] theorem zn9(σ:nb):xy .Rb .Rb σ=.ok (.bl false) σ:=nr rfl
@[simp] theorem zn8(b:Int):xy (.int b) .Rb σ=.ok (.bl true) σ:=nr rfl
theorem mG(h:yj σ 8 x y=some b):se x y σ=.ok (.bl b) σ:=by unfold se;rw[h]
theorem Jy(h:yj σ 8 x y=some b):uh x y σ=.ok (.bl (!b)) σ:=by unfold uh;rw[h]
@[simp] theorem ych(i j:Int):se (.int i) (.int j) σ=.ok (.bl (i == j)) σ:=mG (by simp[yj,kd,To,Zj])
@[simp] theorem ycs(i j:Int):uh (.int i) (.int j) σ=.ok (.bl (!(i == j))) σ:=Jy (by simp[yj,kd,To,Zj])
@[simp] theorem yci(i j:Str):se (.str i) (.str j) σ=.ok (.bl (i == j)) σ:=mG (by simp[yj,kd,To,Zj])
theorem gB{xs:List D}(h:Ds xs k=some d):Ma (.Ga xs) (.int k) σ=.ok d σ:=by simp[Ma,zk,h]
theorem jx{xs:List D}(h:Ds xs k=some d):Ma (.va xs) (.int k) σ=.ok d σ:=by simp[Ma,zk,h]
@[simp] theorem yru(a:D)(r:List D):Ma (.Ga (a::r)) (.int 0) σ=.ok a σ:=gB (Tr rfl)
@[simp] theorem yrv(a b:D)(r:List D):Ma (.Ga (a::b::r)) (.int 1) σ=.ok b σ:=gB (Tr rfl)
@[simp] theorem yrw(a b c:D)(r:List D):Ma (.Ga (a::b::c::r)) (.int 2) σ=.ok c σ:=gB (Tr rfl)
@[simp] theorem yrx(a b c d:D)(r:List D):Ma (.Ga (a::b::c::d::r)) (.int 3) σ=.ok d σ:=gB (Tr rfl)
@[simp] theorem IF(xs:List D):Hl [.Ga xs] σ=.ok (.int xs.length) σ:=nr rfl
@[simp] theorem zuj(xs:List D):Hl [.va xs] σ=.ok (.int xs.length) σ:=nr rfl
@[simp] theorem zuk(xs:List Int):Hl [.Uf xs] σ=.ok (.int xs.length) σ:=by simp[Hl,zk]
@[simp] theorem zkm(xs:List D):Cw [.va xs] σ=.ok (.Ga xs) σ:=nr rfl
@[simp] theorem zqv(o:List D->M D)(a:Ev->M (List D)):Xh o a ρ σ=(a ρ σ).bind o:=nr rfl
@[simp] theorem ž(n:Nat)(f:List D->M D)(a:List D)(b:Ev->M (List D)):Xc n f a b ρ σ=(b ρ σ).bind (Ls n f a):=nr rfl
@[simp] theorem yqu(f:List D->M D)(a:D):Ls 1 f [] [a] σ=f [a] σ:=by unfold Ls;rw[ja (by simp)];simp
@[simp] theorem yqv(f:List D->M D)(a b:D):Ls 2 f [] [a,b] σ=f [a,b] σ:=by unfold Ls;rw[ja (by simp)];simp
@[simp] theorem ź(f:List D->M D)(a b c:D):Ls 3 f [] [a,b,c] σ=f [a,b,c] σ:=by unfold Ls;rw[ja (by simp)];simp
@[simp] theorem yi0(f:List D->M D)(a b c:D):Ls 3 f [c] [a,b] σ=f [a,b,c] σ:=by unfold Ls;rw[ja (by simp)];simp
@[simp] theorem yqx(f:List D->M D)(a b c d:D):Ls 4 f [] [a,b,c,d] σ=f [a,b,c,d] σ:=by unfold Ls;rw[ja (by simp)];simp
@[simp] theorem yqy(f:List D->M D)(a b c d e:D):Ls 5 f [] [a,b,c,d,e] σ=f [a,b,c,d,e] σ:=by unfold Ls;rw[ja (by simp)];simp
@[simp] theorem yd9:vf ρ σ=.ok (.nx ρ) σ:=nr rfl
@[simp] theorem ck(g h:Ev->M Fl):ub g h ρ σ=(g ρ σ).bind (HC h):=rfl
@[simp] theorem Hk(h:Ev->M Fl)(ρ:Ev):HC h (.nx ρ) σ=h ρ σ:=rfl
@[simp] theorem yep(h:Ev->M Fl)(d:D):HC h (.rt d) σ=.ok (.rt d) σ:=rfl
@[simp] theorem yeq(h:Ev->M Fl)(ρ:Ev)(x:Xn):HC h (.xc ρ x) σ=.ok (.xc ρ x) σ:=nr rfl
noncomputable def Pn(ρ:Ev)(k:α->M Fl):Jk α->Jk Fl
 | .ok a b=>k a b
 | .ex x b=>.ok (.xc ρ x) b
 | .Xb=>.Xb
@[simp] theorem oo(ρ:Ev)(m:M α)(k:α->M Fl):xs ρ m k σ=Pn ρ k (m σ):=by unfold xs Pn;cases m σ<;>rfl
@[simp] theorem Bs(ρ:Ev)(k:α->M Fl)(a:α):Pn ρ k (.ok a σ)=k a σ:=rfl
@[simp] theorem yon(ρ:Ev)(k:α->M Fl)(x:Xn):Pn ρ k (.ex x σ)=.ok (.xc ρ x) σ:=nr rfl
@[simp] theorem yeb(f:Ev->M D):Tc f ρ σ=Pn ρ MJ (f ρ σ):=oo ..
@[simp] theorem ydv(d:D):MJ d σ=.ok (.rt d) σ:=nr rfl
@[simp] theorem zO(f:Ev->M D):Jp f ρ σ=Pn ρ (vN ρ) (f ρ σ):=oo ..
@[simp] theorem AO(d:D):vN ρ d σ=.ok (.nx ρ) σ:=nr rfl
@[simp] theorem P1(i:Nat)(f:Ev->M D):lf i f ρ σ=Pn ρ (dE i ρ) (f ρ σ):=oo ..
@[simp] theorem yeu(i:Nat)(d:D):dE i ρ d σ=.ok (.nx (ρ.set i (some d))) σ:=rfl
@[simp] theorem ynd(t:Ev->M Bool)(a b:Ev->M Fl):Ue t a b ρ σ=Pn ρ (Rk (a ρ) (b ρ)) (t ρ σ):=oo ..
@[simp] theorem yd4(f:Ev->M D)(a:D->Ev->Option Ev):yG f a ρ σ=Pn ρ (JF a ρ) (f ρ σ):=oo ..
@[simp] theorem ygw(i j:Nat)(a b:D):JF (gr 2 (Ck (Lf i) (Ck (Lf j) Mr))) ρ (.Ga [a,b]) σ=.ok (.nx ((ρ.set i (some a)).set j (some b))) σ:=nr rfl
@[simp] theorem zoy(c:Nat)(a:Ev->M (List D)):Iz c a ρ σ=Pn ρ (vH c ρ) (a ρ σ):=oo ..
@[simp] theorem zvb(c:Nat)(d:D):vH c ρ [d] σ=.ok (.xc ρ ⟨c⟩) σ:=nr rfl
@[simp] theorem yee(g:Ev->M Fl)(a:List Hd):GI g a ρ σ=(g ρ σ).bind (RD a):=nr rfl
@[simp] theorem yf3(a:List Hd):RD a (.nx ρ) σ=.ok (.nx ρ) σ:=nr rfl
@[simp] theorem yf4(a:List Hd)(x:Xn):RD a (.xc ρ x) σ=bx ρ x a σ:=nr rfl
theorem zsr(e:h.t x.cls=some true):bx ρ x (h::r) σ=hit h ρ x σ:=by unfold bx;rw[e]
@[simp] theorem yj0(t:Nat->Option Bool)(g:Ev->M Fl)(x:Xn):hit ⟨t,none,g⟩ ρ x σ=(g ρ σ).bind bG:=nr rfl
@[simp] theorem yk5(d:D):bG (.rt d) σ=.ok (.rt d) σ:=nr rfl
@[simp] theorem lW(n:Nat)(g:Ev->M Fl)(a:List D):Md n g a σ=kx (g (a.map some++List.replicate (n - a.length) none) σ):=nr rfl
@[simp] theorem SO(d:D):kx (.ok (.rt d) σ)=.ok d σ:=nr rfl
@[simp] theorem ο:kx (.ok (.nx ρ) σ)=.ok .Rb σ:=nr rfl
@[simp] theorem yd0(x:Xn):kx (.ok (.xc ρ x) σ)=.ex x σ:=nr rfl
@[simp] theorem yi5(f:M D):jc f σ=gi σ (f σ):=nr rfl
@[simp] theorem Ss(f:Ev->M D):ki f ρ σ=gi σ (f ρ σ):=nr rfl
theorem QC(h:cl d=true):fz k σ m d=some d:=by cases m<;>(unfold fz;rw[ja h])
theorem yT(h:cl d=true)(b:a.take σ.length=σ):gi σ (.ok d a)=.ok d σ:=by
 unfold gi;dsimp only;rw[ja b,QC h]
@[simp] theorem zz1:gi σ (.ex x σ)=.ex x σ:=by unfold gi;dsimp only;rw[ja nj]
@[simp] theorem zmx(h:cl d=true):gi σ (.ok d σ)=.ok d σ:=yT h nj
theorem AR{j j':nb}{xs:List D}(h:wg xs=true):gi σ (.ok (.ref σ.length) (σ++[.va xs]++j))=.ok (.va xs) σ:=by
 unfold gi;dsimp only;rw[ja (by simp)];have e:fz σ.length (σ++[.va xs]++j) 6 (.ref σ.length)=some (.va xs):=by
  unfold fz;dsimp only;rw[ka (ge _)];have:(σ++[Ob.va xs]++j)[σ.length]?=some (.va xs):=by simp
  rw[this];dsimp only;have d:∀ a m,wg a=true->En (fz σ.length (σ++[.va xs]++j) m) a=some a:=by
   intro a m;induction a with
   |nil=>intro _;rfl
   |cons y a f=>
    intro c;have b:cl y=true/\wg a=true:=by simpa [wg]using c
    unfold En;rw[QC b.1,f b.2]
  rw[d xs 5 h];rfl
 rw[e]
@[simp] theorem Ö(i:Int):cl (.int i)=true:=by simp[cl]
@[simp] theorem ypr(i:Bool):cl (.bl i)=true:=by simp[cl]
@[simp] theorem yhn(i:Str):cl (.str i)=true:=by simp[cl]
@[simp] theorem yhi:cl .Rb=true:=by simp[cl]
@[simp] theorem yhp(xs:List D):cl (.Ga xs)=wg xs:=by simp[cl]
@[simp] theorem yhh(xs:List D):cl (.va xs)=wg xs:=by simp[cl]
@[simp] theorem yhl(n:Nat):cl (.ref n)=false:=by simp[cl]
@[simp] theorem zyb:wg []=true:=by simp[wg]
@[simp] theorem Α(d:D)(a:List D):wg (d::a)=(cl d && wg a):=by simp[wg]
theorem vu:∀ {a:List D},(∀ d∈a,cl d=true)->wg a=true
 |[],_=>by simp
 |d::a,h=>by rw[Α,h d Wa,vu λx b=>h x (Za _ b)];rfl
theorem i9{f:a->D}{l:List a}(h:∀ x,cl (f x)=true):wg (l.map f)=true:=vu λd b=>by obtain⟨x,_,rfl⟩:=Gb.mp b;exact h x
@[simp] theorem zqk(l:List Int):wg (l.map D.int)=true:=i9 Ö
@[simp] theorem eD(xs a:List D):wg (xs++a)=(wg xs && wg a):=by
 induction xs with
 |nil=>simp
 |cons x xs b=>simp[b,Zy]
theorem f6{xs:List D}{k:Int}(a:0<=k)(h:k<xs.length):Ds xs k=some (xs.getD k.toNat .Rb):=by
 obtain⟨n,rfl⟩:=Int.eq_ofNat_of_zero_le a;have b:n<xs.length:=by omega
 refine Tr ?_;show xs[n]?=some (xs.getD n .Rb);rw[si,Qc b];rfl
theorem ā{a:List Int}{k:Int}(b:0<=k)(h:k<a.length):Ds (a.map D.int) k=some (.int (a.getD k.toNat 0)):=by
 rw[f6 b (by simpa using h)];have c:k.toNat<a.length:=by omega
 simp[c]
@[simp] theorem ysb(a:D):vy [a] σ=.ok (.va [a]) σ:=nr rfl
@[simp] theorem ysa:vy [] σ=.ok (.va []) σ:=nr rfl
@[simp] theorem ysc(a b:D):vy [a,b] σ=.ok (.va [a,b]) σ:=nr rfl
@[simp] theorem ysd(a b c d e f:D):vy [a,b,c,d,e,f] σ=.ok (.va [a,b,c,d,e,f]) σ:=nr rfl
@[simp] theorem yse(a b c d e f g h:D):vy [a,b,c,d,e,f,g,h] σ=.ok (.va [a,b,c,d,e,f,g,h]) σ:=nr rfl
@[simp] theorem yky(a b:D):iF [a,b] σ=.ok (.ref σ.length) (σ++[.va [a,b]]):=nr rfl
@[simp] theorem oF(xs:List D):rj (σ++[.va xs]) σ.length=some xs:=by simp[rj]
@[simp] theorem BC(a b:Ob):(σ++[a]).set σ.length b=σ++[b]:=by
 rw[ot _ _ (Ea _)];simp
@[simp] theorem zqy(o:D->List D->M D)(f:Ev->M D)(a:Ev->M (List D)):LA o f a ρ σ=(f ρ σ).bind (ax o (a ρ)):=nr rfl
theorem qG{xs:List D}(h:pi σ x=some xs):ax o m x σ=(m σ).bind (o x):=by unfold ax;rw[h];rfl
theorem II{xs:List D}(h:xs.length<1000):yq (.ref σ.length) [d] (σ++[.va xs])=.ok .Rb (σ++[.va (xs++[d])]):=by
 unfold yq;simp only[oF];rw[ja (show xs.length<oi from h),BC]
theorem ś{ws:List Int}(h:zk σ x=some (ws.map D.int)):ju a (.int w) x σ=.ok (.bl (if a then !(ws.any (·== w))else ws.any (·== w))) σ:=by
 have b:∀ l:List Int,(l.map D.int).all Tv=true:=λl=>by simp[Tv,sc]
 have c:∀ l:List Int,((l.map D.int).any λz=>zx z (.int w))=l.any (·== w):=λl=>by simp[zx,sc,Zj,Function.comp_def]
 unfold ju;rw[h];simp only[b,c,show Tv (.int w)=true from rfl,Bool.and_self,zg]
@[simp] theorem zpe(xs:List D):zk (σ++[.va xs]) (.ref σ.length)=some xs:=oF xs
@[simp] theorem k9(xs:List D):zk σ (.va xs)=some xs:=nr rfl
@[simp] theorem zph(xs:List D):zk σ (.Ga xs)=some xs:=nr rfl
@[simp] theorem B0(f:Ev->M D):vj f ρ σ=(f ρ σ).bind JB:=nr rfl
@[simp] theorem Ŵ(a:List D):JB (.Ga a) σ=.ok (.seq a) σ:=nr rfl
@[simp] theorem zpc(a:List D):JB (.va a) σ=.ok (.seq a) σ:=nr rfl
@[simp] theorem yfn(f:Ev->M D):Fy f ρ σ=(f ρ σ).bind uy:=nr rfl
theorem iK(h:-(2 ^ 62)<=j)(a:j<2 ^ 62):uy (.int j) σ=.ok (.seq (qA j.toNat)) σ:=by
 unfold uy;dsimp only;rw[ja (by simp only[SG,ms,La,jd];exact⟨h,a⟩)]
@[simp] theorem x5(b:Ev->M ip)(c:D->Ev->Option Ev)(a:Ev->M Fl):nu b c a ρ σ=Pn ρ (IJ c a ρ) (b ρ σ):=oo ..
@[simp] theorem Ô(c:D->Ev->Option Ev)(a:Ev->M Fl)(b:List D):IJ c a ρ (.seq b) σ=El c a b ρ σ:=nr rfl
@[simp] theorem cF(b:D->Ev->Option Ev)(a:Ev->M Fl):El b a [] ρ σ=.ok (.nx ρ) σ:=nr rfl
theorem G6(h:c d ρ=some b):El c a (d::e) ρ σ=(a b σ).bind (Nw (El c a e)):=by
 show (match c d ρ with|none=>Xb|some b=>Pd (a b) (Nw (El c a e))) σ=_;rw[h];rfl
@[simp] theorem Av(i:Nat)(a:Ev->M Fl)(d:D)(b:List D):El (Lf i) a (d::b) ρ σ=(a (ρ.set i (some d)) σ).bind (Nw (El (Lf i) a b)):=G6 rfl
@[simp] theorem Ps(k:Ev->M Fl):Nw k (.nx ρ) σ=k ρ σ:=nr rfl
@[simp] theorem O0(k:Ev->M Fl)(d:D):Nw k (.rt d) σ=.ok (.rt d) σ:=nr rfl
theorem wI(h:m σ=.ok a b):Mp m σ=.ok a b:=by unfold Mp;rw[h]
end
section
variable{α β:Type}{ρ:Ev}{σ:nb}
@[simp] theorem ν(a:List Int):zk σ (.Uf a)=some (a.map D.int):=nr rfl
theorem Υ(b:0<=k)(h:k<a.length):Ma (.Uf a) (.int k) σ=.ok (.int (a.getD k.toNat 0)) σ:=by
 simp only[Ma,ν,ā b h]
@[simp] theorem zub(c:BT)(i:Int):dq c (.int i) σ=.ok (.bl (match c with | .int=>true|_=>false)) σ:=nr rfl
@[simp] theorem ycl(c:BT)(i:Bool):dq c (.bl i) σ=.ok (.bl (match c with | .int=>true | .bool=>true|_=>false)) σ:=nr rfl
@[simp] theorem zue(xs:List D):dq .tuple (.Ga xs) σ=.ok (.bl true) σ:=nr rfl
@[simp] theorem zmm(o d:D->D->M D)(a b c:Ev->M D):vM o d a b c ρ σ=(a ρ σ).bind (kK o d (b ρ) (c ρ)):=nr rfl
noncomputable def pl:Nat->D->Bool
 |_,.Rb=>true
 |_,.bl _=>true
 |_,.int _=>true
 |_,.str _=>true
 |n+1,.Ga xs=>xs.all (pl n)
 |n+1,.va xs=>xs.all (pl n)
 |_,_=>false
theorem tJ{f:D->D->Option Bool}:∀ {xs:List D},(∀ x∈xs,f x x=some true)->Bp f xs xs=some true
 |[],_=>rfl
 |x::xs,h=>by unfold Bp;rw[h x Wa,tJ λy a=>h y (Za _ a)];rfl
theorem WG:∀ (n:Nat) (x:D),pl n x=true->yj σ n x x=some true
 |0,x,h=>by cases x<;>simp[pl]at h<;>simp[yj,kd,To,Zj]
 |n+1,x,h=>by
  cases x with
  |Rb=>simp[yj,kd,To,Zj]
  |bl b=>simp[yj,kd,To,Zj]
  |int b=>simp[yj,kd,To,Zj]
  |str b=>simp[yj,kd,To,Zj]
  |Ga xs=>
   simp only[pl,cc]at h;exact tJ λy a=>WG n y (h y a)
  |va xs=>
   simp only[pl,cc]at h;exact tJ λy a=>WG n y (h y a)
  |_=>simp[pl]at h
theorem Hz(h:pl 8 x=true):se x x σ=.ok (.bl true) σ:=mG (WG 8 x h)
theorem Ar(h:pl 8 x=true):uh x x σ=.ok (.bl false) σ:=Jy (WG 8 x h)
@[simp] theorem zvp(f a fi:Ev->M D):sM f a fi ρ σ=Pn ρ (FL ρ a fi) (f ρ σ):=oo ..
@[simp] theorem zme(o a:D->D->M D)(b c:M D)(x:D):kK o a b c x σ=(b σ).bind (HM o a c x):=nr rfl
@[simp] theorem zmg(o a:D->D->M D)(c:M D)(x y:D):HM o a c x y σ=(o x y σ).bind (jK a c y):=nr rfl
@[simp] theorem zmf(a:D->D->M D)(c:M D)(y:D)(b:Bool):jK a c y (.bl b) σ=Rk (Pd c (a y)) (ret (.bl false)) b σ:=nr rfl
@[simp] theorem zv6(a fi:Ev->M D)(d:D):FL ρ a fi d σ=Pn ρ (aN ρ fi d) (a ρ σ):=oo ..
@[simp] theorem zv7(fi:Ev->M D)(d x:D):aN ρ fi d x σ=Pn ρ (kz ρ d x) (fi ρ σ):=oo ..
@[simp] theorem yev(d a:D)(r:List D):kz ρ d (.ref σ.length) (.int 0) (σ++[.va (a::r)])=.ok (.nx ρ) (σ++[.va (d::r)]):=by
 have:EA (.ref σ.length) (.int 0) d (σ++[.va (a::r)])=.ok () (σ++[.va (d::r)]):=by
  simp only[EA,oF];rw[show Qt (a::r).length 0=some 0 by simp[Qt]];simp
 unfold kz;rw[this]
@[simp] theorem yew(d a b:D)(r:List D):kz ρ d (.ref σ.length) (.int 1) (σ++[.va (a::b::r)])=.ok (.nx ρ) (σ++[.va (a::d::r)]):=by
 have:EA (.ref σ.length) (.int 1) d (σ++[.va (a::b::r)])=.ok () (σ++[.va (a::d::r)]):=by
  simp only[EA,oF];rw[show Qt (a::b::r).length 1=some 1 by simp[Qt];omega];simp
 unfold kz;rw[this]
theorem mV(h:cl d=true):gi σ (.ok d (σ++[a]))=.ok d σ:=yT h (by simp)
@[simp] theorem zl5(f:a->Bool)(l:List a):xB (l.map λx=>D.bl (f x))=some (l.map f):=by
 induction l with
 |nil=>rfl
 |cons x l b=>simp[xB,b]
@[simp] theorem K9(l:List Int):Lu (l.map D.int)=some l:=by
 induction l with
 |nil=>rfl
 |cons x l a=>simp[Lu,a]
theorem S8{f:a->Bool}{l:List a}:NC [.va (l.map λx=>D.bl (f x))] σ=.ok (.bl (l.all f)) σ:=by
 simp only[NC];simp
theorem K6(h:l.length<=1000):RC (.va (l.map D.int)) σ=.ok (.int (Nu l).length) σ:=by
 simp only[RC,pi,Option.bind_some,K9];rw[ja (show l.length<=oi from h)]
theorem yK:∀ (l s:List Int),(l.foldl PyProof.Rows.step_dedup s).length<=s.length+l.length/\((l.foldl PyProof.Rows.step_dedup s).length=s.length+l.length ↔ (l.Nodup/\∀ x∈l,x ∉ s))
 |[],s=>by simp
 |x::l,s=>by
  rw[Wo];by_cases h:s.any (·== x)=true
  ·have i:x∈s:=by simpa using h
   rw[show PyProof.Rows.step_dedup s x=s by unfold PyProof.Rows.step_dedup;rw[ja h]];obtain⟨j,g⟩:=yK l s;refine⟨by simp only[bc];omega,λe=>?_,λe=>absurd i (e.2 x Wa)⟩;simp only[bc]at e;omega
  ·have i:x ∉ s:=by simpa using h
   rw[show PyProof.Rows.step_dedup s x=s++[x] by unfold PyProof.Rows.step_dedup;rw[ka h]];obtain⟨j,g⟩:=yK l (s++[x]);simp only[Dd,bc,Yo]at j g;refine⟨by simp only[bc];omega,?_⟩;rw[bc,show s.length+(l.length+1)=s.length+(0+1)+l.length by omega,g,qe];constructor
   ·rintro ⟨a,b⟩;refine⟨⟨λk=>(b x k) (by simp),a⟩,λy f=>?_⟩;rcases Na.mp f with rfl|f
    ·exact i
    ·exact λd=>b y f (by simp[d])
   ·rintro ⟨⟨a,b⟩,c⟩;refine⟨b,λy f d=>?_⟩;rcases bf.mp d with d|d
    ·exact c y (Za _ f) d
    ·rw[ti.mp d]at f;exact a f
theorem M1(l:List Int):((Nu l).length:Int)=(l.length:Int) ↔ l.Nodup:=by
 have:=(yK l []).2;simp only[Yo,He,not_false_eq_true,implies_true,and_true]at this;unfold Nu;rw[<-this];omega
end
section
variable{ρ:Ev}{σ:nb}
@[simp] theorem zqx(c n:Nat)(a:List D->M D)(b:Ev->M (List D)):Ut c n a b ρ σ=(b ρ σ).bind (Mq c n a):=nr rfl
theorem lU(h:a.length+1=n):Mq c n b a σ=mD σ.length (b (.ref σ.length::a) (σ++[.Ld c []])):=by unfold Mq;rw[ja h]
@[simp] theorem BL(n:Nat):mD n (.ok .Rb σ)=.ok (.ref n) σ:=nr rfl
@[simp] theorem rO(a:List Nat)(f:Str)(c b:Ev->M D):Rn a f c b ρ σ=Pn ρ (rN ρ a f b) (c ρ σ):=oo ..
@[simp] theorem aP(a:List Nat)(f:Str)(b:Ev->M D)(d:D):rN ρ a f b d σ=Pn ρ (Jz ρ a f d) (b ρ σ):=oo ..
theorem xO(h:cs.contains c=true)(a:fs.length<1000):Jz ρ cs f d (.ref σ.length) (σ++[.Ld c fs])=.ok (.nx ρ) (σ++[.Ld c (Bo f d fs)]):=by
 have e:uB cs f d (.ref σ.length) (σ++[.Ld c fs])=.ok () (σ++[.Ld c (Bo f d fs)]):=by
  have:(σ++[Ob.Ld c fs])[σ.length]?=some (.Ld c fs):=by simp
  unfold uB;simp only[this];rw[ja (by rw[h];simpa using a)];simp
 unfold Jz;rw[e]
theorem Qn(h:b.length=a.length):Rl σ (.obj c b a)=some (c,b.zip a):=by unfold Rl;dsimp only;rw[ja h]
theorem Nn(h:Rl σ x=some (c,b))(e:a.contains c=true)(g:b.lookup f=some d):Nc a f x σ=.ok d σ:=by
 unfold Nc;rw[h];dsimp only;rw[ja e,g]
@[simp] theorem Ŋ(b:Mt)(n:Nat)(m:Str)(f:Ev->M D)(a:Ev->M (List D)):xg b n m f a ρ σ=(f ρ σ).bind (Km b n m (a ρ)):=nr rfl
theorem lp(h:Rl σ x=some (c,d))(g:Xw e c=some a)(f:d.lookup m=none):Km e n m b x σ=(b σ).bind (Ik n a x):=by
 unfold Km;rw[h];dsimp only;rw[g,f];rfl
theorem xG(h:a.length+1=n):Ik n b x a σ=b (x::a) σ:=by unfold Ik;rw[ja h]
@[simp] theorem yb2(a:List D->M D)(x:D):Ik 1 a x [] σ=a [x] σ:=xG rfl
@[simp] theorem oX(b:List D->M D)(x a:D):Ik 2 b x [a] σ=b [x,a] σ:=xG rfl
@[simp] theorem yb4(c:List D->M D)(x a b:D):Ik 3 c x [a,b] σ=c [x,a,b] σ:=xG rfl
theorem RP(h:wg (a.map (·.2))=true):gi σ (.ok (.ref σ.length) (σ++[.Ld c a]))=.ok (.obj c (a.map (·.1)) (a.map (·.2))) σ:=by
 unfold gi;dsimp only;rw[ja (by simp)];have e:fz σ.length (σ++[.Ld c a]) 6 (.ref σ.length)=some (.obj c (a.map (·.1)) (a.map (·.2))):=by
  unfold fz;dsimp only;rw[ka (ge _)];have:(σ++[Ob.Ld c a])[σ.length]?=some (.Ld c a):=by simp
  rw[this];dsimp only;have g:∀ b (m:Nat),wg b=true->En (fz σ.length (σ++[.Ld c a]) m) b=some b:=by
   intro b m;induction b with
   |nil=>intro _;rfl
   |cons y b i=>
    intro f;have d:cl y=true/\wg b=true:=by simpa using f
    unfold En;rw[QC d.1,i d.2]
  rw[g _ 5 h];rfl
 rw[e]
@[simp] theorem yhj(c:Nat)(b:List Str)(a:List D):cl (.obj c b a)=wg a:=by simp[cl]
@[simp] theorem zum(i j:Int):Oy [.int i,.int j] σ=.ok (.int (min i j)) σ:=nr rfl
@[simp] theorem ycm(n b k:Bool):WC n (.bl b) (.bl k) σ=.ok (.bl (if n then !(b == k)else b == k)) σ:=nr rfl
@[simp] theorem zud(i:Str):dq .str (.str i) σ=.ok (.bl true) σ:=nr rfl
@[simp] theorem zuc(c:BT):dq c .Rb σ=.ok (.bl false) σ:=by cases c<;>rfl
end
end L4
namespace L4
open PySem PySem.Spec PySem.Calls PyProof.Rows PySem.Builtin PySem.Builtin.ObjectAttr PySem.Builtin.Getset_descriptor L2
structure ExK(K:W.Frag)(C:Addr):Prop where
 g:W.findIn K (.ref C) "__getattribute__" = some (some (.builtin "BaseException.__getattribute__"))
 g2:W.findIn K (.ref C) "__getattr__" = some none
 mb:W.mroIn K C (.type "BaseException")=some true
 d:W.hasDictIn K C=true
 a:W.findIn K (.ref C) "__class__" = some (some (.builtin "object.__class__"))
 n:W.specialIn K (.builtin "object.__class__") "__get__" = some (some (.builtin "getset_descriptor.__get__"))
 t:W.takesIn K (.builtin "object.__class__")=some true
 m:W.mroIn K C (.type "object")=some true
section
variable{prog:Ca}{w:Ya}{A:Ta}{E:Value->aa->Prop}{s:aa}{K:W.Frag}{C ea:Addr}{hp:Heap}{Mo:fm}
theorem Ay.plain(p:Ay C a ea hp):zZ C ea hp:=let ⟨o,b,c,_⟩:=p;⟨o,b,c⟩
end
section
variable{T:Tb}{X:Cx}
inductive Yw(X:Cx)(y:Str):V->Value->Prop where
 |own {a:Addr} (h:X.mg y=some (.ref a)):Yw X y (.ref a) (.ref a)
 |bt {n:String} (h:X.mg y=none) (hv:bootBuiltins y=some (.type n)) (hn:y ≠ "__name__"):Yw X y (.ty n) (.type n)
theorem Yw.rel(h:Yw X y b a):∀ u,Qd b u->u=a:=by
 cases h with
 |own h=>exact λu q=>q
 |bt h d c=>exact λu q=>q
end
section
variable{ρ:Ev}{σ:nb}
end
end L4
namespace L4
open PySem PySem.Spec PySem.Calls PyProof.Rows L2
section
variable{T:Tb}{X:Cx}
end
end L4
namespace HT
open PySem Builtin
open Sem (wp)
end HT
namespace L4
open PySem PySem.Spec PyProof.Rows L2
end L4
namespace HT
open PySem Builtin
open Sem (wp)
end HT
namespace L4
open PySem PySem.Spec PyProof.Rows L2
section
variable{T:Tb}{X:Cx}
end
end L4
namespace L2
open PySem PySem.Spec PyProof.Rows
section
variable{κ:Type}[DecidableEq κ]
noncomputable def Dn(a:List (κ × V))(k:κ):Option V:=(a.find? λb=>decide (b.1=k)).map (·.2)
noncomputable def Nq(a:List (κ × V))(k:κ)(v:V):List (κ × V):=
 if (a.any λb=>decide (b.1=k))=true then a.map (λb=>if b.1=k then (b.1,v)else b)else a++[(k,v)]
noncomputable def lx(a:List (κ × V))(k:κ):List (κ × V):=a.filter λb=>decide (b.1≠k)
theorem zH{k:κ}(e:p.1=k):Dn (p::r) k=some p.2:=by simp[Dn,e]
theorem XG{k:κ}(e:¬ p.1=k):Dn (p::r) k=Dn r k:=by simp[Dn,e]
theorem nQ(k:κ):∀ a:List (κ × V),(a.any λb=>decide (b.1=k))=(Dn a k).isSome
 |[]=>rfl
 |p::r=>by
  rw[rf];by_cases e:p.1=k
  ·simp only[zH e,Ia e,Bool.true_or,Option.isSome_some]
  ·rw[XG e,Da e,zA];exact nQ k r
theorem TM(a:List (κ × V))(k:κ)(v:V):(Nq a k v).length<=a.length+1:=by
 unfold Nq;split
 ·rw[xb];omega
 ·rw[Dd,bc,Yo];omega
theorem xp.Qh(r:xp o u):o.isSome=u.isSome:=by
 cases o with
 |none=>cases u with
  |none=>rfl
  |some _=>exact(r).elim
 |some _=>cases u with
  |none=>exact(r).elim
  |some _=>rfl
theorem xp.getD(r:xp o u)(rd:Qd d a):Qd (o.getD d) (u.getD a):=by
 cases o with
 |none=>cases u with
  |none=>exact rd
  |some _=>exact(r).elim
 |some _=>cases u with
  |none=>exact(r).elim
  |some _=>exact r
theorem KV.val(r:KV a g)(k:κ):xp (Dn a k) (as g k):=by
 induction r with
 |nil=>exact True.intro
 |@cons p q l d h t j=>
  obtain⟨f,i⟩:=h;by_cases e:p.1=k
  ·have c:=f.symm.trans e;have b:as (q::d) k=some q.2:=by simp[as,c]
   rw[zH e,b];exact i
  ·have c:¬ q.1=k:=λz=>e (f.trans z);have b:as (q::d) k=as d k:=by simp[as,c]
   rw[XG e,b];exact j
theorem KV.any(r:KV a c)(k:κ):(a.any λb=>decide (b.1=k))=c.any λb=>decide (b.1=k):=by
 induction r with
 |nil=>rfl
 |cons h t d=>rw[rf,rf,d,h.1]
theorem KV.Lz(r:KV b d)(k:κ)(i:Qd y u) :
  KV (b.map λa=>if a.1=k then (a.1,y)else a) (d.map λa=>if a.1=k then (a.1,u)else a):=by
 induction r with
 |nil=>exact .nil
 |@cons p q j l h t g=>
  rw[Ra,Ra];refine .cons ?_ g;obtain⟨c,f⟩:=h;by_cases e:p.1=k
  ·rw[ja e,ja (c.symm.trans e)];exact⟨c,i⟩
  ·rw[ka e,ka (λz=>e (c.trans z))];exact⟨c,f⟩
theorem KV.put(r:KV a b)(k:κ)(c:Qd y u):KV (Nq a k y) (stored b k u):=by
 unfold Nq stored;rw[r.any k];by_cases e:(b.any λd=>decide (d.1=k))=true
 ·rw[ja e,ja e];exact r.Lz k c
 ·rw[ka e,ka e];exact Paired.snoc r ⟨rfl,c⟩
theorem KV.drop(r:KV c g)(k:κ):KV (lx c k) (without g k):=by
 unfold lx without;induction r with
 |nil=>exact .nil
 |@cons p q l m h t f=>
  obtain⟨d,j⟩:=h;rw[Ie,Ie];by_cases e:p.1=k
  ·have a:¬ decide (p.1≠k)=true:=by simp[e]
   have b:¬ decide (q.1≠k)=true:=by simp[d.symm.trans e]
   rw[ka a,ka b];exact f
  ·have i:¬ q.1=k:=λz=>e (d.trans z);have a:decide (p.1≠k)=true:=by simp[e]
   have b:decide (q.1≠k)=true:=by simp[i]
   rw[ja a,ja b];exact .cons ⟨d,j⟩ f
theorem KV.keys{a:List (κ × V)}(r:KV a b):a.map (·.1)=b.map (·.1):=by
 induction r with
 |nil=>rfl
 |cons h t c=>rw[Ra,Ra,c,h.1]
theorem KV.length(r:KV a b):a.length=b.length:=Paired.length r
theorem QU(a:List (κ × V))(k:κ):(lx a k).length<=a.length:=qh _ _
end
theorem Ky(r:Qd (kV k) u):(tm P w).is k u=true:=by
 cases k with
 |inl i=>obtain⟨t,e⟩:=(r);subst e;exact HY P w i t
 |inr x=>obtain⟨t,e⟩:=(r);subst e;exact v6 P w x t
theorem vS{P:Ca}{w:Ya}:∀ {ks:List sd} {us:List Value},Se (ks.map kV) us->ItemsAre (tm P w) ks us
 |[],_,r=>by rw[Am]at r;cases r;exact .nil
 |k::ks,_,r=>by
  cases r with
  |cons h t=>exact .cons (Ky h) (vS t)
abbrev KT(H:Hp):List (List sd × V)->List (List sd × Addr × Value)->Prop:=Paired λp q=>p.1=q.1/\H q.2.1=some (.Ga (p.1.map kV))/\Qd p.2 q.2.2
theorem KT.val(r:KT H a xs)(k:List sd):xp (Dn a k) ((iv xs k).map (·.2)):=by
 induction r with
 |nil=>exact True.intro
 |@cons p q j d h t i=>
  obtain⟨f,_,g⟩:=h;by_cases e:p.1=k
  ·have c:=f.symm.trans e;have b:iv (q::d) k=some q.2:=by simp[iv,c]
   rw[zH e,b];exact g
  ·have c:¬ q.1=k:=λz=>e (f.trans z);have b:iv (q::d) k=iv d k:=by simp[iv,c]
   rw[XG e,b];exact i
theorem KT.Lz(r:KT H a xs)(k:List sd)(i:Qd y u) :
  KT H (a.map λc=>if c.1=k then (c.1,y)else c) (xs.map (putAt k u)):=by
 induction r with
 |nil=>exact .nil
 |@cons p q j l h t g=>
  rw[Ra,Ra];refine .cons ?_ g;obtain⟨b,d,f⟩:=h;unfold putAt;by_cases e:p.1=k
  ·rw[ja e,ja (b.symm.trans e)];exact⟨b,d,i⟩
  ·rw[ka e,ka (λz=>e (b.trans z))];exact⟨b,d,f⟩
theorem KT.put(r:KT H a xs)(k:List sd)(d:H b=some (.Ga (k.map kV)))(c:Qd y u) :
  KT H (Nq a k y) (storedH xs k b u):=by
 have e:(a.any λf=>decide (f.1=k))=(iv xs k).isSome:=by
  rw[nQ,(r.val k).Qh,Nl]
 unfold Nq storedH;rw[e];by_cases q:(iv xs k).isSome=true
 ·rw[ja q,ja q];exact r.Lz k c
 ·rw[ka q,ka q];exact Paired.snoc r ⟨rfl,d,c⟩
theorem KT.keeps(r:KT H a xs)(e:∀ b d,H b=some (.Ga d)->c b=some (.Ga d)):KT c a xs:=
 Paired.ur r λ_ _ z=>⟨z.1,e _ _ z.2.1,z.2.2⟩
section
variable{P:Ca}{w:Ya}{H:Hp}{h:Heap}{a:Addr}
theorem vR(ok:mj P w H h)(e:Rd H a u):ak P w H h a u:=e.ok ok
theorem Lx(ok:mj P w H h)(e:Rd H a (.dK b)):b.length<=sizeLine/\(a == gh)=false/\∃ c,KV b c/\h.DictOf (tm P w) a c:=
 vR ok e
theorem yH(ok:mj P w H h)(e:H a=some (.dK b)):b.length<=sizeLine/\(a == gh)=false/\∃ c,KV b c/\h.DictOf (tm P w) a c:=Lx ok (.inl e)
theorem yD(ok:mj P w H h)(e:H a=some (.Ga (ks.map kV))):(Jq (tm P w)).is h ks a:=by
 obtain⟨_,b,r,o,c,d,n,f⟩:=(ok a _ e)
 exact⟨o,b.toArray,n,c,d,f,by simpa using vS r⟩
theorem GD(ok:mj P w H h)(e:Rd H a (.dT c)):c.length<=sizeLine/\(a == gh)=false/\
  ∃ xs,KT H c xs/\h.DictOfH (Jq (tm P w)) a xs:=by
 obtain⟨z,y,xs,r,o,i,g,j,k,n,s,u⟩:=(vR ok e)
 refine⟨z,y,xs,r,o,i,g,j,k,n,s,λx b=>?_,u⟩;have d:∀ {l:List (List sd × V)} {m:List (List sd × Addr × Value)},KT H l m->∀ x∈m,(Jq (tm P w)).is h x.1 x.2.1:=by
  intro l m q;induction q with
  |nil=>intro x b;exact nomatch b
  |@cons p q A B f t v=>
   intro x b;rcases Na.mp b with e|b
   ·subst e;exact yD ok (by rw[<-f.1];exact f.2.1)
   ·exact v x b
 exact d r x b
theorem FZ(ok:mj P w H h)(e:H a=some (.dT b)):b.length<=sizeLine/\(a == gh)=false/\
  ∃ xs,KT H b xs/\h.DictOfH (Jq (tm P w)) a xs:=GD ok (.inl e)
end
def Sj(H:Hp)(a:Addr)(y:V)(r:Option V):Prop:=
 (∃ c k,Rd H a (.dK c)/\y=kV k/\r=Dn c k)\/∃ c k b,Rd H a (.dT c)/\y=.ref b/\H b=some (.Ga (k.map kV))/\r=Dn c k
def eA(H:Hp)(a:Addr)(y v:V)(d:Hp):Prop:=
 (∃ c k,H a=some (.dK c)/\y=kV k/\c.length<sizeLine/\d=rc H a (.dK (Nq c k v)))\/
 ∃ c k b,H a=some (.dT c)/\y=.ref b/\H b=some (.Ga (k.map kV))/\c.length<sizeLine/\d=rc H a (.dT (Nq c k v))
theorem Sj.k{H:Hp}{a:Addr}{b:List (sd × V)}{k:sd}(e:H a=some (.dK b)):Sj H a (kV k) (Dn b k):=.inl ⟨b,k,.inl e,rfl,rfl⟩
theorem Sj.t{k:List sd}(e:H a=some (.dT c))(d:H b=some (.Ga (k.map kV))):Sj H a (.ref b) (Dn c k):=.inr ⟨c,k,b,.inl e,rfl,d,rfl⟩
theorem eA.k{H:Hp}{a:Addr}{b:List (sd × V)}{k:sd}{v:V}(e:H a=some (.dK b))(c:b.length<sizeLine):eA H a (kV k) v (rc H a (.dK (Nq b k v))):=.inl ⟨b,k,e,rfl,c,rfl⟩
theorem eA.t{k:List sd}(e:H a=some (.dT c))(d:H b=some (.Ga (k.map kV)))(f:c.length<sizeLine) :
  eA H a (.ref b) v (rc H a (.dT (Nq c k v))):=.inr ⟨c,k,b,e,rfl,d,f,rfl⟩
section
variable{X:Cx}{pins:List (Addr × Vc)}{σ:St}{H:Hp}{s:aa}{a:Addr}{y v:V}{u r:Value}{o:Option V}{A:Ta}{E:Value->aa->Prop}
theorem lb.qV(I:lb X pins σ H s):gh<s.heap.objs.size:=by
 have h:=(I.mod.glob.keeps I.bk).lt;exact qt (by decide) h
theorem i4(C:A.units+1<cLine)(I:lb X pins σ H s)(g:Sj H a y (some v))(q:Qd y u)(h:∀ f r,lb X pins σ H r->Qd v f->Q f r) :
  wpAny (model X.prog X.w) A (Bj (.ref a) u) Q E s:=by
 rcases g with⟨o,k,e,j,l⟩|⟨o,k,b,e,j,t,l⟩
 ·subst j;obtain⟨z,x,D,c,i⟩:=Lx I.zd e;obtain⟨f,n,d⟩:=xp.some_of (by rw[l];exact c.val k);exact wpAny_getItem_of (Ky q) i.mapOf n (h f _ (I.tok _) d)
 ·subst j;cases (q);obtain⟨z,x,xs,c,i⟩:=GD I.zd e;obtain⟨f,n,d⟩:=xp.some_of (by rw[l];exact c.val k);obtain⟨p,B,m⟩:=Eb.mp n;refine wpAny_getItem_heap (ej C) (yD I.zd t) i B ?_;rw[m];exact h f _ (I.tok _) d
theorem nX(r:A.units+1<cLine)(I:lb X pins σ H s)(g:Sj H a y o)(m:Qd y u)(h:∀ n,lb X pins σ H n->Q (.bool o.isSome) n) :
  wpAny (model X.prog X.w) A (Ub .In u (.ref a)) Q E s:=by
 rcases g with⟨j,k,e,f,l⟩|⟨j,k,b,e,f,p,l⟩
 ·subst f;obtain⟨z,i,t,c,d⟩:=Lx I.zd e;refine wpAny_in_of (Ky m) i d.mapOf ?_;rw[<-(c.val k).Qh,<-l];exact h _ (I.tok _)
 ·subst f;cases (m);obtain⟨z,i,xs,c,d⟩:=GD I.zd e;refine wpAny_in_heap (ej r) (yD I.zd p) i d ?_;have q:=(c.val k).Qh;rw[Nl]at q;rw[<-q,<-l];exact h _ (I.tok _)
theorem SZ(r:A.units+1<cLine)(I:lb X pins σ H s)(g:Sj H a y o)(m:Qd y u)(h:∀ n,lb X pins σ H n->Q (.bool (!o.isSome)) n) :
  wpAny (model X.prog X.w) A (Ub .NotIn u (.ref a)) Q E s:=by
 rcases g with⟨j,k,e,f,l⟩|⟨j,k,b,e,f,p,l⟩
 ·subst f;obtain⟨z,i,t,c,d⟩:=Lx I.zd e;refine wpAny_notIn_of (Ky m) i d.mapOf ?_;rw[<-(c.val k).Qh,<-l];exact h _ (I.tok _)
 ·subst f;cases (m);obtain⟨z,i,xs,c,d⟩:=GD I.zd e;refine wpAny_notIn_heap (ej r) (yD I.zd p) i d ?_;have q:=(c.val k).Qh;rw[Nl]at q;rw[<-q,<-l];exact h _ (I.tok _)
theorem YD(I:lb X pins σ H s)(h:tD (H a))(g:qg a s.heap h')(f:∃ q,h'.get? a=some q)(c:ak X.prog X.w (rc H a d) h' a d) :
  lb X pins σ (rc H a d) { s with heap:=h',toks:=t' }:=
 I.write h (.inl rfl) (λb q e z=>(g.2 b e).trans z) f c
theorem pD(z:b.length<=sizeLine)(h:(a == gh)=false)(c:KV b d)(g:e.DictOf (tm P w) a d) :
  ak P w f e a (.dK b):=⟨z,h,d,c,g⟩
theorem T8(T:A.units+1<cLine)(I:lb X pins σ H s)(g:eA H a y v B)(J:Qd y u)(G:Qd v r)(h:∀ K,lb X pins σ B K->Q () K) :
  wpAny (model X.prog X.w) A (uw (.ref a) u r) Q E s:=by
 rcases g with⟨d,k,e,o,l,n⟩|⟨d,k,b,e,o,C,l,n⟩
 ·subst o n;obtain⟨z,p,U,f,m⟩:=yH I.zd e;have F:U.length<=sizeLine:=by rw[<-f.length];exact z
  have t:(Nq d k v).length<=sizeLine:=by have:=TM d k v;omega
  refine wpAny_setItem_pairs (Ky J) m λh' i x=>h _ ?_;have S:∃ q,h'.get? a=some q:=let ⟨q,_,_,j,_⟩:=i;⟨q,j⟩;exact YD I (by rw[e];exact True.intro) x S (pD t p (f.put k G) i)
 ·subst o n;cases (J);obtain⟨z,p,xs,f,m⟩:=FZ I.zd e;have F:xs.length<=sizeLine:=by rw[<-Paired.length f];exact z
  have t:(Nq d k v).length<=sizeLine:=by have:=TM d k v;omega
  refine wpAny_setItem_heap (hsz:=F) (ej T) (yD I.zd C) m λh' i x=>h _ ?_;obtain⟨q,M,L,j,N,O,P,_,R⟩:=i;refine YD I (by rw[e];exact True.intro) x ⟨q,j⟩ ⟨t,p,_,(f.put k C G).keeps λc V D=>?_,q,M,L,j,N,O,P,R⟩;rw[me (FN D e (λz=>nomatch z))];exact D
end
section
variable{X:Cx}{pins:List (Addr × Vc)}{σ:St}{H:Hp}{s:aa}{a:Addr}{kvs:List (sd × V)}{k:sd}{u:Value}{A:Ta}{E:Value->aa->Prop}
theorem zmi(I:lb X pins σ H s)(e:H a=some (.dK kvs))(n:Qd (kV k) u)(l:(Dn kvs k).isSome=true)(h:∀ f,lb X pins σ (rc H a (.dK (lx kvs k))) f->Q () f) :
  wpAny (model X.prog X.w) A (delItem (.ref a) u) Q E s:=by
 obtain⟨z,g,o,b,d⟩:=yH I.zd e;refine wpAny_delItem_slot d.typeIs (by decide) Zo
  (Qp Zo d.typeIs PySem.F.entry_dict_delitem (PySem.F.args_dict_delitem_2 _ _) (meets_dict_delitem_pairs (tm X.prog X.w) a (Ky n)) ⟨o,d,by rw[<-b.length];exact z,by rw[<-(b.val k).Qh];exact l,λh' c m=>h _ ?_⟩)
 have i:∃ q,h'.get? a=some q:=let ⟨q,_,_,j,_⟩:=c;⟨q,j⟩;exact YD I (by rw[e];exact True.intro) m i (pD (Qb (QU kvs k) z) g (b.drop k) c)
theorem R4(I:lb X pins σ H s)(e:H a=some (.dK kvs))(j:Qd (kV k) u)(l:Dn kvs k=some v)(n:b=[]\/∃ x,b=[x])
  (h:∀ f o,lb X pins σ (rc H a (.dK (lx kvs k))) o->Qd v f->Q f o):wpAny (model X.prog X.w) A (call (.builtin "dict.pop") (.ref a::u::b)) Q E s:=by
 obtain⟨z,r,J,c,m⟩:=yH I.zd e;obtain⟨f,G,g⟩:=xp.some_of (by rw[<-l];exact c.val k);have B:(keyPart u).isSome=true:=by
  cases k with
  |inl i=>obtain⟨t,q⟩:=(j);subst q;rfl
  |inr x=>obtain⟨t,q⟩:=(j);subst q;rfl
 have p:argsOk "dict.pop" ⟨.ref a::u::b,[]⟩:=by
  rcases n with q|⟨x,q⟩
  ·subst q;exact PySem.F.args_dict_pop_2 _ _
  ·subst q;exact PySem.F.args_dict_pop_3 _ _ _
 refine Qp Vq m.typeIs PySem.F.entry_dict_pop p (meets_dict_pop_there (tm X.prog X.w) a (Ky j) b n B)
  ⟨J,f,m,by rw[<-c.length];exact z,G,λh' d D=>h f _ ?_ g⟩
 have y:∃ q,h'.get? a=some q:=let ⟨q,_,_,C,_⟩:=d;⟨q,C⟩;exact YD I (by rw[e];exact True.intro) D y (pD (Qb (QU kvs k) z) r (c.drop k) d)
end
def uJ(i:Ua):Prop:=∀ b a,ar i false b a=operate [b,a] (Bj b a)
theorem ĵ
  (p:typeLookup (.type T) "__getitem__" = pure (some (.builtin t))) (q:uJ b)
  (h:wpAny (model a w) A (vc c j) (λo f=>wpAny (model a w) A (vc b j) (λi d=>d.TypeIs o T/\wpAny (model a w) A (Bj o i) Q E d) E f) E s) :
  wpAny (model a w) A (vc (.Subscript c b m) j) Q E s:=by
 refine xA (Hc h (λo f k=>Hc k (λi d e=>?_) λ_ _ x=>x) λ_ _ x=>x);obtain⟨n,e⟩:=e;refine da ?_;refine da (wpAny_specialOf n p ?_);have Vg:wpAny (model a w) A (ar b false o i) (λr g=>wpAny (model a w) A (letTemporaryGo c o r >>= λ_=>pure r) Q E g) E d:=by
  rw[q o i];exact wpAny_operating (Hc e (λr g l=>da (wpAny_letTemporaryGo (ra l))) λ_ _ x=>x)
 first
  |exact ra (da Vg)
  |exact da (ra (da Vg))
  |exact da Vg
theorem o6(I:lb X c h H s)(g:Sj H a y o):s.TypeIs (.ref a) "dict":=by
 rcases g with⟨f,k,e,_,_⟩|⟨f,k,b,e,_,_,_⟩
 ·obtain⟨_,_,i,_,d⟩:=Lx I.zd e;exact d.typeIs
 ·obtain⟨_,_,xs,_,d⟩:=GD I.zd e;exact d.typeIs
noncomputable def Ļ(e ty:TE):TE:=λc H Q=>e c H λx d=>ty c d λy b=>∃ a v,x=.ref a/\Sj b a y (some v)/\Q v b
section
variable{X:Cx}{o i e value:Ua}{pos pos' tpos:Ve}{td ty tv:TE}
theorem ĥ(p:X.A.units+1<cLine)(m:PE X o td)(l:PE X i ty)(n:uJ i):PE X (.Subscript o i pos) (Ļ td ty):=by
 intro b s e H Q I h;refine ĵ PySem.F.slot_dict_getitem.lookup n (Je (m b s e H _ I h) λu s1 ⟨x,H1,j,t,q⟩=>Je (l b s1 e H1 _ j q) λz s2 ⟨y,f,d,w,a,v,ex,g,r⟩=>?_);subst ex;obtain rfl:u=Nb a:=t;exact⟨o6 d g,i4 p d g w λC B k c=>⟨v,f,k,c,r⟩⟩
end
theorem Ā(h:Heap)(a:gh<h.objs.size):ak P w H (h.push { cls:=.type "dict",data:=.dict #[] }) h.objs.size (.dK []):=
 ⟨Bu _,Oe.mpr (qf (Sa a)),[],.nil,MN h⟩
def Ζ:TE:=λ_ H Q=>∀ p,H p=none->Q (.ref p) (rc H p (.dK []))
section
variable{X:Cx}{pos:Ve}
theorem WR:PE X (.Dict [] [] pos) Ζ:=λa s b H Q I h=>
 wpAny_Dict_empty ⟨.ref s.heap.objs.size,_,I.laid (λ_ _ q=>qa _ q) (Ea _) (Ā s.heap I.qV),rfl,h _ (I.zd.fresh (Ea _))⟩
end
section
variable{X:Cx}{pins:List (Addr × Vc)}{σ:St}{H:Hp}{s:aa}{a:Addr}{kvs:List (sd × V)}{A:Ta}{E:Value->aa->Prop}
theorem τ(I:lb X pins σ H s)(e:Rd H a (.dK kvs))(h:∀ p g,H p=none->lb X pins σ (rc H p (.dK kvs)) g->Q (.ref p) g):wpAny (model X.prog X.w) A (call (.type "dict") [.ref a]) Q E s:=by
 obtain⟨z,j,l,c,i⟩:=Lx I.zd e;refine kt_call_dict j i (by rw[<-c.length];exact z) λh' d k=>?_;refine h _ _ (I.zd.fresh (Ea _)) (I.laid (λb q f=>?_) (Ea _) (pD z (Oe.mpr (qf (Sa I.qV))) c d));exact(k.2 b (Sa (Ba f))).trans (qa _ f)
end
end L2
namespace L4
open PySem PySem.Spec PyProof.Rows L2
noncomputable def aq:D->Option sd
 | .int i=>some (.inl i)
 | .str x=>some (.inr x)
 |_=>none
noncomputable def Uj(b:nb):D->Option (List (sd × D))
 | .Bc ks xs=>if ks.length=xs.length then some (ks.zip xs)else none
 | .ref n=>(match b[n]? with
  |some (.Bc a)=>some a
  |some (.Xf a)=>some a
  |_=>none)
 |_=>none
noncomputable def Zp(a:List (sd × D))(k:sd):Option D:=(a.find? λb=>decide (b.1=k)).map (·.2)
noncomputable def Gn(a:List (sd × D))(k:sd)(d:D):List (sd × D):=
 if a.any (λb=>decide (b.1=k))then a.map λb=>if b.1=k then (b.1,d)else b else a++[(k,d)]
section
variable{T:Tb}{X:Cx}{μ:List Addr}{H:Hp}
theorem rB(h:Qa T μ H y v)(e:aq y=some k):v=kV k:=by
 cases y<;>simp[aq]at e<;>subst e<;>rw[Qa]at h<;>exact h
theorem YG:∀ {ks:List sd} {ds:List D} {a:List (sd × V)},a.map (·.1)=ks->Jb T μ H ds (a.map (·.2))->Dl T μ H (ks.zip ds) a
 |ks,[],a,c,b=>by
  rw[Jb]at b;have:a=[]:=by simpa using b
  subst this;rw[<-c];exact .nil
 |ks,d::ds,a,c,b=>by
  obtain⟨v,r,e,f,g⟩:=b;cases a with
  |nil=>cases e
  |cons p a=>
   cases e;rw[<-c];exact .cons ⟨rfl,f⟩ (YG rfl g)
theorem oz(r:Xd T μ H i)(h:Qa T μ H x v)(e:Uj i x=some f):∃ a b,v=.ref a/\Rd H a (.dK b)/\Dl T μ H f b:=by
 cases x with
 |Bc ks xs=>
  obtain⟨a,b,rfl,_,c,d,j⟩:=h;unfold Uj at e;dsimp only at e;split at e
  ·cases e;exact⟨a,b,rfl,c,YG d j⟩
  ·cases e
 |ref n=>
  unfold Uj at e;dsimp only at e;cases q:i[n]? with
  |none=>rw[q]at e;cases e
  |some o=>
   rw[q]at e;cases o with
   |Bc g=>
    cases e;obtain⟨a,rfl,_,b,c,d⟩:=r.at h q;exact⟨a,b,rfl,.inl c,d⟩
   |Xf g=>
    cases e;obtain⟨a,rfl,_,ob,b,c,d⟩:=r.at h q;exact⟨a,b,rfl,.inr ⟨ob,c⟩,d⟩
   |_=>cases e
 |_=>cases e
theorem UA(h:Dl T μ H a c)(k:sd):(Zp a k=none/\Dn c k=none)\/∃ d v,Zp a k=some d/\Dn c k=some v/\Qa T μ H d v:=by
 induction h with
 |nil=>exact .inl ⟨rfl,rfl⟩
 |@cons p q i m h t l=>
  obtain⟨g,j⟩:=h;by_cases e:p.1=k
  ·have b:=g.symm.trans e;exact .inr ⟨p.2,q.2,by unfold Zp;rw[bp,Ia e];rfl,zH b,j⟩
  ·have b:=λz=>e (g.trans z);have f:Zp (p::i) k=Zp i k:=by unfold Zp;rw[bp,Da e]
   rw[f,XG b];exact l
theorem Ç(h:Dl T μ H a c)(k:sd):(a.any λb=>decide (b.1=k))=(c.any λb=>decide (b.1=k)):=by
 induction h with
 |nil=>rfl
 |@cons p q e f h t d=>rw[rf,rf,d,h.1]
theorem NV{d e:Type}{F:d->e->Prop}{f:d->d}{g:e->e}(c:∀ a b,F a b->F (f a) (g b)):∀ {l:List d} {m:List e},Paired F l m->Paired F (l.map f) (m.map g)
 |_,_,.nil=>.nil
 |_,_,.cons h t=>.cons (c _ _ h) (NV c t)
theorem uT{d e:Type}{F:d->e->Prop}{a:d}{b:e}(c:F a b):∀ {l:List d} {m:List e},Paired F l m->Paired F (l++[a]) (m++[b])
 |_,_,.nil=>.cons c .nil
 |_,_,.cons h t=>.cons h (uT c t)
theorem NP(h:Dl T μ H a c)(k:sd)(b:Qa T μ H d v):Dl T μ H (Gn a k d) (Nq c k v):=by
 unfold Gn Nq;rw[Ç h k];split
 ·refine NV (λp q h=>?_) h;by_cases e:p.1=k
  ·rw[ja e,ja (h.1.symm.trans e)];exact⟨h.1,b⟩
  ·rw[ka e,ka (λz=>e (h.1.trans z))];exact h
 ·exact uT ⟨rfl,b⟩ h
theorem Dl.mono(e:we μ H b c)(h:Dl T μ H a d):Dl T b c a d:=Paired.ur h λ_ _ z=>⟨z.1,Qa.mono e _ _ z.2⟩
theorem _root_.L2.Sj.kr(e:Rd H a (.dK b)):Sj H a (kV k) (Dn b k):=.inl ⟨b,k,e,rfl,rfl⟩
def Jl(x y:D):M D:=λb=>match aq y with
 |some k=>(match Uj b x with
  |some a=>(match Zp a k with
   |some d=>.ok d b
   |none=>.Xb)
  |none=>.Xb)
 |none=>.Xb
theorem Rt(hu:X.A.units+9<cLine)(G:FE T X o p)(F:FE T X i fi)(L:uJ i):FE T X (.Subscript o i g) (ya Jl p fi):=by
 intro c s U H Q I h;refine ĥ (by omega) G F L c s U H Q I ?_;obtain⟨μ,t,Z,q,K,J⟩:=h;refine⟨μ,t,Z,q,K,J.bind λx m l v H1 _ z S P O=>⟨l,t,m,q.mono z,S,O.bind λy n Y u H2 _ B r R b=>?_⟩⟩;unfold Jl at b;cases f:aq y with
 |none=>rw[f]at b;exact b.elim
 |some k=>
  rw[f]at b;cases e:Uj n x with
  |none=>rw[e]at b;exact b.elim
  |some N=>
   rw[e]at b;dsimp only at b;obtain⟨a,vs,rfl,C,E⟩:=oz r (Qa.mono B _ _ P) e;obtain rfl:=rB R f;rcases UA E k with⟨j,_⟩|⟨d,w,j,V,W⟩
   ·rw[j]at b;exact b.elim
   ·rw[j]at b;exact⟨a,w,rfl,by rw[<-V];exact Sj.kr C,nc.here b r W⟩
noncomputable def uU:R2:=λy x H Q=>∃ a o,x=.ref a/\Sj H a y o/\Q (.bl o.isSome) H
theorem NL(f:X.A.units+9<cLine):di X (Ub .In) uU:=by
 intro b s k H y x i u Q I e d h;obtain⟨a,o,rfl,g,q⟩:=h;obtain rfl:u=Nb a:=d;exact nX (by omega) I g e λj c=>⟨.bl o.isSome,H,c,rfl,q⟩
def Ow(y x:D):M D:=λb=>match aq y with
 |some k=>(match Uj b x with
  |some a=>.ok (.bl (Zp a k).isSome) b
  |none=>.Xb)
 |none=>.Xb
theorem ML:zl T uU Ow:=by
 intro E μ H m y x u v Q r q p h;unfold Ow at h;cases c:aq y with
 |none=>rw[c]at h;exact h.elim
 |some k=>
  rw[c]at h;cases b:Uj m x with
  |none=>rw[b]at h;exact h.elim
  |some j=>
   rw[b]at h;obtain⟨a,l,rfl,g,i⟩:=oz r p b;obtain rfl:=rB q c;refine⟨a,Dn l k,rfl,Sj.kr g,nc.here h r ?_⟩;rcases UA i k with⟨e,f⟩|⟨d,w,e,f,n⟩
   ·rw[e,f];rfl
   ·rw[e,f];rfl
noncomputable def D7:UH:=λx y v H Q=>∃ a b,x=.ref a/\eA H a y v b/\Q b
theorem iZ(l:X.A.units+9<cLine):LM X D7:=by
 intro b s p H o i v e m u Q I j f k h;obtain⟨a,c,rfl,g,q⟩:=h;obtain rfl:e=Nb a:=j;exact T8 (by omega) I g f k λn d=>⟨c,d,q⟩
def mu(c:Ev)(d x:D)(y:D):M Fl:=λb=>match x with
 | .ref n=>(match aq y with
  |some k=>(match b[n]? with
   |some (.Bc a)=>if a.length<oi then .ok (.nx c) (b.set n (.Bc (Gn a k d)))else .Xb
   |_=>.Xb)
  |none=>.Xb)
 |_=>.Xb
def DM(a:Ev)(fi:Ev->M D)(d x:D):M Fl:=xs a (fi a) (mu a d x)
def cK(a:Ev)(b fi:Ev->M D)(d:D):M Fl:=xs a (b a) (DM a fi d)
def Et(f b fi:Ev->M D):Ev->M Fl:=λa=>xs a (f a) (cK a b fi)
theorem Qu(hu:X.A.units+9<cLine)(he:FE T X e f)(ho:FE T X o R)(hi:FE T X i fi)
  (ha:∀ v,gm (.Subscript o i b) X.env v=(do
   let t <-Lg [v] (vc o X.env);let F <-Lg [v,t] (vc i X.env)
   Fk b
   Lg [v,t,F] (uw t F v)
   release [v,t,F] []):=by intro _;rfl)
  (hs:Zn [.Subscript o i b] e p.line X.env=pure false:=by rfl) (hw:ao [.Subscript o i b] e X.env=pure none:=by rfl)
  (Z:(df [.Subscript o i b] X.env).map (·.2)=[gm (.Subscript o i b) X.env]:=by rfl):FS T X (.Assign [.Subscript o i b] e p) (Et f R fi):=by
 intro m s W H D I hq;refine dL he (YT ho hi (iZ hu) ha) hs hw Z m s W H D I ?_;obtain⟨μ,L,σ,g,hr,hp⟩:=hq;refine⟨μ,L,σ,g,hr,hp.xs g λd N J v H1 _ j r1 q1 p1=>?_⟩;refine⟨J,L,N,g.mono j,r1,p1.xs (g.mono j) λx O K vo H2 _ r r2 q2 p2=>?_⟩;refine⟨K,L,O,(g.mono j).mono r,r2,p2.xs ((g.mono j).mono r) λy P q vi Q _ u V q3 c=>?_⟩;have hd:=Qa.mono u _ _ (Qa.mono r _ _ q1);have hx:=Qa.mono u _ _ q2;unfold mu at c;cases x with
 |ref n=>
  dsimp only at c;cases w:aq y with
  |none=>rw[w]at c;exact c.elim
  |some k=>
   rw[w]at c;cases B:P[n]? with
   |none=>rw[B]at c;exact c.elim
   |some ob=>
    rw[B]at c;cases ob with
    |Bc h=>
     dsimp only at c;by_cases E:h.length<oi
     ·rw[ja E]at c;obtain⟨a,rfl,U,Y,S,C⟩:=V.at hx B;obtain rfl:=rB q3 w;have G:=V.write (ob:=.Bc (Gn h k d)) U ⟨_,Mh,by
       have ex:we q Q q (rc Q a (.dK (Nq Y k v))):=Gw (Oa U) S (λ_ z=>by cases z) (λ_ _ z=>by cases z);exact NP (Dl.mono ex C) k (Qa.mono ex _ _ hd)⟩
      have l:Y.length=h.length:=by unfold Dl at C;exact(Paired.length C).symm
      exact⟨a,_,rfl,eA.k S (by rw[l];exact Xa E (by decide)),c _ (.nx W) _ G.1 G.2 (((g.mono j).mono r).mono u |>.mono G.1)⟩
     ·rw[ka E]at c;exact c.elim
    |_=>exact c.elim
 |_=>exact c.elim
noncomputable def Ou:Ev->M D:=λ_ a=>.ok (.ref a.length) (a++[.Bc []])
theorem ux:FE T X (.Dict [] [] b) Ou:=by
 intro a s f H Q I h;obtain⟨μ,i,j,g,d,e⟩:=h;refine WR a s f H Q I λp c=>?_;exact e (μ++[p]) (.ref p) _ (fx c) (d.push c ⟨[],Mh,.nil⟩) (rE d)
theorem F1:FE T X (.Dict [] [] c) (eC (.Bc [] [])):=by
 intro a s i H Q I h;obtain⟨μ,k,l,j,d,g⟩:=h;refine WR a s i H Q I λp b=>?_;exact g μ (.ref p) _ (vm b) (d.fresh b) (by rw[Qa];exact⟨p,[],rfl,λf=>(by obtain⟨u,e,_⟩:=d.mem f;rw[b]at e;cases e),(.inl Mh),rfl,Jb.nil⟩)
def KL:List V->Hp->VK->Prop:=λxs H Q=>∃ a b,xs=[.ref a]/\Rd H a (.dK b)/\∀ p,H p=none->Q (.ref p) (rc H p (.dK b))
theorem FV:tp X (.type "dict") KL:=by
 intro b s j H xs k Q I r h;obtain⟨a,f,rfl,e,q⟩:=h;obtain⟨u,rfl,g⟩:=Iw r;cases g;exact τ I e λp i d c=>⟨.ref p,_,c,rfl,q p d⟩
def VA(c:List D):M D:=λb=>match c with
 |[x]=>(match Uj b x with
  |some a=>.ok (.Bc (a.map (·.1)) (a.map (·.2))) b
  |none=>.Xb)
 |_=>.Xb
theorem IV:∀ {a:List (sd × D)} {b:List (sd × V)},Dl T μ H a b->b.map (·.1)=a.map (·.1)/\Jb T μ H (a.map (·.2)) (b.map (·.2))
 |_,_,.nil=>⟨rfl,Jb.nil⟩
 |_,_,.cons h t=>by
  obtain⟨c,d⟩:=IV t;exact⟨by rw[Ra,Ra,c,h.1],Jb.cons h.2 d⟩
theorem ß:Hs T KL VA:=by
 intro E μ H q e t Q r p h
 match e with
 |[]=>exact h.elim
 |[x]=>
  unfold VA at h;dsimp only at h;cases c:Uj q x with
  |none=>rw[c]at h;exact h.elim
  |some j=>
   rw[c]at h;obtain⟨v,s,rfl,k,m⟩:=p;subst m;obtain⟨a,ws,rfl,f,g⟩:=oz r k c;refine⟨a,ws,rfl,f,λl b=>?_⟩;obtain⟨n,o⟩:=IV g;exact h μ (.ref l) _ (vm b) (r.fresh b) (by rw[Qa];exact⟨l,ws,rfl,λi=>(by obtain⟨u,d,_⟩:=r.mem i;rw[b]at d;cases d),(.inl Mh),n,Jb.mono (vm b) _ _ o⟩)
 |_::_::_=>exact h.elim
end
section
variable{T:Tb}{X:Cx}
structure InK(K:W.Frag)(C:Addr):Prop where
 cl:L2.Ap K C
 a:W.findIn K (.ref C) "__class__" = some (some (.builtin "object.__class__"))
 n:W.specialIn K (.builtin "object.__class__") "__get__" = some (some (.builtin "getset_descriptor.__get__"))
 t:W.takesIn K (.builtin "object.__class__")=some true
 m:W.mroIn K C (.type "object")=some true
end
section
variable{T:Tb}{X:Cx}
inductive wE(X:Cx):List (Option Ua)->List Ua->List (Str × Str)->Prop
 |nil:wE X [] [] []
 |cons {k v:Ua} {x y:Str} {ks:List (Option Ua)} {vs:List Ua} {l:List (Str × Str)}:PE X k (tC (.str x))->PE X v (tC (.str y))->wE X ks vs l->wE X (some k::ks) (v::vs) ((x,y)::l)
theorem wE.all{ks vs l}(h:wE X ks vs l):ks.all (·.isSome)=true/\ks.length=vs.length/\ks.length=l.length:=by
 induction h with
 |nil=>exact⟨rfl,rfl,rfl⟩
 |cons _ _ _ a=>exact⟨by simpa using a.1,by simpa using a.2.1,by simpa using a.2.2⟩
end
noncomputable def yE(o:Int->Int->Int)(i:Nat)(c:Ev)(x d:D):M Fl:=λe=>match x,d with
 | .int a,.int b=>.ok (.nx (c.set i (some (.int (o a b))))) e
 |_,_=>.Xb
def Ry(o:Int->Int->Int)(i:Nat)(f:Ev->M D):Ev->M Fl:=λa=>match a[i]? with
 |some (some x)=>xs a (f a) (yE o i a x)
 |_=>λ_=>.Xb
theorem LQ(h:a[i]?=some (some x)):Ry o i f a b=Pn a (yE o i a x) (f a b):=by
 unfold Ry;rw[h];exact oo ..
@[simp] theorem zxy(o:Int->Int->Int)(i:Nat)(c:Ev)(a b:Int)(d:nb):yE o i c (.int a) (.int b) d=.ok (.nx (c.set i (some (.int (o a b))))) d:=nr rfl
section
variable{T:Tb}{X:Cx}{e:Ua}{f:Ev->M D}{pos:Ve}
theorem cQ(E:tM X n (ZQ o))(z:X.N.Nodup)(C:X.N[i]?=some x)(J:Loc X.env.scope x)(A:FE T X e f)(B:X.fn x=true\/X.env.scope.names.lookup x=some .local:=by first|exact .inl rfl|exact .inr rfl|assumption) :
  FS T X (.AugAssign (.Name x j) n e pos) (Ry o i f):=by
 intro h s p H D I G;refine D1 z C J A E B h s p H D I ?_;obtain⟨M,r,P,l,F,c⟩:=G;unfold Ry at c;cases k:r[i]? with
 |none=>rw[k]at c;exact c.elim
 |some q=>
  cases q with
  |none=>rw[k]at c;exact c.elim
  |some d=>
   rw[k]at c;obtain⟨v,u,w⟩:=l.2 i d k;refine⟨v,u,M,r,P,l,F,c.xs l λy Q O S R _ t L K m=>?_⟩;cases d with
   |int a=>
    cases y with
    |int b=>
     subst w K;exact⟨a,b,rfl,rfl,nc.here (g:=Sr.nx (p.set i (some (.int (o a b))))) m L ((l.mono t).set i (by rw[Qa]))⟩
    |_=>exact m.elim
   |_=>exact m.elim
end
end L4
namespace L4
open PySem PySem.Spec PySem.Calls PyProof.Rows L2
section
variable{T:Tb}{X:Cx}
end
end L4
namespace L4
open PySem PySem.Spec PyProof.Rows L2
def nA(o:D->List D->M D)(m:M (List D))(x:D):M D:=λa=>match Uj a x with
 |some _=>Pd m (o x) a
 |none=>.Xb
def QI(o:D->List D->M D)(f:Ev->M D)(b:Ev->M (List D)):Ev->M D:=λa=>Pd (f a) (nA o (b a))
def nU:V->List V->Hp->VK->Prop:=λx c H Q=>∃ a b k d,x=.ref a/\c=[kV k,d]/\H a=some (.dK b)/\b.length<sizeLine/\
 (∀ v,Dn b k=some v->Q v H)/\(Dn b k=none->Q d (rc H a (.dK (Nq b k d))))
def Pz(x:D)(xs:List D):M D:=λb=>match x,xs with
 | .ref n,[y,d]=>(match aq y with
  |some k=>(match b[n]? with
   |some (.Bc a)=>if a.length<oi then (match Zp a k with
    |some e=>.ok e b
    |none=>.ok d (b.set n (.Bc (Gn a k d))))else .Xb
   |_=>.Xb)
  |none=>.Xb)
 |_,_=>.Xb
section
variable{T:Tb}{X:Cx}{o e:Ua}{es:List Ua}{f:Ev->M D}{fs:Ev->M (List D)}{name:Str}{apos cpos:Ve}{id:String}{r:V->List V->Hp->VK->Prop}{g:D->List D->M D}
theorem VX:Uu X "dict.setdefault" nU:=by
 intro m s L H x N v M Q I J G h;obtain⟨a,b,k,d,rfl,rfl,j,K,o,p⟩:=h;cases J;obtain⟨u,r,rfl,E,n⟩:=G.two;obtain⟨z,l,ws,c,i⟩:=yH I.zd j;have D:ws.length<=sizeLine:=by rw[<-c.length];exact z
 have g:(Nq b k d).length<=sizeLine:=by have:=TM b k d;omega
 refine Qp Bn i.typeIs PySem.F.entry_dict_setdefault (PySem.F.args_dict_setdefault_3 _ _ _) (kt_meets_setdefault (tm X.prog X.w) a (Ky E) l r) ⟨ws,i,D,λw C=>?_,λy h' f B=>?_⟩
 ·have q:=c.val k;rw[C]at q;cases e:Dn b k with
  |none=>rw[e]at q;exact absurd q (by simp[xp])
  |some x=>rw[e]at q;exact⟨x,H,I.tok _,q,o x e⟩
 ·have q:=c.val k;rw[y]at q;cases e:Dn b k with
  |some x=>rw[e]at q;exact absurd q (by simp[xp])
  |none=>
   have t:∃ q,h'.get? a=some q:=let ⟨q,_,_,A,_⟩:=f;⟨q,A⟩;exact⟨d,_,YD I (by rw[j];exact True.intro) B t (pD g l (c.put k n) f),n,p e⟩
theorem mP(I:lb X b h H s)(g:Rd H p (.dK c)):s.TypeIs (.ref p) "dict"/\∀ a,Nb p=.ref a->∃ d,s.heap.get? a=some d/\d.dict=none:=by
 obtain⟨_,_,_,_,o,_,_,e,ex,_⟩:=Lx I.zd g;refine⟨⟨o,e,ex.1⟩,λa f=>?_⟩;cases f;exact⟨o,e,ex.2.1⟩
def Ù(r:V->List V->Hp->VK->Prop)(d:TE):TE:=λe H Q=>d e H λx c=>(∃ a b,x=.ref a/\Rd c a (.dK b))/\r x [] c Q
def Q2(r:V->List V->Hp->VK->Prop)(f:TE)(t:TA):TE:=λd H Q=>f d H λx c=>(∃ a b,x=.ref a/\Rd c a (.dK b))/\t d c λxs e=>r x xs e Q
theorem MQ(t:Qo "dict")(e:Slot "dict" name id)(f:yt (.builtin id)=pure (.type "method_descriptor"))(n:Uu X id r)(p:PE X o i)
  (c:oe o name X.env (vc o X.env)=vc o X.env:=by rfl) (d:(apos.endLine == cpos.line)=true:=by rfl):PE X (.Call (.Attribute o name apos) [] [] cpos) (Ù r i):=by
 intro b s j H Q I h;refine wpAny_Call_method0_late c d (Je (p b s j H _ I h) λv s1 ⟨x,H1,g,w,ty,u⟩=>?_);obtain⟨a,q,rfl,m⟩:=ty;cases w;obtain⟨k,l⟩:=mP g m;exact⟨"dict",id,t,e,f,k,l,wj rfl (PySem.evalArgs_none (n b s1 j H1 (.ref a) [] (.ref a) [] Q g rfl .nil u))⟩
theorem W6(E:Qo "dict")(i:Slot "dict" name id)(j:yt (.builtin id)=pure (.type "method_descriptor"))(A:Uu X id r)(B:PE X o n)(y:PA X (e::es) t)
  (d:oe o name X.env (vc o X.env)=vc o X.env:=by rfl)
  (g:((Wc cpos (ua (e::es) X.env)).all (λx=>!x.1) && (Xj cpos (oh [] X.env)).all (λx=>x.1.isSome)
   && decide ((e::es).length+([]:List Gk).length+(if ([]:List Gk).isEmpty then 0 else 1)<30))=true:=by rfl)
  (f:(apos.endLine == cpos.line)=true:=by rfl) (C:ua (e::es) X.env=(false,vc e X.env)::ua es X.env:=by rfl) (c:(Wc cpos (ua es X.env)).any (·.1)=false:=by rfl) :
  PE X (.Call (.Attribute o name apos) (e::es) [] cpos) (Q2 r n t):=by
 intro b s k H Q I h;refine gw d g f rfl (Je (B b s k H _ I h) λv s1 ⟨x,H1,l,J,ty,F⟩=>?_);obtain⟨a,D,rfl,z⟩:=ty;cases J;obtain⟨u,w⟩:=mP l z;refine⟨"dict",id,E,i,j,u,w,?_⟩;have m:=y cpos b s1 k H1 _ l F;rw[C]at m ⊢;refine wj (by show (false || (Wc cpos (ua es X.env)).any (·.1))=false;rw[c]<;>rfl) (Vj ?_);exact Je m λus s2 ⟨L,p,q,K,G⟩=>A b s2 k p (.ref a) L (.ref a) us Q q rfl K G
theorem KQ(R:Qo "dict")(l:Slot "dict" name id)(q:yt (.builtin id)=pure (.type "method_descriptor"))(K:Uu X id r)(O:HA T r g)(L:FE T X o f)(J:FA T X (e::es) fs)
  (c:oe o name X.env (vc o X.env)=vc o X.env:=by rfl)
  (i:((Wc cpos (ua (e::es) X.env)).all (λx=>!x.1) && (Xj cpos (oh [] X.env)).all (λx=>x.1.isSome)
   && decide ((e::es).length+([]:List Gk).length+(if ([]:List Gk).isEmpty then 0 else 1)<30))=true:=by rfl)
  (d:(apos.endLine == cpos.line)=true:=by rfl) (p:ua (e::es) X.env=(false,vc e X.env)::ua es X.env:=by rfl) (b:(Wc cpos (ua es X.env)).any (·.1)=false:=by rfl) :
  FE T X (.Call (.Attribute o name apos) (e::es) [] cpos) (QI g f fs):=by
 intro j s V H Q I h;refine W6 R l q K L J c i d p b j s V H Q I ?_;obtain⟨Y,B,Z,y,N,M⟩:=h;refine⟨Y,B,Z,y,N,M.bind λx m t v H1 _ E A z k=>?_⟩;unfold nA at k;cases n:Uj m x with
 |none=>rw[n]at k;exact k.elim
 |some xs=>
  rw[n]at k;obtain⟨a,W,rfl,G,h2⟩:=oz A z n;refine⟨⟨a,W,rfl,G⟩,t,B,m,y.mono E,A,k.bind λD w u ws C _ F U P S=>?_⟩;exact O _ u C w x D (.ref a) ws Q U (Qa.mono F _ _ z) P S
theorem V5:HA T nU Pz:=by
 intro E G H M x xs v N Q r p q h;cases x with
 |ref n=>
  match xs with
  |[]=>exact h.elim
  |[_]=>exact h.elim
  |[y,d]=>
   obtain⟨w,z,rfl,J,K⟩:=q;obtain⟨D,g,rfl,B,C⟩:=K;rw[Jb]at C;subst C;unfold Pz at h;cases m:aq y with
   |none=>simp only[m]at h;exact h.elim
   |some k=>
    simp only[m]at h;cases b:M[n]? with
    |none=>simp only[b]at h;exact h.elim
    |some ob=>
     cases ob with
     |Bc f=>
      simp only[b]at h;by_cases o:f.length<oi
      ·rw[ja o]at h;obtain⟨a,rfl,A,s,u,i⟩:=r.at p b;obtain rfl:=rB J m;have j:s.length=f.length:=by unfold Dl at i;exact(Paired.length i).symm
       refine⟨a,s,k,D,rfl,rfl,u,by rw[j];exact CQ o,λv e=>?_,λe=>?_⟩
       ·rcases UA i k with⟨l,g⟩|⟨I,L,l,g,F⟩
        ·rw[g]at e;cases e
        ·rw[g]at e;cases e;rw[l]at h;exact nc.here h r F
       ·rcases UA i k with⟨l,g⟩|⟨I,L,l,g,F⟩
        ·rw[l]at h;have t:=r.write (ob:=.Bc (Gn f k d)) A ⟨_,Mh,by
          have ex:we G H G (rc H a (.dK (Nq s k D))):=Gw (Oa A) u (λ_ z=>by cases z) (λ_ _ z=>by cases z);exact NP (Dl.mono ex i) k (Qa.mono ex _ _ B)⟩
         exact h _ _ _ t.1 t.2 (Qa.mono t.1 _ _ B)
        ·rw[g]at e;cases e
      ·rw[ka o]at h;exact h.elim
     |va O=>simp only[b]at h;exact h.elim
     |Ld c fs=>simp only[b]at h;exact h.elim
     |Xf _=>simp only[b]at h;exact h.elim
     |rl _=>simp only[b]at h;exact h.elim
  |_::_::_::_=>exact h.elim
 |_=>exact h.elim
end
def Ww(a:nb)(x:D):List D->Option (List Bool)
 |[]=>some []
 |y::c=>match yj a 7 y x,Ww a x c with
  |some b,some bs=>some (b::bs)
  |_,_=>none
def EC(a:Bool)(x y:D):M D:=λb=>match zk b y with
 |some xs=>(match Ww b x xs with
  |some bs=>.ok (.bl (if a then !(bs.any id)else bs.any id)) b
  |none=>.Xb)
 |none=>.Xb
theorem WP{c:nb}{x:D}:∀ {xs:List D} {bs:List Bool},Ww c x xs=some bs->bs.length=xs.length/\∀ (j:Nat) (d:D) (b:Bool),xs[j]?=some d->bs[j]?=some b->yj c 7 d x=some b
 |[],bs,h=>by cases h;exact⟨rfl,λj d b h=>by simp at h⟩
 |y::m,bs,h=>by
  unfold Ww at h;cases a:yj c 7 y x with
  |none=>rw[a]at h;cases h
  |some n=>
   cases e:Ww c x m with
   |none=>rw[a,e]at h;cases h
   |some i=>
    rw[a,e]at h;cases h;obtain⟨k,l⟩:=WP e;refine⟨by simp[k],λj d b g f=>?_⟩;cases j with
    |zero=>simp at g f;subst g;subst f;exact a
    |succ j=>exact l j d b (by simpa using g) (by simpa using f)
open Classical in
def Mu(a:List Value)(b:List Bool)(u:Value):Bool:=decide (∃ j:Nat,a[j]?=some u/\b[j]?=some true)
theorem yI:Mu a b u=true ↔ ∃ j:Nat,a[j]?=some u/\b[j]?=some true:=by unfold Mu;exact @decide_eq_true_iff _ (Classical.propDecidable _)
theorem rS{a:List Value}(k:c.length=a.length):a.toArray.any (Mu a c)=c.any id:=by
 rw[show a.toArray.any (Mu a c)=a.any (Mu a c) by simp,Bool.eq_iff_iff,yh,yh];constructor
 ·rintro ⟨u,_,i⟩;obtain⟨j,_,h⟩:=yI.mp i;exact⟨true,Oa h,rfl⟩
 ·rintro ⟨b,d,g⟩;cases (g);obtain⟨j,f,h⟩:=Fu d;have e:j<a.length:=by omega
  exact⟨a[j],Yn e,yI.mpr ⟨j,by simp,by simp[f,h]⟩⟩
theorem cY(m:c.length=a.length)(h:∀ (j:Nat) (u:Value) (b:Bool),a[j]?=some u->c[j]?=some b->ae A s u x b)(w:Value)(l:w∈a):ae A s w x (Mu a c w):=by
 cases e:Mu a c w with
 |true=>obtain⟨j,g,i⟩:=yI.mp e;exact h j w true g i
 |false=>
  obtain⟨j,f,rfl⟩:=Fu l;have d:j<c.length:=by omega
  have k:c[j]=false:=by
   cases q:c[j]with
   |false=>rfl
   |true=>exact absurd (yI.mpr ⟨j,Qc f,by rw[Qc d,q]⟩) (by rw[e];decide)
  exact h j _ false (Qc f) (by rw[Qc d,k])
section
variable{T:Tb}{X:Cx}
theorem õ(J:T.K=X.K)(W:X.A.units+9<cLine)(I:lb X l S H s)(r:Xd T t H B)(M:Qa T t H x v)(N:Qa T t H y u)(P:Qd v m)(O:Qd u o)
  {xs:List D} (e:zk B y=some xs) (G:Ww B x xs=some a) :
  (Q (.bool (a.any id)) s->wpAny (model X.prog X.w) X.A (Ub .In m o) Q X.xe s)/\(Q (.bool (!a.any id)) s->wpAny (model X.prog X.w) X.A (Ub .NotIn m o) Q X.xe s):=by
 obtain⟨p,U,rfl,C,f⟩:=wz r N e;rw[J]at f;obtain⟨Y,L⟩:=WP G;cases O;have i:∀ {its:List Value},Se U its->(a.length=its.length/\∀ w∈its,ae X.A.in1 s w m (Mu its a w)):=fun {its} q=>by
  have l1:=C.length;have l2:=q.length;have g:a.length=its.length:=by omega
  refine⟨g,cY g λj w b c n=>?_⟩;obtain⟨z,E,R⟩:=iI q c;obtain⟨d,F,rd⟩:=CJ C E;exact jI I r 7 X.A.in1 d x z v w m b (by show X.A.units+1+7+1<cLine;omega) rd M R P (L j d b F n)
 rcases f with f|f
 ·obtain⟨its,q,pl,_⟩:=L2.lb.list I f;obtain⟨g,k⟩:=i q;refine⟨λh=>Tw (Mu its a) pl.isList (λw c=>k w (by simpa using c)) ?_,λh=>Du (Mu its a) pl.isList (λw c=>k w (by simpa using c)) ?_⟩<;>rw[rS g]<;>exact h
 ·obtain⟨its,q,pl,_⟩:=L2.lb.tuple I f;obtain⟨g,k⟩:=i q;refine⟨λh=>ew (Mu its a) pl (λw c=>k w (by simpa using c)) ?_,λh=>Wt (Mu its a) pl (λw c=>k w (by simpa using c)) ?_⟩<;>rw[rS g]<;>exact h
theorem UY(f:T.K=X.K)(g:X.A.units+9<cLine):di X (Ub .In) (rD T (EC false)):=by
 intro c s m H v u o n Q I l k h;obtain⟨E,p,d,x,y,r,i,j,a⟩:=h;unfold EC at a;cases e:zk d y with
 |none=>rw[e]at a;exact a.elim
 |some xs=>
  rw[e]at a;dsimp only at a;cases b:Ww d x xs with
  |none=>rw[b]at a;exact a.elim
  |some bs=>
   rw[b]at a;exact(õ f g I r i j l k e b).1 ⟨.bl (bs.any id),H,I,rfl,nc.here a r (by rw[Qa];rfl)⟩
end
section
variable{T:Tb}{X:Cx}
end
section
variable{T:Tb}{X:Cx}{tg iter:Ua}{f:Ev->M D}
end
section
variable{T:Tb}{X:Cx}{o e:Ua}{es:List Ua}{f:Ev->M D}{fs:Ev->M (List D)}{name:Str}{apos cpos:Ve}{id:String}{r:V->List V->Hp->VK->Prop}{g:D->List D->M D}
end
noncomputable def Kr:Ev->M Fl:=λ_ _=>.Xb
section
variable{X:Cx}{pins:List (Addr × Vc)}{σ:St}{H:Hp}{s:aa}{h':Heap}
theorem DE(e:H b=some u)(n:H a=none):b≠a:=λz=>by rw[z,n]at e;cases e
theorem _root_.L2.lb.Cv{its:List Addr}(I:lb X pins σ H s)(k:∀ b u,b ∉ its->s.heap.get? b=some u->h'.get? b=some u)(h:∀ b∈its,xn X pins H b)(j:s.heap.objs.size<=p)(i:ak X.prog X.w (rc H p o) h' p o) :
  lb X pins σ (rc H p o) { s with heap:=h',toks:=t' }:=by
 have d:=I.zd.fresh j;have f:∀ b u,H b=some u->b ∉ its:=λb u e z=>by rw[(h b z).1]at e;cases e
 refine I.step (λb g=>?_) (λb o _ _ a e _=>k b o a e) (λb o _ _ a e _=>⟨o.slots,k b o a e⟩) (λb u _ q n=>by rw[me (Sa (Xa (Ba q) j))];exact n)
  (λb o a e=>⟨o,k b o a e⟩) (λb xs q=>by rw[me (DE q d)];exact q) (λb u xs q=>by rw[me (DE q d)];exact q) (λb G q=>⟨#[],by rw[me (DE q d),q];simp⟩) (λm C=>?_) (λb u e=>?_) I.bare
 ·obtain⟨E,x,F,y,A,B⟩:=h b g;exact⟨y,x,A,B⟩
 ·obtain⟨o,t,l,D,r⟩:=C;exact⟨o,t,l,k _ o (λz=>(h _ z).2.1 rfl) D,r⟩
 ·by_cases g:b=p
  ·subst g;rw[Mh]at e;cases e;exact i
  ·rw[me g]at e;refine(I.zd b u e).Uk (λc v a q=>k c v ?_ q) (λc q=>by rw[me (DE q d)];exact q) λc xs q=>by rw[me (DE q d)];exact q
   rcases a with z|z
   ·rw[z];exact f b u e
   ·exact f c _ z
theorem _root_.L2.lb.Uv{its:List Addr}(I:lb X pins σ H s)(k:∀ b u,b ∉ its->s.heap.get? b=some u->h'.get? b=some u)(f:∀ b∈its,xn X pins H b):lb X pins σ H { s with heap:=h',toks:=t' }:=by
 have d:∀ b u,H b=some u->b ∉ its:=λb u e z=>by rw[(f b z).1]at e;cases e
 refine I.step (λb t=>?_) (λb o _ _ a e _=>k b o a e) (λb o _ _ a e _=>⟨o.slots,k b o a e⟩) (λb u _ q n=>n)
  (λb o a e=>⟨o,k b o a e⟩) (λb xs q=>q) (λb u xs q=>q) (λb B q=>⟨#[],by rw[q];simp⟩) (λm w=>?_) (λb u e=>?_) I.bare
 ·obtain⟨y,i,A,j,l,p⟩:=f b t;exact⟨j,i,l,p⟩
 ·obtain⟨o,h,g,x,r⟩:=w;exact⟨o,h,g,k _ o (λz=>(f _ z).2.1 rfl) x,r⟩
 ·refine(I.zd b u e).Uk (λc v a q=>k c v ?_ q) (λ_ q=>q) λ_ _ q=>q;rcases a with z|z
  ·rw[z];exact d b u e
  ·exact d c _ z
end
theorem kq{h:Heap}(e:h.get? a=some o)(f:h.get? b=some i)(c:o.cls=.type n)(d:i.cls=.type g)(j:n≠g):a≠b:=λz=>by
 subst z;rw[e]at f;cases f;rw[c]at d;injection d with q;exact j q
def EQ(K:W.Frag)(l:Addr):It:=
 ⟨λi H=>∃ xs x,Rf K H l xs/\xs[i]?=some x,λi H v a=>∃ p x,H p=none/\v=.ref p/\(∀ xs,Rf K H l xs->xs[i]?=some x)/\a=rc H p (.Ga [.int i,x]),λi H=>∃ xs,Rf K H l xs/\i=xs.length⟩
def mR(K:W.Frag)(l m:Addr):It:=
 ⟨λi H=>∃ xs a x y,Rf K H l xs/\Rf K H m a/\xs[i]?=some x/\a[i]?=some y,λi H v b=>∃ p x y,H p=none/\v=.ref p/\(∀ xs,Rf K H l xs->xs[i]?=some x)/\(∀ a,Rf K H m a->a[i]?=some y)/\b=rc H p (.Ga [x,y]),
  λi H=>∃ xs a,Rf K H l xs/\Rf K H m a/\i=min xs.length a.length⟩
theorem y3{P:Ca}{w:Ya}{K:PySem.W.Frag}{j:List Ua}{kk:Nat}{G:Ve}(l e r:Addr):cr P w K (.Tuple j kk G) (EQ K l) [e,r] e (λi h=>(∃ a,IsEnum h e r i a)/\h.IsListIter r l i) where
 mem:=by simp
 obj:=λi h g b f=>by
  obtain⟨⟨a,s1⟩,o,s2,c,d⟩:=g;simp only[Na,He,Wn]at f;rcases f with rfl|rfl
  ·exact⟨_,s1,λv z=>by cases z⟩
  ·exact⟨o,s2,λv z=>by rw[d]at z;cases z⟩
 keep:=λi h h' g k=>by
  obtain⟨⟨a,s1⟩,s2⟩:=g;exact⟨⟨a,k e (by simp) _ s1⟩,s2.at λo q=>k r (by simp) o q⟩
 item:=by
  intro X R Y O U i F s σ H E I L g V;subst R Y O;obtain⟨xs,x,M,Z⟩:=V;obtain⟨its,rv,p,hz⟩:=I.list M;obtain⟨u,hu,ru⟩:=rv.get Z;obtain⟨⟨a,s1⟩,s2⟩:=g;obtain⟨oa,ea,ca,_⟩:=id p.isList;obtain⟨ob,J,cb,_⟩:=id s2;have a1:l≠e:=kq ea s1 ca rfl (by decide);have a2:l≠r:=kq ea J ca cb (by decide);have a0:e≠r:=kq s1 J rfl cb (by decide);have W:=WalksT.enumerate (prog:=X.prog) (w:=X.w) (I.ok.hd U) e r l a0 a1 a2 its.toArray;have hi:i<its.toArray.size:=by
   have:=(la.mp hu).1;simpa using this
  refine W.item i s _ E hi ⟨⟨a,s1⟩,s2,p.isList⟩ λT a3 h' tk S hT B m hk=>?_;obtain⟨t,y,N,rfl⟩:=S;have ey:y=u:=by
   have:its.toArray[i]?=some u:=by simpa using hu
   rw[this]at N;cases N;rfl
  subst ey;refine⟨.ref T,rfl,W.go j kk G i T { s with heap:=h',toks:=tk } _ E m λh2 hS D=>?_⟩;have C:=W.apart i T h' m;have n:h2.IsTuple T #[.int i t,y]:=by
   obtain⟨o,e1,c1⟩:=B;exact⟨o,D T o C e1,c1⟩
  have hn:H T=none:=I.zd.fresh hT;refine⟨.ref T,rc H T (.Ga [.int i,x]),I.Cv (λb o f q=>D b o f (hk b o f q)) L hT ?_,rfl,⟨T,x,hn,rfl,λys N=>by rw[I.Wk N M];exact Z,rfl⟩,⟨hS.1,hS.2.1⟩,λb f=>?_⟩
  ·exact⟨(show 2<=sizeLine by decide),[.int i t,y],.cons ⟨t,rfl⟩ (.cons ru .nil),n⟩
  ·rw[me (λz=>C (by rw[<-z];exact f))];exact(L b f).1
 done:=by
  intro X R Y O U i F s σ H E I L g V;subst R Y O;obtain⟨xs,M,Z⟩:=V;obtain⟨its,rv,p,hz⟩:=I.list M;obtain⟨⟨a,s1⟩,s2⟩:=g;have hl:=rv.length;exact wpAny_pyNext_enum_end (I.ok.hd U) s1 s2 p.isList (by simp;omega) λh' J=>⟨rfl,I.Uv (λb o f q=>J b o (λz=>f (by simp[z])) q) L⟩
 self:=λA i s Q E g h=>by
  obtain⟨⟨a,s1⟩,s2⟩:=g;exact YB s1 h
theorem BR{l m z TI TO r s:Addr}{xs C:Array Value}(t:TI≠TO)(u:r≠s)(x:h.IsList l xs)(y:h.IsList m C)(s1:IsZip h z TI TO f)(s2:UN h TI a b)(k:UN h TO c d)(A:h.IsListIter r l v)(B:h.IsListIter s m w):ZipApart z TI TO r s l m:=by
 obtain⟨D,p,n,_⟩:=x;obtain⟨E,q,o,_⟩:=y;obtain⟨F,i,e,_⟩:=A;obtain⟨G,j,g,_⟩:=B;exact⟨kq s2 s1 rfl rfl (by decide),kq k s1 rfl rfl (by decide),kq i s1 e rfl (by decide),kq j s1 g rfl (by decide),t,kq s2 i rfl e (by decide),kq s2 j rfl g (by decide),kq k i rfl e (by decide),kq k j rfl g (by decide),u,
  kq p s1 n rfl (by decide),kq p k n rfl (by decide),kq p i n e (by decide),kq p j n g (by decide),kq q s1 o rfl (by decide),kq q k o rfl (by decide),kq q i o e (by decide),kq q j o g (by decide)⟩
theorem oZ{P:Ca}{w:Ya}{K:PySem.W.Frag}{F:List Ua}{kk:Nat}{a1:Ve}(l m z TI TO f g:Addr)(d1:TI≠TO)(d2:f≠g) :
  cr P w K (.Tuple F kk a1) (mR K l m) [z,TI,TO,f,g] z (λi h=>IsZip h z TI TO .none/\UN h TI (.ref f) (.ref g)/\(∃ a b,UN h TO a b)/\h.IsListIter f l i/\h.IsListIter g m i) where
 mem:=by simp
 obj:=λi h B b e=>by
  obtain⟨s1,s2,⟨a,c,j⟩,⟨o4,n,c4,d4⟩,⟨o5,r,c5,d5⟩⟩:=B;simp only[Na,He,Wn]at e;rcases e with rfl|rfl|rfl|rfl|rfl
  ·exact⟨_,s1,λv z=>by cases z⟩
  ·exact⟨_,s2,λv z=>by cases z⟩
  ·exact⟨_,j,λv z=>by cases z⟩
  ·exact⟨o4,n,λv z=>by rw[d4]at z;cases z⟩
  ·exact⟨o5,r,λv z=>by rw[d5]at z;cases z⟩
 keep:=λi h h' B k=>by
  obtain⟨s1,s2,⟨a,c,j⟩,n,r⟩:=B;exact⟨k z (by simp) _ s1,k TI (by simp) _ s2,⟨a,c,k TO (by simp) _ j⟩,n.at λo q=>k f (by simp) o q,r.at λo q=>k g (by simp) o q⟩
 item:=by
  intro X hP hw hK hc i a0 s σ H E I hf B hg;subst hP hw hK;obtain⟨xs,ys,x,y,hq,t,hx,hy⟩:=hg;obtain⟨its,rv,p,Y⟩:=I.list hq;obtain⟨d,L,Z,a4⟩:=I.list t;obtain⟨u,hu,ru⟩:=rv.get hx;obtain⟨u2,S,a6⟩:=L.get hy;obtain⟨s1,s2,⟨a,c,j⟩,n,r⟩:=B;have D:=BR d1 d2 p.isList Z.isList s1 s2 j n r;have W:=AA (prog:=X.prog) (w:=X.w) (I.ok.hd hc) z TI TO f g l m D its.toArray d.toArray;have hi:i<min its.toArray.size d.toArray.size:=by
   have h1:=(la.mp hu).1;have h2:=(la.mp S).1;simp;omega
  refine W.item i s _ E hi ⟨s1,s2,⟨a,c,j⟩,n,r,p.isList,Z.isList⟩ λT a7 h' tk a2 hT N G hk=>?_;obtain⟨v1,v2,U,V,rfl⟩:=a2;have e1:v1=u:=by
   have:its.toArray[i]?=some u:=by simpa using hu
   rw[this]at U;cases U;rfl
  have e2:v2=u2:=by
   have:d.toArray[i]?=some u2:=by simpa using S
   rw[this]at V;cases V;rfl
  subst e1;subst e2;refine⟨.ref T,rfl,W.go F kk a1 i T { s with heap:=h',toks:=tk } _ E G λh2 M O=>?_⟩;have a3:=W.apart i T h' G;have J:h2.IsTuple T #[v1,v2]:=by
   obtain⟨o,e1,c1⟩:=N;exact⟨o,O T o a3 e1,c1⟩
  have hn:H T=none:=I.zd.fresh hT;have C:∀ b,b ∉ [z,TI,TO,f,g]->b ∉ [z,TO,f,g]:=λb e R=>e (by simp at R ⊢;rcases R with h|h|h|h<;>simp[h]);have a5:∀ b∈[z,TI,TO,f,g],b<s.heap.objs.size:=λb e=>by
   simp only[Na,He,Wn]at e;rcases e with rfl|rfl|rfl|rfl|rfl
   ·exact Ba s1
   ·exact Ba s2
   ·exact Ba j
   ·obtain⟨o,q,_⟩:=n;exact Ba q
   ·obtain⟨o,q,_⟩:=r;exact Ba q
  refine⟨.ref T,rc H T (.Ga [x,y]),I.Cv (λb o e q=>O b o (C b e) (hk b o (C b e) q)) hf hT ?_,rfl,⟨T,x,y,hn,rfl,λzs Y=>by rw[I.Wk Y hq];exact hx,λzs Y=>by rw[I.Wk Y t];exact hy,rfl⟩,⟨M.1,M.2.1,M.2.2.1,M.2.2.2.1,M.2.2.2.2.1⟩,λb e=>?_⟩
  ·exact⟨(show (2:Nat)<=sizeLine by decide),[v1,v2],.cons ru (.cons a6 .nil),J⟩
  ·rw[me (Sa (Xa (a5 b e) hT))];exact(hf b e).1
 done:=by
  intro X hP hw hK hc i a0 s σ H E I hf B hg;subst hP hw hK;obtain⟨xs,ys,hq,t,hx⟩:=hg;obtain⟨its,rv,p,Y⟩:=I.list hq;obtain⟨d,L,Z,a4⟩:=I.list t;obtain⟨s1,s2,⟨a,c,j⟩,n,r⟩:=B;have D:=BR d1 d2 p.isList Z.isList s1 s2 j n r;have W:=AA (prog:=X.prog) (w:=X.w) (A:=X.A) (I.ok.hd hc) z TI TO f g l m D its.toArray d.toArray;have hl:=rv.length;have a8:=L.length;have ei:i=min its.toArray.size d.toArray.size:=by simp;omega
  subst ei;have C:∀ b,b ∉ [z,TI,TO,f,g]->b ∉ [z,TO,f,g]:=λb e R=>e (by simp at R ⊢;rcases R with h|h|h|h<;>simp[h]);exact W.done s _ E ⟨s1,s2,⟨a,c,j⟩,n,r,p.isList,Z.isList⟩ λh' tk hk=>⟨rfl,I.Uv (t':=tk) (λb o e q=>hk b o (C b e) q) hf⟩
 self:=λA i s Q E B h=>qF B.1 h
abbrev NX:=Nat->nb->Option (Option D)
def FB(T:Tb)(c:List Addr)(f:Hp)(nx:NX)(J:It):Prop:=∀ a H e i,we c f a H->Xd T a H e->match nx i e with
 |none=>True
 |some none=>J.stop i H
 |some (some d)=>J.go i H/\∀ x b,J.JA i H x b->we a H a b/\Xd T a b e/\Qa T a b d x
def T3(T:Tb)(X:Cx)(f:Ev->M NX):TI:=λb H R=>∃ a c d,ji T a H c b/\Xd T a H d/\nc T (XE X b) (FB T) a H (f c d) R
abbrev zy(T:Tb)(X:Cx)(b a:Ua)(f:Ev->M NX):Prop:=PI X b a (T3 T X f)
def Ur(nx:NX)(e:D->Ev->Option Ev)(a:Ev->M Fl):Nat->Nat->Ev->M Fl
 |0,_,_=>Xb
 |k+1,i,f=>λc=>match nx i c with
  |none=>.Xb
  |some none=>.ok (.nx f) c
  |some (some d)=>match e d f with
   |none=>.Xb
   |some b=>Pd (a b) (Nw (Ur nx e a k (i+1))) c
def wJ(b:D->Ev->Option Ev)(a:Ev->M Fl)(c:Ev)(nx:NX):M Fl:=Ur nx b a 1001 0 c
def Lw(b:Ev->M NX)(d:D->Ev->Option Ev)(a:Ev->M Fl):Ev->M Fl:=λc=>xs c (b c) (wJ d a c)
section
variable{T:Tb}{X:Cx}{tgt iter:Ua}{body:List Stmt}{src:Ev->M NX}{t:D->Ev->Option Ev}{g:Ev->M Fl}{pos:Ve}
theorem lC(M:Kq (model X.prog X.w) X.A X.env X.xe)(hc:X.Aa=true)(hi:zy T X tgt iter src)(hg:FG T X tgt t)(hb:ym T X body g)
  (hs:∀ x,Ah iter X.env x=pure x:=by intro _;rfl):FS T X (.For tgt iter body [] pos) (Lw src t g):=by
 intro v s st H D I hq;refine qU M hc hi hg hb hs v s st H D I ?_;obtain⟨b,e,q,F,hr,M⟩:=hq;refine⟨b,e,q,F,hr,M.xs F λnx R n J U _ Z r1 q1 p1=>?_⟩;have O:=p1;refine⟨λi m k r=>∃ b e q,we n U b r/\ji T b r e k/\Xd T b r q/\nc T EN (Fn T) b r (Ur nx t g m i e q) (Dm X D),⟨1001,n,e,R,we.refl _ _,F.mono Z,r1,O⟩,?_⟩;rintro i m k r ⟨p,z,c,ex,u,V,a⟩;cases m with
 |zero=>exact a.elim
 |succ m=>
  unfold Ur at a;have C:=q1 p r c i ex V;cases E:nx i c with
  |none=>simp only[E]at a;exact a.elim
  |some o=>
   cases o with
   |none=>
    simp only[E]at a C;exact .inl ⟨C,nc.here (g:=Sr.nx k) a V u⟩
   |some d=>
    simp only[E]at a C;obtain⟨L,hy⟩:=C;refine .inr ⟨L,λl f=>∃ b e q,we n U b f/\ji T b f e l/\Xd T b f q/\nc T EN (Fn T) b f (Ur nx t g m (i+1) e q) (Dm X D),λl f h=>⟨m,Ed _,h⟩,λx f y=>?_⟩;obtain⟨j,W,hx⟩:=hy x f y;cases N:t d z with
    |none=>simp only[N]at a;exact a.elim
    |some B=>
     simp only[N]at a;exact⟨p,c,z,d,B,u.mono j,W,hx,N,λl G=>⟨p,B,c,G,W,(nc.mono j a).bind λfl S P gl H4 _ e4 Y q4 p4=>xM Y q4 p4 λQ a0 K p5=>⟨P,Q,S,(ex.trans j).trans e4,K,Y,p5⟩⟩⟩
end
def px(a:D):NX:=λi b=>match pi b a with
 |some xs=>(match xs[i]? with
  |some x=>some (some (.Ga [.int (i:Int),x]))
  |none=>if i=xs.length then some none else none)
 |none=>none
def TL(a b:D):NX:=λi d=>match pi d a with
 |some xs=>(match pi d b with
  |some c=>(match xs[i]? with
   |some x=>(match c[i]? with
    |some y=>some (some (.Ga [x,y]))
    |none=>if i=min xs.length c.length then some none else none)
   |none=>if i=min xs.length c.length then some none else none)
  |none=>none)
 |none=>none
def jB(d:D):M NX:=λa=>match pi a d with
 |some _=>.ok (px d) a
 |none=>.Xb
def IK(f:Ev->M D):Ev->M NX:=λa=>Pd (f a) jB
def qN(a b:D):M NX:=λc=>match pi c a with
 |some _=>(match pi c b with
  |some _=>.ok (TL a b) c
  |none=>.Xb)
 |none=>.Xb
def wT(m:M D)(a:D):M NX:=Pd m (qN a)
def uH(f g:Ev->M D):Ev->M NX:=λa=>Pd (f a) (wT (g a))
section
variable{T:Tb}{X:Cx}{elts:List Ua}{kk:Nat}{p0 p pos:Ve}{f g:Ev->M D}
theorem xX:bootBuiltins "enumerate" = some (.type "enumerate"):=by decide +kernel
theorem xZ:bootBuiltins "zip" = some (.type "zip"):=by decide +kernel
def ZZ(K:W.Frag)(b:TA):TI:=λd H R=>b d H λc a=>∃ l xs,c=[.ref l]/\Rf K a l xs/\R (EQ K l) a
theorem T0(o:Gl X "enumerate")(t:X.mg "enumerate" = none)(n:PA X [a] j)(v:ua [a] X.env=[(false,vc a X.env)]:=by rfl):PI X (.Tuple elts kk p0) (.Call (.Name "enumerate" p) [a] [] pos) (ZZ X.K j):=by
 intro d s z H R I h;refine Call_ (ly I o t xX (Hf (Je (n pos d s z H _ I h) λus s1 ⟨D,H1,f,x,w⟩=>?_) v rfl));obtain⟨l,xs,e,u,q⟩:=w;subst e;cases x with
 |cons r y=>
  cases y;cases r;obtain⟨its,C,pl,B⟩:=f.list u;refine call_enumerate_list pl.isList λh' g k A m=>YB g ?_;refine⟨s1.heap.objs.size+1,[s1.heap.objs.size+1,s1.heap.objs.size],_,_,H1,rfl,f.kept m,y3 l _ _,⟨⟨_,g⟩,k⟩,λb i=>?_,q⟩;have c:s1.heap.objs.size<=b:=by simp at i;rcases i with rfl|rfl<;>omega
  exact f.qr c (f.zd.fresh c)
theorem ŵ(N:Gl X "enumerate")(O:X.mg "enumerate" = none)(h:FE T X e f)(w:ua [e] X.env=[(false,vc e X.env)]:=by rfl):zy T X (.Tuple elts kk p0) (.Call (.Name "enumerate" p) [e] [] pos) (IK f):=by
 intro k s V H R I S;refine T0 N O (sx h Zz w) w k s V H R I ?_;obtain⟨Y,ρ,σ,M,Q,P⟩:=S;refine⟨Y,ρ,σ,M,Q,P.bind λd r Z v H1 _ e1 C B j=>?_⟩;unfold jB at j;cases m:pi r d with
 |none=>rw[m]at j;exact j.elim
 |some ds=>
  rw[m]at j;obtain⟨l,W,rfl,J,h2⟩:=C.ls B m;refine⟨l,W,rfl,Rf.of J,nc.here j C λa0 E t i ex D=>?_⟩;unfold px;cases n:pi t d with
  |none=>trivial
  |some xs=>
   obtain⟨l',ws,F,L,u⟩:=D.ls (Qa.mono ex _ _ B) n;cases F;have b:Rf X.K E l ws:=Rf.of L;dsimp only;cases G:xs[i]? with
   |none=>
    by_cases o:i=xs.length
    ·rw[ja o];exact⟨ws,b,by rw[o];exact u.length⟩
    ·rw[ka o];trivial
   |some d'=>
    obtain⟨x,A,U⟩:=u.get G;refine⟨⟨ws,x,b,A⟩,λz H' y=>?_⟩;obtain⟨q,x',a,rfl,c,rfl⟩:=y;have g:=c ws b;rw[A]at g;cases g;refine⟨vm a,D.fresh a,?_⟩;exact⟨q,_,rfl,Mh,Jb.cons (by rw[Qa]) (Jb.cons (Qa.mono (vm a) _ _ U) Jb.nil)⟩
def V6(K:W.Frag)(b:TA):TI:=λe H R=>b e H λc a=>∃ l m xs d,c=[.ref l,.ref m]/\Rf K a l xs/\Rf K a m d/\R (mR K l m) a
theorem Ź(B:Gl X "zip")(C:X.mg "zip" = none)(A:PA X [a,b] u)(E:ua [a,b] X.env=[(false,vc a X.env),(false,vc b X.env)]:=by rfl)(f:ua [b] X.env=[(false,vc b X.env)]:=by rfl):PI X (.Tuple elts kk p0) (.Call (.Name "zip" p) [a,b] [] pos) (V6 X.K u):=by
 intro g s N H R I h;refine Call_ (ly I B C xZ (Hf (Je (A pos g s N H _ I h) λus s1 ⟨S,H1,c,L,G⟩=>?_) (by rw[E,f]) (by rw[f];rfl)));obtain⟨l,m,xs,T,e,D,i,q⟩:=G;subst e;cases L with
 |cons r k=>
  cases k with
  |cons J k=>
   cases k;cases r;cases J;obtain⟨its,Q,pl,P⟩:=c.list D;obtain⟨t,M,j,F⟩:=c.list i;refine call_zip_2 pl.isList j.isList λh' n v w x y O z=>qF n ?_;refine⟨s1.heap.objs.size+4,[s1.heap.objs.size+4,s1.heap.objs.size+2,s1.heap.objs.size+3,s1.heap.objs.size,s1.heap.objs.size+1],_,_,H1,rfl,c.kept z,oZ l m (s1.heap.objs.size+4) (s1.heap.objs.size+2) (s1.heap.objs.size+3) s1.heap.objs.size (s1.heap.objs.size+1) (show (s1.heap.objs.size+2)≠s1.heap.objs.size+3 by omega) (show s1.heap.objs.size≠s1.heap.objs.size+1 by omega),⟨n,v,⟨_,_,w⟩,x,y⟩,λb o=>?_,q⟩;have d:s1.heap.objs.size<=b:=by simp at o;rcases o with rfl|rfl|rfl|rfl|rfl<;>omega
   exact c.qr d (c.zd.fresh d)
theorem Λ(hg:Gl X "zip")(hm:X.mg "zip" = none)(h:FE T X e f)(h':FE T X b g)(hs:ua [e,b] X.env=[(false,vc e X.env),(false,vc b X.env)]:=by rfl)(u:ua [b] X.env=[(false,vc b X.env)]:=by rfl) :
  zy T X (.Tuple elts kk p0) (.Call (.Name "zip" p) [e,b] [] pos) (uH f g):=by
 intro C s st H R I hw;refine Ź hg hm (sx h (sx h' Zz u) (by rw[hs,u])) hs u C s st H R I ?_;obtain⟨μ,ρ,σ,Z,hr,hp⟩:=hw;refine⟨μ,ρ,σ,Z,hr,hp.bind λd S Q v H1 _ e1 r1 q1 p1=>⟨Q,ρ,S,Z.mono e1,r1,p1.bind λV F a2 v2 H2 _ e2 N q2 n=>?_⟩⟩;unfold qN at n;cases L:pi F d with
 |none=>rw[L]at n;exact n.elim
 |some ds=>
  rw[L]at n;cases o:pi F V with
  |none=>rw[o]at n;exact n.elim
  |some a1=>
   rw[o]at n;have D:=Qa.mono e2 _ _ q1;obtain⟨l,vs,rfl,h1,h2⟩:=N.ls D L;obtain⟨m,ws,rfl,h3,h4⟩:=N.ls q2 o;refine⟨l,m,vs,ws,rfl,Rf.of h1,Rf.of h3,nc.here n N λa3 U G i ex O=>?_⟩;unfold TL;cases fl:pi G d with
   |none=>trivial
   |some xs=>
    obtain⟨l',E,b,h5,W⟩:=O.ls (Qa.mono ex _ _ D) fl;cases b;cases M:pi G V with
    |none=>trivial
    |some P=>
     obtain⟨m',a,b,h7,Y⟩:=O.ls (Qa.mono ex _ _ q2) M;cases b;have j:Rf X.K U l E:=Rf.of h5;have k:Rf X.K U m a:=Rf.of h7;have l1:=W.length;have l2:=Y.length;dsimp only;cases ei:xs[i]? with
     |none=>
      by_cases t:i=min xs.length P.length
      ·rw[ja t];exact⟨E,a,j,k,by rw[t,l1,l2]⟩
      ·rw[ka t];trivial
     |some d'=>
      cases J:P[i]? with
      |none=>
       by_cases t:i=min xs.length P.length
       ·rw[ja t];exact⟨E,a,j,k,by rw[t,l1,l2]⟩
       ·rw[ka t];trivial
      |some a0=>
       obtain⟨x,hx,rx⟩:=W.get ei;obtain⟨y,hy,ry⟩:=Y.get J;refine⟨⟨E,a,x,y,j,k,hx,hy⟩,λz H' yy=>?_⟩;obtain⟨q,x',y',c,rfl,w,r,rfl⟩:=yy;have A:=w E j;rw[hx]at A;cases A;have B:=r a k;rw[hy]at B;cases B;refine⟨vm c,O.fresh c,?_⟩;exact⟨q,_,rfl,Mh,Jb.cons (Qa.mono (vm c) _ _ rx) (Jb.cons (Qa.mono (vm c) _ _ ry) Jb.nil)⟩
end
open PySem.Builtin.Str (occurrences partsBetween subAt)
end L4
namespace L4
open PySem PySem.Spec PyProof.Rows L2
section
variable{T:Tb}{X:Cx}{a b c:Ua}{fa fb fc:Ev->M D}{pos:Ve}
end
def sJ(h:Ev)(c:Nat)(f:Str)(x:D)(a:Int)(y:D):M Fl:=λe=>match y with
 | .int b=>(match x with
  | .ref n=>(match e[n]? with
   |some (.Ld g d)=>if (g == c && decide (d.length<1000))=true then .ok (.nx h) (e.set n (.Ld c (Bo f (.int (a+b)) d)))else .Xb
   |_=>.Xb)
  |_=>.Xb)
 |_=>.Xb
def xz(b:Ev)(e:List Nat)(f:Str)(h:Ev->M D)(x:D):M Fl:=λd=>match Rl d x with
 |some (c,g)=>if e.contains c=true then (match g.lookup f with
  |some (.int a)=>xs b (h b) (sJ b c f x a) d
  |_=>.Xb)else .Xb
 |none=>.Xb
def kI(b:List Nat)(f:Str)(d c:Ev->M D):Ev->M Fl:=λa=>xs a (c a) (xz a b f d)
section
variable{T:Tb}{X:Cx}
theorem XS(hK:T.K=X.K)(hc:Ln T G f)(ho:FE T X o W)(hv:FE T X e Y):FS T X (.AugAssign (.Attribute o f A) .Add e O) (kI G f Y W):=by
 intro v s st H D I hq;refine zoq ho hv n9 v s st H D I ?_;obtain⟨μ,ρ,σ,t,hr,hp⟩:=hq;refine⟨μ,ρ,σ,t,hr,hp.xs t λx E R vo H1 _ J r1 q1 d=>?_⟩;unfold xz at d;cases L:Rl E x with
 |none=>rw[L]at d;exact d.elim
 |some p=>
  obtain⟨c,fs⟩:=p;rw[L]at d;dsimp only at d;by_cases l:G.contains c=true
  ·rw[ja l]at d;obtain⟨a,dx,vs,rfl,h1,h2⟩:=QB r1 q1 L;cases N:fs.lookup f with
   |none=>rw[N]at d;exact d.elim
   |some y=>
    rw[N]at d;cases y with
    |int i=>
     obtain⟨w,h3,h4⟩:=(UC h2).1 _ N;obtain⟨k1,k2⟩:=hc c l;rw[hK]at k1 k2;refine⟨a,_,dx,vs,w,rfl,h1,k1,k2,h3,R,ρ,E,t.mono J,r1,d.xs (t.mono J) λz S C vz U _ V r2 q2 b=>?_⟩;unfold sJ at b;cases z with
     |int j=>
      refine⟨i,j,pq h4,pq q2,?_⟩;have P:=Qa.mono V _ _ q1;cases x with
      |ref n=>
       dsimp only at b;cases k:S[n]? with
       |none=>rw[k]at b;exact b.elim
       |some ob=>
        rw[k]at b;cases ob with
        |va _=>exact b.elim
        |Bc _=>exact b.elim
        |Xf _=>exact b.elim
        |rl _=>exact b.elim
        |Ld F m=>
         dsimp only at b;by_cases g:(F == c && decide (m.length<1000))=true
         ·rw[ja g]at b;rw[La,jd,wh]at g;obtain⟨u,hl⟩:=g;subst u;obtain⟨a',ea,Z,h,B,q,r⟩:=r2.at P k;cases ea;have ex:we C U C (rc U a (.Ld (T.ca F) h (vp f (.int (i+j)) B))):=Gw (Oa Z) q (λ_ z=>by cases z) (λ_ _ z=>by cases z);have Q:=r2.write (ob:=.Ld F (Bo f (.int (i+j)) m)) Z ⟨h,_,Mh,OJ (by rw[Qa]) (zu.mono ex r)⟩;exact⟨h,B,q,by rw[<-r.length];exact hl,b _ (.nx st) _ Q.1 Q.2 ((t.mono J).mono V |>.mono Q.1)⟩
         ·rw[ka g]at b;exact b.elim
      |_=>exact b.elim
     |_=>exact b.elim
    |_=>exact d.elim
  ·rw[ka l]at d;exact d.elim
def xw(y x:D):M D:=λb=>match aq y with
 |some k=>(match Uj b x with
  |some a=>.ok (.bl (!(Zp a k).isSome)) b
  |none=>.Xb)
 |none=>.Xb
noncomputable def oV:R2:=λy x H Q=>∃ a o,x=.ref a/\Sj H a y o/\Q (.bl (!o.isSome)) H
theorem gO(f:X.A.units+9<cLine):di X (Ub .NotIn) oV:=by
 intro b s k H y x i u Q I e d h;obtain⟨a,o,rfl,g,q⟩:=h;obtain rfl:u=Nb a:=d;exact SZ (by omega) I g e λj c=>⟨.bl (!o.isSome),H,c,rfl,q⟩
theorem xR:zl T oV xw:=by
 intro E o H m y x u v Q r q p h;unfold xw at h;cases c:aq y with
 |none=>rw[c]at h;exact h.elim
 |some k=>
  rw[c]at h;cases b:Uj m x with
  |none=>rw[b]at h;exact h.elim
  |some j=>
   rw[b]at h;obtain⟨a,l,rfl,g,i⟩:=oz r p b;obtain rfl:=rB q c;refine⟨a,Dn l k,rfl,Sj.kr g,nc.here h r ?_⟩;rcases UA i k with⟨e,f⟩|⟨d,w,e,f,n⟩
   ·rw[e,f];rfl
   ·rw[e,f];rfl
def Pw(T:Tb)(P:Ca)(w:Ya)(g:Str->Option Value)(a:Heap)(k:Nat)(f:Addr)(b:List Str)(d:List Value)(e:List D->M D):Prop:=
 ∃ c,Ws T.K c b []/\Ws T.K c b d/\Yh P w T.K g a (Il P w) k f c b (uq T b.length e)
structure Nv(K:W.Frag)(C:Addr)(x qual:Str)(st:Stmt)(ps:List Str)(dv:List Value)(f:Addr):Prop where
 ex:∃ fd,(∃ (oc:Value) (od:Option Addr) (dV kV doc pm:Value) (an:Option Addr) (cdv ct:Value) (osl:Array (Option Value)),
  fd=W.fnOf x qual (qp st) (Kj st) (Pc st) dV kV doc pm an cdv ct/\K.lookup f=some ⟨oc,od,.func fd,osl⟩/\W.codeIn K cdv qual=true)/\Ws K fd ps []/\Ws K fd ps dv
end
section
variable{P:Ca}{w:Ya}{K:W.Frag}{mg:Str->Option Value}{base:Heap}{ca:Nat->Addr}{tx:Tx}
theorem Ŗ(h:Nv K C x a d i j f)(S:wa N i (Pc d))
  (o:∀ (b:Value) (A:Ta) (c:List nh) (s:aa) (H:Hp) (E:XK),Yd k (A.deeper (Ag a (Pc d) s.heap.objs.size f b))->ym ⟨K,ca,tx⟩ (Vp (Il P w) P w K mg base N a (Pc d) f b A c s H E) (Kj d) g) :
  Pw ⟨K,ca,tx⟩ P w mg base (k+1) f i j (Md N.length g):=by
 obtain⟨t,⟨u,v,r,kV,n,y,q,b,ct,p,rfl,lk,e⟩,l,m⟩:=h.ex;exact⟨_,l,m,NA lk e S (o b)⟩
theorem Pw.Cb(h:Pw T P w mg base k f c a b):Pw T P w mg base k f c a (L4.Cb b):=by rw[ms];exact h
theorem Pw.jc{T:Tb}{k:Nat}{f:Addr}{c:List Str}{a:List Value}{b:List D->M D}(h:Pw T P w mg base k f c a b):Pw T P w mg base k f c a (λd=>L4.jc (b d)):=by
 obtain⟨e,g,i,j⟩:=h;exact⟨e,g,i,HF j⟩
theorem Y8{B i w:Option Addr}{kV e j a ct:Value}
  (z:∀ (t:Addr) (kV e j:Value) (i:Option Addr) (a ct:Value) (s:aa) (o:Vc) (n:Nat) (h:List Value),s.heap.get? t=some o->o.data=.seq k.toArray n->((h++[]).length=p.length->Mg s (W.fnOf x b (qp g) (Kj g) (Pc g) (.ref t) kV e j i a ct) ⟨h,[]⟩ (p.zip (h++[])))/\
   ((h++k).length=p.length->Mg s (W.fnOf x b (qp g) (Kj g) (Pc g) (.ref t) kV e j i a ct) ⟨h,[]⟩ (p.zip (h++k))))
  (l:K.lookup f=some ⟨A,B,.func (W.fnOf x b (qp g) (Kj g) (Pc g) (.ref t) kV e j i a ct),m⟩)
  (c:W.codeIn K a b=true) (d:K.lookup t=some ⟨v,w,.seq k.toArray u,y⟩):Nv K C x b g p k f:=
 ⟨⟨_,⟨A,B,_,kV,e,j,i,a,ct,m,rfl,l,c⟩,λs h q r=>(z t kV e j i a ct s _ u h (q _ _ d) rfl).1 r,λs h q r=>(z t kV e j i a ct s _ u h (q _ _ d) rfl).2 r⟩⟩
end
section
variable{T:Tb}{X:Cx}
end
section
variable{T:Tb}{X:Cx}
end
noncomputable def Qw(a:List Nat)(b:Ev):Ev:=none::none::a.map λi=>(b[i]?).getD none
noncomputable def Dz(a:List Nat)(b:St):St:=none::none::a.map λi=>(b[i]?).getD none
theorem V7(a:List Nat)(h:ji T c H f b):ji T c H (Qw a f) (Dz a b):=by
 have q:=wQ a h;refine⟨by simp[Qw,Dz],λi d e=>?_⟩;cases i with
 |zero=>simp[Qw]at e
 |succ j=>exact q.2 j d e
section
variable{X:Cx}{pins:List (Addr × Vc)}{st:St}{H:Hp}{s:aa}{x z0:Str}{M':List Str}{ix:List Nat}{scope:Scope}{fp:List Addr}
theorem D2(I:lb X pins st H s)(L:yo X x M' ix scope)(r:∀ b∈fp,xn X pins H b/\b<s.heap.objs.size)(P:h'.Ns s.heap.objs.size m)
  (F:∀ b o,s.heap.get? b=some o->h'.get? b=some o) :
  lb (Iu X (x::z0::M') scope (gk X.env scope.names []) s.heap.objs.size s H fp) [] (Dz ix st) H { s with heap:=h',toks:=t' }:=by
 have f:∀ n c,(gk X.env scope.names []).lookup n=some c->X.env.cells.lookup n=some c:=λn c e=>HL X.env scope.names [] n c (λ_ _ q=>by simp at q) e;have w:H s.heap.objs.size=none:=I.zd.fresh (Ea _);refine⟨⟨I.ok.mod,L.kind,I.ok.glob,I.ok.blt,Ea _,λa b c t d=>I.ok.inj a b c (f a c t) (f b c d),λa ha=>?_,λa c h=>(by cases h),I.ok.hd,I.ok.frames,.inl rfl,λb A=>⟨Sa (r b A).2,λa c e=>?_⟩,λb o e=>I.bs b o e,Qb I.ok.Xs I.sz,λb o e A=>?_,λb A z=>?_,I.stack,I.vl⟩,
  rfl,I.bare,Un.kept F,⟨m,P,λi y v W G e3=>?_⟩,λa c e=>?_,w,λa c e=>I.Ug a c (f a c e),λp hp=>absurd (show p∈[]from hp) (by simp),I.zd.kept F,?_⟩
 ·
  have K:(scope.names.map λ(n,k)=>if (k == Ib && X.env.scope.kind == .function && X.env.kindOf n == some .cell)then (n,ud)else (n,k)).lookup a=some .cell\/(scope.names.map λ(n,k)=>if (k == Ib && X.env.scope.kind == .function && X.env.kindOf n == some .cell)then (n,ud)else (n,k)).lookup a=some .free:=ha;have T:scope.names.lookup a=some .free:=by
   rcases K with z|z
   ·obtain⟨k0,t,d⟩:=mM z;rcases d with d|⟨d,_⟩
    ·subst d;exact absurd rfl (WE L _ (zw t))
    ·rw[d]at t;exact t
   ·obtain⟨k0,t,d⟩:=mM z;rcases d with d|⟨_,d⟩
    ·rw[<-d]at t;exact t
    ·cases d
  exact AE X.env scope.names [] a (zw T) (Fz I L _ (zw T) rfl)
 ·exact(r b A).1.2.2.2.2.1 a c (f a c e)
 ·rcases(r b A).1.2.2.2.1 with z|z
  ·exact I.ok.vr b o e z
  ·exact absurd (Xa (Ba e) (Qb I.ok.Xs z)) (ge _)
 ·rcases Na.mp (I.Ys b z)with q|q
  ·exact(r b A).1.2.1 q
  ·exact(r b A).1.2.2.1 q
 ·
  cases i with
  |zero=>simp[Dz]at G
  |succ i=>
  cases i with
  |zero=>simp[Dz]at G
  |succ j=>
   have B:M'[j]?=some y:=W;have g:(ix.map λi=>(st[i]?).getD none)[j]?=some (some v):=G;rw[zb]at g;cases J:ix[j]? with
   |none=>rw[J]at g;cases g
   |some D=>
    rw[J]at g;have E:(st[D]?).getD none=some v:=Lb g;have Y:st[D]?=some (some v):=by
     cases q:st[D]? with
     |none=>rw[q]at E;cases E
     |some o=>rw[q]at E;exact yc some E
    have Z:X.N[D]?=some y:=by
     have z:=yc (λl=>l[j]?) L.at_;simp only[zb,J,B]at z;exact Lb z
    have q:=cc.mp L.aR y (Oa B);simp only[La,Kg]at q;have U:X.env.scope.names.lookup y=some .cell\/X.env.scope.names.lookup y=some .free:=by
     rcases q.1 with z|z
     ·exact .inl (eq_of_beq z)
     ·exact .inr (eq_of_beq z)
    have R:scope.names.lookup y=some .free:=eq_of_beq q.2;obtain⟨m0,a0,O⟩:=I.loc;obtain⟨u,ru,lu⟩:=O D y v Z Y (by rcases U with z|z;exact .inr (.inl z);exact .inr (.inr z));refine⟨u,ru,.inr ⟨xW (env:=X.env) R,?_⟩⟩;rcases lu with⟨z,_⟩|⟨_,c,ec,zc⟩
    ·rcases U with k|k
     ·rw[show X.env.kindOf y=X.env.scope.names.lookup y from rfl,k]at z;cases z
     ·rw[show X.env.kindOf y=X.env.scope.names.lookup y from rfl,k]at z;cases z
    ·obtain⟨V,C⟩:=AE X.env scope.names [] y (zw R) (Fz I L _ (zw R) rfl);have S:=f y V C;rw[ec]at S;cases S;obtain⟨o,Q,M⟩:=zc;exact⟨c,C,o,F _ _ Q,M⟩
 ·obtain⟨v,o,Q,M⟩:=I.cell a c (f a c e);exact⟨v,o,F _ _ Q,M⟩
 ·simp[Dz,Iu];have z:=yc List.length L.at_;simpa using z
end
section
variable{T:Tb}{X:Cx}
end
noncomputable def Jw(l:List Int):List Int:=l.mergeSort λa b=>decide (a<=b)
theorem OH(l:List Int):(Jw l).Perm l:=List.mergeSort_perm l _
theorem qT(l:List Int):(Jw l).Pairwise (·<=·):=by
 have:=List.pairwise_mergeSort (le:=λa b:Int=>decide (a<=b)) (λa b c d e=>by simp at *;omega) (λa b=>by simp;omega) l;exact this.imp λh=>by simpa using h
theorem zK:∀ {l m:List Int},l.Perm m->l.Pairwise (·<=·)->m.Pairwise (·<=·)->l=m
 |[],m,h,_,_=>by rw[List.nil_perm]at h;exact h.symm
 |a::l,[],h,_,_=>by have:=h.length_eq;simp at this
 |a::l,b::m,h,c,d=>by
  rw[List.pairwise_cons]at c d;have f:=h.subset Wa;have g:=h.symm.subset Wa;have e:a=b:=by
   rcases Na.mp f with e|f
   ·exact e
   ·rcases Na.mp g with e|g
    ·exact e.symm
    ·have:=c.1 b g;have:=d.1 a f;omega
  subst e;rw[zK (zaE h) c.2 d.2]
def eN(K:W.Frag):List V->Hp->VK->Prop:=λxs H Q=>∃ (p:Addr) (is:List Int),xs=[.ref p]/\Rf K H p (is.map V.int)/\is.length<64/\∀ l,H l=none->Q (.ref l) (rc H l (.va ((Jw is).map V.int)))
section
variable{T:Tb}{X:Cx}
theorem GX:tp X (.builtin "sorted") (eN X.K):=by
 intro f s z H xs y Q I r h;obtain⟨p,c,rfl,o,d,q⟩:=h;obtain⟨u,rfl,v⟩:=Iw r;cases v;obtain⟨its,g,pl,x⟩:=I.list o;have a:=g.length;rw[xb]at a;refine sorted_ints pl.isList (fQ g) (by omega) λb t i j k=>?_;obtain⟨e,m⟩:=sortedAll_at s.heap its b;have l:=zK (j.trans (OH c).symm) k (qT c);subst l;have n:=(OH c).length_eq;exact⟨.ref (s.heap.objs.size+1),_,I.laid (λ_ _=>sortedAll_old) (Xo _) (show ak X.prog X.w _ _ _ (.va ((Jw c).map V.int))from⟨by rw[xb,n];exact Qb (ug d) (by decide),b.toList,e,DD i,by rw[ut];exact m⟩),rfl,q _ (I.zd.fresh (Xo _))⟩
def mJ(xs:List D):M D:=λa=>match xs with
 |[x]=>(match pi a x with
  |some b=>(match Lu b with
   |some is=>if is.length<64 then zD ((Jw is).map D.int) a else .Xb
   |none=>.Xb)
  |none=>.Xb)
 |_=>.Xb
theorem cL{b:List Addr}{H:Hp}:∀ a:List Int,Jb T b H (a.map D.int) (a.map V.int)
 |[]=>Jb.nil
 |i::a=>Jb.cons (by rw[Qa]) (cL a)
theorem K1(n:T.K=X.K):Hs T (eN X.K) mJ:=by
 intro E s H m xs q Q r p h
 match xs with
 |[]=>exact h.elim
 |[x]=>
  obtain⟨v,w,rfl,j,d⟩:=p;rw[Jb]at d;subst d;unfold mJ at h;cases e:pi m x with
  |none=>simp only[e]at h;exact h.elim
  |some k=>
   simp only[e]at h;cases a:Lu k with
   |none=>simp only[a]at h;exact h.elim
   |some is=>
    simp only[a]at h;by_cases c:is.length<64
    ·rw[ja c]at h;obtain⟨b,o,rfl,f,g⟩:=r.ls j e;obtain rfl:=uG g a;exact⟨b,is,rfl,Rf.of f,c,λl i=>WF h r (cL _) i⟩
    ·rw[ka c]at h;exact h.elim
 |_::_::_=>exact h.elim
noncomputable def apart(n:Nat):D->Bool
 | .ref m=>!(m == n)
 |_=>true
end
theorem Ū:bootBuiltins "sorted" = some (.builtin "sorted"):=by decide +kernel
theorem CU:∀ {ks:List sd} {a:List Value},a.length=ks.length->(∀ (j:Nat) (v:Value) (k:sd),a[j]?=some v->ks[j]?=some k->Qd (kV k) v)->Se (ks.map kV) a
 |[],[],_,_=>.nil
 |[],_::_,h,_=>by simp at h
 |_::_,[],h,_=>by simp at h
 |k::ks,v::a,h,b=>.cons (b 0 v k rfl rfl) (CU (by simpa using h) λj v k c d=>b (j+1) v k c d)
theorem Ī(h:(tm P w).is k v=true):Qd (kV k) v:=by
 rcases nv h with⟨i,t,rfl,rfl⟩|⟨x,t,rfl,rfl⟩
 ·exact⟨t,rfl⟩
 ·exact⟨t,rfl⟩
theorem LR:∀ {a:List (sd × V)} {ws:List (sd × Value)},KV a ws->ws.map (·.1)=a.map (·.1)
 |[],_,h=>by cases h;rfl
 |p::a,_,h=>by
  cases h with
  |cons q h=>simp only[Ra];rw[LR h,q.1]
section
variable{T:Tb}{X:Cx}
def jD:sd->D
 | .inl i=>.int i
 | .inr x=>.str x
end
end L4
namespace L4
open PySem PySem.Spec PySem.Calls PySem.W PyProof.Rows PyProof.V
theorem X6
  (K:KdlSrc k w B r d n P v) (C:A.handled=none) (p:v s.heap) (D:n<=sizeLine)
  (Vg:∀ (h:Heap) (j:Nat) (a:Array Value),(∀ b o,s.heap.get? b=some o->h.get? b=some o)->s.heap.objs.size<=h.objs.size->ItemsOf P a n->R a.toList { s with heap:=h,toks:=j }) :
  wpAny (model k w) A (collect (.ref r)) R E s:=by
 have lt:=K.there _ p;let S:Addr:=s.heap.objs.size;let Z:DA->aa->Prop:=λq u=>∃ (h:Heap) (j:Nat) (a:Array Value) (c:Nat),q=.ok (.ret (.ref S))/\u={ s with heap:=h,toks:=j }/\(∀ b o,s.heap.get? b=some o->h.get? b=some o)/\
  h.get? S=some { cls:=.type "list",dict:=none,data:=.seq a c,slots:=#[] }/\ItemsOf P a n
 have i:∀ {h:Heap} {j c:Nat} {a:Array Value},(∀ b o,s.heap.get? b=some o->h.get? b=some o)->h.get? S=some { cls:=.type "list",dict:=none,data:=.seq a c,slots:=#[] }->ItemsOf P a n->R a.toList { s with heap:=h,toks:=j }:=
  λm g l=>Vg _ _ _ m (ug (Ba g)) l
 have t:(s.heap.push { cls:=.type "list",data:=.seq ([]:List Value).toArray }).get? S=some { cls:=.type "list",data:=.seq #[] }:=Bb _ rfl;have Md:=kdl_extend (A:=A) (s:={ s with heap:=s.heap.push { cls:=.type "list",data:=.seq ([]:List Value).toArray } }) (R:=Z) K C (K.keep _ _ p λb _ o e=>qa _ e) S (fh lt.1) (fh lt.2) (.ref S) 0 t
  (λh j a c m g l=>⟨h,j,a,c,rfl,rfl,λb o e=>m b o (Sa (Ba e)) (qa _ e),g,l⟩) D
 refine da (wpAny_runValue (Ci entry_proto_collect' ?_));refine da (Bf (ra ⟨Ij PySem.F.plain_list_iadd _,Ci entry_list_iadd' ?_⟩));refine Hc Md (λf u x=>?_) (λe u x=>by obtain⟨_,_,_,_,z,_⟩:=x;cases z);cases f with
 |done f=>
  obtain⟨h,j,a,c,e,rfl,m,g,l⟩:=x;cases e;exact da (vA g (ra (i m g l)))
 |again G=>
  refine⟨x.1,Oi x.2 λq s2 y=>?_⟩;obtain⟨h,j,a,c,rfl,rfl,m,g,l⟩:=y;exact da (vA g (ra (i m g l)))
end L4
namespace L4
open PySem PySem.Spec PyProof.Rows L2
def rM:List V->Hp->VK->Prop:=λxs H Q=>∃ (a:Addr) (b:List (sd × V)) (is:List Int),xs=[.ref a]/\Rd H a (.dK b)/\b.map (·.1)=is.map Sum.inl/\is.length<64/\∀ l,H l=none->Q (.ref l) (rc H l (.va ((Jw is).map V.int)))
theorem rQ:∀ {a:List Int} {b:List Value},Se ((a.map (Sum.inl:Int->sd)).map kV) b->Cm b a
 |[],_,h=>by cases h;exact .nil
 |i::a,_,h=>by
  cases h with
  |cons q h=>
   obtain⟨t,rfl⟩:=q;exact .cons i t (rQ h)
section
variable{T:Tb}{X:Cx}
theorem B7(hc:X.Aa=true):tp X (.builtin "sorted") rM:=by
 intro P s σ H xs us Q I r h;obtain⟨a,g,l,rfl,hH,n,t,q⟩:=h;obtain⟨u,rfl,rx⟩:=Iw r;cases rx;obtain⟨z,hd,ws,E,U⟩:=Lx I.zd hH;obtain⟨J,y⟩:=U.dictAt;have K:=LR E;have a4:ws.length=g.length:=by have:=yc List.length K;simpa using this
 have a0:g.length=l.length:=by have:=yc List.length n;simpa using this
 have M:ws.length<=sizeLine:=by omega
 refine Calls.call_function_entry kind_sorted plain_sorted entry_sorted (args_sorted1 _) ?_;unfold vw.«sorted»;refine da (m:=checkCount "sorted" 1 1 _) (ra ?_);refine da (X6 (A:=X.A.in1) (W.kdl_dict (knd:=tm X.prog X.w) (kvs:=ws) (ep:=J) hd) (I.ok.hd hc) y M λh' tk c O p d=>?_);have L:c.toList.length=ws.length:=by rw[Th];exact d.1
 have N:Se ((ws.map (·.1)).map kV) c.toList:=CU (by rw[xb];exact L) λj v k Y F=>by
  obtain⟨k',x,hx,B⟩:=d.2 j v (by rw[<-Array.getElem?_toList];exact Y);rw[zb,hx]at F;cases F;exact Ī B
 rw[K,n]at N;have hI:=rQ N;refine da (VW ?_ (by rw[L];exact M));have f:(h'.push (km "list" c.toList.toArray 0)).get? h'.objs.size=some (km "list" c.toList.toArray 0):=Bb _ rfl;refine da (Td (Iq slot_list_sort ⟨_,f,rfl⟩ entry_list_sort (list_sort_tree f hI (by omega) λi D R S T=>⟨_,rfl,?_⟩) (args_list_sort _)));refine ra ⟨_,rfl,?_⟩;have Z:D=Jw l:=zK (S.trans (OH l).symm) T (qT l);subst Z;have C:=(OH l).length_eq;obtain⟨e,he⟩:=sortedHeap_at (out:=i) f;exact⟨.ref h'.objs.size,_,I.laid (t':=tk) (λb o G=>by
  have lt:b<h'.objs.size:=Ba (O b o G);rw[sortedHeap_old (Sa lt) (by rw[size_push'];exact Vi lt)];exact qa _ (O b o G)) p (show ak X.prog X.w _ _ _ (.va ((Jw l).map V.int))from⟨by rw[xb,C];exact Qb (ug t) (by decide),i.toList,e,DD R,by rw[ut];exact he⟩),rfl,q _ (I.zd.fresh p)⟩
noncomputable def Ey:List (sd × D)->Option (List Int)
 |[]=>some []
 |(.inl i,_)::r=>(Ey r).map (i::·)
 |_::_=>none
theorem dU{c:List Addr}{H:Hp}:∀ {a:List (sd × D)} {us:List (sd × V)} {is:List Int},Dl T c H a us->Ey a=some is->us.map (·.1)=is.map Sum.inl
 |[],_,is,h,e=>by unfold Dl at h;cases h;cases e;rfl
 |(k,d)::a,_,is,h,e=>by
  cases h with
  |cons q h=>
   cases k with
   |inr x=>cases e
   |inl i=>
    unfold Ey at e;cases b:Ey a with
    |none=>rw[b]at e;cases e
    |some f=>
     rw[b]at e;cases e;simp only[Ra];rw[dU h b,<-q.1]
def wH(xs:List D):M D:=λb=>match xs with
 |[x]=>(match Uj b x with
  |some a=>(match Ey a with
   |some is=>if is.length<64 then zD ((Jw is).map D.int) b else .Xb
   |none=>.Xb)
  |none=>.Xb)
 |_=>.Xb
theorem Y1:Hs T rM wH:=by
 intro E q H n xs o Q r p h
 match xs with
 |[]=>exact h.elim
 |[x]=>
  obtain⟨v,w,rfl,k,f⟩:=p;rw[Jb]at f;subst f;unfold wH at h;cases e:Uj n x with
  |none=>simp only[e]at h;exact h.elim
  |some d=>
   simp only[e]at h;cases b:Ey d with
   |none=>simp only[b]at h;exact h.elim
   |some is=>
    simp only[b]at h;by_cases c:is.length<64
    ·rw[ja c]at h;obtain⟨a,m,rfl,g,i⟩:=oz r k e;exact⟨a,m,is,rfl,g,dU i b,c,λl j=>WF h r (cL _) j⟩
    ·rw[ka c]at h;exact h.elim
 |_::_::_=>exact h.elim
def yV(K:W.Frag):List V->Hp->VK->Prop:=λxs H Q=>eN K xs H Q\/rM xs H Q
theorem E2(d:X.Aa=true):tp X (.builtin "sorted") (yV X.K):=by
 intro a s c H xs b Q I r h;rcases h with h|h
 ·exact GX a s c H xs b Q I r h
 ·exact B7 d a s c H xs b Q I r h
def IA(xs:List D):M D:=λa=>match xs with
 |[x]=>(match pi a x with
  |some _=>mJ [x] a
  |none=>wH [x] a)
 |_=>.Xb
theorem Ν(d:T.K=X.K):Hs T (yV X.K) IA:=by
 intro E c H a xs b Q r p h
 match xs with
 |[]=>exact h.elim
 |[x]=>
  unfold IA at h;cases e:pi a x with
  |some f=>simp only[e]at h;exact .inl (K1 d E c H a [x] b Q r p h)
  |none=>simp only[e]at h;exact .inr (Y1 E c H a [x] b Q r p h)
 |_::_::_=>exact h.elim
end
section
variable{T:Tb}{X:Cx}
end
end L4
namespace L2
open PySem PySem.Spec PyProof.Rows
end L2
namespace L4
open PySem PySem.Spec PyProof.Rows L2
section
variable{T:Tb}{X:Cx}
inductive gN(T:Tb)(X:Cx):List (Option Ua)->List Ua->List sd->(Ev->M (List D))->Prop
 |nil:gN T X [] [] [] Ha
 |cons {k v:Ua} {kk:sd} {f:Ev->M D} {ks:List (Option Ua)} {vs:List Ua} {kks:List sd} {fs:Ev->M (List D)} (hk:FE T X k (eC (jD kk))) (hv:FE T X v f) (r:gN T X ks vs kks fs):gN T X (some k::ks) (v::vs) (kk::kks) (ia f fs)
end
section
variable{T:Tb}{X:Cx}{pins:List (Addr × Vc)}{st:St}{H:Hp}{s:aa}
variable{N':List Str}{scope:Scope}{cl:List (Str × Addr)}{H3:Hp}{s3:aa}{fp:List Addr}{xe:Value->aa->Prop}
end
section
variable{T:Tb}{X:Cx}
end
section
variable{ρ:Ev}{σ:nb}
end
end L4
namespace L4
open PySem PySem.Spec PyProof.Rows L2 Builtin Builtin.Str
section
variable{T:Tb}{X:Cx}{a b e o:Ua}{fa fb f:Ev->M D}{pos apos cpos:Ve}
end
section
variable{ρ:Ev}{σ:nb}
end
end L4
namespace L4
open PySem PySem.Spec PyProof.Rows L2
section
variable{T:Tb}{X:Cx}
end
section
variable{ρ:Ev}{σ:nb}
end
section
variable{prog:Ca}{w:Ya}{A:Ta}{E:Value->aa->Prop}{h:Heap}{g:Array Rp}{d:bC}{t:Nat}{os:gC}
variable{nm qn:Str}{C N:Addr}{bs bm bmB:List Value}{hdct:Bool}{sn:List Str}{sub:List Value}{ab:Bool}{col:Option Bool}{dd:Option Addr}{k0 k1 k2 k3 k5:Option Value}{B newId initId:String}
end
section
variable{T:Tb}{X:Cx}{pins:List (Addr × Vc)}{st:St}{H:Hp}{s:aa}
end
section
variable{X:Cx}
end
section
variable{prog:Ca}{w:Ya}{A:Ta}{E:Value->aa->Prop}{h:Heap}{g:Array Rp}{d:bC}{t:Nat}{os:gC}{K:W.Frag}
variable{nm qn:Str}{C N x:Addr}{bs bm bmB:List Value}{sn:List Str}{sub:List Value}{ab:Bool}{col:Option Bool}{dd:Option Addr}{k0 k1 k2 k3 k5:Option Value}{B newId sa owner:String}{name:Str}{v:Value}{o:Vc}{vs:Array Value}
end
section
variable{X:Cx}
end
section
variable{P:Ca}{w:Ya}{K:W.Frag}{mg:Str->Option Value}{base:Heap}
end
section
variable{M:fm}{A:Ta}{E:Value->aa->Prop}{s:aa}{env:nh}
variable{nm qn:Str}{C N:Addr}{bs bm:List Value}{hdct:Bool}{sn:List Str}{sub:List Value}{ab:Bool}{col:Option Bool}{dd:Option Addr}{k0 k1 k2 k3 k5:Option Value}{newId:String}
end
section
variable{T:Tb}{X:Cx}
end
end L4
namespace L4
open PySem PySem.Spec PySem.Calls PyProof.Rows PySem.Builtin PySem.Builtin.ObjectAttr L2
section
variable{prog:Ca}{w:Ya}{A:Ta}{E:Value->aa->Prop}{s:aa}{K:W.Frag}{C ea dN:Addr}{hp:Heap}{n:Nat}{Mo:fm}
end
section
variable{T:Tb}{X:Cx}
end
section
variable{ρ:Ev}{σ:nb}
end
end L4
namespace HT
open PySem Builtin
open Sem (wp)
end HT
namespace L4
open PySem PySem.Spec PyProof.Rows L2
end L4
namespace L4
open PySem
def OB(xs:Array Nat):Prop:=∀ i k:Nat,∀ a b:Nat,i<k->xs[i]?=some a->xs[k]?=some b->a<b
def Cut(xs:Array Nat)(j p:Nat):Prop:=p<=xs.size/\(∀ i a:Nat,i<p->xs[i]?=some a->a<j)/\∀ i a:Nat,p<=i->xs[i]?=some a->j<=a
theorem ċ{xs:Array Nat}(p:OB xs)(j:Nat):∀ (c lo b:Nat),b - lo<=c->lo<=b->b<=xs.size->(∀ i a:Nat,i<lo->xs[i]?=some a->a<j)->(∀ i a:Nat,b<=i->xs[i]?=some a->j<=a)->Cut xs j (Tp xs j c lo b):=by
 intro c;induction c with
 |zero=>
  intro lo b t u h k l;have e:lo=b:=by omega
  subst e;exact⟨h,k,l⟩
 |succ f r=>
  intro lo b t u h k l;unfold Tp;by_cases o:lo<b
  ·rw[ja o];dsimp only;have q:(lo+b) / 2<xs.size:=by omega
   have g:=Bi q;have s:xs.getD ((lo+b) / 2) j=xs[(lo+b) / 2]:=by simp[q]
   rw[s];by_cases m:xs[(lo+b) / 2]<j
   ·rw[ja m];refine r _ _ (by omega) (by omega) h (λi a n d=>?_) l;by_cases e:i=(lo+b) / 2
    ·subst e;rw[g]at d;cases d;exact m
    ·have:=p i ((lo+b) / 2) a _ (by omega) d g;omega
   ·rw[ka m];refine r _ _ (by omega) (by omega) (by omega) k (λi a n d=>?_);by_cases e:i=(lo+b) / 2
    ·subst e;rw[g]at d;cases d;omega
    ·have:=p ((lo+b) / 2) i _ a (by omega) g d;omega
  ·rw[ka o];have e:lo=b:=by omega
   subst e;exact⟨h,k,l⟩
theorem ŭ{xs:Array Nat}(c:OB xs)(j:Nat):Cut xs j (jv xs j):=by
 exact ċ c j _ _ _ (by omega) (by omega) (Ea _) (λi a h=>by omega) (λi a h b=>by
  have:=(Nd.mp b).1;omega)
theorem o7{xs:Array Nat}(d:p<=xs.size)(i:Nat):(Nk xs p x)[i]?=if i<p then xs[i]? else if i=p then some x else xs[i - 1]?:=by
 unfold Nk;have s1:(xs.extract 0 p).size=p:=by simp;omega
 rw[Array.getElem?_append,Array.size_push,s1];by_cases a:i<p
 ·rw[ja (by omega),ja a,Zt,ka (by rw[s1];omega),Er];simp;omega
 ·rw[ka a];by_cases b:i=p
  ·subst b;rw[ja (by omega),ja rfl,Zt,ja (by rw[s1])]
  ·rw[ka (by omega),ka b,Er];by_cases c:i - 1<xs.size
   ·rw[ja (by omega)];congr 1;omega
   ·rw[ka (by omega),Array.getElem?_eq_none (by omega)]
theorem zk3{xs:Array Nat}(m:OB xs)(l:Cut xs x p)(t:¬ xs[p]?=some x):OB (Nk xs p x):=by
 have r:∀ i a:Nat,p<=i->xs[i]?=some a->x<a:=λi a s c=>by
  have g:=l.2.2 i a s c;rcases Nat.lt_or_ge x a with h|h
  ·exact h
  ·have e:a=x:=by omega
   subst e;by_cases o:i=p
   ·subst o;exact absurd c t
   ·have v:=(Nd.mp c).1;have u:p<xs.size:=by omega
    have q:=Bi u;have:=m p i _ _ (by omega) q c;have:=l.2.2 p _ (Ea _) q;omega
 intro i k a b n c d;rw[o7 l.1]at c d;by_cases g:i<p
 ·rw[ja g]at c;by_cases j:k<p
  ·rw[ja j]at d;exact m i k a b n c d
  ·rw[ka j]at d;by_cases f:k=p
   ·rw[ja f]at d;cases d;exact l.2.1 i a g c
   ·rw[ka f]at d;exact m i (k - 1) a b (by omega) c d
 ·rw[ka g]at c;have j:¬ k<p:=by omega
  rw[ka j,ka (by omega)]at d;by_cases f:i=p
  ·rw[ja f]at c;cases c;exact r (k - 1) b (by omega) d
  ·rw[ka f]at c;exact m (i - 1) (k - 1) a b (by omega) c d
structure Tt(b:Bool)(t:Dh):Prop where
 led:t.led = !b
 sK:OB t.place
 jS:t.dummies=#[]
theorem C0(j:Nat):Vw #[] j=false:=by
 unfold Vw;simp
theorem Tt.put(h:Tt b t)(a:¬ t.place[jv t.place j]?=some j):Tt b (t.put j).1:=by
 unfold SetTable.put;refine⟨h.led,zk3 h.sK (ŭ h.sK j) a,?_⟩;rw[h.jS,C0];rfl
theorem Tt.plain(h:Tt b t):Tt b { t with plain:=p }:=⟨h.led,h.sK,h.jS⟩
theorem zov(n:Nat):OB (Array.range n):=by
 intro i k a c e b d;have l1:=(Nd.mp b).1;have l2:=(Nd.mp d).1;simp only[Array.size_range]at l1 l2;simp[l1]at b;simp[l2]at d;omega
theorem Tt.iE(h:Tt b t)(n:Nat):Tt b (t.standIn n):=⟨h.led,zov n,rfl⟩
theorem Tt.or(h:Tt b t)(n:Nat):Tt b (t.orStandIn n):=by
 unfold SetTable.orStandIn;split
 ·exact h
 ·exact h.iE n
theorem Tt.fresh(b:Bool):Tt b (mv 0 0 (!b)):=⟨rfl,λi k a c _ d _=>by simp[mv]at d,rfl⟩
end L4
namespace L4
open PySem PySem.Spec PyProof.Rows
section
variable{prog:Ca}{w:Ya}{K:Type}[DecidableEq K][BEq K][LawfulBEq K]{knd:KeyKind prog w K}{A:Ta}{E:Value->aa->Prop}{s:aa}{b:Bool}{a:Addr}{k:K}{x:Value}
end
section
variable{prog:Ca}{w:Ya}{A:Ta}
variable{E:Value->aa->Prop}{s:aa}
end
section
variable{prog:Ca}{w:Ya}{A:Ta}{E:Value->aa->Prop}{s:aa}
set_option maxHeartbeats 3200000 in
end
def mK(h:Heap)(a:Addr)(c:Array (Int × Value))(b:Nat)(t:Dh):Prop:=∃ o,h.get? a=some o/\o.ExactSet/\o.data=.set c b t
def wD(h:Heap)(I a:Addr)(first:Value)(i n b:Nat):Prop:=∃ o,h.get? I=some o/\o.cls=.type "set_iterator"/\o.data=.fields #[first,Kf i,.ref a,Kf n,Kf b]
section
variable{prog:Ca}{w:Ya}{A:Ta}{E:Value->aa->Prop}{s:aa}{I a:Addr}{es:Array (Int × Value)}{ep:Nat}{t:Dh}{i:Nat}
theorem wD.ty(h:wD s.heap I a first i n ep):s.TypeIs (.ref I) "set_iterator":=let ⟨o,b,c,_⟩:=h;⟨o,b,c⟩
end
section
variable{prog:Ca}{w:Ya}{A:Ta}{E:Value->aa->Prop}{s:aa}{a:Addr}{es:Array (Int × Value)}{ep:Nat}{t:Dh}{i:Nat}
end
section
variable{prog:Ca}{w:Ya}{A:Ta}{E:Value->aa->Prop}{s:aa}{I a p:Addr}{es:Array (Int × Value)}{ep:Nat}{t:Dh}{i:Nat}
def oM(h:Heap)(p:Addr)(a:List Nat):Prop:=∃ o n,h.get? p=some o/\o.data=.seq (a.map λ(i:Nat)=>Kf i).toArray n
end
section
variable{prog:Ca}{w:Ya}{A:Ta}{I a p:Addr}{es:Array (Int × Value)}{ep:Nat}{t:Dh}
theorem wD.keep(x:wD h I a first i n ep)(k:∀ o,h.get? I=some o->b.get? I=some o):wD b I a first i n ep:=let ⟨o,e,r⟩:=x;⟨o,k o e,r⟩
theorem mK.keep(x:mK h a es ep t)(k:∀ o,h.get? a=some o->b.get? a=some o):mK b a es ep t:=let ⟨o,e,r⟩:=x;⟨o,k o e,r⟩
theorem oM.keep{h a:Heap}(x:oM h p b)(k:∀ o,h.get? p=some o->a.get? p=some o):oM a p b:=let ⟨o,n,e,r⟩:=x;⟨o,n,k o e,r⟩
end
end L4
namespace L4
open PySem PySem.Spec PySem.Calls PySem.W PyProof.Rows PyProof.V
section
variable{prog:Ca}{w:Ya}{A:Ta}{E:Value->aa->Prop}{s:aa}{a:Addr}{es:Array (Int × Value)}{ep:Nat}{t:Dh}
end
end L4
namespace L4
open PySem PySem.Spec PyProof.Rows L2
section
variable{T:Tb}{X:Cx}
noncomputable def ylb(x:D)(xs:List D):M D:=λa=>match x,xs with
 | .ref n,[]=>(match a[n]? with
  |some (.Bc _)=>.ok .Rb (a.set n (.Bc []))
  |_=>.Xb)
 |_,_=>.Xb
def wC(c:List D):M D:=λb=>match c with
 |[x]=>(match Uj b x with
  |some a=>.ok (.ref b.length) (b++[.Bc a])
  |none=>.Xb)
 |_=>.Xb
theorem U7:Hs T KL wC:=by
 intro E k H m d o Q r p h
 match d with
 |[]=>exact h.elim
 |[x]=>
  unfold wC at h;dsimp only at h;cases b:Uj m x with
  |none=>rw[b]at h;exact h.elim
  |some g=>
   rw[b]at h;obtain⟨v,n,rfl,i,j⟩:=p;subst j;obtain⟨a,ws,rfl,e,f⟩:=oz r i b;refine⟨a,ws,rfl,e,λl c=>?_⟩;exact h (k++[l]) (.ref l) _ (fx c) (r.push c ⟨ws,Mh,Paired.ur f λ_ _ z=>⟨z.1,Qa.mono (fx c) _ _ z.2⟩⟩) (rE r)
 |_::_::_=>exact h.elim
end
section
variable{X:Cx}{pins:List (Addr × Vc)}{σ:St}{H:Hp}{s:aa}
theorem _root_.L2.lb.freeze(I:lb X pins σ H s)(g:H a=some (.dK d))(e:s.heap.get? a=some i):lb X pins σ (rc H a (.jc i (.dK d))) s:=by
 have f:∀ b u,H b=some u->u≠.dK d->b≠a:=λb u q n z=>by rw[z,g]at q;exact n (Lb q).symm
 refine I.step (ch:=[]) (λ_ z=>nomatch z) (λb o _ _ _ q _=>q) (λb o _ _ _ q _=>⟨o.slots,q⟩) (λb o _ q n=>?_) (λb o _ q=>⟨o,q⟩)
  (λb xs q=>by rw[me (f b _ q (λz=>by cases z))];exact q) (λb u xs q=>by rw[me (f b _ q (λz=>by cases z))];exact q) (λb k q=>⟨#[],by rw[me (f b _ q (λz=>by cases z)),q];simp⟩) (λm j=>j) (λb u q=>?_) I.bare
 ·rw[me (λz=>by rw[z,g]at n;cases n)];exact n
 ·by_cases h:b=a
  ·subst h;rw[Mh]at q;cases q;exact⟨e,I.zd b _ g⟩
  ·rw[me h]at q;exact(I.zd b u q).Uk (λc v _ z=>z) (λc z=>by rw[me (f c _ z (λy=>by cases y))];exact z) λc xs z=>by rw[me (f c _ z (λy=>by cases y))];exact z
theorem rL(I:lb X pins σ H s)(k:H a=some (.jc g (.dK b))):∃ f d c,KV b f/\g.data=.dict d c/\s.heap.DictAt (tm X.prog X.w) a f c:=by
 obtain⟨e,_,_,f,h,o,d,c,j,ex,i,r⟩:=I.zd a _ k;rw[e]at j;cases j;exact⟨f,d,c,h,i,g,d,e,ex,i,r⟩
end
def Itm(d:Addr)(b:Vc)(a:List (sd × V)):It:=
 ⟨λi H=>H d=some (.jc b (.dK a))/\∃ x,a[i]?=some x,λi H v c=>∃ p k x,H p=none/\v=.ref p/\a[i]?=some (k,x)/\c=rc H p (.Ga [kV k,x]),λi H=>H d=some (.jc b (.dK a))/\i=a.length⟩
theorem wO{d:Type}:∀ {c:List (d × V)} {g:List (d × Value)} (r:KV c g) (i:Nat) {k:d} {x:V},c[i]?=some (k,x)->∃ u,g[i]?=some (k,u)/\Qd x u
 |_,_,.nil,i,_,_,h=>by simp at h
 |_,_,.cons (b:=q) a b,0,k,x,h=>by
  simp only[oj,Wj]at h;obtain⟨e,f⟩:=a;rw[h]at e f;exact⟨q.2,by simp only[oj,Wj];exact BW e.symm rfl,f⟩
 |_,_,.cons a b,i+1,k,x,h=>by
  exact wO b i h
theorem N7(h:(tm P w).is k v=true):Qd (kV k) v:=by
 rcases nv h with⟨i,t,rfl,rfl⟩|⟨x,t,rfl,rfl⟩
 ·exact⟨t,rfl⟩
 ·exact⟨t,rfl⟩
theorem V9{P:Ca}{w:Ya}{K:W.Frag}{m:List Ua}{kk:Nat}{T:Ve}(d e:Addr)(od:Vc)(y:List (sd × V))(a0:d≠e){es:Array DF}{U:Nat}(r:od.data=.dict es U) :
  cr P w K (.Tuple m kk T) (Itm d od y) [e] e (λi h=>∃ ok j,IsItemIter h e d i y.length U ok j) where
 mem:=by simp
 obj:=λi h f b c=>by
  obtain⟨ok,j,s1⟩:=f;obtain rfl:b=e:=by simpa using c
  exact⟨_,s1,λv z=>by cases z⟩
 keep:=λi h h' f k=>by
  obtain⟨ok,j,s1⟩:=f;exact⟨ok,j,k e (by simp) _ s1⟩
 item:=by
  intro X J S G Y i B s σ H E I C f N;subst J S G;obtain⟨M,⟨k,x⟩,hx⟩:=N;obtain⟨vs,F,D,a,l,R⟩:=rL I M;rw[r]at l;cases l;obtain⟨u,hu,ru⟩:=wO a i hx;obtain⟨ok,j,s1⟩:=f;rw[a.length]at s1;refine wpAny_pyNext_items_item s1 R hu λg h' p ho hT a1 hk=>?_;have n:s.heap.objs.size≠e:=fh (Ba s1);refine⟨.ref s.heap.objs.size,rfl,wpAny_letOwnedTupleGo_items ho λh2 O t=>?_⟩;have hn:H s.heap.objs.size=none:=I.zd.fresh (Ea _);have L:h2.get? s.heap.objs.size=some { cls:=.type "tuple",data:=.seq #[g,u] }:=t.extBut _ _ n hT;refine⟨.ref s.heap.objs.size,rc H s.heap.objs.size (.Ga [kV k,x]),I.Cv (λb o c q=>t.extBut b o (λz=>c (by simp[z])) (hk b o (λz=>c (by simp[z])) q)) C (Ea _) ?_,rfl,⟨_,k,x,hn,rfl,hx,rfl⟩,⟨g,u,by rw[a.length];exact O⟩,λb c=>?_⟩
  ·exact⟨(show 2<=sizeLine by decide),[g,u],.cons (N7 p) (.cons ru .nil),⟨_,L,rfl,_,rfl⟩⟩
  ·obtain rfl:b=e:=by simpa using c
   rw[me (λz=>n z.symm)];exact(C b c).1
 done:=by
  intro X J S G Y i B s σ H E I C f N;subst J S G;obtain⟨M,Z⟩:=N;obtain⟨vs,F,D,a,l,R⟩:=rL I M;rw[r]at l;cases l;obtain⟨ok,j,s1⟩:=f;rw[a.length]at s1 Z;exact wpAny_pyNext_items_end (I.ok.hd Y) s1 R (by rw[Z];simp) λh' eb=>⟨rfl,I.Uv (t':=s.toks) (its:=[e]) (λb o c q=>eb b o (λz=>c (by simp[z])) q) C⟩
 self:=λA i s Q E f h=>by
  obtain⟨ok,j,s1⟩:=f;exact W.kcp_self s1 h
def yp(l a:Addr):Heap->Prop:=λh=>h.IsItemsView l a
def bZ:V->List V->Hp->VK->Prop:=λx xs H Q=>∃ a b,x=.ref a/\xs=[]/\Rd H a (.dK b)/\∀ l,H l=none->Q (.ref l) (rc H l (.ext (yp l a)))
theorem qI(h:H a=some o):rc H a o=H:=by
 funext b;unfold rc;split
 ·next e=>rw[e,h]
 ·rfl
theorem lM(h:Heap)(o:Vc)(a:o.data≠.freed):(h.push o).get? h.objs.size=some o:=by
 obtain⟨c,d,x,b⟩:=o;simp[Heap.get?,Heap.push];cases x<;>first|rfl|exact absurd rfl a
section
variable{T:Tb}{X:Cx}{elts:List Ua}{kk:Nat}{p0:Ve}
theorem LS:Uu X "dict.items" bZ:=by
 intro f s u H x A v y Q I n m h;obtain⟨a,j,rfl,rfl,g,q⟩:=h;cases n;cases m;obtain⟨z,i,ws,l,d⟩:=Lx I.zd g;refine Qp Pi d.typeIs PySem.F.entry_dict_items (PySem.F.args_dict_items_1 _) (meets_dict_items (tm X.prog X.w) a i) ⟨⟨ws,d⟩,?_⟩;refine⟨.ref s.heap.objs.size,_,I.laid (λb o e=>qa _ e) (Ea _) ?_,rfl,q _ (I.zd.fresh (Ea _))⟩;refine⟨⟨_,lM _ _ (λz=>by cases z),rfl,rfl⟩,⟨_,lM _ _ (λz=>by cases z)⟩,λr t p k=>?_⟩;obtain⟨o,e,c⟩:=p;exact⟨o,k o e,c⟩
def L7(e:TE):TI:=λf H R=>e f H λv c=>∃ l a b,v=.ref l/\c l=some (.ext (yp l a))/\Rd c a (.dK b)/\∀ d,c a=some (.dK b)\/c a=some (.jc d (.dK b))->R (Itm a d b) (rc c a (.jc d (.dK b)))
theorem aQ(C:PE X f t):PI X (.Tuple elts kk p0) f (L7 t):=by
 intro i s u H R I h;refine Je (C i s u H _ I h) λv s1 ⟨x,H1,k,G,F⟩=>?_;obtain⟨l,a,c,rfl,D,d,q⟩:=F;cases G;obtain⟨g,p,m⟩:∃ g,(H1 a=some (.dK c)\/H1 a=some (.jc g (.dK c)))/\lb X i u (rc H1 a (.jc g (.dK c))) s1:=by
  rcases d with d|⟨g,d⟩
  ·obtain⟨_,_,J,j,o,A,y,e,_⟩:=k.zd a _ d;exact⟨o,.inl d,k.freeze d e⟩
  ·exact⟨g,.inr d,by rw[qI d];exact k⟩
 obtain⟨J,A,y,j,w,r⟩:=rL m Mh;have E:=(k.zd l _ D).1;have n:=Sa r.lt_size;refine wpAny_pyIter_items E r ?_;refine⟨s1.heap.objs.size,[s1.heap.objs.size],_,Itm a g c,_,rfl,m.kept (λb o e=>qa _ e),V9 a _ g c n w,⟨.none,.none,by rw[j.length];exact lM _ _ (λz=>by cases z)⟩,λb B=>?_,q g p⟩;obtain rfl:b=s1.heap.objs.size:=by simpa using B
 exact m.qr (Ea _) (m.zd.fresh (Ea _))
noncomputable def su(a:List (sd × D)):NX:=λi _=>match a[i]? with
 |some p=>some (some (.Ga [jD p.1,p.2]))
 |none=>if i=a.length then some none else none
def dG(d:D):M NX:=λa=>match d with
 | .Bc ks xs=>if ks.length=xs.length then .ok (su (ks.zip xs)) a else .Xb
 |_=>.Xb
def PB(f:Ev->M D):Ev->M NX:=λa=>Pd (f a) dG
theorem dP(k:sd):Qa T a H (jD k) (kV k):=by
 cases k<;>(unfold jD kV;rw[Qa])
theorem nV(d:H a=some (.dK c)):we μ H μ (rc H a (.jc od (.dK c))):=by
 have f:∀ b u,H b=some u->u≠.dK c->b≠a:=λb u q n z=>by rw[z,d]at q;exact n (Lb q).symm
 refine⟨⟨[],by simp⟩,λp xs h=>by rw[me (f p _ h (λz=>by cases z))];exact h,λp o u h=>by rw[me (f p _ h (λz=>by cases z))];exact h,λp o h n=>⟨?_,n⟩⟩;by_cases e:p=a
 ·subst e;rw[d]at h;cases h;exact⟨_,Mh,.inr (.inl ⟨od,c,rfl,rfl⟩)⟩
 ·exact⟨o,by rw[me e];exact h,.inl rfl⟩
theorem ZK{c e:Type}{R:c->e->Prop}:∀ {xs:List c} {d:List e},Paired R xs d->∀ (i:Nat) {x:c},xs[i]?=some x->∃ y,d[i]?=some y/\R x y
 |_,_,.nil,i,_,h=>by simp at h
 |_,_,.cons a b,0,x,h=>by
  simp only[oj,Wj]at h ⊢;subst h;exact⟨_,rfl,a⟩
 |_,_,.cons a b,i+1,x,h=>by
  exact ZK b i h
theorem SK(h:FE T X e f)(n:oe e "items" X.env (vc e X.env)=vc e X.env:=by rfl)(t:(k.endLine == m.line)=true:=by rfl) :
  zy T X (.Tuple elts kk p0) (.Call (.Attribute e "items" k) [] [] m) (PB f):=by
 intro J s st H R I hw;refine aQ (MQ Fg Pi gq LS h n t) J s st H R I ?_;obtain⟨μ,ρ,σ,hE,hr,hp⟩:=hw;refine⟨μ,ρ,σ,hE,hr,hp.bind λd K g v j _ e1 r1 q1 x=>?_⟩;unfold dG at x;cases d with
 |Bc ks xs=>
  dsimp only at x;by_cases Y:ks.length=xs.length
  ·rw[ja Y]at x;obtain⟨a,c,rfl,hn,o,P,S⟩:=q1;refine⟨⟨a,c,rfl,o⟩,a,c,rfl,rfl,o,λl u=>?_⟩;have U:a≠l:=by rcases o with o|⟨_,o⟩<;>exact nq o u
   have O:Rd (rc j l (.ext (yp l a))) a (.dK c):=by unfold Rd;rw[me U];exact o
   refine⟨l,a,c,rfl,Mh,O,λC B=>?_⟩;have x1:we g j g (rc j l (.ext (yp l a))):=vm u;have A:Xd T g (rc j l (.ext (yp l a))) K:=r1.fresh u;obtain⟨x2,V⟩:we g j g (rc (rc j l (.ext (yp l a))) a (.jc C (.dK c)))/\Xd T g (rc (rc j l (.ext (yp l a))) a (.jc C (.dK c))) K:=by
    rcases B with B|B
    ·have y:=nV (μ:=g) (od:=C) B;exact⟨x1.trans y,A.keep y (λb L=>me (λz=>hn (by rw[<-z];exact L))) (A.tb.out (λb L=>me L) (.inr ⟨_,B⟩))⟩
    ·rw[qI B];exact⟨x1,A⟩
   have h3:rc (rc j l (.ext (yp l a))) a (.jc C (.dK c)) a=some (.jc C (.dK c)):=Mh;refine nc.here (nc.mono x2 x) V λa0 H2 a1 i ex r2=>?_;have W:=ex.jc _ _ _ h3;have G:=Dl.mono (x2.trans ex) (YG P S);unfold su;cases ei:(ks.zip xs)[i]? with
   |none=>
    by_cases N:i=(ks.zip xs).length
    ·rw[ja N];exact⟨W,by rw[N];exact Paired.length G⟩
    ·rw[ka N];trivial
   |some p=>
    obtain⟨q,Z,Q,rx⟩:=ZK G i ei;refine⟨⟨W,q,Z⟩,λz H' y=>?_⟩;obtain⟨r,k',x',w,rfl,E,rfl⟩:=y;rw[Z]at E;cases E;refine⟨vm w,r2.fresh w,?_⟩;rw[Qa,Q];exact⟨r,_,rfl,Mh,Jb.cons (dP _) (Jb.cons (Qa.mono (vm w) _ _ rx) Jb.nil)⟩
  ·rw[ka Y]at x;exact x.elim
 |_=>exact x.elim
end
def Wl(nx:NX)(n:Nat)(e:D->Ev->Option Ev)(fi:Ev->M Bool)(b:Ev->M D):Nat->Nat->Ev->M Unit
 |0,_,_=>Xb
 |k+1,i,g=>λf=>match nx i f with
  |none=>.Xb
  |some none=>.ok () f
  |some (some d)=>match e d g with
   |none=>.Xb
   |some a=>Pd (Mp (fi a)) (λc=>if c=true then Pd (Mp (b a)) λy=>Pd (yq (.ref n) [y]) λ_=>Wl nx n e fi b k (i+1) a else Wl nx n e fi b k (i+1) a) f
def lL(c:D->Ev->Option Ev)(fi:Ev->M Bool)(b:Ev->M D)(d:Ev)(nx:NX):M D:=λa=>
 Pd (Wl nx a.length c fi b 1001 0 d) (λ_=>ret (.ref a.length)) (a++[.va []])
def Xm(a:Ev->M NX)(d:List Nat)(e:D->Ev->Option Ev)(fi:Ev->M Bool)(c:Ev->M D):Ev->M D:=λb=>Pd (a b) (lL e fi c (Qw d b))
section
variable{T:Tb}{X:Cx}
theorem xV {st:St}
  (hc:X.Aa=true) (L:yo X x M' ix a)
  (d7:∀ cl C O G ex,FG T (Iu X (x::z0::M') a cl C O G ex) a9 S)
  (d4:∀ cl C O G ex,oE T (Iu X (x::z0::M') a cl C O G ex) b2 fi)
  (c6:∀ cl C O G ex,FE T (Iu X (x::z0::M') a cl C O G ex) b1 H)
  (I3:lb X b6 st H3 s3) (c7:∀ b∈fp,xn X b6 H3 b/\b<s3.heap.objs.size) (d6:I.Ns s3.heap.objs.size m) (kp:∀ b o,s3.heap.get? b=some o->I.get? b=some o)
  (TT:cr X.prog X.w X.K a9 J fp it tn) (b5:tn 0 I) (so:FB T P H3 nx J) (hE:ji T P H3 ρ st) (r3:Xd T P H3 c3) (hn:P[n]?=some D0)
  (p3:nc T E (Qa T) P H3 (Pd (Wl nx n S fi H 1001 0 (Qw ix ρ)) (λ_=>ret (.ref n)) c3) Q)
  (Vg:∀ (s6:aa) (q:Hp) (m6:Str->Option Value),s6.heap.Ns s3.heap.objs.size m6->q s3.heap.objs.size=none->Un (rk X.stack) fp H3 q s3.heap s6.heap->s6.os=s3.os->mj X.prog X.w q s6.heap->zh s6.gens->Q (.ref D0) q->RR (.ok .next) s6) :
  codeAny (model X.prog X.w) X.A (.compStart (.ListComp b1 [⟨a9,a4,b2,0⟩] a b9) 0 (.ref it) (.ref D0) (compEnvC a (gk X.env a.names []) s3.heap.objs.size X.env))
   RR { s3 with heap:=I,toks:=t' }:=by
 have I4:=D2 (z0:=z0) (t':=t') I3 L c7 d6 kp;let Y:Cx:=Iu X (x::z0::M') a (gk X.env a.names []) s3.heap.objs.size s3 H3 fp;have a8:∀ {q:Hp},(∀ b∈fp,q b=none)->∀ b∈fp,xn Y [] q b:=fun {q} hn b hb=>⟨hn b hb,(I4.ok.Bz b hb).1,I4.ok.xr b hb,.inl hb,(I4.ok.Bz b hb).2,λp hp=>absurd (show p∈([]:List (Addr × Vc))from hp) (by simp)⟩
 have El:codeAny (model X.prog X.w) X.A (.compLoop (.ListComp b1 [⟨a9,a4,b2,0⟩] a b9) 0 (.ref it) (.ref D0) Y.env) RR { s3 with heap:=I,toks:=t' }:=by
  refine codeAny_loop rfl (λk s'=>∃ i g q h t F,lb Y [] F q s'/\tn i s'.heap/\(∀ b∈fp,q b=none)/\we P H3 g q/\ji T g q t F/\Xd T g q h/\
   nc T E (Qa T) g q (Pd (Wl nx n S fi H k i t) (λ_=>ret (.ref n)) h) Q) ?_ 1001 ⟨0,P,H3,c3,Qw ix ρ,Dz ix st,I4,b5,λb hb=>(c7 b hb).1.1,we.refl _ _,V7 ix hE,r3,p3⟩
  rintro k s' ⟨i,g,q,h,t,F,I',c9,c4,Z,b8,r',p'⟩;show wpAny _ X.A ((compTurn (.ListComp b1 [⟨a9,a4,b2,0⟩] a b9) 0 (.ref it) (.ref D0) Y.env).onRaise (λx=>do ph x Y.env;theTreesLotGoes x)) _ _ s';refine wpAny_noted ?_;refine Hc (E:=λ_ _=>False) ?_ (λ_ _ z=>z) (λ_ _ z=>z.elim);refine da (Au ?_);cases k with
  |zero=>exact p'.elim
  |succ k=>
   have b4:=so g q h i Z r';cases en:nx i h with
   |none=>
    have e1:Wl nx n S fi H (k+1) i t h=.Xb:=by unfold Wl;simp only[en]
    rw[HH (m':=Xb) e1]at p';exact p'.elim
   |some od=>
    rw[en]at b4;cases od with
    |none=>
     have e1:Wl nx n S fi H (k+1) i t h=.ok () h:=by unfold Wl;simp only[en]
     rw[HH (m':=ret ()) e1]at p';refine da (Je (TT.done Y rfl rfl rfl hc i [] s' F q (λ_ _=>False) I' (a8 c4) c9 b4) λr s6 ⟨er,I6⟩=>?_);subst er;refine ra ?_;obtain⟨m6,d5,_⟩:=I6.loc;exact Vg s6 q m6 d5 I6.free I6.base I6.os I6.zd I6.bare (nc.here p' r' (by rw[Qa];exact⟨_,rfl,Z.get hn⟩))
    |some d=>
     refine da (Je (TT.item Y rfl rfl rfl hc i [] s' F q (λ_ _=>False) I' (a8 c4) c9 b4.1) λr s6 ⟨u,er,h6⟩=>?_);subst er;refine da (Je h6 λ_ s7 ⟨xv,H7,I7,r7,y7,c2,d3⟩=>?_);obtain⟨b7,d8,hd⟩:=b4.2 xv H7 y7;replace p':=nc.mono b7 p';replace b8:=b8.mono b7;replace Z:=Z.trans b7;replace r':=d8;cases et:S d t with
     |none=>
      have e1:Wl nx n S fi H (k+1) i t h=.Xb:=by unfold Wl;simp only[en,et]
      rw[HH (m':=Xb) e1]at p';exact p'.elim
     |some l=>
      have e1:Wl nx n S fi H (k+1) i t h=Pd (Mp (fi l)) (λc=>if c=true then Pd (Mp (H l)) λy=>Pd (yq (.ref n) [y]) λ_=>Wl nx n S fi H k (i+1) l else Wl nx n S fi H k (i+1) l) h:=by
       conv=>lhs;unfold Wl
       simp only[en,et]
      rw[HH e1,pL]at p';have d1:=I7.pinned (a8 d3) (TT.obj _ _ c2);refine da (Je (d7 _ _ _ _ _ _ s7 F H7 xv u (λN H8=>H8=H7/\ji T g H7 l N) d1 r7 ⟨g,h,t,d,l,b8,r',hd,et,λN a3=>⟨rfl,a3⟩⟩) λ_ s8 ⟨N,H8,I8,d2,a3⟩=>?_);subst d2;refine da (Je (d4 _ _ _ _ _ _ s8 N H8 (λc H9=>∃ V a0,we g H8 V H9/\Xd T V H9 a0/\nc T E (Qa T) V H9 (Pd (if c=true then Pd (Mp (H l)) λy=>Pd (yq (.ref n) [y]) λ_=>Wl nx n S fi H k (i+1) l else Wl nx n S fi H k (i+1) l) (λ_=>ret (.ref n)) a0) Q) I8
       ⟨g,l,h,a3,r',p'.Rv λc a0 V c' H9 _ e9 r9 q9 p9=>by cases q9;exact⟨V,a0,e9,r9,p9⟩⟩) λc s9 ⟨H9,I9,V,a0,e9,r9,p9⟩=>?_)
      have a2:∀ {a7:aa} {s:Hp} {f:List Addr} {j:nb},lb Y ([]++IE fp s7.heap) N s a7->we g H8 f s->Xd T f s j->nc T E (Qa T) f s (Pd (Wl nx n S fi H k (i+1) l) (λ_=>ret (.ref n)) j) Q->
        ∃ m,m<k+1/\∃ i g q h t F,lb Y [] F q a7/\tn i a7.heap/\(∀ b∈fp,q b=none)/\we P H3 g q/\ji T g q t F/\Xd T g q h/\nc T E (Qa T) g q (Pd (Wl nx n S fi H m i t) (λ_=>ret (.ref n)) h) Q:=by
       intro a7 s f j a1 W a6 a5;refine⟨k,Ed _,i+1,f,s,j,l,N,a1.ql,TT.keep _ _ _ c2 (λb hb o e=>(a1.pin (b,o) (gb _ (gb _ (zG hb e)))).1),λb hb=>?_,Z.trans W,a3.mono W,a6,a5⟩;obtain⟨o,e,_⟩:=TT.obj _ _ c2 b hb;exact(a1.pin (b,o) (gb _ (gb _ (zG hb e)))).2.1
      cases c with
      |false=>
       exact ra ⟨rfl,a2 I9 e9 r9 p9⟩
      |true=>
       rw[ja rfl,pL]at p9;refine da (da (Je (c6 _ _ _ _ _ _ s9 N H9 (λv U=>∃ y B R,we g H8 B U/\Xd T B U R/\Qa T B U y v/\nc T E (Qa T) B U (Pd (yq (.ref n) [y]) (λ_=>Pd (Wl nx n S fi H k (i+1) l) (λ_=>ret (.ref n))) R) Q) I9
        ⟨V,l,a0,a3.mono e9,r9,p9.Rv λy R B v U _ b0 c1 c0 b3=>⟨y,B,R,e9.trans b0,c1,c0,by rw[pL]at b3;exact b3⟩⟩) λw d9 ⟨v,U,d0,c8,y,B,R,b0,c1,c0,b3⟩=>?_))
       have c5:=G3 (Q:=λ_ s=>∃ f j,we g H8 f s/\Xd T f s j/\nc T E (Qa T) f s (Pd (Wl nx n S fi H k (i+1) l) (λ_=>ret (.ref n)) j) Q) c1 ((Z.trans b0).get hn) c0
        (b3.bind λ_ j f e0 s _ W a6 e2 a5=>⟨f,j,b0.trans W,a6,a5⟩)
       refine da (Je (dI (X:=Y) _ d9 N U (.ref D0) [v] (.ref D0) [w] _ d0 rfl (.cons c8 .nil) c5) λ_ a7 ⟨e0,s,a1,_,f,j,W,a6,a5⟩=>?_);exact ra (ra ⟨rfl,a2 a1 W a6 a5⟩)
 exact codeAny_compStart_list El (TT.self X.A 0 _ _ _ b5 El)
theorem Ku{V:Ev->M D}
  (hc:X.Aa=true) (L:yo X x M' ix a) (K:zy T X z k P)
  (a3:∀ cl C d c ex,FG T (Iu X (x::z0::M') a cl C d c ex) z tg)
  (Z:∀ cl C d c ex,oE T (Iu X (x::z0::M') a cl C d c ex) O fi)
  (E:∀ cl C d c ex,FE T (Iu X (x::z0::M') a cl C d c ex) A V)
  (hs:∀ y,Ah k X.env y=pure y:=by intro _;rfl) :
  FE T X (.ListComp A [⟨z,k,O,0⟩] a a5) (Xm P ix tg fi V):=by
 intro u s st H Q I h;obtain⟨S,ρ,σ,hE,hr,hp⟩:=h;refine Gu rfl hs (pJ X.env a (Fz I L)) L.kind (λy hy e=>?_) ?_
 ·have q:=cc.mp L.names y hy;rw[e]at q;exact eq_of_beq q
 have h1:=K u s st H (λJ l=>∃ nx f g,we S H f l/\Xd T f l g/\FB T f l nx J/\nc T (XE X st) (Qa T) f l (Pd (Wl nx g.length tg fi V 1001 0 (Qw ix ρ)) (λ_=>ret (.ref g.length)) (g++[Ob.va []])) Q) I
  ⟨S,ρ,σ,hE,hr,hp.bind λnx a7 a6 J H1 _ e1 r1 q1 p1=>⟨nx,a6,a7,e1,r1,q1,p1⟩⟩
 refine Je h1 λv s1 h2=>Je h2 λa8 s2 h3=>?_;obtain⟨it,fp,tn,J,l,rfl,I2,TT,R,f2,nx,f,g,U,r2,so,p2⟩:=h3;refine Bf (dm (WE L) (by intro y hy;simp at hy) (λN p t=>?_) L.kind);have I3:=I2.rz (t':=s2.toks) .nil (by simp);have B:l s2.heap.objs.size=none:=I2.zd.fresh (Ea _);have r3:=r2.push (ob:=.va []) B ⟨[],Mh,Jb.nil⟩;have w:we f l (f++[s2.heap.objs.size]) (rc l s2.heap.objs.size (.va [])):=fx B;have a2:s2.heap.objs.size<(s2.heap.push { cls:=.type "list",data:=.seq [].toArray }).objs.size:=by rw[Wg];exact Ed _
 have kp:∀ b o,(s2.heap.push { cls:=.type "list",data:=.seq [].toArray }).get? b=some o->N.get? b=some o:=λb o e=>t.extBut b o (Sa (Ba e)) (qa _ e);have j:∀ b∈fp,xn X u (rc l s2.heap.objs.size (.va [])) b/\b<(s2.heap.push { cls:=.type "list",data:=.seq [].toArray }).objs.size:=λb m=>by
  obtain⟨o,e,_⟩:=TT.obj 0 _ R b m;have lt:=Ba e;exact⟨⟨by rw[me (Sa lt)];exact(f2 b m).1,(f2 b m).2⟩,qt lt a2⟩
 refine xV (n:=g.length) (D0:=s2.heap.objs.size) hc L a3 Z E I3 j p kp TT (TT.keep 0 _ _ R λb m o e=>kp b o (qa _ e))
  (λS H σ i ex r=>so S H σ i (w.trans ex) r) ((hE.mono U).mono w) r3 (by rw[<-r2.len];simp) (p2.mono w) (λs6 H' m6 a0 W a4 a1 F Y hq=>⟨m6,a0,λh7 G=>?_⟩)
 have hu:=yf8 a4 G (Ea _);have I7:=L2.lb.Pv (s':={ s6 with heap:=h7 }) (ch:=fp) I3 a1 hu (E9 F G W) Y (λb m=>⟨(j b m).1.2.2.2.1,(j b m).1.2.1,(j b m).1.2.2.2.2.1,(j b m).1.2.2.2.2.2⟩);exact⟨.ref s2.heap.objs.size,H',I7,rfl,hq⟩
end
def VE(K:W.Frag)(b:Str->Option Value)(x:Str)(c:List Str):Prop:=∃ a,b x=some (.ref a)/\RA K a c
noncomputable def gA:List Value->List Str->Bool
 |[],[]=>true
 | .str y _::a,x::ss=>(y == x) && gA a ss
 |_,_=>false
def ZJ(K:W.Frag)(a:Addr)(ss:List Str):Bool:=match K.lookup a with
 |some o=>(o.cls == .type "tuple") && (match o.data with
  | .seq b _=>decide (b.size<=sizeLine) && gA b.toList ss
  |_=>false)
 |none=>false
theorem IU:∀ {a:List Value} {ss:List Str},gA a ss=true->Se (ss.map V.str) a
 |[],[],_=>.nil
 |[],_::_,h=>by simp[gA]at h
 |v::a,[],h=>by cases v<;>simp[gA]at h
 |v::a,x::ss,h=>by
  cases v with
  |str y t=>
   simp only[gA,La]at h;obtain rfl:=eq_of_beq h.1;exact .cons ⟨t,rfl⟩ (IU h.2)
  |_=>simp[gA]at h
theorem RA.of{K:W.Frag}(h:ZJ K a ss=true):RA K a ss:=by
 unfold ZJ at h;cases e:K.lookup a with
 |none=>rw[e]at h;cases h
 |some o=>
  rw[e]at h;simp only[La]at h;obtain⟨f,b⟩:=h;cases c:o.data with
  |seq d n=>
   rw[c]at b;simp only[La,jd]at b;exact⟨o,d,n,e,eq_of_beq f,c,b.1,IU b.2⟩
  |_=>rw[c]at b;cases b
def tG(a:Bool)(ss:List Str)(x:D):M D:=λb=>match x with
 | .str z=>.ok (.bl (if a then !wB (.str z) (ss.map V.str)else wB (.str z) (ss.map V.str))) b
 |_=>.Xb
section
variable{T:Tb}{X:Cx}{e:Ua}{f:Ev->M D}{x:Str}{p pos:Ve}{ss:List Str}
theorem zmv(ss:List Str):(ss.map V.str).all xj=true:=by simp[xj]
theorem ω(j:RA X.K a ss)(h:tF T X (Cd (tG b ss) f) g H Q):aB (eG X.K b) (tF T X f) (tC (.ref a)) g H Q:=by
 obtain⟨n,p,q,i,l,k⟩:=h;refine⟨n,p,q,i,l,k.bind λd r o v s _ t m e c=>?_⟩;cases d with
 |str z=>rw[Qa]at e;subst e;exact⟨a,ss.map V.str,rfl,.inr (.inr j),rfl,zmv ss,nc.here c m (by rw[Qa])⟩
 |_=>exact c.elim
theorem L5(l:Gl X x)(g:VE X.K X.mg x ss)(c:FE T X e f)(j:(x == ("__debug__" : Str))=false:=by decide):FT T X (.Compare e [.In] [.Name x p] pos) (eT (Cd (tG false ss) f)):=by
 obtain⟨a,m,i⟩:=g;intro b s w H Q I h;refine OL iM c (KM l m (v:=.ref a) rfl j) rfl b s w H Q I ?_;refine ω i ?_;obtain⟨y,A,B,c,o,n⟩:=h;refine⟨y,A,B,c,o,n.bind λd C z v D _ E u r t=>?_⟩;obtain⟨k,ev,q⟩:=TJ r t;exact⟨k,ev,q.here u rfl⟩
end
section
variable{T:Tb}{X:Cx}
noncomputable def GG(a:List (sd × D))(k:sd):List (sd × D):=a.filter λb=>decide (b.1≠k)
theorem dR{e:List Addr}{H:Hp}(k:sd):∀ {c:List (sd × D)} {us:List (sd × V)},Dl T e H c us->Dl T e H (GG c k) (lx us k)
 |[],_,h=>by unfold Dl at h;cases h;exact .nil
 |p::c,_,h=>by
  cases h with
  |@cons _ q _ us a b=>
   have d:=dR k b;unfold GG lx at *;rw[Ie,Ie,a.1];split
   ·exact .cons a d
   ·exact d
def FP:V->List V->Hp->VK->Prop:=λx c H Q=>∃ a b k v,x=.ref a/\c=[kV k]/\H a=some (.dK b)/\Dn b k=some v/\Q v (rc H a (.dK (lx b k)))
theorem j6:Uu X "dict.pop" FP:=by
 intro b s n H x p v o Q I l j h;obtain⟨a,f,k,y,rfl,rfl,d,e,q⟩:=h;cases l;obtain⟨u,rfl,i⟩:=j.one;exact R4 I d i e (.inl rfl) λr m c g=>⟨y,_,c,g,q⟩
def bA(x:D)(xs:List D):M D:=λb=>match x,xs with
 | .ref n,[y]=>(match aq y with
  |some k=>(match b[n]? with
   |some (.Bc a)=>(match Zp a k with
    |some d=>.ok d (b.set n (.Bc (GG a k)))
    |none=>.Xb)
   |_=>.Xb)
  |none=>.Xb)
 |_,_=>.Xb
theorem ý:HA T FP bA:=by
 intro E g H B x xs v D Q r p q h;cases x with
 |ref n=>
  match xs with
  |[]=>exact h.elim
  |[y]=>
   unfold bA at h;cases b:aq y with
   |none=>simp only[b]at h;exact h.elim
   |some k=>
    simp only[b]at h;cases c:B[n]? with
    |none=>rw[c]at h;exact h.elim
    |some ob=>
     rw[c]at h;cases ob with
     |Bc d=>
      dsimp only at h;obtain⟨a,rfl,l,o,i,j⟩:=r.at p c;obtain⟨w,z,rfl,t,m⟩:=q;rw[Jb]at m;subst m;obtain rfl:=rB t b;rcases UA j k with⟨f,_⟩|⟨C,s,f,u,A⟩
      ·rw[f]at h;exact h.elim
      ·rw[f]at h;have ex:we g H g (rc H a (.dK (lx o k))):=Gw (Oa l) i (λ_ z=>by cases z) (λ_ _ z=>by cases z);have e:=r.write (ob:=.Bc (GG d k)) l ⟨_,Mh,Dl.mono ex (dR k j)⟩;exact⟨a,o,k,s,rfl,rfl,i,u,h g s _ e.1 e.2 (Qa.mono e.1 _ _ A)⟩
     |va _=>exact h.elim
     |Ld _ _=>exact h.elim
     |Xf _=>exact h.elim
     |rl _=>exact h.elim
  |_::_::_=>exact h.elim
 |_=>cases xs<;>exact h.elim
end
theorem zY{K:W.Frag}(X:K.In h)(G:h.Ns mainGlobals c)(a:W.nsIn K mainGlobals x=some (some (.ref C)))(b:ZJ K C d=true):VE K c x d:=⟨C,W.mg_of X G a,RA.of b⟩
section
variable{T:Tb}{X:Cx}
end
section
variable{T:Tb}{X:Cx}
end
section
variable{prog:Ca}{w:Ya}{A:Ta}{E:Value->aa->Prop}{l q I S:Addr}{n:Nat}{P:Nat->Value->Prop}{R:DA->aa->Prop}{Q:Value->aa->Prop}
theorem g7(G:Nat->Value->Int->aa->Prop)(hh:A.handled=none)(Z:l≠I)(H:S≠I)(a8:l≠S)
  (hl:∀ j d a s,G j d a s->∃ y:List Value,y.length=n/\(∀ (j:Nat) v,y[j]?=some v->P j v)/\s.heap.IsList l y.toArray)
  (u:∀ j d a s B tk,G j d a s->(∀ b o,b≠I->b≠S->s.heap.get? b=some o->B.get? b=some o)->G j d a { s with heap:=B,toks:=tk })
  (a5:∀ j d a s v oI oS,G j d a s->P j v->s.heap.get? I=some oI->s.heap.get? S=some oS->(∀ v,oI.data≠.cell v)->(∀ v,oS.data≠.cell v)->
   wpAny (model prog w) A.in1 (call (.ref q) [v]) (λx s'=>∃ k t,x=.int k t/\s'.heap.get? I=some oI/\s'.heap.get? S=some oS/\G (j+1) (if k<a then v else d) (if k<a then k else a) s') (λ_ _=>False) s)
  (hR:∀ d a s,G n d a s->R (.ok (.ret d)) s) :
  ∀ (r j:Nat) (s:aa) (d:Value) (a:Int) (tb:Tok) (c:Nat),n - j=r->j<=n->G j d a s->s.heap.get? S=some (km "list" #[d,.int a tb] c)->s.heap.IsListIter I l j->
   codeAny (model prog w) A (.builtin "min.loop" ⟨[.ref I,.ref q,.ref S],[]⟩) R s:=by
 have a7:(toString "min"++toString ".loop" : String) = "min.loop":=by decide
 intro r;induction r with
 |zero=>
  intro j s d a tb c hr hj g V hit;have X:j=n:=by omega
  obtain⟨y,O,a3,K⟩:=hl j d a s g;have W:=Pp (prog:=prog) (w:=w) (A:=A.in1) hh I l Z y.toArray;have N:y.toArray.size=n:=(za ..).trans O;refine Ci fj ?_;rw[Around.under_plainId Jf _];show wpAny _ A.in1 (seqItems? (.ref S) >>= _) _ _ _;refine da (vt V rfl ?_);show wpAny _ A.in1 (tryCatch (pyNext (.ref I)) _ >>= _) _ _ _;refine da (Of (W.done _ _ _ ⟨by rw[N,<-X];exact hit,K⟩ λB a4 J=>?_));have m:∀ b o,b≠I->s.heap.get? b=some o->B.get? b=some o:=λb o n e=>J b o (by simpa using n) e;have D:=m S _ H V;have s1:=pj B S (og λ_=>(#[]:Array Value));refine da ?_;refine Hr D rfl (da (Wq (ra ?_)));subst X;exact hR d a _ (u _ _ _ s _ _ g λb o n1 n2 e=>by rw[s1.2 b n2];exact m b o n1 e)
 |succ r ih=>
  intro j s d a tb c hr hj g V hit;have L:j<n:=by omega
  obtain⟨y,O,a3,K⟩:=hl j d a s g;have W:=Pp (prog:=prog) (w:=w) (A:=A.in1) hh I l Z y.toArray;have N:y.toArray.size=n:=(za ..).trans O;refine Ci fj ?_;refine da (vt V rfl ?_);refine da (Of (W.item j _ _ _ (by rw[N];exact L) ⟨hit,K⟩ λv B a4 hP a2 J=>?_));have m:∀ b o,b≠I->s.heap.get? b=some o->B.get? b=some o:=λb o n e=>J b o (by simpa using n) e;have hv:P j v:=a3 j v (by simpa using hP);obtain⟨Q,a0,a1,M⟩:=id a2.1;have g1:=u _ _ _ s B a4 g λb o n1 n2 e=>m b o n1 e;have D:=m S _ H V;refine da (Of (Td (Hc (a5 j d a _ v Q _ g1 hv a0 D (λv z=>by rw[M]at z;cases z) (λv z=>by cases z)) (λx p he=>?_) λ_ _ hF=>hF.elim)));obtain⟨C,T,rfl,U,E,g2⟩:=he;have Y:p.heap.IsListIter I l (j+1):=⟨Q,U,a1,M⟩
  refine da (Of (Td (da (CmpOf.ints_lt (prog:=prog) (w:=w) (A:=A.in1) (P:=λ(i:Nat) v=>∃ t,v=.int (if i=0 then C else a) t) (λi=>if i=0 then C else a) (λi v h=>h) 0 1 _ _ _ _ _ ⟨T,rfl⟩ ⟨tb,rfl⟩ ?_))));refine da (Td (Ud ?_));refine da (Wq (ra ?_));by_cases f:C<a
  ·have s1:=pj p.heap S (og λ_=>#[v,.int C T]);obtain⟨c2,a6⟩:∃ c2,(p.heap.update S (og λ_=>#[v,.int C T])).get? S=some (km "list" #[v,.int C T] c2):=⟨_,cJ E λ_=>#[v,.int C T]⟩
   rw[ja f,ja f]at g2;simp only[f,decide_true,zg,bz,Lk];refine da ?_;refine Hr E rfl (da (Wq ?_));refine ra ⟨Ij Jf _,ih (j+1) _ v C T c2 (by omega) L (u _ _ _ p _ _ g2 λb o n1 n2 e=>by rw[s1.2 b n2];exact e) a6 ⟨Q,(s1.2 I H.symm).trans U,a1,M⟩⟩
  ·rw[ka f,ka f]at g2;simp only[f,decide_false,Ml,Lk,zg,bz];refine da (Wq ?_);exact ra ⟨Ij Jf _,ih (j+1) _ d a tb c (by omega) L (u _ _ _ p _ _ g2 λb o _ _ e=>e) E Y⟩
theorem SY(T:aa->Prop)(G:Addr->Addr->Nat->Value->Int->aa->Prop)(hh:A.handled=none)(g0:T s){f:List Value}(a7:f.length=n)(a6:∀ (j:Nat) v,f[j]?=some v->P j v)(h:s.heap.IsList l f.toArray)(H:0<n)
  (V:∀ s h' tk,T s->(∀ b o,s.heap.get? b=some o->h'.get? b=some o)->T { s with heap:=h',toks:=tk })
  (first:∀ (I S:Addr) (s1:aa) v oI oS,s.heap.objs.size<=I->s.heap.objs.size<=S->S≠I->(∃ s0,T s0/\(∀ b o,b≠I->s0.heap.get? b=some o->s1.heap.get? b=some o)/\(s1={ s0 with heap:=s1.heap,toks:=s1.toks }))->P 0 v->s1.heap.get? I=some oI->s1.heap.get? S=some oS->(∀ v,oI.data≠.cell v)->(∀ v,oS.data≠.cell v)->
   wpAny (model prog w) A.in1 (call (.ref q) [v]) (λx i=>∃ k t,x=.int k t/\i.heap.get? I=some oI/\i.heap.get? S=some oS/\G I S 1 v k i) (λ_ _=>False) s1)
  (hl:∀ I S j c a s,G I S j c a s->∃ f:List Value,f.length=n/\(∀ (j:Nat) v,f[j]?=some v->P j v)/\s.heap.IsList l f.toArray)
  (D:∀ I S j c a s h' tk,G I S j c a s->(∀ b o,b≠I->b≠S->s.heap.get? b=some o->h'.get? b=some o)->G I S j c a { s with heap:=h',toks:=tk })
  (R:∀ I S j c a s v oI oS,G I S j c a s->P j v->s.heap.get? I=some oI->s.heap.get? S=some oS->(∀ v,oI.data≠.cell v)->(∀ v,oS.data≠.cell v)->
   wpAny (model prog w) A.in1 (call (.ref q) [v]) (λx i=>∃ k t,x=.int k t/\i.heap.get? I=some oI/\i.heap.get? S=some oS/\G I S (j+1) (if k<a then v else c) (if k<a then k else a) i) (λ_ _=>False) s)
  (hQ:∀ I S c a s,G I S n c a s->Q c s) :
  wpAny (model prog w) A (call (.builtin "min") [.ref l] [(Cn "key",.ref q)]) Q E s:=by
 obtain⟨ol,a4,_⟩:=id h;have C:=Ba a4;refine kmk_tree PySem.F.kind_min PySem.F.plain_min PySem.F.entry_min (kmk_min_key _ _) ?_;refine da (wpAny_of_eq (rfl) ?_);refine da (ra ?_);refine da (Op h ?_);refine da (VW ?_ (Bu _));have Y:(s.heap.push { cls:=.type "list_iterator",data:=.fields #[.ref l,.int 0 0] }).objs.size=s.heap.objs.size+1:=size_push' ..;have B:=Sa C;have d:(s.heap.push { cls:=.type "list_iterator",data:=.fields #[.ref l,.int 0 0] }).objs.size≠s.heap.objs.size:=by rw[Y];exact fh (Ed _)
 have a2:l≠(s.heap.push { cls:=.type "list_iterator",data:=.fields #[.ref l,.int 0 0] }).objs.size:=by rw[Y];exact Sa (Vi C)
 have r:s.heap.objs.size<=(s.heap.push { cls:=.type "list_iterator",data:=.fields #[.ref l,.int 0 0] }).objs.size:=by rw[Y];exact Xo _
 refine ra ⟨Ij Jf _,?_⟩;have gI:((s.heap.push { cls:=.type "list_iterator",data:=.fields #[.ref l,.int 0 0] }).push (km "list" #[] 0)).get? s.heap.objs.size=some { cls:=.type "list_iterator",data:=.fields #[.ref l,.int 0 0] }:=
  qa _ (Bb _ rfl)
 have gS:((s.heap.push { cls:=.type "list_iterator",data:=.fields #[.ref l,.int 0 0] }).push (km "list" #[] 0)).get? (s.heap.push { cls:=.type "list_iterator",data:=.fields #[.ref l,.int 0 0] }).objs.size=some (km "list" #[] 0):=Bb _ rfl;have y:∀ b o,s.heap.get? b=some o->((s.heap.push { cls:=.type "list_iterator",data:=.fields #[.ref l,.int 0 0] }).push (km "list" #[] 0)).get? b=some o:=λb o e=>qa _ (qa _ e);generalize (s.heap.push { cls:=.type "list_iterator",data:=.fields #[.ref l,.int 0 0] }).objs.size=S at *;generalize ((s.heap.push { cls:=.type "list_iterator",data:=.fields #[.ref l,.int 0 0] }).push (km "list" #[] 0))=hp at *;have W:=Pp (prog:=prog) (w:=w) (A:=A.in1) hh s.heap.objs.size l B f.toArray;have a5:=(za ..).trans a7;refine Ci fj ?_;refine da (vt gS rfl ?_);refine da (Of (W.item 0 _ _ _ (by rw[a5];exact H) ⟨⟨_,gI,rfl,rfl⟩,h.at λo e=>y _ _ e⟩ λv h' a8 hP L a1=>?_));have u:=λb o n e=>a1 b o (by simpa using n) e;have hv:=a6 0 v (by simpa using hP);obtain⟨N,J,a3,K⟩:=id L.1;have Z:=u S _ d gS;refine da (Of (Td (Hc (first s.heap.objs.size S _ v N _ (Ea _) r d ⟨{ s with heap:=hp,toks:=s.toks },V s hp _ g0 y,λb o n e=>u b o n e,rfl⟩ hv J Z (λv z=>by rw[K]at z;cases z) (λv z=>by cases z)) (λx m he=>?_) λ_ _ hF=>hF.elim)));obtain⟨M,O,rfl,X,p,g2⟩:=he;have s1:=pj m.heap S (og λ_=>#[v,.int M O]);obtain⟨U,a0⟩:∃ U,(m.heap.update S (og λ_=>#[v,.int M O])).get? S=some (km "list" #[v,.int M O] U):=⟨_,cJ p λ_=>#[v,.int M O]⟩
 refine da ?_;refine Hr p rfl ?_;exact ra ⟨Ij Jf _,g7 (G _ _) hh B d a2 (hl _ _) (D _ _) (R _ _) (λc a s g=>hQ _ _ c a s g) _ 1 _ v M O U rfl H (D _ _ _ _ _ m _ _ g2 λb o n1 n2 e=>by rw[s1.2 b n2];exact e) a0 ⟨N,(s1.2 _ d.symm).trans X,a3,K⟩⟩
end
noncomputable def hD(X:Cx)(A:Ta)(d:List Str)(b:Str)(a:Scope)(q:Addr)(c:Value)(cl:List (Str × Addr))(s₀:aa)(H₀:Hp):Cx:=
 { X with A:=A.deeper (W.envX b a s₀.heap.objs.size q c cl),N:=d,s₀:=s₀,H₀:=H₀,env:=W.envX b a s₀.heap.objs.size q c cl,outer:=X.stack,stack:=W.envX b a s₀.heap.objs.size q c cl::X.stack,ex:=[],fn:=λ_=>false,Aa:=true,pn:=[],xe:=λ_ _=>False }
noncomputable def CM(a:List Nat)(d:D)(b:Ev):Ev:=some d::a.map λi=>(b[i]?).getD none
noncomputable def pC(a:List Nat)(v:V)(b:St):St:=some v::a.map λi=>(b[i]?).getD none
theorem vX(a:List Nat)(h:ji T b H e c)(f:Qa T b H d v):ji T b H (CM a d e) (pC a v c):=by
 have z:=(wQ a h).set 0 f;exact z
section
variable{X:Cx}{pins:List (Addr × Vc)}{st:St}{H:Hp}{s:aa}{x:Str}{M':List Str}{ix:List Nat}{scope:Scope}{A:Ta}{qual:Str}{q:Addr}{cd:Value}{v:V}{u:Value}
theorem mZ(I:lb X pins st H s)(L:yo X x M' ix scope)(hx:scope.names.lookup x=some .local)(hA:A.frames=some X.stack)(M:A.handled=none)(rv:Qd v u)(P:h'.Ns s.heap.objs.size m)(hm:m x=some u)
  (E:∀ b o,s.heap.get? b=some o->h'.get? b=some o) :
  lb (hD X A (x::M') qual scope q cd (gk X.env scope.names []) s H) [] (pC ix v st) H { s with heap:=h',toks:=t' }:=by
 have f:∀ n c,(gk X.env scope.names []).lookup n=some c->X.env.cells.lookup n=some c:=λn c e=>HL X.env scope.names [] n c (λ_ _ q=>by simp at q) e;have r:H s.heap.objs.size=none:=I.zd.fresh (Ea _);have t:∀ b:Addr,b ∉ (hD X A (x::M') qual scope q cd (gk X.env scope.names []) s H).ex:=λb z=>absurd (show b∈[]from z) (by simp);refine⟨⟨I.ok.mod,L.kind,rfl,rfl,Ea _,λa b c h1 h2=>I.ok.inj a b c (f a c h1) (f b c h2),λa ha=>?_,λa c h=>(by cases h),λ_=>M,Vr hA,.inr ⟨rfl,rfl⟩,λb J=>absurd J (t b),λb o e=>I.bs b o e,Qb I.ok.Xs I.sz,λb o e=>t b,λb J=>absurd J (t b),I.stack,I.vl⟩,
  rfl,I.bare,Un.kept E,⟨m,P,λi y C S T e3=>?_⟩,λa c e=>?_,r,λa c e=>I.Ug a c (f a c e),λp hp=>absurd (show p∈[]from hp) (by simp),I.zd.kept E,?_⟩
 ·have G:scope.names.lookup a=some .cell\/scope.names.lookup a=some .free:=ha;rcases G with z|z
  ·exact absurd rfl (WE L _ (zw z))
  ·exact AE X.env scope.names [] a (zw z) (Fz I L _ (zw z) rfl)
 ·cases i with
  |zero=>
   have g:some x=some y:=S;have d:some (some v)=some (some C):=T;cases g;cases d;exact⟨u,rv,.inl ⟨hx,hm⟩⟩
  |succ j=>
   have g:M'[j]?=some y:=S;have d:(ix.map λi=>(st[i]?).getD none)[j]?=some (some C):=T;rw[zb]at d;cases F:ix[j]? with
   |none=>rw[F]at d;cases d
   |some B=>
    rw[F]at d;have D:(st[B]?).getD none=some C:=Lb d;have Y:st[B]?=some (some C):=by
     cases q:st[B]? with
     |none=>rw[q]at D;cases D
     |some o=>rw[q]at D;exact yc some D
    have Z:X.N[B]?=some y:=by
     have z:=yc (λl=>l[j]?) L.at_;simp only[zb,F,g]at z;exact Lb z
    have q:=cc.mp L.aR y (Oa g);simp only[La,Kg]at q;have V:X.env.scope.names.lookup y=some .cell\/X.env.scope.names.lookup y=some .free:=by
     rcases q.1 with z|z
     ·exact .inl (eq_of_beq z)
     ·exact .inr (eq_of_beq z)
    have R:scope.names.lookup y=some .free:=eq_of_beq q.2;obtain⟨m0,a0,O⟩:=I.loc;obtain⟨u2,ru,lu⟩:=O B y C Z Y (by rcases V with z|z;exact .inr (.inl z);exact .inr (.inr z));refine⟨u2,ru,.inr ⟨.inr R,?_⟩⟩;rcases lu with⟨z,_⟩|⟨_,c,ec,zc⟩
    ·rcases V with k|k
     ·rw[show X.env.kindOf y=X.env.scope.names.lookup y from rfl,k]at z;cases z
     ·rw[show X.env.kindOf y=X.env.scope.names.lookup y from rfl,k]at z;cases z
    ·obtain⟨W,w⟩:=AE X.env scope.names [] y (zw R) (Fz I L _ (zw R) rfl);have U:=f y W w;rw[ec]at U;cases U;obtain⟨o,Q,K⟩:=zc;exact⟨c,w,o,E _ _ Q,K⟩
 ·obtain⟨v,o,Q,K⟩:=I.cell a c (f a c e);exact⟨v,o,E _ _ Q,K⟩
 ·have z:=yc List.length L.at_;simp[pC,hD];simpa using z
theorem D6(I:lb X pins st H s)(L:yo X x M' ix scope)(D:scope.names.lookup x=some .local)(N:A.frames=some X.stack)(p:A.handled=none)(n:A.depth<recursionLimit)
  (P:s.heap.get? q=some (W.kla_obj d qual a c scope (gk X.env scope.names []) F h i)) (l:s.heap.CodeRec (.ref h) qual)
  (f:bindArgs (W.kla_fn d qual a c scope (gk X.env scope.names []) F (.ref h) i) ⟨[u],[]⟩=pure [(x,u)]) (m:scope.isCoroutine=false) (j:scope.isGenerator=false) (U:Qd v u)
  (O:PE (hD X A (x::M') qual scope q (.ref h) (gk X.env scope.names []) s H) c t) (S:t (pC ix v st) H Q) :
  wpAny (model X.prog X.w) A (call (.ref q) [u]) (λr G=>CE X.stack X.prog X.w H s Q r G) (λ_ _=>False) s:=by
 refine Oo (W.kla_callFunE n P rfl m j rfl l ?_);rw[f];refine ra (dm (WE L) (λy T=>?_) (λE B k=>⟨?_,?_⟩) L.kind)
 ·have e:y=(x,u):=by simpa using T
  subst e;exact D
 ·exact(I.nolimit).fresh _ k
 ·have g:=λb o e=>k.extBut b o (Sa (Ba e)) (qa _ e);refine W.kla_codeExpr ?_;have M:=mZ (qual:=qual) (q:=q) (cd:=.ref h) (t':=s.toks+1) I L D N p U B (by simp) g;refine Hc (O [] _ (pC ix v st) H Q M S) (λY G z=>?_) λ_ _ z=>z.elim;obtain⟨V,K,J,C,R⟩:=z;exact⟨V,K,J.os,J.bare,J.base,J.zd,C,R⟩
end
noncomputable def uE(K:W.Frag)(c P:Addr):Bool:=match K.lookup c with
 |some o=>(match o.cls,o.data with
  | .type n,.fields a=>n == "code" && (match (a[11]?:Option Value)with|some (.ref p)=>p == P|_=>false) && (match a.getD 11 .none with | .ref p=>p == P|_=>false) && (match a.getD 18 .none with | .str _ _=>true|_=>false) &&
   (match a.getD 7 .none with | .int _ _=>true|_=>false) && (match a.getD 9 .none with | .bool _=>true|_=>false) && (match a.getD 10 .none with | .int _ _=>true|_=>false) && (c != P)
  |_,_=>false)
 |none=>false
theorem TY{K:W.Frag}(X:K.In h)(e:uE K c P=true):W.CodeHd h c P:=by
 unfold uE at e;split at e
 ·next o v=>
  split at e
  ·next n G t u=>
   simp only[La]at e;obtain⟨⟨⟨⟨⟨⟨⟨j,a⟩,b⟩,d⟩,f⟩,g⟩,i⟩,k⟩:=e;split at a;case h_2=>cases a
   next H l=>
   split at b;case h_2=>cases b
   next I m=>
   split at d;case h_2=>cases d
   next z D p=>
   split at f;case h_2=>cases f
   next A E q=>
   split at g;case h_2=>cases g
   next B r=>
   split at i;case h_2=>cases i
   next C F s=>
   have x:=eq_of_beq a;have y:=eq_of_beq b;subst x;subst y;have w:=eq_of_beq j;subst w;exact⟨o,G,z,D,A,E,B,C,F,X _ _ v,t,u,l,m,p,q,r,s,by simpa using k⟩
  ·cases e
 ·cases e
theorem R7(I:lb X i F H s)(h:H P=some (.Fm l))(A:Heap.ExtBut P s.heap h')(p:s.heap.objs.size<=f)(O:f<h'.objs.size)
  (r:Tu d f h') (w:h'.get? P=some (W.tabObj (l++a))) :
  lb X i F (rc (rc H P (.Fm (l++a))) f (.ext (Tu d f))) { s with heap:=h',toks:=tk }:=by
 have j:=I.zd.fresh p;have C:f≠P:=λz=>by rw[z,h]at j;cases j
 have B:∀ b,H b=none->b≠P:=λb n z=>by rw[z,h]at n;cases n
 have x:∀ b u,H b=some u->b≠P->rc (rc H P (.Fm (l++a))) f (.ext (Tu d f)) b=some u:=λb u e n=>by
  rw[me (nq e j),me n];exact e
 have R:rc (rc H P (.Fm (l++a))) f (.ext (Tu d f)) P=some (.Fm (l++a)):=by rw[me C.symm,Mh]
 refine I.un ⟨λb o e n _ _=>A b o (B b n) e,λb o e n _ _=>⟨o.slots,A b o (B b n) e⟩,λb o e n _=>?_,λb o e _=>?_,λb xs e=>x b _ e (λz=>by rw[z,h]at e;cases e),λb o u e=>x b _ e (λz=>by rw[z,h]at e;cases e),λb T e=>?_⟩ λb u e=>?_
 ·have:b≠f:=λz=>by subst z;exact absurd (Ba e) (LN.mpr p)
  rw[me this,me (B b n)];exact n
 ·by_cases g:b=P
  ·subst g;exact⟨_,w⟩
  ·exact⟨o,A b o g e⟩
 ·by_cases g:b=P
  ·subst g;rw[h]at e;cases e;exact⟨a,R⟩
  ·exact⟨#[],by rw[Array.append_empty];exact x b _ e g⟩
 ·by_cases m:b=f
  ·subst m;rw[Mh]at e;cases e;obtain⟨o,S,t,E,L,M⟩:=r;exact⟨⟨o,S,t,E,L,M⟩,⟨o,E⟩,λa1 a2 ⟨Q,D,t',G,J,K⟩ k=>⟨Q,D,t',k _ G,J,K⟩⟩
  ·rw[me m]at e;by_cases g:b=P
   ·subst g;rw[Mh]at e;cases e;exact w
   ·rw[me g]at e;refine(I.zd b u e).Uk (λc v N q=>A c v ?_ q) (λc q=>x c _ q (λz=>by rw[z,h]at q;cases q)) λc xs q=>x c _ q (λz=>by rw[z,h]at q;cases q);rcases N with z|z
    ·rw[z];exact g
    ·intro y;rw[y,h]at z;cases z
section
variable{T:Tb}{X:Cx}{pins:List (Addr × Vc)}{st:St}{H:Hp}{s:aa}{μ:List Addr}{σ:nb}{x:Str}{M':List Str}{ix:List Nat}{scope:Scope}{params:Arguments}{body:Ua}{pos:Ve}{c:Addr}{t:Tab}
structure cy(T:Tb)(X:Cx)(t:Tab)(c:Addr)(pos:Ve):Prop where
 mem:t∈T.tx.mq
 inj:∀ t'∈T.tx.mq,t'.P=t.P->t'=t
 code:X.env.code=.ref c
 hd:uE X.K c t.P=true
 line:t.line=pos.line
 col:t.col=pos.col
 qual:t.qual=X.env.qual++"<lambda>"
 bm:X.mg "__builtins__" = some (.ref T.tx.bm)
 bb:T.tx.bm≠builtinsNs
theorem U6(I:lb X pins st H s)(L:yo X x M' ix scope)(r:Xd T μ H σ)(g:cy T X t c pos)(M:defaultsOf params X.env=([],[])) :
  wpAny (model X.prog X.w) X.A (vc (.Lambda params body scope pos) X.env) (λv s'=>∃ q d i B,v=.ref q/\lb X ((q,W.kla_obj "<lambda>" t.qual params body scope (gk X.env scope.names []) ((X.mg "__name__").getD .none) d i)::pins) st B s'/\we μ H μ B/\Xd T μ B σ/\d ∉ μ/\B d=some (.ext (Tu t.qual d))) X.xe s:=by
 obtain⟨⟨b3,b5,V⟩,U,ps,E,a9⟩:=r.tb t g.mem;have j:s.heap.get? t.P=some (W.tabObj ps):=I.zd _ _ E;have l:s.heap.Ns mainGlobals X.mg:=I.ok.mod.glob.keeps I.bk;have a7:mainGlobals≠t.P:=λz=>by
  obtain⟨o,es,ep,e,hd,_⟩:=l;rw[z,j]at e;cases e;cases hd
 obtain⟨_,⟨ob,S,o2,o3,o4⟩,_⟩:=I.zd _ _ V;have G:T.tx.bm≠t.P:=λz=>by rw[z,j]at S;cases S;cases o2
 have Y:T.tx.bm≠mainGlobals:=λz=>by
  obtain⟨o,es,ep,e,hd,_⟩:=l;rw[z,e]at S;cases S;rw[hd]at o4;cases o4
 have hB:s.heap.BuiltinsAt X.mg t.P:=⟨T.tx.bm,ob,g.bm,g.bb,Y,G,S,o2,o3,o4⟩
 have K:=pJ X.env scope (Fz I L);have C:W.CodeHd s.heap c t.P:=(TY I.ok.mod.My g.hd).keeps I.bk;have f:∀ {h':Heap} {y:Nat} {B:Hp} {o:Vc},lb X pins st B { s with heap:=h',toks:=y }->o.isFreed=false->(∀ v,o.data≠.cell v)->lb X ((h'.objs.size,o)::pins) st B { s with heap:=h'.push o,toks:=y }:=fun {h' y B o} J hf hc=>by
  have J2:=J.kept (h':=h'.push o) (t':=y) λb u e=>qa _ e;refine J2.Lj λp m=>?_;rcases Na.mp m with rfl|m
  ·exact⟨Bb _ hf,J.zd.fresh (Ea _),fh J.lt,J.OE (Ea _),hc⟩
  ·exact J2.pin p (gb _ m)
 refine W.kla_eval M ?_;rw[<-g.qual];rcases a9 with rfl|⟨c1,rfl,Z,a0⟩
 ·refine W.kla_makeFunction K I.ok.glob l g.code C j trivial rfl a7 hB λd i h' y hx N a8 O b0=>?_;have a6:Tu t.qual d h':=by
   obtain⟨c2,o,vs,tt,e,h1,h2,h3⟩:=O;cases e;exact⟨o,vs,tt,h1,h2,h3⟩
  have J:=R7 (tk:=y) I E hx N a8 a6 b0;have k:H d=none:=I.zd.fresh N;have b1:d≠t.P:=λz=>by rw[z,E]at k;cases k
  have D:d ∉ μ:=λz=>by obtain⟨u,R,_⟩:=r.mem z;rw[k]at R;cases R
  have F:∀ b u,H b=some u->b≠t.P->rc (rc H t.P (.Fm (#[]++#[Kf pos.line,Kf pos.col,.ref d]))) d (.ext (Tu t.qual d)) b=some u:=λb u e n=>by
   rw[me (nq e k),me n];exact e
  have uP:rc (rc H t.P (.Fm (#[]++#[Kf pos.line,Kf pos.col,.ref d]))) d (.ext (Tu t.qual d)) t.P=some (.Fm (#[]++#[Kf pos.line,Kf pos.col,.ref d])):=by rw[me b1.symm,Mh]
  have uc:rc (rc H t.P (.Fm (#[]++#[Kf pos.line,Kf pos.col,.ref d]))) d (.ext (Tu t.qual d)) d=some (.ext (Tu t.qual d)):=Mh;have e:we μ H μ (rc (rc H t.P (.Fm (#[]++#[Kf pos.line,Kf pos.col,.ref d]))) d (.ext (Tu t.qual d))):=by
   refine⟨⟨[],by simp⟩,λp xs h=>F p _ h (λz=>by rw[z,E]at h;cases h),λp o u h=>F p _ h (λz=>by rw[z,E]at h;cases h),λp o h n=>⟨?_,n⟩⟩;by_cases m:p=t.P
   ·subst m;rw[E]at h;cases h;exact⟨_,uP,.inr (.inr ⟨_,_,rfl,rfl⟩)⟩
   ·exact⟨o,F p o h m,.inl rfl⟩
  refine⟨_,d,i,_,rfl,f J rfl (λv z=>by cases z),e,r.keep e (λa ha=>?_) λt' Q=>?_,D,uc⟩
  ·obtain⟨u,R,_⟩:=r.mem ha;rw[R];exact F a u R λz=>U (by rw[<-z];exact ha)
  ·obtain⟨⟨a1,b2,a2⟩,a3,qs,a4,a5⟩:=r.tb t' Q;refine⟨⟨a1,b2,F _ _ a2 G⟩,a3,?_⟩;by_cases m:t'.P=t.P
   ·have et:=g.inj t' Q m;subst et;exact⟨_,uP,.inr ⟨d,by rw[g.line,g.col];rfl,D,uc⟩⟩
   ·refine⟨qs,F _ _ a4 m,a5.imp id λ⟨c3,z1,z2,z3⟩=>⟨c3,z1,z2,F _ _ z3 (λz=>by rw[z,E]at z3;cases z3)⟩⟩
 ·refine W.kla_makeFunctionHit (cv:=.ref c1) K I.ok.glob l g.code C j ?_ ?_ hB λi h' y hk b4=>?_
  ·exact trivial
  ·rw[g.line,g.col];simp[codeAmong,Kf]
  ·have J:=I.kept (h':=h') (t':=y) hk;exact⟨_,c1,i,H,rfl,f J rfl (λv z=>by cases z),we.refl _ _,r,Z,a0⟩
end
def Ax(a:Ev->M D)(rest:Ev):List D->D->Int->M D
 |[],b,_=>ret b
 |d::ds,b,c=>Pd (Mp (a (some d::rest))) λk=>match k with
  | .int k=>if k<c then Ax a rest ds d k else Ax a rest ds b c
  |_=>Xb
def yz(a:Ev->M D)(rest:Ev)(b:List D):M D:=match b with
 |[.va (x::xs)]=>Pd (Mp (a (some x::rest))) λk=>match k with
  | .int k=>Ax a rest xs x k
  |_=>Xb
 |_=>Xb
def RF(d:List Nat)(b:Ev->M D)(c:Ev->M (List D)):Ev->M D:=λa=>Pd (c a) (yz b (d.map λi=>(a[i]?).getD none))
theorem DT(I:lb X a t H s)(k:∀ b o,b≠i->b≠j->s.heap.get? b=some o->h'.get? b=some o)(g:xn X a H i)(l:xn X a H j):lb X a t H { s with heap:=h',toks:=t' }:=by
 have f:∀ b u,H b=some u->b≠i/\b≠j:=λb u e=>⟨(λz=>by rw[z,g.1]at e;cases e),(λz=>by rw[z,l.1]at e;cases e)⟩
 have p:∀ {b:Addr},b ∉ [i,j]->b≠i/\b≠j:=fun {b} h=>⟨λz=>h (by simp[z]),λz=>h (by simp[z])⟩
 refine I.step (λb y=>?_) (λb o _ _ d e _=>k b o (p d).1 (p d).2 e) (λb o _ _ d e _=>⟨o.slots,k b o (p d).1 (p d).2 e⟩) (λ_ _ _ _ n=>n)
  (λb o d e=>⟨o,k b o (p d).1 (p d).2 e⟩) (λ_ _ e=>e) (λ_ _ _ e=>e) (λb C e=>⟨#[],by rw[e];simp⟩) (λm A=>?_) (λb u e=>?_) I.bare
 ·have e:b=i\/b=j:=by simpa using y
  rcases e with rfl|rfl
  ·exact⟨g.2.2.2.1,g.2.1,g.2.2.2.2.1,g.2.2.2.2.2⟩
  ·exact⟨l.2.2.2.1,l.2.1,l.2.2.2.2.1,l.2.2.2.2.2⟩
 ·obtain⟨o,x,w,B,r⟩:=A;exact⟨o,x,w,k _ o (qf g.2.1) (qf l.2.1) B,r⟩
 ·refine(I.zd b u e).Uk (λc v d q=>?_) (λ_ q=>q) λ_ _ q=>q;rcases d with z|z
  ·rw[z]at q ⊢;exact k b v (f b u e).1 (f b u e).2 q
  ·exact k c v (f c _ z).1 (f c _ z).2 q
section
variable{T:Tb}{X:Cx}
theorem wS
  (U:Yd (k+2) X.A) (L:yo X x M' ix f) (hx:f.names.lookup x=some .local) (Lm:cy T X t c b3) (hg:Gl X "min") (hm:X.mg "min" = none)
  (c5:defaultsOf l X.env=([],[])) (d5:f.isCoroutine=false) (c6:f.isGenerator=false)
  (b8:∀ (cl:List (Str × Addr)) (pm cd O u:Value),bindArgs (W.kla_fn "<lambda>" t.qual l F f cl pm cd O) ⟨[u],[]⟩=pure [(x,u)])
  (ha:FA T X [e] fs)
  (hb:∀ (A:Ta) (q:Addr) (cd:Value) (b4:aa) (c2:Hp),Yd k (A.deeper (W.envX t.qual f b4.heap.objs.size q cd (gk X.env f.names [])))->FE T (hD X A (x::M') t.qual f q cd (gk X.env f.names []) b4 c2) F fe)
  (he:Wc a6 (ua [e] X.env)=(false,vc e X.env)::Wc a6 (ua [] X.env):=by rfl)
  (b0:(Wc a6 (ua [e] X.env)).any (·.1)=false:=by rfl) :
  FE T X (.Call (.Name "min" p) [e] [⟨some "key",.Lambda l F f b3,kp⟩] a6) (RF ix fe fs):=by
 intro m s Z H Q I h;refine Zf (ly I hg hm (show bootBuiltins "min" = some (.builtin "min")from rfl) ?_);obtain⟨μ,ρ,σ,hE,hr,hp⟩:=h;refine callWith_kw (Je (ha a6 m s Z H (λvs H1=>∃ K a9 ds,we μ H K H1/\Xd T K H1 a9/\Jb T K H1 ds vs/\nc T (XE X Z) (Qa T) K H1 (yz fe (ix.map λi=>(ρ[i]?).getD none) ds a9) Q) I ⟨μ,ρ,σ,hE,hr,hp.bind λds a9 K vs H1 _ e1 r1 q1 p1=>⟨K,a9,ds,e1,r1,q1,p1⟩⟩) λus s1 ⟨vs,H1,I1,rv,K,a9,ds,e1,r1,q1,p1⟩=>kws_cons (Je (U6 I1 L r1 Lm c5) λlv s2 ⟨q,c',O,H2,c9,I2,e2,r2,d2,d3⟩=>kws_nil ?_)) he b0;subst c9;show wpAny _ _ (call (.builtin "min") us [(Cn "key",.ref q)]) _ _ _;have d0:ji T K H2 ρ Z:=(hE.mono e1).mono e2;generalize c0:(ix.map λi=>(ρ[i]?).getD none)=rest at *;obtain⟨x0,xs,rfl⟩:∃ x0 xs,ds=[.va (x0::xs)]:=by
  unfold yz at p1;split at p1
  ·exact⟨_,_,rfl⟩
  ·exact p1.elim
 rw[Jb]at q1;obtain⟨v0,rr,rfl,q2,q3⟩:=q1;rw[Jb]at q3;subst q3;obtain⟨a,ws,rfl,c4,d1,d7⟩:=q2;obtain⟨u0,rfl,d9⟩:=Se.one rv;obtain rfl:u0=.ref a:=d9;have p2:=nc.mono e2 p1;have b2:H2 a=some (.va ws):=(e2.lj _ _ d1 c4).1;have a5:Jb T K H2 (x0::xs) ws:=Jb.mono e2 _ _ d7;have a3:(x0::xs).length=ws.length:=a5.length;have va:∀ {G:Hp} {Y:aa} {pn:List (Addr × Vc)},lb X pn Z G Y->G a=some (.va ws)->∃ its:List Value,its.length=ws.length/\(∀ (j:Nat) v,its[j]?=some v->∃ w,ws[j]?=some w/\Qd w v)/\Y.heap.IsList a its.toArray:=fun {G Y pn} J z=>by
  obtain⟨_,its,n,rv,ho⟩:=J.zd _ _ z;refine⟨its,rv.length.symm,λj v hv=>?_,⟨_,ho,rfl,⟨_,rfl⟩⟩⟩;have hj:j<ws.length:=by rw[rv.length];exact(la.mp hv).1
  obtain⟨u,hu,ru⟩:=rv.get (i:=j) (x:=ws[j]) (by simp[hj]);rw[hv]at hu;cases hu;exact⟨ws[j],by simp[hj],ru⟩
 have c8:∀ {E:List Addr} {G:Hp} {N:nb} {Y:aa} {d:D} {w:V} {v:Value} {I S:Addr} {oI oS:Vc} {kk:Int->M D},lb X ((q,W.kla_obj "<lambda>" t.qual l F f (gk X.env f.names []) ((X.mg "__name__").getD .none) c' O)::m) Z G Y->we K H2 E G->Xd T E G N->Qa T E G d w->Qd w v->
   xn X ((q,W.kla_obj "<lambda>" t.qual l F f (gk X.env f.names []) ((X.mg "__name__").getD .none) c' O)::m) G I->xn X ((q,W.kla_obj "<lambda>" t.qual l F f (gk X.env f.names []) ((X.mg "__name__").getD .none) c' O)::m) G S->
   Y.heap.get? I=some oI->Y.heap.get? S=some oS->(∀ v,oI.data≠.cell v)->(∀ v,oS.data≠.cell v)->
   nc T (XE X Z) (Qa T) E G (Pd (Mp (fe (some d::rest))) (λk=>match k with | .int k=>kk k|_=>Xb) N) Q->
   wpAny (model X.prog X.w) X.A.in1 (call (.ref q) [v]) (λy a8=>∃ k t',y=.int k t'/\a8.heap.get? I=some oI/\a8.heap.get? S=some oS/\∃ r C B,lb X ((q,W.kla_obj "<lambda>" t.qual l F f (gk X.env f.names []) ((X.mg "__name__").getD .none) c' O)::m) Z C a8/\we E G r C/\Xd T r C B/\
    xn X ((q,W.kla_obj "<lambda>" t.qual l F f (gk X.env f.names []) ((X.mg "__name__").getD .none) c' O)::m) C I/\xn X ((q,W.kla_obj "<lambda>" t.qual l F f (gk X.env f.names []) ((X.mg "__name__").getD .none) c' O)::m) C S/\nc T (XE X Z) (Qa T) r C (kk k B) Q) (λ_ _=>False) Y:=by
  intro E G N Y d w v I S oI oS kk J ex r' rd e0 fI fS gI gS cI cS po;generalize c7:W.kla_obj "<lambda>" t.qual l F f (gk X.env f.names []) ((X.mg "__name__").getD .none) c' O=ob at *;have b9:Y.heap.CodeRec (.ref c') t.qual:=by
   obtain⟨⟨o,e3,tt,h1,h2,h3⟩,_⟩:=J.zd _ _ (ex.lj _ _ d3 d2).1;exact⟨c',o,e3,tt,rfl,h1,h2,h3⟩
  have hq:=(J.pin (q,ob) (gb _ (.head _))).1;have J2:lb X ((I,oI)::(S,oS)::(q,ob)::m) Z G Y:=J.Lj λp hp=>by
   rcases Na.mp hp with rfl|hp
   ·exact⟨gI,fI.1,fI.2.1,fI.2.2.1,cI⟩
   ·rcases Na.mp hp with rfl|hp
    ·exact⟨gS,fS.1,fS.2.1,fS.2.2.1,cS⟩
    ·exact J.pin p (gb _ hp)
  have hd:X.A.in1.handled=none:=U.hd;refine Hc (D6 (A:=X.A.in1) (t:=tF T _ fe) (v:=w) (Q:=λy C=>∃ k r B,y=.int k/\we E G r C/\Xd T r C B/\nc T (XE X Z) (Qa T) r C (kk k B) Q) J2 L hx J.ok.frames hd (Yd.in1 U).depth (by rw[<-c7]at hq;exact hq) b9 (b8 _ _ _ _ _) d5 c6 e0 (hb _ _ _ _ _ ((Yd.in1 U).deeper _)) ⟨E,CM ix d ρ,N,vX ix (d0.mono ex) rd,r',?_⟩) (λy a8 d4=>?_) λ_ _ z=>z
  ·unfold CM;rw[c0];refine po.Rv λy B r g C _ b5 c1 d8 b1=>?_;cases y with
   |int k=>
    exact⟨k,r,B,d8,b5,c1,b1⟩
   |_=>exact b1.elim
  ·obtain⟨yv,C,J3,ry,k,r,B,rfl,b5,c1,b1⟩:=J2.after d4;obtain⟨t',rfl⟩:=ry;have pI:=J3.pin (I,oI) (gb _ (.head _));have pS:=J3.pin (S,oS) (gb _ (.tail _ (.head _)));have J4:lb X ((q,ob)::m) Z C a8:=J3.Lj λp hp=>J3.pin p (gb _ (.tail _ (.tail _ hp)));exact⟨k,t',rfl,pI.1,pS.1,r,C,B,J4,b5,c1,⟨pI.2.1,fI.2⟩,⟨pS.2.1,fS.2⟩,b1⟩
 obtain⟨its,hn,hP,d6⟩:=va I2 b2;generalize c7:W.kla_obj "<lambda>" t.qual l F f (gk X.env f.names []) ((X.mg "__name__").getD .none) c' O=ob at *;refine SY (n:=ws.length) (P:=λj v=>∃ w,ws[j]?=some w/\Qd w v) (λY=>lb X ((q,ob)::m) Z H2 Y)
  (λI S j vb kb Y=>xn X ((q,ob)::m) H2 I/\xn X ((q,ob)::m) H2 S/\∃ E G N b wb,lb X ((q,ob)::m) Z G Y/\we K H2 E G/\Xd T E G N/\Qa T E G b wb/\Qd wb vb/\xn X ((q,ob)::m) G I/\xn X ((q,ob)::m) G S/\nc T (XE X Z) (Qa T) E G (Ax fe rest ((x0::xs).drop j) b kb N) Q)
  U.hd I2 hn hP d6 (by rw[<-a3];simp) (λs0 h' tk g k=>g.kept k) ?_ ?_ ?_ ?_ ?_
 ·
  intro I S s3 v oI oS hI hS e5 ⟨s0,g0,hk,es⟩ ⟨w,hw,a7⟩ gI gS cI cS;have fI:xn X ((q,ob)::m) H2 I:=I2.qr hI (I2.zd.fresh hI);have fS:xn X ((q,ob)::m) H2 S:=I2.qr hS (I2.zd.fresh hS);have J:lb X ((q,ob)::m) Z H2 s3:=by
   rw[es];exact DT g0 (λb o n _ e=>hk b o n e) fI fS
  have rd:∃ w',ws[0]?=some w'/\Qa T K H2 x0 w':=a5.get (i:=0) rfl;obtain⟨w',a4,rd⟩:=rd;rw[hw]at a4;cases a4;refine Hc (c8 (kk:=λk=>Ax fe rest xs x0 k) J (we.refl _ _) r2 rd a7 fI fS gI gS cI cS p2) (λy s4 z=>?_) λ_ _ z=>z;obtain⟨k,t',rfl,b6,b7,r,C,B,J4,e4,r4,f1,f2,p4⟩:=z;exact⟨k,t',rfl,b6,b7,fI,fS,r,C,B,x0,w,J4,e4,r4,Qa.mono e4 _ _ rd,a7,f1,f2,p4⟩
 ·intro I S j vb kb Y ⟨_,_,E,G,N,b,wb,J,ex,r',rb,a0,f1,f2,p'⟩;exact va J (ex.lj _ _ b2 c4).1
 ·intro I S j vb kb Y h' tk ⟨a1,a2,E,G,N,b,wb,J,ex,r',rb,a0,f1,f2,p'⟩ k;exact⟨a1,a2,E,G,N,b,wb,DT J k f1 f2,ex,r',rb,a0,f1,f2,p'⟩
 ·intro I S j vb kb Y v oI oS ⟨a1,a2,E,G,N,b,wb,J,ex,r',rb,a0,f1,f2,p'⟩ ⟨w,hw,a7⟩ gI gS cI cS;have hj:j<(x0::xs).length:=by rw[a3];exact(la.mp hw).1
  obtain⟨w',a4,rd⟩:=a5.get (i:=j) (d:=(x0::xs)[j]) (by rw[Qc hj]);rw[hw]at a4;cases a4;rw[vg hj]at p';generalize (x0::xs)[j]=d at *;generalize e6:(x0::xs).drop (j+1)=c3 at *;refine Hc (c8 (kk:=λk=>if k<kb then Ax fe rest c3 d k else Ax fe rest c3 b kb) J ex r' (Qa.mono ex _ _ rd) a7 f1 f2 gI gS cI cS p') (λy s4 z=>?_) λ_ _ z=>z;obtain⟨k,t',rfl,b6,b7,r,C,B,J4,e4,r4,f3,f4,p4⟩:=z;refine⟨k,t',rfl,b6,b7,a1,a2,r,C,B,?_⟩;by_cases hk:k<kb
  ·rw[ja hk]at p4;rw[ja hk,ja hk];exact⟨d,w,J4,ex.trans e4,r4,Qa.mono (ex.trans e4) _ _ rd,a7,f3,f4,p4⟩
  ·rw[ka hk]at p4;rw[ka hk,ka hk];exact⟨b,wb,J4,ex.trans e4,r4,Qa.mono e4 _ _ rb,a0,f3,f4,p4⟩
 ·intro I S vb kb Y ⟨_,_,E,G,N,b,wb,J,ex,r',rb,a0,f1,f2,p'⟩;rw[<-a3,List.drop_length]at p';have q':Q wb G:=nc.here (R:=Qa T) p' r' rb;exact⟨wb,G,J.Lj (λp hp=>J.pin p (gb _ (.tail _ hp))),a0,q'⟩
end
noncomputable def By(K:W.Frag)(x:Str):Addr:=((W.tabIn K x).getD (0,0)).1
noncomputable def Hx(K:W.Frag)(x:Str):Addr:=((W.tabIn K x).getD (0,0)).2
noncomputable def Vy(K:W.Frag):Addr:=match W.nsIn K mainGlobals "__builtins__" with
 |some (some (.ref a))=>a
 |_=>0
theorem Q9{K:W.Frag}(h:(W.tabIn K x).isSome=true):W.tabIn K x=some (By K x,Hx K x):=by
 unfold By Hx;cases e:W.tabIn K x with
 |none=>rw[e]at h;cases h
 |some p=>rfl
def wN(K:W.Frag)(xs:List Str):Bool:=
 W.noTabs K && (match W.nsIn K mainGlobals "__builtins__" with
  |some (some (.ref a))=>(K.lookup a).isNone && (a != builtinsNs)
  |_=>false) && xs.all λx=>(W.tabIn K x).isSome && uE K (By K x) (Hx K x)
structure Jx(K:W.Frag)(xs:List Str):Prop where
 no:W.noTabs K=true
 bm:W.nsIn K mainGlobals "__builtins__" = some (some (.ref (Vy K)))
 bk:K.lookup (Vy K)=none
 bb:Vy K≠builtinsNs
 tab:∀ x∈xs,W.tabIn K x=some (By K x,Hx K x)
 hd:∀ x∈xs,uE K (By K x) (Hx K x)=true
theorem JY{K:W.Frag}{xs:List Str}(h:wN K xs=true):Jx K xs:=by
 unfold wN at h;rw[La,La]at h;obtain⟨⟨g,b⟩,e⟩:=h;split at b
 ·next a f=>
  have c:Vy K=a:=by unfold Vy;rw[f]
  rw[La]at b;refine⟨g,by rw[c];exact f,by rw[c];exact Option.isNone_iff_eq_none.mp b.1,by rw[c];simpa using b.2,λx d=>?_,λx d=>?_⟩
  ·have z:=cc.mp e x d;rw[La]at z;exact Q9 z.1
  ·have z:=cc.mp e x d;rw[La]at z;exact z.2
 ·cases b
def iH(K:W.Frag)(d:Str->Option Value)(x:Str)(e:Stmt)(c:List Str):Prop:=
 ∃ f a,d x=some (.ref f)/\Xx K x x e f a/\(∀ b:List Value,b.length=c.length->bindArgs a ⟨b,[]⟩=pure (c.zip b))/\a.code=.ref (By K x)
theorem l8{K:W.Frag}{c xs:List Str}(X:K.In h)(G:h.Ns mainGlobals a)(i:fg K a x d c)(l:Jx K xs)(m:x∈xs):iH K a x d c:=by
 obtain⟨f,p,b,F,j⟩:=i;obtain⟨q,r,kV,g,s,o,e,ct,n,rfl,lk,k⟩:=F.ex;exact⟨f,_,b,F,j,W.law_code X G (l.tab x m) b (X _ _ lk) rfl⟩
theorem nT{K:W.Frag}(h:iH K j x c l)(S:wa N l (Pc c))
  (p:∀ (f:Addr) (A:Ta) (b:List nh) (s:aa) (H:Hp) (E:XK),Yd k (A.deeper (Ag x (Pc c) s.heap.objs.size f (.ref (By K x))))->ym ⟨K,m,tx⟩ (Vp (Il P w) P w K j a N x (Pc c) f (.ref (By K x)) A b s H E) (Kj c) g) :
  Le ⟨K,m,tx⟩ P w j a (k+1) x l (Md N.length g):=by
 obtain⟨f,v,r,F,d,q⟩:=h;obtain⟨y,z,kV,o,B,u,n,ct,t,rfl,lk,i⟩:=F.ex;have e:=q;subst e;exact⟨f,_,r,F.kp,d,NA lk i S (p f)⟩
theorem Ů{K:W.Frag}
  (KX:K.In f.heap) (b0:f.heap.Ns mainGlobals mg) (C:f.heap.Ns builtinsNs mb) (a6:∀ x:Str,x ≠ "__name__"->mb x=bootBuiltins x) (a0:f.heap.NoLimit) (hg:f.gens=#[])
  (I:f.heap.get? a=some { cls:=.type "list",data:=.seq L.toArray }) (hi:Cm L p) (hl:p.length<=63) (hr:Yd k Ch)
  (hK:W.noTabs K=true) (j:f.heap.get? tx.bm=some ob) (Y:ob.cls=.type "module") (a7:ob.dict=some builtinsNs) (Q:ob.data=.plain) (a5:K.lookup tx.bm=none)
  (X:∀ t∈tx.mq,∃ c,W.CodeHd f.heap c t.P/\f.heap.get? t.P=some (W.tabObj #[]))
  (F:∀ U:Heap,Yh P w K mg U (Il P w) k fa fd [x] (uq ⟨K,ca,tx⟩ 1 fn)) (O:∀ (s:aa) (u:Value),Mg s fd ⟨[u],[]⟩ [(x,u)])
  (tr:∀ p:List Int,p.length<=63->∃ σ,fn [.Uf p] []=.ok (.bl true) σ) :
  codeAny (model P w) Ch (.call (.ref fa) ⟨[.ref a],[]⟩) (λr B=>r=.ok (.ret (.bool true))/\OldK f.heap B.heap/\B.os=f.os/\zh B.gens) f:=by
 have rv:=DD hi;have a1:=hi.length;have Z:p.length<=sizeLine:=Qb hl (by decide);have E:∀ N:Bool,(N=true->K.lookup a=none)->(N=false->K.lookup a=some { cls:=.type "list",data:=.seq L.toArray })->
   codeAny (model P w) Ch (.call (.ref fa) ⟨[.ref a],[]⟩) (λr B=>r=.ok (.ret (.bool true))/\OldK f.heap B.heap/\B.os=f.os/\zh B.gens) f:=by
  intro N a8 a9;obtain⟨H,c1,c2,c3,c4⟩:∃ H:Hp,(∀ t∈tx.mq,H t.P=some (.Fm #[]))/\(H tx.bm=some (.jc ob (.ext (DH tx.bm))))/\(N=true->H a=some (.jc { cls:=.type "list",data:=.seq L.toArray } (.va (p.map V.int))))/\
    ∀ b u,H b=some u->(u=.Fm #[]/\∃ t∈tx.mq,b=t.P)\/(b=tx.bm/\u=.jc ob (.ext (DH tx.bm)))\/(b=a/\N=true/\u=.jc { cls:=.type "list",data:=.seq L.toArray } (.va (p.map V.int))):=by
   refine⟨λb=>if b=tx.bm then some (.jc ob (.ext (DH tx.bm)))else if b=a then (if N=true then some (.jc { cls:=.type "list",data:=.seq L.toArray } (.va (p.map V.int)))else none)else if b∈tx.mq.map (·.P)then some (.Fm #[])else none,λt g=>?_,ja rfl,λh=>?_,λb u e=>?_⟩
   ·obtain⟨c,_,l⟩:=X t g;have n1:t.P≠tx.bm:=λz=>by rw[z,j]at l;cases l;cases Y
    have n2:t.P≠a:=λz=>by rw[z,I]at l;cases l
    dsimp only;rw[ka n1,ka n2,ja (Gb.mpr ⟨t,g,rfl⟩)]
   ·have n1:a≠tx.bm:=λz=>by rw[z,j]at I;cases I;cases Q
    dsimp only;rw[ka n1,ja rfl,ja h]
   ·dsimp only at e;split at e
    ·next a3=>cases e;exact .inr (.inl ⟨a3,rfl⟩)
    ·split at e
     ·next a4=>
      split at e
      ·next h=>cases e;exact .inr (.inr ⟨a4,h,rfl⟩)
      ·cases e
     ·split at e
      ·next hm=>cases e;obtain⟨t,g,rfl⟩:=Gb.mp hm;exact .inl ⟨rfl,t,g,rfl⟩
      ·cases e
  have b1:mj P w H f.heap:=λb u e=>by
   rcases c4 b u e with⟨rfl,t,g,rfl⟩|⟨rfl,rfl⟩|⟨rfl,_,rfl⟩
   ·obtain⟨c,_,l⟩:=X t g;exact l
   ·exact⟨j,⟨ob,j,Y,a7,Q⟩,⟨ob,j⟩,λh1 h2 ⟨o,e1,G⟩ k=>⟨o,k _ e1,G⟩⟩
   ·exact⟨I,by rw[xb];exact Z,L,_,rv,I⟩
  have i:∀ {b:Addr} {o:Vc},f.heap.get? b=some o->H b=none->(xu f.heap H).get? b=some o:=λe n=>cV e n;have b3:∀ {b:Addr} {o:Vc} {es:Array DF} {ep:Nat},f.heap.get? b=some o->o.data=.dict es ep->H b=none:=fun {b o es ep} e d=>by
   cases q:H b with
   |none=>rfl
   |some u=>
    rcases c4 b u q with⟨_,t,g,rfl⟩|⟨rfl,_⟩|⟨rfl,_,_⟩
    ·obtain⟨c,_,l⟩:=X t g;rw[l]at e;cases e;cases d
    ·rw[j]at e;cases e;rw[Q]at d;cases d
    ·rw[I]at e;cases e;cases d
  have S:∀ {b:Addr} {m:Str->Option Value},f.heap.Ns b m->(xu f.heap H).Ns b m:=fun {b m} ⟨o,es,ep,e,d,r⟩=>⟨o,es,ep,i e (b3 e d),d,r⟩
  have a2:=λb o e=>i (KX b o e) (by
   cases q:H b with
   |none=>rfl
   |some u=>
    rcases c4 b u q with⟨_,t,g,rfl⟩|⟨rfl,_⟩|⟨rfl,h,_⟩
    ·obtain⟨c,_,l⟩:=X t g;have G:=KX _ _ e;rw[l]at G;cases G;have h2:=cc.mp hK (t.P,_) (W.mem_of_lookupK e);exact absurd (show false=true from h2) yb
    ·rw[a5]at e;cases e
    ·rw[a8 h]at e;cases e)
  have hM:Mod K mg (xu f.heap H):=⟨a2,S b0,⟨mb,S C,a6⟩,let ⟨mc,h1,h2⟩:=a0;⟨mc,S h1,h2⟩⟩
  have e0:jn P w K mg (xu f.heap H) Ch [] f H:=⟨rfl,hM,λb o e=>rT e,dt (fV _ _),trivial,λb C=>absurd (show b∈[]from C) (by simp),b1,.of_eq hg⟩
  have hS:UG K H a p:=by
   cases N with
   |true=>exact .inl ⟨_,c3 rfl⟩
   |false=>exact .inr ⟨_,L.toArray,_,a9 rfl,rfl,rfl,rfl,by rw[za,a1];exact Z,by simpa using rv⟩
  obtain⟨σ,ef⟩:=tr p hl;have b2:uq ⟨K,ca,tx⟩ 1 fn [.ref a] H (λv _=>v=.bl true) λ_ _ _=>False:=by
   refine⟨[],[],[.Uf p],Jb.cons (by rw[Qa];exact⟨a,rfl,hS⟩) Jb.nil,rfl,⟨rfl,List.nodup_nil,λn o q=>by simp at q,λt g=>⟨⟨by simp,ob,c2⟩,by simp,#[],c1 t g,.inl rfl⟩⟩,?_⟩;rw[ef];intro b5 v H' _ _ r;exact r
  refine Oi ((F _).Md Ch [] f H ⟨[.ref a],[]⟩ [.ref a] [.ref a] _ _ hr e0 (O f (.ref a)) (.cons rfl .nil) b2) λr B h=>?_;cases r with
  |error e=>obtain⟨_,_,_,_,z⟩:=h;exact z.elim
  |ok f2=>
   cases f2 with
   |next=>exact False.elim h
   |brk=>exact False.elim h
   |cont=>exact False.elim h
   |ret u=>
    obtain⟨v,H',os,T,un,A,r',q⟩:=h;have q':v=.bl true:=q;subst q';obtain rfl:u=rh true:=r';have J:∀ b o,f.heap.get? b=some o->(¬ ∃ t∈tx.mq,b=t.P)->B.heap.get? b=some o:=λb o e n=>by
     cases q:H b with
     |none=>exact un.keep b o e q (by intro z;exact absurd (show b∈[]from z) (by simp)) (by simp)
     |some u=>
      rcases c4 b u q with⟨_,z⟩|⟨rfl,rfl⟩|⟨rfl,_,rfl⟩
      ·exact absurd z n
      ·obtain⟨G,_⟩:=A _ _ (un.ui _ _ _ q);rw[j]at e;cases e;exact G
      ·obtain⟨G,_⟩:=A _ _ (un.ui _ _ _ q);rw[I]at e;cases e;exact G
    have y:∀ t∈tx.mq,∃ ps,B.heap.get? t.P=some (W.tabObj ps):=λt g=>by
     obtain⟨b4,z⟩:=un.tj _ _ (c1 t g);exact⟨_,A _ _ z⟩
    refine⟨rfl,⟨λb o e=>?_,λb o e=>?_⟩,os,T⟩
    ·by_cases C:∃ t∈tx.mq,b=t.P
     ·obtain⟨t,g,rfl⟩:=C;obtain⟨c,hc,l⟩:=X t g;obtain⟨ps,R⟩:=y t g;rw[l]at e;cases e;exact .inr (.inl ⟨(hc.tab l).isCodeTable,rfl,#[],ps,rfl,by rw[Array.empty_append];exact R⟩)
     ·exact .inl (J b o e C)
    ·by_cases C:∃ t∈tx.mq,b=t.P
     ·obtain⟨t,g,rfl⟩:=C;obtain⟨ps,R⟩:=y t g;exact⟨_,R⟩
     ·exact⟨o,J b o e C⟩
 cases hk:K.lookup a with
 |some o=>
  have e:=KX a o hk;rw[I]at e;cases e;exact E false (λh=>by cases h) λ_=>hk
 |none=>exact E true (λ_=>hk) λh=>by cases h
theorem JX{l:W.OpenLaw}{K:RN->W.Frag}(xs:List Str)
  (hn:l.most=some 63) (B:d.params.defaults=[]) (hr:Yd k Ch) (hY:∀ (w:Ya) (h:Heap),H w h->(K w.params).In h)
  (hK:∀ w:Ya,wN (K w.params) xs=true) (p:(xs.all λx=>((recsOf q).find? λe=>e.name == x).isSome)=true)
  (F:∀ (w:Ya) (v:Str->Option Value) (h:Heap),(K w.params).In h->h.Ns mainGlobals v->Jx (K w.params) xs->∃ I j,(∀ t∈j,∃ x∈xs,t.P=Hx (K w.params) x)/\XJ ⟨K w.params,I,⟨j,Vy (K w.params)⟩⟩ l.prog w v k d.name [x] fn)
  (tr:∀ E:List Int,E.length<=63->∃ σ,fn [.Uf E] []=.ok (.bl true) σ) :
  W.WalkO q i S H l.row.toRowW d [] (λf R=>PySem.call f R):=by
 refine Att.om hn B λw O Q v mb fa o pm cd a0 a R E G Y ho hd a2 C n c m hg=>?_;have r:=hY w _ Y;have TT:=JY (hK w);obtain⟨I,j,hP,f0,a1,L,g3,g4⟩:=F w v _ r G.T.g TT;rw[C]at L;cases L;obtain⟨bm,ob,U,b2,V,X,Z,b6⟩:=G.T.bmain;have J:=W.mg_of r G.T.g TT.bm;rw[U]at J;cases J;refine Ů r G.T.g G.T.b G.T.builtins G.T.nolimit hg n c m hr TT.no V X Z b6 TT.bk (λt ht=>?_) g4 (λs u=>.of_eq (g3 [u] rfl)) tr;obtain⟨y,N,e⟩:=hP t ht;have z:=cc.mp p y N;obtain⟨d',A⟩:=jf.mp z;have:=W.tab_of G.T r A (TT.tab y N);rw[e];exact⟨_,this.1,this.2⟩
theorem tX(h:(a.P == b.P)=false):∀ t∈(⟨[a,b],f⟩:Tx).mq,∀ d∈(⟨[a,b],f⟩:Tx).mq,d.P=t.P->d=t:=by
 have n:a.P≠b.P:=by simpa using h
 intro t g d c e;simp only[Na,He,Wn]at g c;rcases g with rfl|rfl<;>rcases c with rfl|rfl
 ·rfl
 ·exact absurd e.symm n
 ·exact absurd e n
 ·rfl
def mz(x:D)(xs:List D):M D:=λa=>match x,xs with
 | .ref n,[y]=>(match rj a n with
  |some b=>(match pi a y with
   |some zs=>if b.length+zs.length<=oi then .ok .Rb (a.set n (.va (b++zs)))else .Xb
   |none=>.Xb)
  |none=>.Xb)
 |_,_=>.Xb
section
variable{T:Tb}
theorem E3:HA T jP mz:=by
 intro E t H u x xs v f Q r p q h;cases x with
 |ref n=>
  match xs with
  |[]=>exact h.elim
  |[y]=>
   obtain⟨w,z,rfl,B,l⟩:=q;rw[Jb]at l;subst l;unfold mz at h;cases c:rj u n with
   |none=>simp only[c]at h;exact h.elim
   |some s=>
    simp only[c]at h;cases d:pi u y with
    |none=>simp only[d]at h;exact h.elim
    |some zs=>
     simp only[d]at h;by_cases e:s.length+zs.length<=oi
     ·rw[ja e]at h;obtain⟨a,f,rfl,k,g,i⟩:=r.va p c;obtain⟨b,m,rfl,A,j⟩:=r.ls B d;have o:=r.write (ob:=.va (s++zs)) k ⟨_,Mh,by
       have ex:we t H t (rc H a (.va (f++m))):=Gw (Oa k) g (λ_ z=>by cases z) (λ_ _ z=>by cases z);exact Jb.append (Jb.mono ex _ _ i) (Jb.mono ex _ _ j)⟩
      exact⟨a,b,f,m,rfl,rfl,g,A,by rw[<-i.length,<-j.length];exact Yz e,h _ _ _ o.1 o.2 (by rw[Qa])⟩
     ·rw[ka e]at h;exact h.elim
  |_::_::_=>exact h.elim
 |_=>exact h.elim
end
section
variable{T:Tb}{X:Cx}
end
section
variable{X:Cx}{pins:List (Addr × Vc)}{st:St}{H:Hp}{s:aa}{x z0 z1:Str}{M':List Str}{ix:List Nat}{scope:Scope}{fp:List Addr}
end
section
variable{T:Tb}{X:Cx}
end
section
variable{T:Tb}{X:Cx}{pins:List (Addr × Vc)}{st:St}{H:Hp}{s:aa}{μ:List Addr}{σ:nb}
end
section
variable{T:Tb}{X:Cx}
end
section
variable{T:Tb}{X:Cx}{x y:Str}{p pos:Ve}{ss:List Str}
theorem eS(e:Gl X x)(b:VE T.K X.mg x ss)(d:(x == ("__debug__" : Str))=false:=by decide):FE T X (.Name x p) (eC (.gt ss)):=by
 obtain⟨a,f,c⟩:=b;exact HB (KM e f (v:=.ref a) rfl d) λ_ _=>by rw[Qa];exact⟨a,rfl,c⟩
theorem Le.alias(h:Le T P w b a k x d c)(e:b y=b x):Le T P w b a k y d c:=by
 obtain⟨f,g,i,j⟩:=h;exact⟨f,g,e.trans i,j⟩
end
section
variable{T:Tb}{μ μ':List Addr}{H H':Hp}{σ:nb}{a:Addr}
mutual
theorem Qa.chg(j:∀ b,b≠a->H' b=H b)(l:a∈μ)(r:∀ xs,H a≠some (.Ga xs))(s:∀ o xs,H a≠some (.jc o (.va xs))):∀ (d:D) (v:V),Qa T μ H d v->Qa T μ H' d v
 | .Rb,v,h=>by simpa [Qa]using h
 | .bl b,v,h=>by simpa [Qa]using h
 | .int i,v,h=>by simpa [Qa]using h
 | .str x,v,h=>by simpa [Qa]using h
 | .Ga ds,v,h=>by
  rw[Qa]at h ⊢;obtain⟨p,m,g,e,k⟩:=h;exact⟨p,m,g,by rw[j p (λz=>r _ (by rw[<-z];exact e))];exact e,Jb.chg j l r s ds m k⟩
 | .Uf ns,v,h=>by
  rw[Qa]at h ⊢;obtain⟨p,g,e⟩:=h;refine⟨p,g,?_⟩;rcases e with⟨o,e⟩|e
  ·exact .inl ⟨o,by rw[j p (λz=>s _ _ (by rw[<-z];exact e))];exact e⟩
  ·exact .inr e
 | .ref n,v,h=>by rw[Qa]at h ⊢;exact h
 | .va ds,v,h=>by
  rw[Qa]at h ⊢;obtain⟨p,m,g,f,e,k⟩:=h;exact⟨p,m,g,f,by rw[j p (λz=>f (by rw[z];exact l))];exact e,Jb.chg j l r s ds m k⟩
 | .Bc ks ds,v,h=>by
  rw[Qa]at h ⊢;obtain⟨p,m,g,f,e,t,k⟩:=h;exact⟨p,m,g,f,by unfold Rd at e ⊢;rw[j p (λz=>f (by rw[z];exact l))];exact e,t,Jb.chg j l r s ds _ k⟩
 | .obj c ns ds,v,h=>by
  rw[Qa]at h ⊢;obtain⟨p,A,m,g,f,e,t,k⟩:=h;exact⟨p,A,m,g,f,by rw[j p (λz=>f (by rw[z];exact l))];exact e,t,Jb.chg j l r s ds _ k⟩
 | .bu c,v,h=>by
  rw[Qa]at h ⊢;obtain⟨p,y,g,f,e,k⟩:=h;refine⟨p,y,g,f,by rw[j p (λz=>f (by rw[z];exact l))];exact e,λn q=>?_⟩;obtain⟨u,B,w,C⟩:=k n q;exact⟨u,B,w,by rw[j u (λz=>w (by rw[z];exact l))];exact C⟩
 | .gt ss,v,h=>by rw[Qa]at h ⊢;exact h
theorem Jb.chg(j:∀ b,b≠a->H' b=H b)(i:a∈μ)(f:∀ xs,H a≠some (.Ga xs))(g:∀ o xs,H a≠some (.jc o (.va xs))):∀ (c:List D) (e:List V),Jb T μ H c e->Jb T μ H' c e
 |[],e,h=>by simpa [Jb]using h
 |d::c,e,h=>by
  rw[Jb]at h ⊢;obtain⟨v,r,k,l,m⟩:=h;exact⟨v,r,k,Qa.chg j i f g d v l,Jb.chg j i f g c r m⟩
end
theorem WH(i:∀ b,b≠a->H' b=H b)(g:a∈μ)(e:∀ xs,H a≠some (.Ga xs))(f:∀ o xs,H a≠some (.jc o (.va xs))){xs:List (c × D)}{d:List (c × V)}(h:Paired (λ(p:c × D) (q:c × V)=>p.1=q.1/\Qa T μ H p.2 q.2) xs d) :
  Paired (λ(p:c × D) (q:c × V)=>p.1=q.1/\Qa T μ H' p.2 q.2) xs d:=L2.Paired.ur h λp q z=>⟨z.1,Qa.chg i g e f _ _ z.2⟩
theorem sq.chg(d:∀ b,b≠a->H' b=H b)(j:a∈μ)(g:∀ xs,H a≠Option.some (.Ga xs))(i:∀ o xs,H a≠Option.some (.jc o (.va xs)))(f:b≠a):∀ {o:Ob},sq T μ H b o->sq T μ H' b o
 | .va ds,⟨e,h,r⟩=>⟨e,(d b f).trans h,Jb.chg d j g i _ _ r⟩
 | .Bc k,⟨e,h,r⟩=>⟨e,(d b f).trans h,WH d j g i r⟩
 | .Ld c n,⟨l,e,h,r⟩=>⟨l,e,(d b f).trans h,WH d j g i r⟩
 | .Xf k,⟨m,e,h,r⟩=>⟨m,e,(d b f).trans h,WH d j g i r⟩
 | .rl ks,⟨e,h,r⟩=>⟨e,(d b f).trans h,r⟩
theorem Xd.chg(r:Xd T μ H σ)(g:∀ b,b≠a->H' b=H b)(d:μ[n]?=some a)(i:∀ xs,H a≠some (.Ga xs))(j:∀ o xs,H a≠some (.jc o (.va xs)))(l:sq T μ H' a ob):Xd T μ H' (σ.set n ob):=by
 have f:=Oa d;refine⟨by simp[r.len],r.nd,λm x h=>?_,r.tb.out g (.inl f)⟩;rw[Uc]at h;by_cases c:n=m
 ·subst c;rw[ja rfl]at h;split at h
  ·cases h;exact⟨a,d,l⟩
  ·cases h
 ·rw[ka c]at h;obtain⟨b,e,k⟩:=r.obs m x h;exact⟨b,e,k.chg g f i j (λz=>c (by subst z;exact fL r.nd d e))⟩
end
theorem _root_.L2.lb.Nx(I:lb X d l H s)(f:H a=some (.jc A (.dK g)))(m:∀ o u,X.H₀ a≠some (.jc o u)):lb X d l (rc H a (.dK g)) s:=by
 have i:∀ b u,H b=some u->(∀ o w,u≠.jc o w)->b≠a:=λb u q n z=>by rw[z,f]at q;exact n _ _ (Lb q).symm
 refine⟨I.ok,I.os,I.bare,⟨I.base.keep,I.base.slot,λb o e n t=>?_,I.base.there,λb xs e=>?_,λb o u e=>?_,λb B e=>?_⟩,I.loc,I.cell,?_,λx c e=>?_,λp r=>?_,λb u e=>?_,I.len⟩
 ·have:=I.base.free b o e n t;rw[me (λz=>by rw[z,f]at this;cases this)];exact this
 ·have:=I.base.Gj b xs e;rw[me (i b _ this (λ_ _ z=>by cases z))];exact this
 ·have:=I.base.ui b o u e;rw[me (λz=>m o u (by rw[<-z];exact e))];exact this
 ·obtain⟨h,this⟩:=I.base.tj b B e;exact⟨h,by rw[me (i b _ this (λ_ _ z=>by cases z))];exact this⟩
 ·rw[me (λz=>by have:=I.free;rw[z,f]at this;cases this)];exact I.free
 ·have:=I.Ug x c e;rw[me (λz=>by rw[z,f]at this;cases this)];exact this
 ·obtain⟨C,j,D⟩:=I.pin p r;exact⟨C,by rw[me (λz=>by rw[z,f]at j;cases j)];exact j,D⟩
 ·by_cases k:b=a
  ·subst k;rw[Mh]at e;cases e;exact(I.zd b _ f).2
  ·rw[me k]at e;refine(I.zd b u e).Uk (λc v _ z=>z) (λc z=>?_) λc xs z=>?_
   ·rw[me (i c _ z (λ_ _ y=>by cases y))];exact z
   ·rw[me (i c _ z (λ_ _ y=>by cases y))];exact z
section
variable{T:Tb}{X:Cx}{elts:List Ua}{kk:Nat}{p0:Ve}
theorem eK(o:H a=some (.jc l (.dK c)))(s:Dl T m H f c):FB T m H (su f) (Itm a l c):=by
 intro v A w i ex t;have j:=ex.jc _ _ _ o;have e:=Dl.mono ex s;unfold su;cases n:f[i]? with
 |none=>
  by_cases g:i=f.length
  ·rw[ja g];exact⟨j,by rw[g];exact Paired.length e⟩
  ·rw[ka g];trivial
 |some p=>
  obtain⟨q,k,h,u⟩:=ZK e i n;refine⟨⟨j,q,k⟩,λz x y=>?_⟩;obtain⟨r,B,C,b,rfl,d,rfl⟩:=y;rw[k]at d;cases d;refine⟨vm b,t.fresh b,?_⟩;rw[Qa,h];exact⟨r,_,rfl,Mh,Jb.cons (dP _) (Jb.cons (Qa.mono (vm b) _ _ u) Jb.nil)⟩
def oG(d:D):M NX:=λb=>match d with
 | .Bc ks xs=>if ks.length=xs.length then .ok (su (ks.zip xs)) b else .Xb
 | .ref n=>(match b[n]? with
  |some (.Bc a)=>.ok (su a) (b.set n (.Xf a))
  |some (.Xf a)=>.ok (su a) b
  |_=>.Xb)
 |_=>.Xb
def GH(f:Ev->M D):Ev->M NX:=λa=>Pd (f a) oG
theorem zmu(h:FE T X e f)(J:oe e "items" X.env (vc e X.env)=vc e X.env:=by rfl)(K:(x.endLine == A.line)=true:=by rfl) :
  zy T X (.Tuple elts kk p0) (.Call (.Attribute e "items" x) [] [] A) (GH f):=by
 intro Q s st H R I hw;refine aQ (MQ Fg Pi gq LS h J K) Q s st H R I ?_;obtain⟨μ,ρ,σ,hE,hr,hp⟩:=hw;refine⟨μ,ρ,σ,hE,hr,hp.bind λd w c v i _ e1 V q1 p=>?_⟩;unfold oG at p;cases d with
 |Bc ks xs=>
  dsimp only at p;by_cases hl:ks.length=xs.length
  ·rw[ja hl]at p;obtain⟨a,j,rfl,U,q,Z,a0⟩:=q1;refine⟨⟨a,j,rfl,q⟩,a,j,rfl,rfl,q,λl g=>?_⟩;have u:a≠l:=by rcases q with q|⟨_,q⟩<;>exact nq q g
   have Y:Rd (rc i l (.ext (yp l a))) a (.dK j):=by unfold Rd;rw[me u];exact q
   refine⟨l,a,j,rfl,Mh,Y,λC m=>?_⟩;have E:we c i c (rc i l (.ext (yp l a))):=vm g;have k:Xd T c (rc i l (.ext (yp l a))) w:=V.fresh g;obtain⟨x2,a1⟩:we c i c (rc (rc i l (.ext (yp l a))) a (.jc C (.dK j)))/\Xd T c (rc (rc i l (.ext (yp l a))) a (.jc C (.dK j))) w:=by
    rcases m with m|m
    ·have y:=nV (μ:=c) (od:=C) m;exact⟨E.trans y,k.keep y (λb W=>me (λz=>U (by rw[<-z];exact W))) (k.tb.out (λb W=>me W) (.inr ⟨_,m⟩))⟩
    ·rw[qI m];exact⟨E,k⟩
   exact nc.here (nc.mono x2 p) a1 (eK Mh (Dl.mono x2 (YG Z a0)))
  ·rw[ka hl]at p;exact p.elim
 |ref n=>
  dsimp only at p;cases S:w[n]? with
  |none=>rw[S]at p;exact p.elim
  |some o=>
   rw[S]at p;obtain⟨a,rfl,U,P⟩:=V.at q1 S;cases o with
   |Bc j=>
    obtain⟨r,G,L⟩:=P;have q:Rd i a (.dK r):=.inl G;refine⟨⟨a,r,rfl,q⟩,a,r,rfl,rfl,q,λl g=>?_⟩;have u:=nq G g;have t:rc i l (.ext (yp l a)) a=some (.dK r):=by rw[me u];exact G
    refine⟨l,a,r,rfl,Mh,.inl t,λC _=>?_⟩;have E:we c i c (rc i l (.ext (yp l a))):=vm g;have k:Xd T c (rc i l (.ext (yp l a))) w:=V.fresh g;have O:we c (rc i l (.ext (yp l a))) c (rc (rc i l (.ext (yp l a))) a (.jc C (.dK r))):=Gw (Oa U) t (λ_ z=>by cases z) (λ_ _ z=>by cases z);have B:=Dl.mono (E.trans O) L;have wr:=k.write (ob:=.Xf j) U ⟨C,r,Mh,B⟩ (λkv z=>by rw[S]at z;cases z);exact nc.here (nc.mono (E.trans O) p) wr.2 (eK Mh B)
   |Xf j=>
    obtain⟨N,r,G,L⟩:=P;have q:Rd i a (.dK r):=.inr ⟨N,G⟩;refine⟨⟨a,r,rfl,q⟩,a,r,rfl,rfl,q,λl g=>?_⟩;have u:a≠l:=nq G g;have t:rc i l (.ext (yp l a)) a=some (.jc N (.dK r)):=by rw[me u];exact G
    refine⟨l,a,r,rfl,Mh,.inr ⟨N,t⟩,λC m=>?_⟩;have E:we c i c (rc i l (.ext (yp l a))):=vm g;have k:Xd T c (rc i l (.ext (yp l a))) w:=V.fresh g;rcases m with m|m
    ·rw[t]at m;cases m
    ·rw[qI m];exact nc.here (nc.mono E p) k (eK m (Dl.mono E L))
   |_=>exact p.elim
 |_=>exact p.elim
def sE{c:Type}(ok:c->Bool)(n:Nat):Jk c->Jk c
 | .ok a σ=>if ok a=true then (match σ[n]? with
  |some (.Xf b)=>.ok a (σ.set n (.Bc b))
  |_=>.Xb)else .Xb
 |_=>.Xb
def ZF{b:Type}(ok:b->Bool)(m:M D)(g:M b):M b:=λa=>match m a with
 | .ok (.ref n) _=>(match a[n]? with
  |some (.Bc _)=>sE ok n (g a)
  |_=>g a)
 |_=>g a
noncomputable def EK:Fl->Bool
 | .xc _ _=>false
 |_=>true
def EG(f:Ev->M D)(g:Ev->M Fl):Ev->M Fl:=λa=>ZF EK (f a) (g a)
theorem sX(ex:we f H b c)(d:a∈f)(g:H a=some (.dK e))(k:c a=some (.jc j (.dK i))):we f H b (rc c a (.dK i)):=by
 refine⟨ex.pre,λp xs h=>?_,λp o u h=>?_,λp o h n=>?_⟩
 ·rw[me (λz=>by rw[z,g]at h;cases h)];exact ex.Ga p xs h
 ·rw[me (λz=>by rw[z,g]at h;cases h)];exact ex.jc p o u h
 ·rw[me (λz=>n (by rw[z];exact d))];exact ex.keep p o h n
theorem F5(D:y[n]?=some a)(I:H a=some (.dK v))
  (G:∀ (c:List Addr) (e:Hp) (d:s) (g:w) (k:Vc) (f:List (sd × V)),a∈c->e a=some (.jc k (.dK f))->ok d=true->R c e d g->R c (rc e a (.dK f)) d g) (h:nc T E R y H (sE ok n o) Q) :
  nc T E R y H o (λg e=>∃ k f,e a=some (.jc k (.dK f))/\Q g (rc e a (.dK f))/\∃ c d,ok d=true/\R c e d g):=by
 cases o with
 |Xb=>exact h
 |ex x q=>exact h.elim
 |ok d q=>
  unfold sE at h;dsimp only at h;by_cases i:ok d=true
  ·rw[ja i]at h;cases t:q[n]? with
   |none=>rw[t]at h;exact h.elim
   |some ob=>
    rw[t]at h;cases ob with
    |Xf K=>
     intro c g e ex r F;obtain⟨L,m,k,f,p,u⟩:=r.obs n _ t;have j:=ex.get D;rw[j]at m;cases m;have l:=Oa j;have C:∀ b,b≠a->rc e a (.dK f) b=e b:=λb J=>me J;have A:∀ xs,e a≠some (.Ga xs):=λxs z=>by rw[p]at z;cases z
     have B:∀ o xs,e a≠some (.jc o (.va xs)):=λo xs z=>by rw[p]at z;cases z
     exact⟨k,f,p,h c g _ (sX ex (Oa D) I p) (r.chg C j A B ⟨f,Mh,WH C l A B u⟩) (G c e d g k f l p i F),c,d,i,F⟩
    |_=>exact h.elim
  ·rw[ka i]at h;exact h.elim
theorem LI(f:a∈c)(g:e a=some (.jc k (.dK i)))(d:D)(v:V)(h:Qa T c e d v):Qa T c (rc e a (.dK i)) d v:=
 Qa.chg (λb j=>me j) f (λxs z=>by rw[g]at z;cases z) (λo xs z=>by rw[g]at z;cases z) d v h
theorem Ĩ(h:FS T X s g):FS T X s (EG f g):=by
 intro t N O H D I l;obtain⟨P,Q,R,K,G,A⟩:=l;have p:=λq=>h t N O H D I ⟨P,Q,R,K,G,q⟩;unfold EG ZF at A;split at A
 ·rename_i n _ _
  split at A
  ·rename_i W S
   obtain⟨a,V,Z,L,_⟩:=G.obs n _ S;have F:∀ o u,X.H₀ a≠some (.jc o u):=λo u z=>by have:=I.base.ui a o u z;rw[L]at this;cases this
   have q:=F5 V L (λJ e d y k c r j x m=>by
    cases d with
    |xc _ _=>cases x
    |nx E=>cases y<;>first|exact m.elim|exact⟨m.1,λi d q=>let ⟨v,B,C⟩:=m.2 i d q;⟨v,B,LI r j _ _ C⟩⟩
    |bk E=>cases y<;>first|exact m.elim|exact⟨m.1,λi d q=>let ⟨v,B,C⟩:=m.2 i d q;⟨v,B,LI r j _ _ C⟩⟩
    |ct E=>cases y<;>first|exact m.elim|exact⟨m.1,λi d q=>let ⟨v,B,C⟩:=m.2 i d q;⟨v,B,LI r j _ _ C⟩⟩
    |rt d2=>cases y<;>first|exact m.elim|exact LI r j _ _ m) A
   refine Hc (h t N O H ⟨λb e=>∃ k c,e a=some (.jc k (.dK c))/\D.nx b (rc e a (.dK c)),λv e=>∃ k c,e a=some (.jc k (.dK c))/\D.rt v (rc e a (.dK c)),λb e=>∃ k c,e a=some (.jc k (.dK c))/\D.bk b (rc e a (.dK c)),λb e=>∃ k c,e a=some (.jc k (.dK c))/\D.ct b (rc e a (.dK c))⟩ I ⟨P,Q,R,K,G,q.imp λy e z=>?_⟩) (λU s' z=>?_) λ_ _ z=>z
   ·obtain⟨k,c,j,l,J,d,x,m⟩:=z;cases y with
    |nx b=>exact⟨k,c,j,l⟩
    |rt v=>exact⟨k,c,j,l⟩
    |bk b=>exact⟨k,c,j,l⟩
    |ct b=>exact⟨k,c,j,l⟩
    |xc b cls fd=>cases d<;>first|exact m.elim|cases x
   ·cases U with
    |next=>obtain⟨b,e,w,k,c,j,l⟩:=z;exact⟨b,_,w.Nx j F,l⟩
    |brk=>obtain⟨b,e,w,k,c,j,l⟩:=z;exact⟨b,_,w.Nx j F,l⟩
    |cont=>obtain⟨b,e,w,k,c,j,l⟩:=z;exact⟨b,_,w.Nx j F,l⟩
    |ret u=>obtain⟨v,b,e,w,Y,k,c,j,l⟩:=z;exact⟨v,b,_,w.Nx j F,Y,l⟩
  ·exact p A
 ·exact p A
end
end L4
namespace L4
open PySem PySem.Spec PyProof.Rows L2
section
variable{T:Tb}{X:Cx}{tg:Ua}
end
section
variable{T:Tb}{X:Cx}
theorem js:ym T X a Kr:=λpins s st H D I ⟨c,d,σ,_,_,b⟩=>b.elim
end
open Classical in
def dW(d b c:List Addr):Prop:=(∃ r,b=d++r)/\(∀ (n:Nat) (a:Addr),d[n]?=some a->c[n]?=some a)/\∀ a∈c,a∈b
section
variable{T:Tb}{μ μ' μ2:List Addr}{H H':Hp}{σ σ':nb}
mutual
theorem PL.down(e:dW μ μ' μ2):∀ (d:D) (v0 v:V),Qa T μ H d v0->Qa T μ' H' d v->Qa T μ2 H' d v
 | .Rb,v0,v,_,h=>by simpa [Qa]using h
 | .bl b,v0,v,_,h=>by simpa [Qa]using h
 | .int i,v0,v,_,h=>by simpa [Qa]using h
 | .str x,v0,v,_,h=>by simpa [Qa]using h
 | .Ga ds,v0,v,c,h=>by
  rw[Qa]at h c ⊢;obtain⟨p,m,g,f,j⟩:=h;obtain⟨G,l,_,_,w⟩:=c;exact⟨p,m,g,f,yr.down e ds l m w j⟩
 | .Uf ns,v0,v,_,h=>by rw[Qa]at h ⊢;exact h
 | .ref n,v0,v,c,h=>by
  rw[Qa]at h c ⊢;obtain⟨a,g,f⟩:=h;obtain⟨b,_,t⟩:=c;refine⟨a,g,?_⟩;have j:=e.2.1 _ _ t;obtain⟨⟨r,rfl⟩,_⟩:=e;rw[Kb (la.mp t).1]at f;rw[t]at f;cases f;exact j
 | .va ds,v0,v,c,h=>by
  rw[Qa]at h c ⊢;obtain⟨a,m,g,f,j,o⟩:=h;obtain⟨_,l,_,_,_,s⟩:=c;exact⟨a,m,g,λz=>f (e.2.2 _ z),j,yr.down e ds l m s o⟩
 | .Bc ks ds,v0,v,c,h=>by
  rw[Qa]at h c ⊢;obtain⟨a,m,g,f,j,u,o⟩:=h;obtain⟨_,l,_,_,_,_,s⟩:=c;exact⟨a,m,g,λz=>f (e.2.2 _ z),j,u,yr.down e ds _ _ s o⟩
 | .obj k ns ds,v0,v,c,h=>by
  rw[Qa]at h c ⊢;obtain⟨a,B,m,g,f,j,u,o⟩:=h;obtain⟨_,_,l,_,_,_,_,s⟩:=c;exact⟨a,B,m,g,λz=>f (e.2.2 _ z),j,u,yr.down e ds _ _ s o⟩
 | .bu k,v0,v,_,h=>by
  rw[Qa]at h ⊢;obtain⟨a,A,g,f,j,o⟩:=h;exact⟨a,A,g,λz=>f (e.2.2 _ z),j,λn q=>let ⟨y,C,E,F⟩:=o n q;⟨y,C,λz=>E (e.2.2 _ z),F⟩⟩
 | .gt ss,v0,v,_,h=>by rw[Qa]at h ⊢;exact h
theorem yr.down(e:dW μ μ' μ2):∀ (b:List D) (a f:List V),Jb T μ H b a->Jb T μ' H' b f->Jb T μ2 H' b f
 |[],a,f,_,h=>by simpa [Jb]using h
 |d::b,a,f,c,h=>by
  rw[Jb]at h c ⊢;obtain⟨v,r,j,k,l⟩:=h;obtain⟨m,r0,_,g,i⟩:=c;exact⟨v,r,j,PL.down e d m v g k,yr.down e b r0 r i l⟩
end
end
end L4
namespace L4
open PySem PySem.Spec PyProof.Rows L2
section
variable{P:Ca}{w:Ya}{K:W.Frag}{mg:Str->Option Value}{base:Heap}{T:Tb}
end
section
variable{T:Tb}{X:Cx}
end
section
variable{T:Tb}{X:Cx}{tg:Ua}
end
section
variable{T:Tb}{X:Cx}
end
noncomputable def RT(a b:List D):M (List D):=ret (b++a)
def Hw(a:List D)(b:Ev->M (List D)):Ev->M (List D):=λc=>Pd (b c) (RT a)
section
variable{T:Tb}{X:Cx}
theorem Í(hm:X.mg x=some (.ref (T.ca c)))(z:Mk T.K (T.ca c) f)(R:Ws T.K O d b)
  (P:Yh X.prog X.w T.K X.mg X.base (Il X.prog X.w) k f O d (uq T d.length fn)) (hv:Se g b) (C:∀ y H,Jb T y H a g) (Y:T.K=X.K) (hr:Yd (k+1) X.A) (hg:Gl X x)
  (Z:FA T X (e::l) i) (B:(x == ("__debug__" : Str))=false:=by decide) (he:ua (e::l) X.env=(false,vc e X.env)::ua l X.env:=by rfl) (F:(Wc h (ua l X.env)).any (·.1)=false:=by rfl) :
  FE T X (.Call (.Name x p) (e::l) [] h) (Ut c d.length fn (Hw a i)):=by
 rw[Y]at z P R;intro m s J H Q I hq;obtain⟨y,n,o,U,G,hp⟩:=hq;have E:nc T (XE X J) (Qa T) y H (Pd (i n) (λt=>Mq c d.length fn (t++a)) o) Q:=by
  have:Ut c d.length fn (Hw a i) n o=Pd (i n) (λt=>Mq c d.length fn (t++a)) o:=by
   unfold Ut Hw RT Pd;cases i n o<;>rfl
  rw[<-this];exact hp
 refine Zf (yB I hg hm ?_ B);refine W.callWith_K I.ok.mod.My z.kp (Je (Z h m s J H (λL j=>∀ x u,j x=none->j u=none->u≠x->uq T d.length fn (.ref x::(L++g)) (rc (rc j u (.own x)) x (.Ld (T.ca c) u [])) (λv S=>v=.Rb/\Q (.ref x) S) (XE X J)) I ⟨y,n,o,U,G,E.bind λt a1 a0 L j _ e1 r1 p1 q1=>?_⟩) λus s1 ⟨L,j,N,r,q⟩=>⟨N.Dk,?_⟩) he F
 ·have:=AT r1 (Jb.append p1 (C _ _)) q1;rw[Uh]at this;exact this
 ·exact PV z P hr R hv N r q
theorem yP(B:X.mg x=some (.ref (T.ca c)))(s:Mk T.K (T.ca c) f)(h:Pw T X.prog X.w X.mg X.base k f ps n fn)(v:a=[]\/a=n)(E:Se d a)(l:∀ F H,Jb T F H b d)(r:T.K=X.K)(C:Yd (k+1) X.A)(z:Gl X x)
  (t:FA T X (e::g) o) (j:(x == ("__debug__" : Str))=false:=by decide) (y:ua (e::g) X.env=(false,vc e X.env)::ua g X.env:=by rfl) (m:(Wc i (ua g X.env)).any (·.1)=false:=by rfl) :
  FE T X (.Call (.Name x p) (e::g) [] i) (Ut c ps.length fn (Hw b o)):=by
 obtain⟨G,I,u,q⟩:=h;exact Í B s (by rcases v with rfl|rfl<;>assumption) q E l r C z t j y m
end
structure kE(P:Ca)(w:Ya)(K:W.Frag)(mg:Str->Option Value)(base:Heap)(k:Nat)(f:Addr)(fd:Ke)(ps:List Str)(sp:Sp):Prop where
 len:∀ vs H Q E,sp vs H Q E->vs.length=ps.length
 Md:∀ (A:Ta) (outer:List nh) (s:aa) (H:Hp) (args:Args) (us:List Value) (vs:List V) (Q:VK) (E:XK),Yd k { A with handled:=none }->jn P w K mg base A outer s H->Mg s fd args (ps.zip us)->Se vs us->sp vs H Q E->
  codeAny (model P w) A (.call (.ref f) args) (CR (Il P w) outer P w H s Q E) s
section
variable{P:Ca}{w:Ya}{K:W.Frag}{mg:Str->Option Value}{base:Heap}{ca:Nat->Addr}{tx:Tx}{T:Tb}{k:Nat}{f:Addr}{ps:List Str}
def tN(T:Tb)(P:Ca)(w:Ya)(mg:Str->Option Value)(base:Heap)(k:Nat)(x:Str)(ps:List Str)(c:List D->M D):Prop:=
 ∃ f b,mg x=some (.ref f)/\W.keepIn T.K (.ref f)=true/\(∀ a:List Value,a.length=ps.length->bindArgs b ⟨a,[]⟩=pure (ps.zip a))/\kE P w T.K mg base k f b ps (uq T ps.length c)
theorem tN.Cb(h:tN T P w mg base k x ps a):tN T P w mg base k x ps (L4.Cb a):=by rw[ms];exact h
end
section
variable{T:Tb}{X:Cx}
open Classical in
open Classical in
end
section
variable{T:Tb}{X:Cx}
open Classical in
theorem Y9{f:List Addr}{g:Hp}{c:ip}{J:It}(h:VH T f g c J):FB T f g c.nx J:=λl H j i ex r=>by
 have q:=h l H j i ex r;cases e:c.nx i j with
 |none=>trivial
 |some o=>
  rw[e]at q;cases o with
  |none=>exact q
  |some d=>exact⟨q.1,λx k y=>let ⟨a,b⟩:=q.2 x k y;by subst a;exact⟨we.refl _ _,r,b⟩⟩
noncomputable def xP(s:ip):M NX:=ret s.nx
def Dp(f:Ev->M ip):Ev->M NX:=λa=>Pd (f a) xP
theorem Ot(h:FI T X c a f):zy T X c a (Dp f):=by
 intro b s n H R I i;obtain⟨o,q,r,d,g,e⟩:=i;exact h b s n H R I ⟨o,q,r,d,g,e.bind λm t p J u _ v l k j=>nc.here j l (Y9 k)⟩
theorem jJ{K m E:Ua}
  (hN:X.N.Nodup) (hi:X.N[i]?=some y) (hx:Loc X.env.scope y)
  (hc:X.Aa=true) (L:yo X x M' ix f) (Z:zy T X E m Q)
  (b7:∀ cl C k j ex,FG T (Iu X (x::z0::M') f cl C k j ex) E tg)
  (b0:∀ cl C k j ex,oE T (Iu X (x::z0::M') f cl C k j ex) P fi)
  (W:∀ cl C k j ex,FE T (Iu X (x::z0::M') f cl C k j ex) K fe)
  (hs:∀ y,Ah m X.env y=pure y:=by intro _;rfl)
  (b5:Xi (.ListComp K [⟨E,m,P,0⟩] f a3) (some (.Name y py)) G.line X.env=pure true:=by rfl)
  (hf:X.fn y=true\/X.env.scope.names.lookup y=some .local:=by first|exact .inl rfl|exact .inr rfl|assumption) :
  FS T X (.Assign [.Name y py] (.ListComp K [⟨E,m,P,0⟩] f a3) G) (lf i (Xm Q ix tg fi fe)):=by
 intro F s R H D I h;obtain⟨μ,ρ,σ,hE,hr,b3⟩:=h;have hp:nc T (XE X R) (Qa T) μ H (Xm Q ix tg fi fe ρ σ) (λv U=>D.nx (R.set i (some v)) U):=b3.xs hE λd a6 a5 v U _ e1 r1 q1 p1=>nc.here (g:=Sr.nx (R.set i (some v))) p1 r1 ((hE.mono e1).set i q1);rw[exec_Assign_Name_used _ _ _ _ b5];refine da (Au (da ?_));refine da (Hc (Gu rfl hs (pJ X.env f (Fz I L)) L.kind (λy hy e=>?_)
  ?_) (λ_ s' hq=>ra (ra hq)) λ_ _ e=>e)
 ·have q:=cc.mp L.names y hy;rw[e]at q;exact eq_of_beq q
 have h1:=Z F s R H (λJ w=>∃ nx l u,we μ H l w/\Xd T l w u/\FB T l w nx J/\nc T (XE X R) (Qa T) l w (Pd (Wl nx u.length tg fi fe 1001 0 (Qw ix ρ)) (λ_=>ret (.ref u.length)) (u++[Ob.va []])) (λv U=>D.nx (R.set i (some v)) U)) I
  ⟨μ,ρ,σ,hE,hr,hp.bind λnx a6 a5 J U _ e1 r1 q1 p1=>⟨nx,a5,a6,e1,r1,q1,p1⟩⟩
 refine Je h1 λv s1 h2=>Je h2 λc0 s2 h3=>?_;obtain⟨it,fp,tn,J,w,rfl,I2,TT,a4,f2,nx,l,u,a7,r2,so,p2⟩:=h3;refine Bf (dm (WE L) (by intro y hy;simp at hy) (λa0 A B=>?_) L.kind);have S:=I2.rz (t':=s2.toks) .nil (by simp);have V:w s2.heap.objs.size=none:=I2.zd.fresh (Ea _);have r3:=r2.push (ob:=.va []) V ⟨[],Mh,Jb.nil⟩;have O:we l w (l++[s2.heap.objs.size]) (rc w s2.heap.objs.size (.va [])):=fx V;have b6:s2.heap.objs.size<(s2.heap.push { cls:=.type "list",data:=.seq [].toArray }).objs.size:=by rw[Wg];exact Ed _
 have kp:∀ b o,(s2.heap.push { cls:=.type "list",data:=.seq [].toArray }).get? b=some o->a0.get? b=some o:=λb o e=>B.extBut b o (Sa (Ba e)) (qa _ e);have t:∀ b∈fp,xn X F (rc w s2.heap.objs.size (.va [])) b/\b<(s2.heap.push { cls:=.type "list",data:=.seq [].toArray }).objs.size:=λb n=>by
  obtain⟨o,e,_⟩:=TT.obj 0 _ a4 b n;have lt:=Ba e;exact⟨⟨by rw[me (Sa lt)];exact(f2 b n).1,(f2 b n).2⟩,qt lt b6⟩
 refine xV hc L b7 b0 W S t A kp TT (TT.keep 0 _ _ a4 λb n o e=>kp b o (qa _ e))
  (λμ H σ i ex r=>so μ H σ i (O.trans ex) r) ((hE.mono a7).mono O) r3 (by rw[<-r2.len];simp) (p2.mono O) (λs6 H' m6 b1 a8 b8 b2 Y a9 hq=>?_)
 have I6:=L2.lb.Pv (s':=s6) (ch:=fp) S b2 b8 Y a9 (λb n=>⟨(t b n).1.2.2.2.1,(t b n).1.2.1,(t b n).1.2.2.2.2.1,(t b n).1.2.2.2.2.2⟩);have a2:X.env.locals<(s2.heap.push { cls:=.type "list",data:=.seq ([]:List Value).toArray }).objs.size:=S.lt;have a1:∀ z c,X.env.cells.lookup z=some c->c<(s2.heap.push { cls:=.type "list",data:=.seq ([]:List Value).toArray }).objs.size:=λz c e=>by
  obtain⟨v,q⟩:=S.cell z c e;exact q.lt
 refine UB (EU (v:=.ref s2.heap.objs.size) I6 hN hi hx rfl (λs7 I7 ⟨a,sb,ha⟩=>?_) hf);have b9:a≠(s2.heap.push { cls:=.type "list",data:=.seq ([]:List Value).toArray }).objs.size:=by
  rcases ha with rfl|ha
  ·exact Sa a2
  ·exact Sa (a1 _ _ ha)
 refine⟨m6,b1.sameBut sb (qf b9),λh8 b4=>?_⟩;refine⟨R.set i (some (.ref s2.heap.objs.size)),H',?_,hq⟩;exact I7.turned (t':=s7.toks) (it:=(s2.heap.push { cls:=.type "list",data:=.seq ([]:List Value).toArray }).objs.size) (λb o n e=>(b4.2 b n).trans e) a8 (fh a2) (.inr (Qb S.sz (Ea _))) (λz c e=>Sa (a1 z c e)) (λp hp=>Sa (Ba (S.pin p hp).1))
end
section
variable{P:Ca}{w:Ya}
def KS(c h:Heap):Prop:=∀ b o a n,c.get? b=some o->o.data=.seq a n->h.get? b=some o
theorem KS.keeps{es ep}(x:KS i h)(k:h.get? d=some o)(j:o.data=.dict es ep)(l:qg d h g):KS i g:=λb m f n e a=>by
 have q:=x b m f n e a;have c:b≠d:=by
  rintro rfl;rw[k]at q;cases q;rw[j]at a;exact nomatch a
 exact(l.2 b c).trans q
def NT(P:Ca)(w:Ya)(e:Heap):Nat->Value->Int->Nat->Prop
 |0,v,x,n=>∃ k,(tm P w).is k v=true/\x=(tm P w).hash k/\n=1
 |d+1,v,x,n=>(∃ k,(tm P w).is k v=true/\x=(tm P w).hash k/\n=1)\/
  ∃ a o b m,∃ c:List (Value × Int × Nat),v=.ref a/\e.get? a=some o/\o.cls=.type "tuple"/\o.data=.seq b m/\b.toList=c.map (·.1)/\(∀ p∈c,NT P w e d p.1 p.2.1 p.2.2)/\
   x=reduceHash (EF (c.map (·.2.1)))/\n=(c.map (·.2.2)).sum+1
structure NQ(P:Ca)(w:Ya)(h0:Heap)(a0:Addr)(x0:Int)(n0:Nat)(t:sd):Prop where
 nt:NT P w h0 5 (.ref a0) x0 n0
 hd:∃ o v0 its m,h0.get? a0=some o/\o.cls=.type "tuple"/\o.data=.seq its m/\its.toList.head?=some v0/\(tm P w).is t v0=true
end
section
variable{T:Tb}{X:Cx}
open Classical in
end
structure Ro(K:W.Frag)(C:Addr):Prop where
 f:W.findIn K (.ref C) "__eq__" = some (some (.builtin "object.__eq__"))
 o:W.mroIn K C (.type "object")=some true
section
variable{prog:Ca}{w:Ya}{K:W.Frag}{A:Ta}{E:Value->aa->Prop}{h:Heap}{g:Array Rp}{d:bC}{t:Nat}{os:gC}{x y C D:Addr}{ox oy:Vc}
theorem xT{M:fm}(X:K.In h)(f:W.findIn K (.ref C) a=some r)(e:h.get? x=some ox)(b:ox.cls=.ref C)(c:Q r ⟨h,g,d,t,os⟩):wpAny M A (specialOf (.ref x) a) Q E ⟨h,g,d,t,os⟩:=by
 unfold specialOf;repeat (first|(with_reducible refine ye e ?_;rw[b])|(with_reducible refine W.Looks.at (W.looks_findIn X f) ?_)|wp_step)
 exact c
theorem gU(X:K.In h)(c:Ro K C)(n:h.get? x=some ox)(l:ox.cls=.ref C)(r:h.get? y=some oy)(i:x≠y)(q:Q .notImplemented ⟨h,g,d,t,os⟩) :
  wpAny (model prog w) A (call (.builtin "object.__eq__") [.ref x,.ref y]) Q E ⟨h,g,d,t,os⟩:=by
 refine Oo (Sx Po.eq.plain dJ ?_);have j:=NN (.ref x) (.ref y);have f:=W.looks_mroIn (M:=model prog w) X c.o;have b:ox.cls≠.type "tuple":=by rw[l];intro e;cases e
 simp only[FF,ON,eJ];refine da ?_;unfold isInstance;have s:∀ (k:Unit->aa->Prop),k () ⟨h,g,d,t,os⟩->wpAny (model prog w) A (match Eh "object.__eq__" with|some sig=>Xg "object.__eq__" sig ⟨[.ref x,.ref y],[]⟩|none=>pure ()) k E ⟨h,g,d,t,os⟩:=λk m=>by
  cases a:Eh "object.__eq__" with
  |none=>exact ra m
  |some sig=>
   simp only[argsOk,a]at j;have p:Xg "object.__eq__" sig ⟨[.ref x,.ref y],[]⟩=pure ():=j;show wpAny _ A (Xg "object.__eq__" sig ⟨[.ref x,.ref y],[]⟩) k E _;rw[p];exact ra m
 repeat (first|(with_reducible refine ye n ?_;rw[l])|(with_reducible refine W.Looks.at f ?_)|(with_reducible refine Ek i n r b ?_)|wp_step)
 exact q
theorem NI(X:K.In h)(c:Ro K C)(e:h.get? x=some ox)(b:ox.cls=.ref C)(j:h.get? y=some oy)(a:x≠y)(i:Q none ⟨h,g,d,t,os⟩) :
  wpAny (model prog w) A (zt (.ref x) "__eq__" (.ref y)) Q E ⟨h,g,d,t,os⟩:=by
 simp only[zt];refine da ?_;simp only[ez,gz];refine Td (da (da (xT X c.f e b ?_)));simp only[Po.eq.bind];refine da (rF (wpAny_ite ?_));split
 ·exact da (ra (ra (da (gU X c e b j a (ra (ra i))))))
 ·exact Of (da (ra (ra (da (gU X c e b j a (ra (ra i)))))))
theorem N1(X:K.In h)(c:Ro K C)(o:Ro K D)(q:W.mroIn K D (.ref C)=some false)(j:h.get? x=some ox)(k:ox.cls=.ref C)(f:h.get? y=some oy)(a:oy.cls=.ref D)(i:C≠D)(r:A.units<cLine)(p:Q (.bool false) ⟨h,g,d,t,os⟩) :
  wpAny (model prog w) A (Ub .Eq (.ref x) (.ref y)) Q E ⟨h,g,d,t,os⟩:=by
 have b:x≠y:=λe=>by
  subst e;rw[j]at f;cases f;rw[k]at a;cases a;exact i rfl
 have m:ox.cls≠.type "tuple":=by rw[k];intro e;cases e
 have n:=W.looks_mroIn (M:=model prog w) X q;have l:(Nb C != Nb D)=true:=by simp[i]
 show wpAny (model prog w) A (lm .Eq (.ref x) (.ref y)) Q E _;simp only[lm,BA,sw];repeat (first|with_reducible refine wt r ?_|(with_reducible refine ye j ?_;rw[k])|(with_reducible refine ye f ?_;rw[a])|(rw[l,ja rfl];with_reducible refine da (W.Looks.at n ?_))|(with_reducible refine W.Looks.at n ?_)|(with_reducible refine NI X c j k f b ?_)|(with_reducible refine NI X o f a j (qf b) ?_)|(with_reducible refine Ek b j f m ?_)|wp_step)
 exact p
end
def WO(K:W.Frag):R2:=λv u H Q=>∃ x y C D a b c d,v=.ref x/\u=.ref y/\H x=some (.Ld C a c)/\H y=some (.Ld D b d)/\Ro K C/\Ro K D/\W.mroIn K D (.ref C)=some false/\C≠D/\Q (.bl false) H
def KH(K:W.Frag)(a:Nat->Addr)(l:List (Nat × Nat)):Prop:=∀ p∈l,Ro K (a p.1)/\Ro K (a p.2)/\W.mroIn K (a p.2) (.ref (a p.1))=some false/\a p.1≠a p.2
theorem HX{K:W.Frag}:KH K a []:=λ_ h=>nomatch h
theorem RJ{K:W.Frag}(a:Ro K (e c))(b:Ro K (e d))(m:W.mroIn K (e d) (.ref (e c))=some false)(n:e c≠e d)(r:KH K e l):KH K e ((c,d)::l):=λp f=>by
 rcases Na.mp f with rfl|f
 ·exact⟨a,b,m,n⟩
 ·exact r p f
section
variable{T:Tb}{X:Cx}
theorem GY(G:X.A.units+9<cLine):di X (Ub .Eq) (WO X.K):=by
 intro b s L H v u z F Q I E B h;obtain⟨x,y,C,D,f,i,j,k,rfl,rfl,l,m,c,e,o,a,q⟩:=h;obtain rfl:z=Nb x:=E;obtain rfl:F=Nb y:=B;obtain⟨_,_,_,p,_⟩:=(show ak X.prog X.w H s.heap x (.Ld C f j)from I.zd x _ l)
 obtain⟨_,_,_,r,_⟩:=(show ak X.prog X.w H s.heap y (.Ld D i k)from I.zd y _ m)
 have n:=I.Dk;obtain⟨h,g,d,t,J⟩:=s;exact N1 n c e o p rfl r rfl a (by omega) ⟨.bl false,H,I,rfl,q⟩
end
def EI(x y:D):M D:=λa=>match x,y with
 | .gt ss,.gt c=>(match Bp (yj a 0) (ss.map D.str) (c.map D.str)with
  |some b=>.ok (.bl b) a
  |none=>.Xb)
 |_,_=>.Xb
theorem ŧ(C:T.K=X.K)(U:X.A.units+9<cLine):di X (Ub .Eq) (rD T EI):=by
 intro c s N H v u j Y Q I M L h;obtain⟨E,k,S,x,y,r,g,i,a⟩:=h;unfold EI at a;cases x with
 |gt ss=>
  cases y with
  |gt ts=>
   dsimp only at a;cases e:Bp (yj S 0) (ss.map D.str) (ts.map D.str)with
   |none=>rw[e]at a;exact a.elim
   |some b=>
    rw[e]at a;rw[Qa]at g i;obtain⟨p,rfl,d⟩:=g;obtain⟨q,rfl,f⟩:=i;rw[C]at d f;cases M;cases L;obtain⟨V,F,O,_⟩:=L2.lb.tuple I (.inr d);obtain⟨W,G,P,_⟩:=L2.lb.tuple I (.inr f);obtain⟨z,B⟩:=SJ (A:=X.A.in1) (λx y v w j R b l m n o t=>jI I r 0 X.A.in1 x y v w j R b (by show X.A.units+1+0+1<cLine;omega) l m n o t) (VG (T:=T) (μ:=k) (H:=H) ss) (VG ts) F G e;have J:ni X.A s (.ref p) (.ref q) b:=by rw[B];exact .tuples O P (by omega) z
    exact J X.prog X.w X.xe (EP X c N Q) ⟨.bl b,H,I,rfl,nc.here a r (by rw[Qa])⟩
  |_=>exact a.elim
 |_=>exact a.elim
end L4
namespace L4
open PySem PyProof.Rows PySem.W L2
end L4
namespace L4
open PySem PySem.Spec PyProof.Rows L2
section
variable{prog:Ca}{w:Ya}{K:W.Frag}{A:Ta}{E:Value->aa->Prop}{h:Heap}{g:Array Rp}{d:bC}{t:Nat}{os:gC}{x y C:Addr}{ox oy:Vc}
theorem PU(X:K.In h)(c:Ro K C)(m:h.get? x=some ox)(j:ox.cls=.ref C)(l:Q (.bool true) ⟨h,g,d,t,os⟩) :
  wpAny (model prog w) A (call (.builtin "object.__eq__") [.ref x,.ref x]) Q E ⟨h,g,d,t,os⟩:=by
 refine Oo (Sx Po.eq.plain dJ ?_);have e:=NN (.ref x) (.ref x);have b:=W.looks_mroIn (M:=model prog w) X c.o;simp only[FF,ON,eJ];refine da ?_;unfold isInstance;have n:∀ (k:Unit->aa->Prop),k () ⟨h,g,d,t,os⟩->wpAny (model prog w) A (match Eh "object.__eq__" with|some sig=>Xg "object.__eq__" sig ⟨[.ref x,.ref x],[]⟩|none=>pure ()) k E ⟨h,g,d,t,os⟩:=λk f=>by
  cases a:Eh "object.__eq__" with
  |none=>exact ra f
  |some sig=>
   simp only[argsOk,a]at e;have i:Xg "object.__eq__" sig ⟨[.ref x,.ref x],[]⟩=pure ():=e;show wpAny _ A (Xg "object.__eq__" sig ⟨[.ref x,.ref x],[]⟩) k E _;rw[i];exact ra f
 repeat (first|(with_reducible refine ye m ?_;rw[j])|(with_reducible refine W.Looks.at b ?_)|(with_reducible refine wpAny_isSame_ref_self ?_)|wp_step)
 exact l
theorem L9(X:K.In h)(c:Ro K C)(b:h.get? x=some ox)(a:ox.cls=.ref C)(e:Q (some (.bool true)) ⟨h,g,d,t,os⟩) :
  wpAny (model prog w) A (zt (.ref x) "__eq__" (.ref x)) Q E ⟨h,g,d,t,os⟩:=by
 simp only[zt];refine da ?_;simp only[ez,gz];refine Td (da (da (xT X c.f b a ?_)));simp only[Po.eq.bind];refine da (rF (wpAny_ite ?_));split
 ·exact da (ra (ra (da (PU X c b a (ra (ra e))))))
 ·exact Of (da (ra (ra (da (PU X c b a (ra (ra e)))))))
theorem PZ(X:K.In h)(c:Ro K C)(b:h.get? x=some ox)(f:ox.cls=.ref C)(k:h.get? y=some oy)(i:oy.cls=.ref C)(n:A.units<cLine)(o:Q (.bool true) ⟨h,g,d,t,os⟩)(m:Q (.bool false) ⟨h,g,d,t,os⟩) :
  wpAny (model prog w) A (Ub .Eq (.ref x) (.ref y)) Q E ⟨h,g,d,t,os⟩:=by
 have l:ox.cls≠.type "tuple":=by rw[f];intro e;cases e
 have j:(Nb C != Nb C)=false:=by simp
 show wpAny (model prog w) A (lm .Eq (.ref x) (.ref y)) Q E _;by_cases a:x=y
 ·subst a;simp only[lm,BA,sw];repeat (first|with_reducible refine wt n ?_|(with_reducible refine ye b ?_;rw[f])|(rw[j,ka yb])|(with_reducible refine L9 X c b f ?_)|wp_step)
  exact o
 ·simp only[lm,BA,sw];repeat (first|with_reducible refine wt n ?_|(with_reducible refine ye b ?_;rw[f])|(with_reducible refine ye k ?_;rw[i])|(rw[j,ka yb])|(with_reducible refine NI X c b f k a ?_)|(with_reducible refine NI X c k i b (qf a) ?_)|(with_reducible refine Ek a b k l ?_)|wp_step)
  exact m
end
def Z5(K:W.Frag):R2:=λv u H Q=>WO K v u H Q\/∃ x y C a b c d,v=.ref x/\u=.ref y/\H x=some (.Ld C a c)/\H y=some (.Ld C b d)/\Ro K C/\Q (.bl true) H/\Q (.bl false) H
def zQ(A R:Jk Fl):Prop:=∃ d a,A=.ok (.rt d) a/\R=.ok (.rt d) a
open Classical in
def jH(l:List (Nat × Nat))(b:List Nat)(A R:M Fl)(x y:D):M Fl:=λa=>match Rl a x,Rl a y with
 |some (c,_),some (d,_)=>if (c,d)∈l then R a else if (c=d/\c∈b)/\zQ (A a) (R a)then R a else .Xb
 |_,_=>.Xb
def Zx(l:List (Nat × Nat))(b:List Nat)(c d:Ev->M D)(e f:Ev->M Fl):Ev->M Fl:=λa=>xs a (c a) λx=>xs a (d a) (jH l b (e a) (f a) x)
theorem G9{K:W.Frag}{a:Nat->Addr}:∀ c∈([]:List Nat),Ro K (a c):=λ_ h=>nomatch h
theorem l5{K:W.Frag}{b:Nat->Addr}(a:Ro K (b c))(r:∀ x∈l,Ro K (b x)):∀ x∈c::l,Ro K (b x):=λx d=>by
 rcases Na.mp d with rfl|d
 ·exact a
 ·exact r x d
section
variable{T:Tb}{X:Cx}
theorem xY(r:X.A.units+9<cLine):di X (Ub .Eq) (Z5 X.K):=by
 intro a s E H v u b i Q I f e h;rcases h with h|h
 ·exact GY r a s E H v u b i Q I f e h
 ·obtain⟨x,y,C,j,k,l,m,rfl,rfl,n,o,c,q,D⟩:=h;obtain rfl:b=Nb x:=f;obtain rfl:i=Nb y:=e;obtain⟨_,_,_,z,_⟩:=(show ak X.prog X.w H s.heap x (.Ld C j l)from I.zd x _ n)
  obtain⟨_,_,_,B,_⟩:=(show ak X.prog X.w H s.heap y (.Ld C k m)from I.zd y _ o)
  have p:=I.Dk;obtain⟨h,g,d,t,F⟩:=s;exact PZ p c z rfl B rfl (by omega) ⟨.bl true,H,I,rfl,q⟩ ⟨.bl false,H,I,rfl,D⟩
theorem yY{A rest:List Stmt}{U V:Ev->M D}(hu:X.A.units+9<cLine)(ht:KH X.K T.ca l)(hs:∀ c∈z,Ro X.K (T.ca c))(hm:Pe .Eq b=false)(hl:FE T X a U)(hr:FE T X b V)(ha:ym T X A B)(i:ym T X rest C) :
  ym T X (.If (.Compare a [.Eq] [b] p) A [] J::rest) (Zx l z U V B C):=by
 intro o s st H D I hw;refine aS (sS (OL (xY hu) hl hr hm) ha GT) i o s st H D I ?_;obtain⟨μ,k,σ,n,F,hp⟩:=hw;refine⟨μ,k,σ,n,F,nc.xs n hp λx O N v H1 _ t r1 p1 q1=>⟨N,k,O,n.mono t,r1,nc.xs (n.mono t) q1 λy f j u H2 _ S q p2 e=>?_⟩⟩;have G:=Qa.mono S _ _ p1;have h:=(n.mono t).mono S;unfold jH at e;cases r:Rl f x with
 |none=>rw[r]at e;exact e.elim
 |some cf=>
  cases w:Rl f y with
  |none=>rw[r,w]at e;exact e.elim
  |some cg=>
   obtain⟨c,fs⟩:=cf;obtain⟨d,gs⟩:=cg;rw[r,w]at e;dsimp only at e;obtain⟨P,Q,vs,rfl,Y,_⟩:=QB q G r;obtain⟨m,R,ws,rfl,Z,_⟩:=QB q p2 w;by_cases g:(c,d)∈l
   ·rw[ja g]at e;obtain⟨z1,z2,z3,z4⟩:=ht (c,d) g;exact .inl ⟨P,m,_,_,Q,R,vs,ws,rfl,rfl,Y,Z,z1,z2,z3,z4,false,rfl,j,k,f,h,q,e⟩
   ·rw[ka g]at e;by_cases E:(c=d/\c∈z)/\zQ (B k f) (C k f)
    ·rw[ja E]at e;obtain⟨⟨rfl,hc⟩,dd,a0,hA,hR⟩:=E;refine .inr ⟨P,m,_,Q,R,vs,ws,rfl,rfl,Y,Z,hs c hc,⟨true,rfl,j,k,f,h,q,?_⟩,⟨false,rfl,j,k,f,h,q,e⟩⟩;rw[hR]at e;rw[hA];intro L W H' e' r' q';have:=e L W H' e' r' q';cases W with
     |rt v=>exact this
     |_=>exact q'.elim
    ·rw[ka E]at e;exact e.elim
end
end L4
set_option maxHeartbeats 0
namespace L4
open PySem PySem.Spec PyProof.Rows L2
section
variable{T:Tb}{X:Cx}{P:Ca}{w:Ya}{K:W.Frag}{mg:Str->Option Value}{base:Heap}{ca:Nat->Addr}{tx:Tx}
theorem Be{sc:Scope}(a:sc.kind=.function:=by rfl)(b:sc.isCoroutine=false:=by rfl)(c:sc.isGenerator=false:=by rfl)(h:N.Nodup/\N.take Q.length=Q/\(∀ x∈Q,sc.names.lookup x=some .local\/sc.names.lookup x=some .cell)/\∀ y∈sc.names,y.2≠.free:=by decide +kernel):wa N Q sc:=⟨a,b,c,h.1,h.2.1,h.2.2.1,h.2.2.2⟩
theorem Ad(h:Le T X.prog X.w X.mg X.base k x g fn)(q:Yd n X.A)(j:FA T X (e::a) f)(i:T.K=X.K:=by rfl)(o:k<=n:=by decide)(m:Gl X x:=by exact rfl)(c:(x == ("__debug__" : Str))=false:=by decide)(l:ua (e::a) X.env=(false,vc e X.env)::ua a X.env:=by rfl)(d:(Wc b (ua a X.env)).any (·.1)=false:=by rfl):FE T X (.Call (.Name x p) (e::a) [] b) (Xc g.length fn [] f):=l3 h i (q.mono o) m j c l d
theorem fmt{pl:iq Bool}(h:Bk T X.prog X.w X.mg X.base k m l p)(u:Yd n X.A)(s:FE T X o f)(r:FA T X (e::c) i)(q:T.K=X.K:=by rfl)(t:k<=n:=by decide)(g:ua (e::c) X.env=(false,vc e X.env)::ua c X.env:=by rfl)(d:(Wc a (ua c X.env)).any (·.1)=false:=by rfl)
  (v:vc (.Call (.Attribute o m b) (e::c) [] a) X.env=(do
   let j <-vc o X.env
   Fk b.atName
   let (f,first) <-Lg [j] (Bm j m pl)
   Wx a f first (Wc a (ua (e::c) X.env)) (Xj a (oh [] X.env))):=by rfl):FE T X (.Call (.Attribute o m b) (e::c) [] a) (xg p l.length m f i):=ģ q s h (u.mono t) r g d v
theorem Pr{pl:iq Bool}(h:Bk T X.prog X.w X.mg X.base k m d e)(l:Yd n X.A)(i:FE T X o f)(g:T.K=X.K:=by rfl)(j:k<=n:=by decide)
  (p:vc (.Call (.Attribute o m a) [] [] b) X.env=(do
   let c <-vc o X.env
   Fk a.atName
   let (f,first) <-Lg [c] (Bm c m pl)
   Wx b f first (Wc b (ua [] X.env)) (Xj b (oh [] X.env))):=by rfl):FE T X (.Call (.Attribute o m a) [] [] b) (xg e d.length m f Ha):=İ g i h (l.mono j) p
theorem Db(f:FE T X a fa)(g:FE T X b d)(e:T.K=X.K:=by rfl)(h:AM b:=by exact λ_ _=>rfl):FE T X (.Subscript a b c) (ya Ma fa d):=S9 ē (Ĭ e) f g h
theorem bo(g:Yd k X.A)(e:FE T X a fa)(f:FE T X b d):FE T X (.Compare a [.Eq] [b] c) (ya se fa d):=Bt (Sg (Sd g)) pf e f (be _)
theorem Hj(f:FE T X a fa)(g:FE T X b d)(e:T.K=X.K:=by rfl):FE T X (.BinOp a .Add b c) (ya kh fa d):=Rg (X9 e) pf f g
theorem Ce(h:Ln T b f)(i:FE T X e g)(c:T.K=X.K:=by rfl)(d:oe e f X.env (vc e X.env)=vc e X.env:=by rfl):FE T X (.Attribute e f a) (Cd (Nc b f) g):=v7 c h i d
theorem Yc(b:FE T X e f):ym T X [.Return (some e) a] (Tc f):=Hh (B1 b)
theorem Va(b:FE T X e a)(c:ua [e] X.env=(false,vc e X.env)::ua [] X.env:=by rfl):FA T X [e] (ia a Ha):=Ja b mm c
theorem Qf(c:X.N.Nodup)(d:FE T X e f)(h:X.N[i]?=some x:=by rfl)(k:Loc X.env.scope x:=by exact Or.inl rfl)(j:Xi e (some (.Name x a)) b.line X.env=pure false:=by rfl)(g:X.fn x=true\/X.env.scope.names.lookup x=some .local:=by first|exact .inl rfl|exact .inr rfl|assumption):FS T X (.Assign [.Name x a] e b) (lf i f):=YK c h k d j g
theorem cj(b:X.N.Nodup)(d:X.N[i]?=some x:=by rfl)(e:Loc X.env.scope x:=by exact Or.inl rfl)(c:X.fn x=true\/X.env.scope.names.lookup x=some .local:=by first|exact .inl rfl|exact .inr rfl|assumption):FG T X (.Name x a) (Lf i):=rK b d e c
theorem uk(e:Ap T.K (T.ca c))(g:ng T.K (T.ca c) m f)(i:yi T P w mg base j f a b)(h:Bk T P w mg base k m a d)(l:j<=k:=by decide):Bk T P w mg base k m a ((c,b)::d):=sZ e g i l h
theorem Ig(h:fg K mg x c d)(S:wa N d (Pc c))
  (i:∀ {f:Addr} {b:Value} {A:Ta} {a:List nh} {s:aa} {H:Hp} {E:XK},Yd k (A.deeper (Ag x (Pc c) s.heap.objs.size f b))->ym ⟨K,ca,tx⟩ (Vp (Il P w) P w K mg base N x (Pc c) f b A a s H E) (Kj c) g) (j:N.length=n:=by rfl) :
  Le ⟨K,ca,tx⟩ P w mg base (k+1) x d (L4.Cb λe=>L4.jc (Md n g e)):=j ▸ Le.Cb (Le.jc (uI h S λ_ _ _ _ _ _ _=>i))
theorem Br(h:Hg K C x a d e f)(S:wa N e (Pc d))
  (j:∀ {c:Value} {A:Ta} {b:List nh} {s:aa} {H:Hp} {E:XK},Yd k (A.deeper (Ag a (Pc d) s.heap.objs.size f c))->ym ⟨K,ca,tx⟩ (Vp (Il P w) P w K mg base N a (Pc d) f c A b s H E) (Kj d) g) (l:N.length=n:=by rfl) :
  yi ⟨K,ca,tx⟩ P w mg base (k+1) f e (L4.Cb λi=>L4.jc (Md n g i)):=l ▸ yi.Cb (yi.jc (DV h S λ_ _ _ _ _ _=>j))
theorem qx(h:Hg K C x a d e f)(S:wa N e (Pc d))
  (i:∀ {c:Value} {A:Ta} {b:List nh} {s:aa} {H:Hp} {E:XK},Yd k (A.deeper (Ag a (Pc d) s.heap.objs.size f c))->ym ⟨K,ca,tx⟩ (Vp (Il P w) P w K mg base N a (Pc d) f c A b s H E) (Kj d) g) (j:N.length=n:=by rfl) :
  yi ⟨K,ca,tx⟩ P w mg base (k+1) f e (L4.Cb (Md n g)):=j ▸ yi.Cb (DV h S λ_ _ _ _ _ _=>i)
end
end L4
@[elab_as_elim] theorem bq1{α:Type}{P:List α->Prop}(u:List α)(h:u.length=1)(z:∀ a,P [a]):P u:=match u,h with|[a],_=>z a
@[elab_as_elim] theorem bq2{α:Type}{P:List α->Prop}(u:List α)(h:u.length=2)(z:∀ a b,P [a,b]):P u:=match u,h with|[a,b],_=>z a b
@[elab_as_elim] theorem bq3{α:Type}{P:List α->Prop}(u:List α)(h:u.length=3)(z:∀ a b c,P [a,b,c]):P u:=match u,h with|[a,b,c],_=>z a b c
@[elab_as_elim] theorem bq4{α:Type}{P:List α->Prop}(u:List α)(h:u.length=4)(z:∀ a b c d,P [a,b,c,d]):P u:=match u,h with|[a,b,c,d],_=>z a b c d
@[elab_as_elim] theorem bq5{α:Type}{P:List α->Prop}(u:List α)(h:u.length=5)(z:∀ a b c d e,P [a,b,c,d,e]):P u:=match u,h with|[a,b,c,d,e],_=>z a b c d e
@[elab_as_elim] theorem bq6{α:Type}{P:List α->Prop}(u:List α)(h:u.length=6)(z:∀ a b c d e f,P [a,b,c,d,e,f]):P u:=match u,h with|[a,b,c,d,e,f],_=>z a b c d e f
@[elab_as_elim] theorem bq7{α:Type}{P:List α->Prop}(u:List α)(h:u.length=7)(z:∀ a b c d e f g,P [a,b,c,d,e,f,g]):P u:=match u,h with|[a,b,c,d,e,f,g],_=>z a b c d e f g
namespace K42
open PySem PySem.Spec PyProof.Rows L2 L4
noncomputable def dc(i:Nat):Stmt:=PySem.Challenge.pw_sidebook_k42_wishes_of_one_pot.main.body.getD i (.Pass ⟨0,0,0,0⟩)
def OF(K:W.Frag):Tab:=⟨Hx K "least_fate",266,35, "least_fate.<locals>.<lambda>"⟩
def kG(K:W.Frag):Tab:=⟨Hx K "paper",281,27, "paper.<locals>.<lambda>"⟩
def tx(K:W.Frag):Tx:=⟨[OF K,kG K],Vy K⟩
theorem WS(K:W.Frag):OF K∈(tx K).mq:=(.head _)
theorem xS(K:W.Frag):kG K∈(tx K).mq:=(.tail _ (.head _))
theorem Y5(K:W.Frag):∀ t∈(tx K).mq,∃ x∈[("least_fate" : Str),("paper" : Str)],t.P=Hx K x:=by
 intro t a;have h:t∈[OF K,kG K]:=a;simp only[Na,He,Wn]at h;rcases h with rfl|rfl
 ·exact⟨"least_fate",by simp,rfl⟩
 ·exact⟨"paper",by simp,rfl⟩
structure md(K:W.Frag)(mg:Str->Option Value)(ca:Nat->Addr):Prop where
 jb:fg K mg "_law_cell_at" (dc 91) ["_law_script","_law_k"]
 ah:fg K mg "is_whole" (dc 7) ["thing"]
 Jc:fg K mg "is_between" (dc 8) ["thing","least","most"]
 gg:fg K mg "check_span" (dc 81) ["hand","every","pots"]
 Gd:Hg K (ca 9) "learn" "Keeper.learn" (lh (dc 89) 2) ["self","words"] (ca 22)
 Wd:Hg K (ca 9) "hold" "Keeper.hold" (lh (dc 89) 1) ["self","account","claim","seen"] (ca 21)
 Ji:fg K mg "is_day" (dc 11) ["thing"]
 Rh:fg K mg "is_word" (dc 10) ["thing"]
 Re:fg K mg "is_amount" (dc 13) ["thing"]
 Eg:fg K mg "is_side" (dc 9) ["thing"]
 Og:fg K mg "is_tie" (dc 24) ["thing"]
 Yg:fg K mg "are_ties" (dc 26) ["thing"]
 ig:fg K mg "are_shares" (dc 25) ["thing"]
 Yf:fg K mg "is_number" (dc 12) ["thing"]
 yd:fg K mg "is_stand" (dc 27) ["thing"]
 Kh:uM K mg "stand" (dc 28) ["number","shares","ties"] [.none]
 Yi:fg K mg "first" (dc 29) ["left","right"]
 Nj:Hg K (ca 4) "__init__" "Account.__init__" (lh (dc 52) 0) ["self","pot","side","mine","grant","may","strikes"] (ca 10)
 Me:fg K mg "first_account" (dc 56) ["pot","side","left","right"]
 lr:Nv K (ca 9) "__init__" "Keeper.__init__" (lh (dc 89) 0) ["self","hand","every","pots","words"] [.none] (ca 20)
 re:fg K mg "_law_with" (dc 92) ["_law_one","_law_side","_law_by"]
 pc:Hg K (ca 9) "holds" "Keeper.holds" (lh (dc 89) 12) ["self","pot"] (ca 32)
 Pb:Hg K (ca 5) "word" "Calm.word" (lh (dc 53) 0) ["self"] (ca 13)
 Wb:Hg K (ca 6) "word" "Offered.word" (lh (dc 54) 0) ["self"] (ca 15)
 Vb:Hg K (ca 7) "word" "Waiting.word" (lh (dc 55) 0) ["self"] (ca 17)
 Qe:fg K mg "with_more" (dc 32) ["shares","side","amount"]
 Bd:fg K mg "following" (dc 33) ["one","shares","ties"]
 Te:fg K mg "other_side" (dc 15) ["side"]
 pk:fg K mg "gift" (dc 34) ["one","side","amount"]
 Cj:fg K mg "tied" (dc 35) ["one","payer","amount","word","day"]
 rg:fg K mg "tie_of" (dc 36) ["one","word"]
 Cf:fg K mg "is_paid_by" (dc 85) ["one","word","side"]
 Ff:fg K mg "tie_to_end" (dc 38) ["one","word"]
 Zi:fg K mg "ended" (dc 39) ["one","tie","side"]
 Ph:fg K mg "settled" (dc 40) ["one","word"]
 Sh:fg K mg "dropped" (dc 41) ["one","word"]
 tf:fg K mg "stand_wished" (dc 86) ["account","wish","known"]
 xf:fg K mg "allowance_of" (dc 87) ["wish"]
 Lh:fg K mg "deals" (dc 30) ["one"]
 ue:fg K mg "is_stand_of" (dc 31) ["thing","coin"]
 na:Hg K (ca 4) "agree_of" "Account.agree_of" (lh (dc 52) 1) ["self","side","one"] (ca 11)
 dh:fg K mg "offered" (dc 57) ["account","shares","ties"]
 Wh:fg K mg "is_pot" (dc 14) ["thing"]
 ze:fg K mg "is_of_a_side" (dc 43) ["thing"]
 Ee:fg K mg "is_thing" (dc 44) ["thing"]
 Gf:fg K mg "is_agree" (dc 46) ["thing"]
 Vf:fg K mg "is_strike" (dc 47) ["thing"]
 kc:fg K mg "has_its_parts" (dc 48) ["letter"]
 gc:fg K mg "is_letter" (dc 49) ["thing"]
 yf:fg K mg "is_following" (dc 51) ["thing","one"]
 Ka:Hg K (ca 4) "strike_of" "Account.strike_of" (lh (dc 52) 2) ["self","side","one"] (ca 12)
 Cc:Hg K (ca 5) "taken" "Calm.taken" (lh (dc 53) 1) ["self","letter"] (ca 14)
 Ec:Hg K (ca 6) "taken" "Offered.taken" (lh (dc 54) 1) ["self","letter"] (ca 16)
 Dc:Hg K (ca 7) "taken" "Waiting.taken" (lh (dc 55) 1) ["self","letter"] (ca 18)
 bh:fg K mg "step_to" (dc 88) ["account","one"]
 ke:fg K mg "shown_in_time" (dc 37) ["tie","shown"]
 Nf:fg K mg "lot_of_paid" (dc 61) ["view","seen","tie"]
 jg:fg K mg "lot_of_due" (dc 62) ["view","seen","tie"]
 Ii:fg K mg "lot_of" (dc 63) ["view","pot","tie"]
 Df:fg K mg "read_stand" (dc 64) ["view","pot","one"]
 Dg:fg K mg "read_pots" (dc 65) ["view"]
 We:fg K mg "all_choices" (dc 66) ["readings"]
 uf:fg K mg "lots_by_word" (dc 68) ["reads"]
 Zg:fg K mg "fates_of" (dc 69) ["lots"]
 ie:fg K mg "comes_by_fate" (dc 70) ["lot","fate","every"]
 Zd:fg K mg "sum_by_fate" (dc 71) ["lots","fate","every"]
 Ef:iH K mg "least_fate" (dc 72) ["lots","every"]
 Ki:fg K mg "sum_of" (dc 73) ["reads","by_word","fates","every"]
 Xe:fg K mg "least_paper" (dc 74) ["reads","chosen","every"]
 Fd:fg K mg "chosen_readings" (dc 67) ["readings","chosen"]
 Jj:iH K mg "paper" (dc 75) ["view"]
 ri:fg K mg "worth" (dc 76) ["view"]
 Mf:fg K mg "stands_told" (dc 82) ["account","claim"]
 Cs:Hg K (ca 8) "__init__" "View.__init__" (lh (dc 60) 0) ["self","every","look","words","pots"] (ca 19)
 ce:Hg K (ca 9) "words" "Keeper.words" (lh (dc 89) 3) ["self"] (ca 23)
 Oc:Hg K (ca 9) "view_by" "Keeper.view_by" (lh (dc 89) 7) ["self","accounts"] (ca 27)
 ve:Hg K (ca 9) "view" "Keeper.view" (lh (dc 89) 8) ["self"] (ca 28)
 Gc:Hg K (ca 9) "worth" "Keeper.worth" (lh (dc 89) 9) ["self"] (ca 29)
 Fb:Hg K (ca 9) "is_good" "Keeper.is_good" (lh (dc 89) 11) ["self","account","allowance"] (ca 31)
 Sb:Hg K (ca 9) "wish_for" "Keeper.wish_for" (lh (dc 89) 14) ["self","one","wish"] (ca 34)
 db:Hg K (ca 9) "wish" "Keeper.wish" (lh (dc 89) 13) ["self","wish"] (ca 33)
 qd:Hg K (ca 9) "take_ask" "Keeper.take_ask" (lh (dc 89) 16) ["self","letter"] (ca 36)
 Hb:Hg K (ca 9) "is_as_asked" "Keeper.is_as_asked" (lh (dc 89) 17) ["self","letter"] (ca 37)
 Mb:Hg K (ca 9) "take_step" "Keeper.take_step" (lh (dc 89) 18) ["self","letter"] (ca 38)
 Pa:Hg K (ca 9) "take" "Keeper.take" (lh (dc 89) 15) ["self","letter"] (ca 35)
 Zb:Hg K (ca 9) "account" "Keeper.account" (lh (dc 89) 6) ["self","pot"] (ca 26)
 De:fg K mg "_law_forward" (dc 93) ["_law_keeper","_law_side","_law_one","_law_tie_here"]
 Cg:fg K mg "_law_wish" (dc 96) ["_law_script","_law_one","_law_side"]
 Bg:fg K mg "_law_most" (dc 98) ["_law_side"]
 Fc:Hg K (ca 9) "given" "Keeper.given" (lh (dc 89) 5) ["self"] (ca 25)
 sf:fg K mg "_law_halfway" (dc 97) ["_law_keeper","_law_side","_law_one","_law_wish_here"]
 Ae:fg K mg "_law_tie" (dc 94) ["_law_one","_law_word"]
 Ye:fg K mg "_law_new" (dc 95) ["_law_one","_law_side","_law_wish_here","_law_words"]
 de:fg K mg "_law_letters" (dc 99) ["_law_side","_law_one","_law_new_here","_law_wish_here"]
 bq:fg K mg "law" (dc 100) ["_law_script"]
 Fj:mg "worth_worth" = mg "worth"
 jF:mg "all" = none
 Qv:mg "bool" = none
 Dv:mg "dict" = none
 dr:mg "enumerate" = none
 xE:mg "int" = none
 Jd:mg "isinstance" = none
 Fh:mg "len" = none
 oq:mg "list" = none
 sr:mg "min" = none
 qq:mg "range" = none
 BE:mg "set" = none
 Ov:mg "sorted" = none
 fy:mg "str" = none
 Pt:mg "sum" = none
 Pg:mg "tuple" = none
 vC:mg "zip" = none
 Vz:VE K mg "FIRM" ["won","sure","back"]
 Fv:VE K mg "HELD" ["held"]
 dk:∃ t,mg "MOST_AMOUNT" = some (.int 1000000000000 t)
 Eo:∃ t,mg "MOST_DAY" = some (.int 1000000 t)
 Zk:∃ t,mg "MOST_EVERY" = some (.int 50 t)
 fk:∃ t,mg "MOST_NUMBER" = some (.int 1000000 t)
 wo:∃ t,mg "MOST_POT" = some (.int 2 t)
 Jh:∃ t,mg "MOST_SHARE" = some (.int 2000000000000 t)
 qm:∃ t,mg "MOST_TIES" = some (.int 6 t)
 sm:∃ t,mg "MOST_WORD" = some (.int 59 t)
 Oh:mg "NoStand" = some (.ref (ca 1))
 Gi:W.excIn K (ca 1) vY "ValueError.__new__" = true
 Tk:W.exmOne K (.ref (ca 1)) (.ref (ca 1))=some true
 ic:L2.Ap K (ca 9)
 Jo:L2.Zh K (ca 9) "hand"
 Zm:L2.Zh K (ca 9) "every"
 Hn:L2.Ap K (ca 8)
 Cp:L2.Zh K (ca 8) "every"
 Qj:L2.Zh K (ca 9) "last_look"
 Vk:L2.Zh K (ca 8) "last_look"
 jo:L2.Zh K (ca 9) "gave"
 Hm:L2.Zh K (ca 9) "known"
 Gp:L2.Zh K (ca 8) "known"
 sk:L2.Zh K (ca 9) "accounts"
 Ol:L2.Zh K (ca 9) "claims"
 Do:L2.Zh K (ca 9) "seen"
 on:L2.Zh K (ca 9) "asked"
 Tj:L2.Zh K (ca 9) "finishing"
 Mm:L2.ng K (ca 9) "learn" (ca 22)
 Ze:L2.Ap K (ca 7)
 qo:L2.Zh K (ca 7) "pot"
 Fe:L2.Ap K (ca 6)
 io:L2.Zh K (ca 6) "pot"
 Ng:L2.Ap K (ca 5)
 Cr:L2.Zh K (ca 5) "pot"
 yg:L2.Ap K (ca 4)
 Ao:L2.Zh K (ca 4) "pot"
 Go:L2.ng K (ca 9) "hold" (ca 21)
 yn:L2.Zh K (ca 7) "side"
 kn:L2.Zh K (ca 6) "side"
 lq:L2.Zh K (ca 5) "side"
 Um:L2.Zh K (ca 4) "side"
 gn:L2.Zh K (ca 7) "mine"
 Rm:L2.Zh K (ca 6) "mine"
 rq:L2.Zh K (ca 5) "mine"
 Sm:L2.Zh K (ca 4) "mine"
 Tl:L2.Zh K (ca 7) "grant"
 Pl:L2.Zh K (ca 6) "grant"
 jp:L2.Zh K (ca 5) "grant"
 Yl:L2.Zh K (ca 4) "grant"
 No:L2.Zh K (ca 7) "may"
 ko:L2.Zh K (ca 6) "may"
 br:L2.Zh K (ca 5) "may"
 Ko:L2.Zh K (ca 4) "may"
 xk:L2.Zh K (ca 7) "strikes"
 vk:L2.Zh K (ca 6) "strikes"
 Qm:L2.Zh K (ca 5) "strikes"
 Ak:L2.Zh K (ca 4) "strikes"
 Ts:mg "Calm" = some (.ref (ca 5))
 Cq:L2.Mk K (ca 5) (ca 10)
 pr:mg "Keeper" = some (.ref (ca 9))
 Up:L2.Mk K (ca 9) (ca 20)
 Om:L2.ng K (ca 9) "holds" (ca 32)
 Wm:L2.ng K (ca 7) "word" (ca 17)
 dn:L2.ng K (ca 6) "word" (ca 15)
 tq:L2.ng K (ca 5) "word" (ca 13)
 ku:mg "Offered" = some (.ref (ca 6))
 Es:L2.Mk K (ca 6) (ca 10)
 Oj:L2.ng K (ca 7) "agree_of" (ca 11)
 Gh:L2.ng K (ca 6) "agree_of" (ca 11)
 Hi:L2.ng K (ca 5) "agree_of" (ca 11)
 Rj:L2.ng K (ca 4) "agree_of" (ca 11)
 ou:mg "Waiting" = some (.ref (ca 7))
 Os:L2.Mk K (ca 7) (ca 10)
 ul:L2.ng K (ca 5) "strike_of" (ca 12)
 Dj:L2.ng K (ca 6) "strike_of" (ca 12)
 Ej:L2.ng K (ca 7) "strike_of" (ca 12)
 Ul:L2.ng K (ca 7) "taken" (ca 18)
 Xl:L2.ng K (ca 6) "taken" (ca 16)
 Ep:L2.ng K (ca 5) "taken" (ca 14)
 xq:L2.Zh K (ca 8) "pots"
 pA:mg "View" = some (.ref (ca 8))
 yx:L2.Mk K (ca 8) (ca 19)
 bn:L2.ng K (ca 9) "words" (ca 23)
 il:L2.ng K (ca 9) "view_by" (ca 27)
 Co:L2.ng K (ca 9) "view" (ca 28)
 vn:L2.ng K (ca 9) "worth" (ca 29)
 Qk:L2.ng K (ca 9) "is_good" (ca 31)
 qk:L2.ng K (ca 9) "wish_for" (ca 34)
 Io:L2.ng K (ca 9) "wish" (ca 33)
 yk:L2.ng K (ca 9) "take_ask" (ca 36)
 jl:L4.Ro K (ca 5)
 jr:L4.Ro K (ca 6)
 Jm:W.mroIn K (ca 6) (.ref (ca 5))=some false
 cn:(ca 5)≠(ca 6)
 xm:L4.Ro K (ca 7)
 Em:W.mroIn K (ca 7) (.ref (ca 5))=some false
 ln:(ca 5)≠(ca 7)
 Pm:W.mroIn K (ca 5) (.ref (ca 7))=some false
 Ym:(ca 7)≠(ca 5)
 uj:L2.ng K (ca 9) "is_as_asked" (ca 37)
 Mj:L2.ng K (ca 9) "take_step" (ca 38)
 ro:L2.ng K (ca 9) "take" (ca 35)
 Yk:L2.ng K (ca 9) "account" (ca 26)
 Im:L2.ng K (ca 9) "given" (ca 25)
 tb:Jx K ["least_fate","paper"]
 oP:mg "__builtins__" = some (.ref (Vy K))
 TC:∀ t∈(tx K).mq,∀ t'∈(tx K).mq,t'.P=t.P->t'=t
seal L2.PE L2.PS L2.Ft L2.PT L2.PW L2.PA L2.PI L2.PG
section
variable{P:Ca}{w:Ya}{K:W.Frag}{mg:Str->Option Value}{base:Heap}{ca:Nat->Addr}
abbrev Þ:Stmt:=dc 91
def OR:Ev->M Fl:=
 (ub (Ue (eT (ya oLt (ba 1) (Xh Hl (ia (ba 0) Ha)))) (Tc (ya Ma (ba 0) (ba 1))) vf) (Tc (eC (.int 0))))
def jb:List D->M D:=Cb λa=>jc (Md 2 OR a)
theorem ű:wa ["_law_script","_law_k"] ["_law_script","_law_k"] (Pc Þ):=Be
theorem Nt(a:md K mg ca):Le ⟨K,ca,tx K⟩ P w mg base 1 "_law_cell_at" ["_law_script","_law_k"] jb:=
 Ig a.jb ű λb=>
  (Yb (gf (je sA Gz (ga 1) (Kn As (Qs rfl) rfl a.Fh qc (Va (ga 0))) (be _)) (Yc (Db (ga 0) (ga 1))) Af)
  (Yc Fa))
abbrev K3:Stmt:=dc 7
def lV:Ev->M Fl:=
 (Tc (Li (Cd (dq .int) (ba 0)) (VL (Cd (dq .bool) (ba 0)))))
def ah:List D->M D:=Cb λa=>jc (Md 1 lV a)
theorem Ú:wa ["thing"] ["thing"] (Pc K3):=Be
theorem F2(a:md K mg ca):Le ⟨K,ca,tx K⟩ P w mg base 1 "is_whole" ["thing"] ah:=
 Ig a.ah Ú λb=>
  (Yc (aj (wv .int (ga 0) rfl a.Jd rfl a.xE boot_int) (rn (rX (wv .bool (ga 0) rfl a.Jd rfl a.Qv boot_bool)))))
abbrev į:Stmt:=dc 8
def lT:Ev->M Fl:=
 (Tc (Li (Xc 1 ah [] (ia (ba 0) Ha)) (vM oLe oLe (ba 1) (ba 0) (ba 2))))
def Jc:List D->M D:=Cb λa=>jc (Md 3 lT a)
theorem ε:wa ["thing","least","most"] ["thing","least","most"] (Pc į):=Be
theorem Gx(a:md K mg ca):Le ⟨K,ca,tx K⟩ P w mg base 2 "is_between" ["thing","least","most"] Jc:=
 Ig a.Jc ε λb=>
  (Yc (aj (Ad (F2 a) b (Va (ga 0))) (rn (r8 OV iT OV iT (ga 1) (ga 0) (ga 2)))))
abbrev ĸ:Stmt:=dc 81
abbrev HQ:Ev->M Fl:=(Ue (cu (eT (ya (ju false) (ba 0) (dA (ba 3) none (some (eC (.int 2)))))) (eT (ya oLt (ya Ma (ba 3) (eC (.int 4))) (ya kh (ba 1) (eC (.int 1)))))) Kr vf)
def iP:Ev->M Fl:=
 (ub (Ue (Mn (eT (Xc 3 Jc [] (ia (ba 1) (ia (eC (.int 1)) (ia (eC (.int 50)) Ha)))))) Kr vf) (nu (vj (ba 2)) (Lf 3) HQ))
def gg:List D->M D:=Cb λa=>jc (Md 4 iP a)
theorem KP:wa ["hand","every","pots","made"] ["hand","every","pots"] (Pc ĸ):=Be
theorem L8(a:md K mg ca):Le ⟨K,ca,tx K⟩ P w mg base 3 "check_span" ["hand","every","pots"] gg:=
 Ig a.gg KP λb=>
  (Yb (gf (So (Xk (Ad (Gx a) b (Ja (ga 1) (Ja Fa (Va (Bx (u:=.int 50 (a.Zk).choose) rfl (a.Zk).choose_spec ⟨_,rfl⟩))))))) js Af)
  (Hh (qv Rr rfl (Uo rfl (ga 2)) (cj KP.nd) (Hh (gf (L2.PW.pt (Iv (je iM (bK rfl false) (ga 0) (eF rfl (ga 3) KC (oC Fa)) rfl) (Mw (je sA Gz (Db (ga 3) Fa) (Hj (ga 1) Fa) (be _))))) js Af)))))
theorem Ĵ(a:md K mg ca):Ln ⟨K,ca,tx K⟩ [9] "hand":=(kj a.ic a.Jo zr)
theorem yC(a:md K mg ca):Ln ⟨K,ca,tx K⟩ [8,9] "every":=(kj a.Hn a.Cp (kj a.ic a.Zm zr))
theorem kB(a:md K mg ca):Ln ⟨K,ca,tx K⟩ [8,9] "last_look":=(kj a.Hn a.Vk (kj a.ic a.Qj zr))
theorem OI(a:md K mg ca):Ln ⟨K,ca,tx K⟩ [9] "gave":=(kj a.ic a.jo zr)
theorem QA(a:md K mg ca):Ln ⟨K,ca,tx K⟩ [8,9] "known":=(kj a.Hn a.Gp (kj a.ic a.Hm zr))
theorem Nr(a:md K mg ca):Ln ⟨K,ca,tx K⟩ [9] "accounts":=(kj a.ic a.sk zr)
theorem KG(a:md K mg ca):Ln ⟨K,ca,tx K⟩ [9] "claims":=(kj a.ic a.Ol zr)
theorem cM(a:md K mg ca):Ln ⟨K,ca,tx K⟩ [9] "seen":=(kj a.ic a.Do zr)
theorem pB(a:md K mg ca):Ln ⟨K,ca,tx K⟩ [9] "asked":=(kj a.ic a.on zr)
theorem SR(a:md K mg ca):Ln ⟨K,ca,tx K⟩ [9] "finishing":=(kj a.ic a.Tj zr)
abbrev z9:Stmt:=lh (dc 89) 2
abbrev bN:Ev->M Fl:=(Et (eC (.bl true)) (Cd (Nc [8,9] "known") (ba 0)) (ba 2))
def kU:Ev->M Fl:=
 (nu (vj (ba 1)) (Lf 2) bN)
def Gd:List D->M D:=Cb (Md 3 kU)
theorem tQ:wa ["self","words","word"] ["self","words"] (Pc z9):=Be
theorem Ψ(a:md K mg ca):yi ⟨K,ca,tx K⟩ P w mg base 1 (ca 22) ["self","words"] Gd:=
 qx a.Gd tQ λb=>
  (Hh (qv Rr rfl (Uo rfl (ga 1)) (cj tQ.nd) (Hh (Qu (Sd b) Xp (Ce (QA a) (ga 0)) (ga 2)))))
theorem ř(a:md K mg ca):Bk ⟨K,ca,tx K⟩ P w mg base 1 "learn" ["self","words"] [(9,Gd)]:=(uk a.ic a.Mm (Ψ a) Jn)
theorem Bq(a:md K mg ca):Ln ⟨K,ca,tx K⟩ [4,5,6,7] "pot":=(kj a.yg a.Ao (kj a.Ng a.Cr (kj a.Fe a.io (kj a.Ze a.qo zr))))
abbrev ţ:Stmt:=lh (dc 89) 1
def GQ:Ev->M Fl:=
 (ub (Et (ba 1) (Cd (Nc [9] "accounts") (ba 0)) (Cd (Nc [4,5,6,7] "pot") (ba 1))) (ub (Et (ba 2) (Cd (Nc [9] "claims") (ba 0)) (Cd (Nc [4,5,6,7] "pot") (ba 1))) (Et (ba 3) (Cd (Nc [9] "seen") (ba 0)) (Cd (Nc [4,5,6,7] "pot") (ba 1)))))
def Wd:List D->M D:=Cb (Md 4 GQ)
theorem n6:wa ["self","account","claim","seen"] ["self","account","claim","seen"] (Pc ţ):=Be
theorem ê(a:md K mg ca):yi ⟨K,ca,tx K⟩ P w mg base 1 (ca 21) ["self","account","claim","seen"] Wd:=
 qx a.Wd n6 λb=>
  (Yb (Qu (Sd b) (ga 1) (Ce (Nr a) (ga 0)) (Ce (Bq a) (ga 1)))
  (Yb (Qu (Sd b) (ga 2) (Ce (KG a) (ga 0)) (Ce (Bq a) (ga 1)))
  (Hh (Qu (Sd b) (ga 3) (Ce (cM a) (ga 0)) (Ce (Bq a) (ga 1))))))
theorem F6(a:md K mg ca):Bk ⟨K,ca,tx K⟩ P w mg base 1 "hold" ["self","account","claim","seen"] [(9,Wd)]:=(uk a.ic a.Go (ê a) Jn)
abbrev Y6:Stmt:=dc 11
def RS:Ev->M Fl:=
 (Tc (Xc 3 Jc [] (ia (ba 0) (ia (eC (.int 0)) (ia (eC (.int 1000000)) Ha)))))
def Ji:List D->M D:=Cb λa=>jc (Md 1 RS a)
theorem N2:wa ["thing"] ["thing"] (Pc Y6):=Be
theorem Β(a:md K mg ca):Le ⟨K,ca,tx K⟩ P w mg base 3 "is_day" ["thing"] Ji:=
 Ig a.Ji N2 λb=>
  (Yc (Ad (Gx a) b (Ja (ga 0) (Ja Fa (Va (Bx (u:=.int 1000000 (a.Eo).choose) rfl (a.Eo).choose_spec ⟨_,rfl⟩))))))
abbrev aY:Stmt:=dc 10
def ZN:Ev->M Fl:=
 (Tc (Xc 3 Jc [] (ia (ba 0) (ia (eC (.int 0)) (ia (eC (.int 59)) Ha)))))
def Rh:List D->M D:=Cb λa=>jc (Md 1 ZN a)
theorem ł:wa ["thing"] ["thing"] (Pc aY):=Be
theorem E4(a:md K mg ca):Le ⟨K,ca,tx K⟩ P w mg base 3 "is_word" ["thing"] Rh:=
 Ig a.Rh ł λb=>
  (Yc (Ad (Gx a) b (Ja (ga 0) (Ja Fa (Va (Bx (u:=.int 59 (a.sm).choose) rfl (a.sm).choose_spec ⟨_,rfl⟩))))))
abbrev i8:Stmt:=dc 13
def JN:Ev->M Fl:=
 (Tc (Xc 3 Jc [] (ia (ba 0) (ia (eC (.int 1)) (ia (eC (.int 1000000000000)) Ha)))))
def Re:List D->M D:=Cb λa=>jc (Md 1 JN a)
theorem K4:wa ["thing"] ["thing"] (Pc i8):=Be
theorem pW(a:md K mg ca):Le ⟨K,ca,tx K⟩ P w mg base 3 "is_amount" ["thing"] Re:=
 Ig a.Re K4 λb=>
  (Yc (Ad (Gx a) b (Ja (ga 0) (Ja Fa (Va (Bx (u:=.int 1000000000000 (a.dk).choose) rfl (a.dk).choose_spec ⟨_,rfl⟩))))))
abbrev X0:Stmt:=dc 9
def vP:Ev->M Fl:=
 (Tc (Xc 3 Jc [] (ia (ba 0) (ia (eC (.int 0)) (ia (eC (.int 1)) Ha)))))
def Eg:List D->M D:=Cb λa=>jc (Md 1 vP a)
theorem R3:wa ["thing"] ["thing"] (Pc X0):=Be
theorem CN(a:md K mg ca):Le ⟨K,ca,tx K⟩ P w mg base 3 "is_side" ["thing"] Eg:=
 Ig a.Eg R3 λb=>
  (Yc (Ad (Gx a) b (Ja (ga 0) (Ja Fa (Va Fa)))))
abbrev ZY:Stmt:=dc 24
def GO:Ev->M Fl:=
 (Tc (Li (Cd (dq .tuple) (ba 0)) (Li (ya se (Xh Hl (ia (ba 0) Ha)) (eC (.int 4))) (Li (Xc 1 Eg [] (ia (ya Ma (ba 0) (eC (.int 0))) Ha)) (Li (Xc 1 Re [] (ia (ya Ma (ba 0) (eC (.int 1))) Ha)) (Li (Xc 1 Rh [] (ia (ya Ma (ba 0) (eC (.int 2))) Ha)) (Xc 1 Ji [] (ia (ya Ma (ba 0) (eC (.int 3))) Ha))))))))
def Og:List D->M D:=Cb λa=>jc (Md 1 GO a)
theorem S6:wa ["thing"] ["thing"] (Pc ZY):=Be
theorem aO(a:md K mg ca):Le ⟨K,ca,tx K⟩ P w mg base 4 "is_tie" ["thing"] Og:=
 Ig a.Og S6 λb=>
  (Yc (aj (wv .tuple (ga 0) rfl a.Jd rfl a.Pg bg) (aj (bo b (Kn As (Qs rfl) rfl a.Fh qc (Va (ga 0))) Fa) (aj (Ad (CN a) b (Va (Db (ga 0) Fa))) (aj (Ad (pW a) b (Va (Db (ga 0) Fa))) (aj (Ad (E4 a) b (Va (Db (ga 0) Fa))) (rn (Ad (Β a) b (Va (Db (ga 0) Fa))))))))))
abbrev P0:Stmt:=dc 26
def oU:Ev->M Fl:=
 (ub (Ue (Vl (Mn (eT (Cd (dq .tuple) (ba 0)))) (eT (ya ky (Xh Hl (ia (ba 0) Ha)) (eC (.int 6))))) (Tc (eC (.bl false))) vf) (ub (Ue (Mn (eT (Xh NC (ia (ki (Xm (Dp (vj (ba 0))) [] (Lf 0) Fq (Xc 1 Og [] (ia (ba 0) Ha)))) Ha)))) (Tc (eC (.bl false))) vf) (Tc (ya se (Cd RC (ki (Xm (Dp (vj (ba 0))) [] (Lf 0) Fq (ya Ma (ba 0) (eC (.int 2)))))) (Xh Hl (ia (ba 0) Ha))))))
def Yg:List D->M D:=Cb λa=>jc (Md 1 oU a)
theorem AZ:wa ["thing"] ["thing"] (Pc P0):=Be
theorem Ę(a:md K mg ca):Le ⟨K,ca,tx K⟩ P w mg base 5 "are_ties" ["thing"] Yg:=
 Ig a.Yg AZ λb=>
  (Yb (gf (L2.PW.pt (Nm (So (Xk (wv .tuple (ga 0) rfl a.Jd rfl a.Pg bg))) (pp (je OA ZA (Kn As (Qs rfl) rfl a.Fh qc (Va (ga 0))) (Bx (u:=.int 6 (a.qm).choose) rfl (a.qm).choose_spec ⟨_,rfl⟩) (be _))))) (Yc Xp) Af)
  (Yb (gf (So (Xk (Kn (A6 rfl) (wY rfl) rfl a.jF boot_all (Va (Ho (Ku (x:="tie") (z0:="0") (M':=[]) (ix:=[]) rfl ⟨rfl,rfl,rfl,rfl,rfl,rfl⟩ (Ot (Uo rfl (ga 0))) (λ_ _ _ _ _=>cj (by show List.Nodup (("tie"::"0"::[]):List Str);decide +kernel)) (λ_ _ _ _ _=>mx) (λ_ _ _ _ _=>(Ad (aO a) b (Va (ga 0)))))))))) (Yc Xp) Af)
  (Yc (bo b (S2 rfl rfl rfl a.Fh rfl a.BE (Ho (Ku (x:="tie") (z0:="0") (M':=[]) (ix:=[]) rfl ⟨rfl,rfl,rfl,rfl,rfl,rfl⟩ (Ot (Uo rfl (ga 0))) (λ_ _ _ _ _=>cj (by show List.Nodup (("tie"::"0"::[]):List Str);decide +kernel)) (λ_ _ _ _ _=>mx) (λ_ _ _ _ _=>(Db (ga 0) Fa))))) (Kn As (Qs rfl) rfl a.Fh qc (Va (ga 0)))))))
abbrev ξ:Stmt:=dc 25
def gP:Ev->M Fl:=
 (Tc (Li (Cd (dq .tuple) (ba 0)) (Li (ya se (Xh Hl (ia (ba 0) Ha)) (eC (.int 2))) (Li (Xc 3 Jc [] (ia (ya Ma (ba 0) (eC (.int 0))) (ia (eC (.int 0)) (ia (eC (.int 2000000000000)) Ha)))) (Xc 3 Jc [] (ia (ya Ma (ba 0) (eC (.int 1))) (ia (eC (.int 0)) (ia (eC (.int 2000000000000)) Ha))))))))
def ig:List D->M D:=Cb λa=>jc (Md 1 gP a)
theorem Ä:wa ["thing"] ["thing"] (Pc ξ):=Be
theorem Ε(a:md K mg ca):Le ⟨K,ca,tx K⟩ P w mg base 3 "are_shares" ["thing"] ig:=
 Ig a.ig Ä λb=>
  (Yc (aj (wv .tuple (ga 0) rfl a.Jd rfl a.Pg bg) (aj (bo b (Kn As (Qs rfl) rfl a.Fh qc (Va (ga 0))) Fa) (aj (Ad (Gx a) b (Ja (Db (ga 0) Fa) (Ja Fa (Va (Bx (u:=.int 2000000000000 (a.Jh).choose) rfl (a.Jh).choose_spec ⟨_,rfl⟩))))) (rn (Ad (Gx a) b (Ja (Db (ga 0) Fa) (Ja Fa (Va (Bx (u:=.int 2000000000000 (a.Jh).choose) rfl (a.Jh).choose_spec ⟨_,rfl⟩))))))))))
abbrev ó:Stmt:=dc 12
def tV:Ev->M Fl:=
 (Tc (Xc 3 Jc [] (ia (ba 0) (ia (eC (.int 0)) (ia (eC (.int 1000000)) Ha)))))
def Yf:List D->M D:=Cb λa=>jc (Md 1 tV a)
theorem zhq:wa ["thing"] ["thing"] (Pc ó):=Be
theorem LO(a:md K mg ca):Le ⟨K,ca,tx K⟩ P w mg base 3 "is_number" ["thing"] Yf:=
 Ig a.Yf zhq λb=>
  (Yc (Ad (Gx a) b (Ja (ga 0) (Ja Fa (Va (Bx (u:=.int 1000000 (a.fk).choose) rfl (a.fk).choose_spec ⟨_,rfl⟩))))))
abbrev lX:Stmt:=dc 27
def qO:Ev->M Fl:=
 (Tc (Li (Cd (dq .tuple) (ba 0)) (Li (ya se (Xh Hl (ia (ba 0) Ha)) (eC (.int 3))) (Li (Xc 1 Yf [] (ia (ya Ma (ba 0) (eC (.int 0))) Ha)) (Li (Xc 1 ig [] (ia (ya Ma (ba 0) (eC (.int 1))) Ha)) (Xc 1 Yg [] (ia (ya Ma (ba 0) (eC (.int 2))) Ha)))))))
def yd:List D->M D:=Cb λa=>jc (Md 1 qO a)
theorem N9:wa ["thing"] ["thing"] (Pc lX):=Be
theorem DI(a:md K mg ca):Le ⟨K,ca,tx K⟩ P w mg base 6 "is_stand" ["thing"] yd:=
 Ig a.yd N9 λb=>
  (Yc (aj (wv .tuple (ga 0) rfl a.Jd rfl a.Pg bg) (aj (bo b (Kn As (Qs rfl) rfl a.Fh qc (Va (ga 0))) Fa) (aj (Ad (LO a) b (Va (Db (ga 0) Fa))) (aj (Ad (Ε a) b (Va (Db (ga 0) Fa))) (rn (Ad (Ę a) b (Va (Db (ga 0) Fa)))))))))
abbrev BD(x q:Str)(s:Stmt)(c:List Str):Prop:=∀ (kV b d:Value) (an:Option Addr) (a ct:Value) (us:List Value),us.length=c.length->bindArgs (W.fnOf x q (qp s) (Kj s) (Pc s) .none kV b d an a ct) ⟨us,[]⟩=pure (c.zip us)
abbrev oA:Stmt:=dc 28
def eM:Ev->M Fl:=
 (ub (lf 3 (ee (ia (ba 0) (ia (ba 1) (ia (dy (eT (ya Wp (ba 2) (eC .Rb))) (ee Ha) (ba 2)) Ha))))) (ub (Ue (Mn (eT (Xc 1 yd [] (ia (ba 3) Ha)))) (Iz 1 (ia (eC (.str "number, shares and ties make no stand")) Ha)) vf) (Tc (ba 3))))
def Kh:List D->M D:=Cb λa=>jc (Md 4 eM a)
theorem fT:wa ["number","shares","ties","made"] ["number","shares","ties"] (Pc oA):=Be
theorem OX(t:Addr)(kV c h:Value)(e:Option Addr)(b ct:Value)(s:aa)(o:Vc)(n:Nat)(a:List Value)(f:s.heap.get? t=some o)(g:o.data=.seq ([lc]:List Value).toArray n) :
  ((a++[]).length=(["number","shares","ties"]:List Str).length->Mg s (W.fnOf "stand" "stand" (qp oA) (Kj oA) (Pc oA) (.ref t) kV c h e b ct) ⟨a,[]⟩ ((["number","shares","ties"]:List Str).zip (a++[])))/\
  ((a++[lc]).length=(["number","shares","ties"]:List Str).length->Mg s (W.fnOf "stand" "stand" (qp oA) (Kj oA) (Pc oA) (.ref t) kV c h e b ct) ⟨a,[]⟩ ((["number","shares","ties"]:List Str).zip (a++[lc]))):=
 ⟨λd=>bq3 a (by simpa using d) λ_ _ _=>Ih rfl f g rfl rfl,λd=>bq2 a (by simpa using d) λ_ _=>Ih rfl f g rfl rfl⟩
theorem bR(a:md K mg ca):Wu ⟨K,ca,tx K⟩ P w mg base 7 "stand" ["number","shares","ties"] [lc] Kh:=
 Wu.Cb (Wu.jc (Ř a.Kh fT λ_ _ _ _ _ _ _ b=>
  (Yb (Qf fT.nd (pe (Ja (ga 0) (Ja (ga 1) (Va (xC (je Tz rA (ga 2) On (be _)) (pe mm) (ga 2)))))))
  (Yb (gf (So (Xk (Ad (DI a) b (Va (ga 3))))) (Hh (tE 1 Ge rfl a.Gi a.Oh rfl rfl (Va Vd))) Af)
  (Yc (ga 3))))))
abbrev j8:Stmt:=dc 29
def tU:Ev->M Fl:=
 (Tc (Xc 3 Kh [.Rb] (ia (eC (.int 0)) (ia (ee (ia (ba 0) (ia (ba 1) Ha))) Ha))))
def Yi:List D->M D:=Cb λa=>jc (Md 2 tU a)
theorem zvy:wa ["left","right"] ["left","right"] (Pc j8):=Be
theorem G7(a:md K mg ca):Le ⟨K,ca,tx K⟩ P w mg base 8 "first" ["left","right"] Yi:=
 Ig a.Yi zvy λb=>
  (Yc (Î (bR a) rfl (b.mono (by decide)) rfl wR aW (Ja Fa (Va (pe (Ja (ga 0) (Va (ga 1))))))))
theorem Hv(a:md K mg ca):Ln ⟨K,ca,tx K⟩ [4,5,6,7] "side":=(kj a.yg a.Um (kj a.Ng a.lq (kj a.Fe a.kn (kj a.Ze a.yn zr))))
theorem Rq(a:md K mg ca):Ln ⟨K,ca,tx K⟩ [4,5,6,7] "mine":=(kj a.yg a.Sm (kj a.Ng a.rq (kj a.Fe a.Rm (kj a.Ze a.gn zr))))
theorem QK(a:md K mg ca):Ln ⟨K,ca,tx K⟩ [4,5,6,7] "grant":=(kj a.yg a.Yl (kj a.Ng a.jp (kj a.Fe a.Pl (kj a.Ze a.Tl zr))))
theorem zB(a:md K mg ca):Ln ⟨K,ca,tx K⟩ [4,5,6,7] "may":=(kj a.yg a.Ko (kj a.Ng a.br (kj a.Fe a.ko (kj a.Ze a.No zr))))
theorem cE(a:md K mg ca):Ln ⟨K,ca,tx K⟩ [4,5,6,7] "strikes":=(kj a.yg a.Ak (kj a.Ng a.Qm (kj a.Fe a.vk (kj a.Ze a.xk zr))))
abbrev AX:Stmt:=lh (dc 52) 0
def XV:Ev->M Fl:=
 (ub (Rn [4,5,6,7] "pot" (ba 1) (ba 0)) (ub (Rn [4,5,6,7] "side" (ba 2) (ba 0)) (ub (Rn [4,5,6,7] "mine" (ba 3) (ba 0)) (ub (Rn [4,5,6,7] "grant" (ba 4) (ba 0)) (ub (Rn [4,5,6,7] "may" (ki (Xh Fs (ia (ba 5) Ha))) (ba 0)) (Rn [4,5,6,7] "strikes" (ki (Xh Fs (ia (ba 6) Ha))) (ba 0)))))))
def Nj:List D->M D:=Cb (Md 7 XV)
theorem v9:wa ["self","pot","side","mine","grant","may","strikes"] ["self","pot","side","mine","grant","may","strikes"] (Pc AX):=Be
theorem JD(a:md K mg ca):yi ⟨K,ca,tx K⟩ P w mg base 1 (ca 10) ["self","pot","side","mine","grant","may","strikes"] Nj:=
 qx a.Nj v9 λb=>
  (Yb (Yp rfl (Bq a) (ga 0) (ga 1))
  (Yb (Yp rfl (Hv a) (ga 0) (ga 2))
  (Yb (Yp rfl (Rq a) (ga 0) (ga 3))
  (Yb (Yp rfl (QK a) (ga 0) (ga 4))
  (Yb (Yp rfl (zB a) (ga 0) (Ho (Mv JG (BH rfl) rfl a.oq Zu (Va (ga 5)))))
  (Hh (Yp rfl (cE a) (ga 0) (Ho (Mv JG (BH rfl) rfl a.oq Zu (Va (ga 6)))))))))))
abbrev U4:Stmt:=dc 56
def cO:Ev->M Fl:=
 (ub (lf 4 (Xc 2 Yi [] (ia (ba 2) (ia (ba 3) Ha)))) (Tc (ki (Ut 5 7 Nj (ia (ba 0) (ia (ba 1) (ia (ba 4) (ia (eC .Rb) (ia (Nh (ia (ba 4) Ha)) (ia (Nh Ha) Ha))))))))))
def Me:List D->M D:=Cb λa=>jc (Md 5 cO a)
theorem eO:wa ["pot","side","left","right","mine"] ["pot","side","left","right"] (Pc U4):=Be
theorem Ý(a:md K mg ca):Le ⟨K,ca,tx K⟩ P w mg base 9 "first_account" ["pot","side","left","right"] Me:=
 Ig a.Me eO λb=>
  (Yb (Qf eO.nd (Ad (G7 a) b (Ja (ga 2) (Va (ga 3)))))
  (Yc (Ho (qB (c:=5) (ps:=["self","pot","side","mine","grant","may","strikes"]) ⟨_,a.Ts,a.Cq,JD a⟩ rfl (b.mono (by decide)) rfl (Ja (ga 0) (Ja (ga 1) (Ja (ga 4) (Ja On (Ja (bj (Va (ga 4))) (Va (bj mm)))))))))))
abbrev uz:Stmt:=lh (dc 89) 0
abbrev kC:Ev->M Fl:=(Ue (eT (ya se (ya Ma (ba 6) (ba 7)) (ba 1))) (Jp (xg [(9,Wd)] 4 "hold" (ba 0) (ia (Xc 4 Me [] (ia (ba 5) (ia (ba 7) (ia (ya Ma (ba 6) (eC (.int 2))) (ia (ya Ma (ba 6) (eC (.int 3))) Ha))))) (ia (eC (.gt ["held"])) (ia (eC (.Bc [] [])) Ha))))) vf)
abbrev sH:Ev->M Fl:=(nu (vj (ee (ia (eC (.int 0)) (ia (eC (.int 1)) Ha)))) (Lf 7) kC)
def cU:Ev->M Fl:=
 (ub (Jp (Xc 3 gg [] (ia (ba 1) (ia (ba 2) (ia (ba 3) Ha))))) (ub (Rn [9] "hand" (ba 1) (ba 0)) (ub (Rn [8,9] "every" (ba 2) (ba 0)) (ub (Rn [8,9] "last_look" (eC (.int 0)) (ba 0)) (ub (Rn [9] "gave" (eC (.int 0)) (ba 0)) (ub (Rn [8,9] "known" Ou (ba 0)) (ub (Rn [9] "accounts" Ou (ba 0)) (ub (Rn [9] "claims" Ou (ba 0)) (ub (Rn [9] "seen" Ou (ba 0)) (ub (Rn [9] "asked" Ou (ba 0)) (ub (Rn [9] "finishing" Ou (ba 0)) (ub (Jp (xg [(9,Gd)] 2 "learn" (ba 0) (ia (dy (eT (ya Wp (ba 4) (eC .Rb))) (Nh Ha) (ba 4)) Ha))) (Lw (IK (ba 3)) (gr 2 (Ck (Lf 5) (Ck (Lf 6) Mr))) sH)))))))))))))
def lr:List D->M D:=Cb (Md 8 cU)
theorem CH:wa ["self","hand","every","pots","words","pot","made","side"] ["self","hand","every","pots","words"] (Pc uz):=Be
theorem ğ(t:Addr)(kV c h:Value)(e:Option Addr)(b ct:Value)(s:aa)(o:Vc)(n:Nat)(a:List Value)(f:s.heap.get? t=some o)(g:o.data=.seq ([lc]:List Value).toArray n) :
  ((a++[]).length=(["self","hand","every","pots","words"]:List Str).length->Mg s (W.fnOf "__init__" "Keeper.__init__" (qp uz) (Kj uz) (Pc uz) (.ref t) kV c h e b ct) ⟨a,[]⟩ ((["self","hand","every","pots","words"]:List Str).zip (a++[])))/\
  ((a++[lc]).length=(["self","hand","every","pots","words"]:List Str).length->Mg s (W.fnOf "__init__" "Keeper.__init__" (qp uz) (Kj uz) (Pc uz) (.ref t) kV c h e b ct) ⟨a,[]⟩ ((["self","hand","every","pots","words"]:List Str).zip (a++[lc]))):=
 ⟨λd=>bq5 a (by simpa using d) λ_ _ _ _ _=>Ih rfl f g rfl rfl,λd=>bq4 a (by simpa using d) λ_ _ _ _=>Ih rfl f g rfl rfl⟩
theorem BO(a:md K mg ca):Pw ⟨K,ca,tx K⟩ P w mg base 10 (ca 20) ["self","hand","every","pots","words"] [lc] lr:=
 Pw.Cb (Ŗ a.lr CH λ_ _ _ _ _ _ b=>
  (Yb (zq (Ad (L8 a) b (Ja (ga 1) (Ja (ga 2) (Va (ga 3))))))
  (Yb (Yp rfl (Ĵ a) (ga 0) (ga 1))
  (Yb (Yp rfl (yC a) (ga 0) (ga 2))
  (Yb (Yp rfl (kB a) (ga 0) Fa)
  (Yb (Yp rfl (OI a) (ga 0) Fa)
  (Yb (Yp rfl (QA a) (ga 0) ux)
  (Yb (Yp rfl (Nr a) (ga 0) ux)
  (Yb (Yp rfl (KG a) (ga 0) ux)
  (Yb (Yp rfl (cM a) (ga 0) ux)
  (Yb (Yp rfl (pB a) (ga 0) ux)
  (Yb (Yp rfl (SR a) (ga 0) ux)
  (Yb (zq (fmt (ř a) b (ga 0) (Va (xC (je Tz rA (ga 4) On (be _)) (bj mm) (ga 4)))))
  (Hh (lC Rr rfl (ŵ rfl a.dr (ga 3)) (wy rfl (Lr (cj CH.nd) (Lr (cj CH.nd) ay))) (Hh (qv Rr rfl (Uo rfl (pe (Ja Fa (Va Fa)))) (cj CH.nd) (Hh (gf (je (Sg (Sd b)) pf (Db (ga 6) (ga 7)) (ga 1) (be _)) (Hh (zq (fmt (F6 a) b (ga 0) (Ja (Ad (Ý a) b (Ja (ga 5) (Ja (ga 7) (Ja (Db (ga 6) Fa) (Va (Db (ga 6) Fa)))))) (Ja (eS (ss:=["held"]) rfl a.Fv) (Va F1)))))) Af)))))))))))))))))))
abbrev Ž:Stmt:=dc 92
def uS:Ev->M Fl:=
 (ub (Ue (eT (ya se (ba 1) (eC (.int 0)))) (Tc (ee (ia (ya kh (ya Ma (ba 0) (eC (.int 0))) (ba 2)) (ia (ya Ma (ba 0) (eC (.int 1))) Ha)))) vf) (Tc (ee (ia (ya Ma (ba 0) (eC (.int 0))) (ia (ya kh (ya Ma (ba 0) (eC (.int 1))) (ba 2)) Ha)))))
def re:List D->M D:=Cb λa=>jc (Md 3 uS a)
theorem DX:wa ["_law_one","_law_side","_law_by"] ["_law_one","_law_side","_law_by"] (Pc Ž):=Be
theorem ZD(a:md K mg ca):Le ⟨K,ca,tx K⟩ P w mg base 1 "_law_with" ["_law_one","_law_side","_law_by"] re:=
 Ig a.re DX λb=>
  (Yb (gf (je (Sg (Sd b)) pf (ga 1) Fa (be _)) (Yc (pe (Ja (Hj (Db (ga 0) Fa) (ga 2)) (Va (Db (ga 0) Fa))))) Af)
  (Yc (pe (Ja (Db (ga 0) Fa) (Va (Hj (Db (ga 0) Fa) (ga 2)))))))
abbrev Ĺ:Stmt:=lh (dc 89) 12
def iR:Ev->M Fl:=
 (Tc (Li (ya Ow (ba 1) (Cd (Nc [9] "accounts") (ba 0))) (ya EI (ya Jl (Cd (Nc [9] "claims") (ba 0)) (ba 1)) (eC (.gt ["held"])))))
def pc:List D->M D:=Cb λa=>jc (Md 2 iR a)
theorem ŝ:wa ["self","pot"] ["self","pot"] (Pc Ĺ):=Be
theorem ò(a:md K mg ca):yi ⟨K,ca,tx K⟩ P w mg base 1 (ca 32) ["self","pot"] pc:=
 Br a.pc ŝ λb=>
  (Yc (aj (Bt (NL (Sd b)) ML (ga 1) (Ce (Nr a) (ga 0)) rfl) (rn (Bt (ŧ rfl (Sd b)) pf (Rt (Sd b) (Ce (KG a) (ga 0)) (ga 1) (λ_ _=>rfl)) (eS (ss:=["held"]) rfl a.Fv) (be _)))))
theorem DR(a:md K mg ca):Bk ⟨K,ca,tx K⟩ P w mg base 1 "holds" ["self","pot"] [(9,pc)]:=(uk a.ic a.Om (ò a) Jn)
abbrev NZ:Stmt:=lh (dc 53) 0
def SF:Ev->M Fl:=
 (Tc (eC (.str "calm")))
def Pb:List D->M D:=Cb λa=>jc (Md 1 SF a)
theorem ä:wa ["self"] ["self"] (Pc NZ):=Be
theorem O2(a:md K mg ca):yi ⟨K,ca,tx K⟩ P w mg base 1 (ca 13) ["self"] Pb:=
 Br a.Pb ä λb=>
  (Yc Vd)
abbrev X4:Stmt:=lh (dc 54) 0
def qQ:Ev->M Fl:=
 (Tc (eC (.str "offered")))
def Wb:List D->M D:=Cb λa=>jc (Md 1 qQ a)
theorem ñ:wa ["self"] ["self"] (Pc X4):=Be
theorem y8(a:md K mg ca):yi ⟨K,ca,tx K⟩ P w mg base 1 (ca 15) ["self"] Wb:=
 Br a.Wb ñ λb=>
  (Yc Vd)
abbrev Ņ:Stmt:=lh (dc 55) 0
def YR:Ev->M Fl:=
 (Tc (eC (.str "waiting")))
def Vb:List D->M D:=Cb λa=>jc (Md 1 YR a)
theorem Ê:wa ["self"] ["self"] (Pc Ņ):=Be
theorem vZ(a:md K mg ca):yi ⟨K,ca,tx K⟩ P w mg base 1 (ca 17) ["self"] Vb:=
 Br a.Vb Ê λb=>
  (Yc Vd)
theorem vD(a:md K mg ca):Bk ⟨K,ca,tx K⟩ P w mg base 1 "word" ["self"] [(5,Pb),(6,Wb),(7,Vb)]:=(uk a.Ng a.tq (O2 a) (uk a.Fe a.dn (y8 a) (uk a.Ze a.Wm (vZ a) Jn)))
abbrev ì:Stmt:=dc 32
def eV:Ev->M Fl:=
 (ub (Ue (eT (ya se (ba 1) (eC (.int 0)))) (Tc (ee (ia (ya kh (ya Ma (ba 0) (eC (.int 0))) (ba 2)) (ia (ya Ma (ba 0) (eC (.int 1))) Ha)))) vf) (Tc (ee (ia (ya Ma (ba 0) (eC (.int 0))) (ia (ya kh (ya Ma (ba 0) (eC (.int 1))) (ba 2)) Ha)))))
def Qe:List D->M D:=Cb λa=>jc (Md 3 eV a)
theorem yZ:wa ["shares","side","amount"] ["shares","side","amount"] (Pc ì):=Be
theorem RH(a:md K mg ca):Le ⟨K,ca,tx K⟩ P w mg base 1 "with_more" ["shares","side","amount"] Qe:=
 Ig a.Qe yZ λb=>
  (Yb (gf (je (Sg (Sd b)) pf (ga 1) Fa (be _)) (Yc (pe (Ja (Hj (Db (ga 0) Fa) (ga 2)) (Va (Db (ga 0) Fa))))) Af)
  (Yc (pe (Ja (Db (ga 0) Fa) (Va (Hj (Db (ga 0) Fa) (ga 2)))))))
abbrev ą:Stmt:=dc 33
def nS:Ev->M Fl:=
 (Tc (Xc 3 Kh [] (ia (ya kh (ya Ma (ba 0) (eC (.int 0))) (eC (.int 1))) (ia (ba 1) (ia (ba 2) Ha)))))
def Bd:List D->M D:=Cb λa=>jc (Md 3 nS a)
theorem W1:wa ["one","shares","ties"] ["one","shares","ties"] (Pc ą):=Be
theorem UM(a:md K mg ca):Le ⟨K,ca,tx K⟩ P w mg base 8 "following" ["one","shares","ties"] Bd:=
 Ig a.Bd W1 λb=>
  (Yc (U1 (bR a) rfl (b.mono (by decide)) rfl (Ja (Hj (Db (ga 0) Fa) Fa) (Ja (ga 1) (Va (ga 2))))))
abbrev ŏ:Stmt:=dc 15
def LU:Ev->M Fl:=
 (Tc (ya dB (eC (.int 1)) (ba 0)))
def Te:List D->M D:=Cb λa=>jc (Md 1 LU a)
theorem Κ:wa ["side"] ["side"] (Pc ŏ):=Be
theorem WL(a:md K mg ca):Le ⟨K,ca,tx K⟩ P w mg base 1 "other_side" ["side"] Te:=
 Ig a.Te Κ λb=>
  (Yc (Rg TD bF Fa (ga 0)))
abbrev uX:Stmt:=dc 34
def DL:Ev->M Fl:=
 (ub (Ue (Vl (Mn (eT (Xc 1 Eg [] (ia (ba 1) Ha)))) (Mn (eT (Xc 1 Re [] (ia (ba 2) Ha))))) (Iz 1 (ia (eC (.str "no side gives such an amount")) Ha)) vf) (ub (lf 3 (Xc 3 Qe [] (ia (ya Ma (ba 0) (eC (.int 1))) (ia (ba 1) (ia (Cd Ny (ba 2)) Ha))))) (Tc (Xc 3 Bd [] (ia (ba 0) (ia (Xc 3 Qe [] (ia (ba 3) (ia (Xc 1 Te [] (ia (ba 1) Ha)) (ia (ba 2) Ha)))) (ia (ya Ma (ba 0) (eC (.int 2))) Ha)))))))
def pk:List D->M D:=Cb λa=>jc (Md 4 DL a)
theorem jO:wa ["one","side","amount","less"] ["one","side","amount"] (Pc uX):=Be
theorem ycz(a:md K mg ca):Le ⟨K,ca,tx K⟩ P w mg base 9 "gift" ["one","side","amount"] pk:=
 Ig a.pk jO λb=>
  (Yb (gf (L2.PW.pt (Nm (So (Xk (Ad (CN a) b (Va (ga 1))))) (pp (So (Xk (Ad (pW a) b (Va (ga 2)))))))) (Hh (tE 1 Ge rfl a.Gi a.Oh rfl rfl (Va Vd))) Af)
  (Yb (Qf jO.nd (Ad (RH a) b (Ja (Db (ga 0) Fa) (Ja (ga 1) (Va (MA CB BB (ga 2)))))))
  (Yc (Ad (UM a) b (Ja (ga 0) (Ja (Ad (RH a) b (Ja (ga 3) (Ja (Ad (WL a) b (Va (ga 1))) (Va (ga 2))))) (Va (Db (ga 0) Fa))))))))
abbrev WZ:Stmt:=dc 35
def bH:Ev->M Fl:=
 (ub (lf 5 (ee (ia (ba 1) (ia (ba 2) (ia (ba 3) (ia (ba 4) Ha)))))) (ub (Ue (Mn (eT (Xc 1 Og [] (ia (ba 5) Ha)))) (Iz 1 (ia (eC (.str "payer, amount, word and day make no tie")) Ha)) vf) (Tc (Xc 3 Bd [] (ia (ba 0) (ia (Xc 3 Qe [] (ia (ya Ma (ba 0) (eC (.int 1))) (ia (ba 1) (ia (Cd Ny (ba 2)) Ha)))) (ia (ya kh (ya Ma (ba 0) (eC (.int 2))) (ee (ia (ba 5) Ha))) Ha)))))))
def Cj:List D->M D:=Cb λa=>jc (Md 6 bH a)
theorem oR:wa ["one","payer","amount","word","day","tie"] ["one","payer","amount","word","day"] (Pc WZ):=Be
theorem yc0(a:md K mg ca):Le ⟨K,ca,tx K⟩ P w mg base 9 "tied" ["one","payer","amount","word","day"] Cj:=
 Ig a.Cj oR λb=>
  (Yb (Qf oR.nd (pe (Ja (ga 1) (Ja (ga 2) (Ja (ga 3) (Va (ga 4)))))))
  (Yb (gf (So (Xk (Ad (aO a) b (Va (ga 5))))) (Hh (tE 1 Ge rfl a.Gi a.Oh rfl rfl (Va Vd))) Af)
  (Yc (Ad (UM a) b (Ja (ga 0) (Ja (Ad (RH a) b (Ja (Db (ga 0) Fa) (Ja (ga 1) (Va (MA CB BB (ga 2)))))) (Va (Hj (Db (ga 0) Fa) (pe (Va (ga 5)))))))))))
abbrev E5:Stmt:=dc 36
abbrev BJ:Ev->M Fl:=(Ue (eT (ya se (ya Ma (ba 2) (eC (.int 2))) (ba 1))) (Tc (ba 2)) vf)
def oQ:Ev->M Fl:=
 (ub (nu (vj (ya Ma (ba 0) (eC (.int 2)))) (Lf 2) BJ) (Tc (eC .Rb)))
def rg:List D->M D:=Cb λa=>jc (Md 3 oQ a)
theorem MT:wa ["one","word","tie"] ["one","word"] (Pc E5):=Be
theorem kS(a:md K mg ca):Le ⟨K,ca,tx K⟩ P w mg base 1 "tie_of" ["one","word"] rg:=
 Ig a.rg MT λb=>
  (Yb (qv Rr rfl (Uo rfl (Db (ga 0) Fa)) (cj MT.nd) (Hh (gf (je (Sg (Sd b)) pf (Db (ga 2) Fa) (ga 1) (be _)) (Yc (ga 2)) Af)))
  (Yc On))
abbrev y0:Stmt:=dc 85
def sO:Ev->M Fl:=
 (ub (lf 3 (Xc 2 rg [] (ia (ba 0) (ia (ba 1) Ha)))) (Tc (Li (ya xy (ba 3) (eC .Rb)) (ya se (ya Ma (ba 3) (eC (.int 0))) (ba 2)))))
def Cf:List D->M D:=Cb λa=>jc (Md 4 sO a)
theorem kQ:wa ["one","word","side","tie"] ["one","word","side"] (Pc y0):=Be
theorem lQ(a:md K mg ca):Le ⟨K,ca,tx K⟩ P w mg base 2 "is_paid_by" ["one","word","side"] Cf:=
 Ig a.Cf kQ λb=>
  (Yb (Qf kQ.nd (Ad (kS a) b (Ja (ga 0) (Va (ga 1)))))
  (Yc (aj (Bt IN zN (ga 3) On (be _)) (rn (bo b (Db (ga 3) Fa) (ga 2))))))
abbrev ũ:Stmt:=dc 38
def GR:Ev->M Fl:=
 (ub (lf 2 (Xc 2 rg [] (ia (ba 0) (ia (ba 1) Ha)))) (ub (Ue (eT (ya Wp (ba 2) (eC .Rb))) (Iz 1 (ia (eC (.str "no tie of the stand has this word")) Ha)) vf) (Tc (ba 2))))
def Ff:List D->M D:=Cb λa=>jc (Md 3 GR a)
theorem UT:wa ["one","word","tie"] ["one","word"] (Pc ũ):=Be
theorem WV(a:md K mg ca):Le ⟨K,ca,tx K⟩ P w mg base 2 "tie_to_end" ["one","word"] Ff:=
 Ig a.Ff UT λb=>
  (Yb (Qf UT.nd (Ad (kS a) b (Ja (ga 0) (Va (ga 1)))))
  (Yb (gf (je Tz rA (ga 2) On (be _)) (Hh (tE 1 Ge rfl a.Gi a.Oh rfl rfl (Va Vd))) Af)
  (Yc (ga 2))))
abbrev O4:Stmt:=dc 39
def jU:Ev->M Fl:=
 (ub (lf 3 (Xh Cw (ia (ki (Xm (Dp (vj (ya Ma (ba 0) (eC (.int 2))))) [1] (Lf 0) (eT (ya uh (ya Ma (ba 0) (eC (.int 2))) (ya Ma (ba 2) (eC (.int 2))))) (ba 0))) Ha))) (Tc (Xc 3 Bd [] (ia (ba 0) (ia (Xc 3 Qe [] (ia (ya Ma (ba 0) (eC (.int 1))) (ia (ba 2) (ia (ya Ma (ba 1) (eC (.int 1))) Ha)))) (ia (ba 3) Ha))))))
def Zi:List D->M D:=Cb λa=>jc (Md 4 jU a)
theorem HU:wa ["one","tie","side","ties"] ["one","tie","side"] (Pc O4):=Be
theorem pR(a:md K mg ca):Le ⟨K,ca,tx K⟩ P w mg base 9 "ended" ["one","tie","side"] Zi:=
 Ig a.Zi HU λb=>
  (Yb (Qf HU.nd (Mv ZC (FD rfl) rfl a.Pg bg (Va (Ho (Ku (x:="rest") (z0:="0") (M':=["tie"]) (ix:=[1]) rfl ⟨rfl,rfl,rfl,rfl,rfl,rfl⟩ (Ot (Uo rfl (Db (ga 0) Fa))) (λ_ _ _ _ _=>cj (by show List.Nodup (("rest"::"0"::["tie"]):List Str);decide +kernel)) (λ_ _ _ _ _=>TB (je (Lp (Sd b)) pf (Db (ga 0) Fa) (Db (ga 2) Fa) (be _))) (λ_ _ _ _ _=>(ga 0)))))))
  (Yc (Ad (UM a) b (Ja (ga 0) (Ja (Ad (RH a) b (Ja (Db (ga 0) Fa) (Ja (ga 2) (Va (Db (ga 1) Fa))))) (Va (ga 3)))))))
abbrev aZ:Stmt:=dc 40
def uQ:Ev->M Fl:=
 (ub (lf 2 (Xc 2 Ff [] (ia (ba 0) (ia (ba 1) Ha)))) (Tc (Xc 3 Zi [] (ia (ba 0) (ia (ba 2) (ia (Xc 1 Te [] (ia (ya Ma (ba 2) (eC (.int 0))) Ha)) Ha))))))
def Ph:List D->M D:=Cb λa=>jc (Md 3 uQ a)
theorem AQ:wa ["one","word","tie"] ["one","word"] (Pc aZ):=Be
theorem pX(a:md K mg ca):Le ⟨K,ca,tx K⟩ P w mg base 10 "settled" ["one","word"] Ph:=
 Ig a.Ph AQ λb=>
  (Yb (Qf AQ.nd (Ad (WV a) b (Ja (ga 0) (Va (ga 1)))))
  (Yc (Ad (pR a) b (Ja (ga 0) (Ja (ga 2) (Va (Ad (WL a) b (Va (Db (ga 2) Fa)))))))))
abbrev Z3:Stmt:=dc 41
def eP:Ev->M Fl:=
 (ub (lf 2 (Xc 2 Ff [] (ia (ba 0) (ia (ba 1) Ha)))) (Tc (Xc 3 Zi [] (ia (ba 0) (ia (ba 2) (ia (ya Ma (ba 2) (eC (.int 0))) Ha))))))
def Sh:List D->M D:=Cb λa=>jc (Md 3 eP a)
theorem XN:wa ["one","word","tie"] ["one","word"] (Pc Z3):=Be
theorem Ň(a:md K mg ca):Le ⟨K,ca,tx K⟩ P w mg base 10 "dropped" ["one","word"] Sh:=
 Ig a.Sh XN λb=>
  (Yb (Qf XN.nd (Ad (WV a) b (Ja (ga 0) (Va (ga 1)))))
  (Yc (Ad (pR a) b (Ja (ga 0) (Ja (ga 2) (Va (Db (ga 2) Fa)))))))
abbrev Č:Stmt:=dc 86
def qS:Ev->M Fl:=
 (ub (lf 3 (Cd (Nc [4,5,6,7] "mine") (ba 0))) (ub (lf 4 (Cd (Nc [4,5,6,7] "side") (ba 0))) (ub (Ue (eT (ya se (ya Ma (ba 1) (eC (.int 0))) (eC (.str "give")))) (Tc (Xc 3 pk [] (ia (ba 3) (ia (ba 4) (ia (ya Ma (ba 1) (eC (.int 2))) Ha))))) vf) (ub (Ue (Vl (eT (ya se (ya Ma (ba 1) (eC (.int 0))) (eC (.str "pay")))) (eT (ya se (ya Ma (ba 1) (eC (.int 0))) (eC (.str "pass"))))) (Tc (Xc 5 Cj [] (ia (ba 3) (ia (ba 4) (ia (ya Ma (ba 1) (eC (.int 2))) (ia (ya Ma (ba 1) (eC (.int 3))) (ia (ya Ma (ba 1) (eC (.int 4))) Ha))))))) vf) (ub (Ue (cu (eT (ya se (ya Ma (ba 1) (eC (.int 0))) (eC (.str "settle")))) (cu (eT (Xc 3 Cf [] (ia (ba 3) (ia (ya Ma (ba 1) (eC (.int 2))) (ia (Xc 1 Te [] (ia (ba 4) Ha)) Ha))))) (eT (ya Ow (ya Ma (ba 1) (eC (.int 2))) (ba 2))))) (Tc (Xc 2 Ph [] (ia (ba 3) (ia (ya Ma (ba 1) (eC (.int 2))) Ha)))) vf) (ub (Ue (cu (eT (ya se (ya Ma (ba 1) (eC (.int 0))) (eC (.str "drop")))) (eT (Xc 3 Cf [] (ia (ba 3) (ia (ya Ma (ba 1) (eC (.int 2))) (ia (ba 4) Ha)))))) (Tc (Xc 2 Sh [] (ia (ba 3) (ia (ya Ma (ba 1) (eC (.int 2))) Ha)))) vf) (Iz 1 (ia (eC (.str "there is nothing that this wish could come to")) Ha))))))))
def tf:List D->M D:=Cb λa=>jc (Md 5 qS a)
theorem eL:wa ["account","wish","known","mine","side"] ["account","wish","known"] (Pc Č):=Be
theorem g6(b:md K mg ca):Le ⟨K,ca,tx K⟩ P w mg base 11 "stand_wished" ["account","wish","known"] tf:=
 Ig b.tf eL λa=>
  (Yb (Qf eL.nd (Ce (Rq b) (ga 0)))
  (Yb (Qf eL.nd (Ce (Hv b) (ga 0)))
  (Yb (gf (je (Sg (Sd a)) pf (Db (ga 1) Fa) Vd (be _)) (Yc (Ad (ycz b) a (Ja (ga 3) (Ja (ga 4) (Va (Db (ga 1) Fa)))))) Af)
  (Yb (gf (L2.PW.pt (Nm (je (Sg (Sd a)) pf (Db (ga 1) Fa) Vd (be _)) (pp (je (Sg (Sd a)) pf (Db (ga 1) Fa) Vd (be _))))) (Yc (Ad (yc0 b) a (Ja (ga 3) (Ja (ga 4) (Ja (Db (ga 1) Fa) (Ja (Db (ga 1) Fa) (Va (Db (ga 1) Fa)))))))) Af)
  (Yb (gf (L2.PW.pt (Iv (je (Sg (Sd a)) pf (Db (ga 1) Fa) Vd (be _)) (Iv (Xk (Ad (lQ b) a (Ja (ga 3) (Ja (Db (ga 1) Fa) (Va (Ad (WL b) a (Va (ga 4)))))))) (Mw (je (NL (Sd a)) ML (Db (ga 1) Fa) (ga 2) rfl))))) (Yc (Ad (pX b) a (Ja (ga 3) (Va (Db (ga 1) Fa))))) Af)
  (Yb (gf (L2.PW.pt (Iv (je (Sg (Sd a)) pf (Db (ga 1) Fa) Vd (be _)) (Mw (Xk (Ad (lQ b) a (Ja (ga 3) (Ja (Db (ga 1) Fa) (Va (ga 4))))))))) (Yc (Ad (Ň b) a (Ja (ga 3) (Va (Db (ga 1) Fa))))) Af)
  (Hh (tE 1 Ge rfl b.Gi b.Oh rfl rfl (Va Vd)))))))))
abbrev FY:Stmt:=dc 87
def tW:Ev->M Fl:=
 (Tc (dy (Vl (eT (ya se (ya Ma (ba 0) (eC (.int 0))) (eC (.str "give")))) (eT (ya se (ya Ma (ba 0) (eC (.int 0))) (eC (.str "pay"))))) (ya Ma (ba 0) (eC (.int 2))) (eC (.int 0))))
def xf:List D->M D:=Cb λa=>jc (Md 1 tW a)
theorem JZ:wa ["wish"] ["wish"] (Pc FY):=Be
theorem f8(b:md K mg ca):Le ⟨K,ca,tx K⟩ P w mg base 1 "allowance_of" ["wish"] xf:=
 Ig b.xf JZ λa=>
  (Yc (xC (L2.PW.pt (Nm (je (Sg (Sd a)) pf (Db (ga 0) Fa) Vd (be _)) (pp (je (Sg (Sd a)) pf (Db (ga 0) Fa) Vd (be _))))) (Db (ga 0) Fa) Fa))
abbrev R0:Stmt:=dc 30
def uV:Ev->M Fl:=
 (Tc (ya kh (Xh Pu (ia (ya Ma (ba 0) (eC (.int 1))) Ha)) (Xh Pu (ia (ki (Xm (Dp (vj (ya Ma (ba 0) (eC (.int 2))))) [] (Lf 0) Fq (ya Ma (ba 0) (eC (.int 1))))) Ha))))
def Lh:List D->M D:=Cb λa=>jc (Md 1 uV a)
theorem zvw:wa ["one"] ["one"] (Pc R0):=Be
theorem qK(a:md K mg ca):Le ⟨K,ca,tx K⟩ P w mg base 1 "deals" ["one"] Lh:=
 Ig a.Lh zvw λb=>
  (Yc (Hj (Kn (NF rfl) (LG rfl) rfl a.Pt Ux (Va (Db (ga 0) Fa))) (Kn (NF rfl) (LG rfl) rfl a.Pt Ux (Va (Ho (Ku (x:="tie") (z0:="0") (M':=[]) (ix:=[]) rfl ⟨rfl,rfl,rfl,rfl,rfl,rfl⟩ (Ot (Uo rfl (Db (ga 0) Fa))) (λ_ _ _ _ _=>cj (by show List.Nodup (("tie"::"0"::[]):List Str);decide +kernel)) (λ_ _ _ _ _=>mx) (λ_ _ _ _ _=>(Db (ga 0) Fa))))))))
abbrev QZ:Stmt:=dc 31
def QO:Ev->M Fl:=
 (Tc (Li (Xc 1 yd [] (ia (ba 0) Ha)) (ya se (Xc 1 Lh [] (ia (ba 0) Ha)) (ba 1))))
def ue:List D->M D:=Cb λa=>jc (Md 2 QO a)
theorem kY:wa ["thing","coin"] ["thing","coin"] (Pc QZ):=Be
theorem HP(a:md K mg ca):Le ⟨K,ca,tx K⟩ P w mg base 7 "is_stand_of" ["thing","coin"] ue:=
 Ig a.ue kY λb=>
  (Yc (aj (Ad (DI a) b (Va (ga 0))) (rn (bo b (Ad (qK a) b (Va (ga 0))) (ga 1)))))
abbrev U0:Stmt:=lh (dc 52) 1
def ZO:Ev->M Fl:=
 (Tc (ee (ia (eC (.str "agree")) (ia (Cd (Nc [4,5,6,7] "pot") (ba 0)) (ia (ba 1) (ia (ba 2) Ha))))))
def na:List D->M D:=Cb λa=>jc (Md 3 ZO a)
theorem P8:wa ["self","side","one"] ["self","side","one"] (Pc U0):=Be
theorem SB(a:md K mg ca):yi ⟨K,ca,tx K⟩ P w mg base 1 (ca 11) ["self","side","one"] na:=
 Br a.na P8 λb=>
  (Yc (pe (Ja Vd (Ja (Ce (Bq a) (ga 0)) (Ja (ga 1) (Va (ga 2)))))))
theorem FQ(a:md K mg ca):Bk ⟨K,ca,tx K⟩ P w mg base 1 "agree_of" ["self","side","one"] [(4,na),(5,na),(6,na),(7,na)]:=(uk a.yg a.Rj (SB a) (uk a.Ng a.Hi (SB a) (uk a.Fe a.Gh (SB a) (uk a.Ze a.Oj (SB a) Jn))))
abbrev m4:Stmt:=dc 57
def cR:Ev->M Fl:=
 (ub (Ue (Vl (eT (ya uh (Cd (Nc [4,5,6,7] "side") (ba 0)) (eC (.int 0)))) (eT (ya uh (xg [(5,Pb),(6,Wb),(7,Vb)] 1 "word" (ba 0) Ha) (eC (.str "calm"))))) Kr vf) (ub (lf 3 (ee (ia (ya kh (ya Ma (Cd (Nc [4,5,6,7] "mine") (ba 0)) (eC (.int 0))) (eC (.int 1))) (ia (ba 1) (ia (ba 2) Ha))))) (ub (Ue (Mn (eT (Xc 2 ue [] (ia (ba 3) (ia (Xc 1 Lh [] (ia (Cd (Nc [4,5,6,7] "mine") (ba 0)) Ha)) Ha))))) Kr vf) (ub (lf 4 (ki (Ut 6 7 Nj (ia (Cd (Nc [4,5,6,7] "pot") (ba 0)) (ia (Cd (Nc [4,5,6,7] "side") (ba 0)) (ia (Cd (Nc [4,5,6,7] "mine") (ba 0)) (ia (Cd (Nc [4,5,6,7] "grant") (ba 0)) (ia (Nh (ia (Cd (Nc [4,5,6,7] "mine") (ba 0)) (ia (ba 3) Ha))) (ia (Cd (Nc [4,5,6,7] "strikes") (ba 0)) Ha))))))))) (Tc (ee (ia (ba 4) (ia (ee (ia (eC (.str "offer")) (ia (Cd (Nc [4,5,6,7] "pot") (ba 0)) (ia (xg [(4,na),(5,na),(6,na),(7,na)] 3 "agree_of" (ba 0) (ia (eC (.int 0)) (ia (ba 3) Ha))) Ha)))) Ha))))))))
def dh:List D->M D:=Cb λa=>jc (Md 5 cR a)
theorem bM:wa ["account","shares","ties","one","behind"] ["account","shares","ties"] (Pc m4):=Be
theorem pV(a:md K mg ca):Le ⟨K,ca,tx K⟩ P w mg base 8 "offered" ["account","shares","ties"] dh:=
 Ig a.dh bM λb=>
  (Yb (gf (L2.PW.pt (Nm (je (Lp (Sd b)) pf (Ce (Hv a) (ga 0)) Fa (be _)) (pp (je (Lp (Sd b)) pf (Pr (vD a) b (ga 0)) Vd (be _))))) js Af)
  (Yb (Qf bM.nd (pe (Ja (Hj (Db (Ce (Rq a) (ga 0)) Fa) Fa) (Ja (ga 1) (Va (ga 2))))))
  (Yb (gf (So (Xk (Ad (HP a) b (Ja (ga 3) (Va (Ad (qK a) b (Va (Ce (Rq a) (ga 0))))))))) js Af)
  (Yb (Qf bM.nd (Ho (qB (c:=6) (ps:=["self","pot","side","mine","grant","may","strikes"]) ⟨_,a.ku,a.Es,JD a⟩ rfl (b.mono (by decide)) rfl (Ja (Ce (Bq a) (ga 0)) (Ja (Ce (Hv a) (ga 0)) (Ja (Ce (Rq a) (ga 0)) (Ja (Ce (QK a) (ga 0)) (Ja (bj (Ja (Ce (Rq a) (ga 0)) (Va (ga 3)))) (Va (Ce (cE a) (ga 0)))))))))))
  (Yc (pe (Ja (ga 4) (Va (pe (Ja Vd (Ja (Ce (Bq a) (ga 0)) (Va (fmt (FQ a) b (ga 0) (Ja Fa (Va (ga 3))))))))))))))))
abbrev GZ:Stmt:=dc 14
def SV:Ev->M Fl:=
 (Tc (Xc 3 Jc [] (ia (ba 0) (ia (eC (.int 0)) (ia (eC (.int 2)) Ha)))))
def Wh:List D->M D:=Cb λa=>jc (Md 1 SV a)
theorem lZ:wa ["thing"] ["thing"] (Pc GZ):=Be
theorem IQ(a:md K mg ca):Le ⟨K,ca,tx K⟩ P w mg base 3 "is_pot" ["thing"] Wh:=
 Ig a.Wh lZ λb=>
  (Yc (Ad (Gx a) b (Ja (ga 0) (Ja Fa (Va (Bx (u:=.int 2 (a.wo).choose) rfl (a.wo).choose_spec ⟨_,rfl⟩))))))
abbrev Ŝ:Stmt:=dc 43
def bT:Ev->M Fl:=
 (Tc (Li (ya se (Xh Hl (ia (ba 0) Ha)) (eC (.int 4))) (Li (Xc 1 Wh [] (ia (ya Ma (ba 0) (eC (.int 1))) Ha)) (Xc 1 Eg [] (ia (ya Ma (ba 0) (eC (.int 2))) Ha)))))
def ze:List D->M D:=Cb λa=>jc (Md 1 bT a)
theorem W8:wa ["thing"] ["thing"] (Pc Ŝ):=Be
theorem SU(a:md K mg ca):Le ⟨K,ca,tx K⟩ P w mg base 4 "is_of_a_side" ["thing"] ze:=
 Ig a.ze W8 λb=>
  (Yc (aj (bo b (Kn As (Qs rfl) rfl a.Fh qc (Va (ga 0))) Fa) (aj (Ad (IQ a) b (Va (Db (ga 0) Fa))) (rn (Ad (CN a) b (Va (Db (ga 0) Fa)))))))
abbrev Ŕ:Stmt:=dc 44
def lI:Ev->M Fl:=
 (ub (Ue (Vl (Mn (eT (Cd (dq .tuple) (ba 0)))) (Vl (eT (ya se (Xh Hl (ia (ba 0) Ha)) (eC (.int 0)))) (Mn (eT (Cd (dq .str) (ya Ma (ba 0) (eC (.int 0)))))))) Kr vf) (ub (Ue (eT (ya se (ya Ma (ba 0) (eC (.int 0))) (eC (.str "word")))) Kr vf) (ub (Ue (eT (ya se (ya Ma (ba 0) (eC (.int 0))) (eC (.str "strike")))) (Tc (Li (Xc 1 ze [] (ia (ba 0) Ha)) (Xc 1 Yf [] (ia (ya Ma (ba 0) (eC (.int 3))) Ha)))) vf) (ub (Ue (eT (ya se (ya Ma (ba 0) (eC (.int 0))) (eC (.str "agree")))) (Tc (Li (Xc 1 ze [] (ia (ba 0) Ha)) (Xc 1 yd [] (ia (ya Ma (ba 0) (eC (.int 3))) Ha)))) vf) (Tc (eC (.bl false)))))))
def Ee:List D->M D:=Cb λa=>jc (Md 1 lI a)
theorem ō:wa ["thing"] ["thing"] (Pc Ŕ):=Be
theorem lR(a:md K mg ca):Le ⟨K,ca,tx K⟩ P w mg base 7 "is_thing" ["thing"] Ee:=
 Ig a.Ee ō λb=>
  (Yb (gf (L2.PW.pt (Nm (So (Xk (wv .tuple (ga 0) rfl a.Jd rfl a.Pg bg))) (Nm (je (Sg (Sd b)) pf (Kn As (Qs rfl) rfl a.Fh qc (Va (ga 0))) Fa (be _)) (pp (So (Xk (wv .str (Db (ga 0) Fa) rfl a.Jd rfl a.fy boot_str))))))) js Af)
  (Yb (gf (je (Sg (Sd b)) pf (Db (ga 0) Fa) Vd (be _)) js Af)
  (Yb (gf (je (Sg (Sd b)) pf (Db (ga 0) Fa) Vd (be _)) (Yc (aj (Ad (SU a) b (Va (ga 0))) (rn (Ad (LO a) b (Va (Db (ga 0) Fa)))))) Af)
  (Yb (gf (je (Sg (Sd b)) pf (Db (ga 0) Fa) Vd (be _)) (Yc (aj (Ad (SU a) b (Va (ga 0))) (rn (Ad (DI a) b (Va (Db (ga 0) Fa)))))) Af)
  (Yc Xp)))))
abbrev WX:Stmt:=dc 46
def NJ:Ev->M Fl:=
 (Tc (Li (Xc 1 Ee [] (ia (ba 0) Ha)) (ya se (ya Ma (ba 0) (eC (.int 0))) (eC (.str "agree")))))
def Gf:List D->M D:=Cb λa=>jc (Md 1 NJ a)
theorem KY:wa ["thing"] ["thing"] (Pc WX):=Be
theorem ET(a:md K mg ca):Le ⟨K,ca,tx K⟩ P w mg base 8 "is_agree" ["thing"] Gf:=
 Ig a.Gf KY λb=>
  (Yc (aj (Ad (lR a) b (Va (ga 0))) (rn (bo b (Db (ga 0) Fa) Vd))))
abbrev L3:Stmt:=dc 47
def dS:Ev->M Fl:=
 (Tc (Li (Xc 1 Ee [] (ia (ba 0) Ha)) (ya se (ya Ma (ba 0) (eC (.int 0))) (eC (.str "strike")))))
def Vf:List D->M D:=Cb λa=>jc (Md 1 dS a)
theorem Ē:wa ["thing"] ["thing"] (Pc L3):=Be
theorem fP(a:md K mg ca):Le ⟨K,ca,tx K⟩ P w mg base 8 "is_strike" ["thing"] Vf:=
 Ig a.Vf Ē λb=>
  (Yc (aj (Ad (lR a) b (Va (ga 0))) (rn (bo b (Db (ga 0) Fa) Vd))))
abbrev v8:Stmt:=dc 48
def Ly:Ev->M Fl:=
 (ub (Ue (eT (ya se (ya Ma (ba 0) (eC (.int 0))) (eC (.str "offer")))) (Tc (Li (ya se (Xh Hl (ia (ba 0) Ha)) (eC (.int 3))) (Xc 1 Gf [] (ia (ya Ma (ba 0) (eC (.int 2))) Ha)))) vf) (ub (Ue (eT (ya se (ya Ma (ba 0) (eC (.int 0))) (eC (.str "accept")))) (Tc (Li (ya se (Xh Hl (ia (ba 0) Ha)) (eC (.int 4))) (Li (Xc 1 Gf [] (ia (ya Ma (ba 0) (eC (.int 2))) Ha)) (Xc 1 Vf [] (ia (ya Ma (ba 0) (eC (.int 3))) Ha))))) vf) (ub (Ue (eT (ya se (ya Ma (ba 0) (eC (.int 0))) (eC (.str "struck")))) (Tc (Li (ya se (Xh Hl (ia (ba 0) Ha)) (eC (.int 3))) (Xc 1 Vf [] (ia (ya Ma (ba 0) (eC (.int 2))) Ha)))) vf) (ub (Ue (eT (ya se (ya Ma (ba 0) (eC (.int 0))) (eC (.str "ask")))) (Tc (Li (ya se (Xh Hl (ia (ba 0) Ha)) (eC (.int 4))) (Xc 1 yd [] (ia (ee (ia (eC (.int 0)) (ia (ya Ma (ba 0) (eC (.int 2))) (ia (ya Ma (ba 0) (eC (.int 3))) Ha)))) Ha)))) vf) (ub (Ue (eT (ya se (ya Ma (ba 0) (eC (.int 0))) (eC (.str "word")))) Kr vf) (Tc (eC (.bl false))))))))
def kc:List D->M D:=Cb λa=>jc (Md 1 Ly a)
theorem n5:wa ["letter"] ["letter"] (Pc v8):=Be
theorem υ(b:md K mg ca):Le ⟨K,ca,tx K⟩ P w mg base 9 "has_its_parts" ["letter"] kc:=
 Ig b.kc n5 λa=>
  (Yb (gf (je (Sg (Sd a)) pf (Db (ga 0) Fa) Vd (be _)) (Yc (aj (bo a (Kn As (Qs rfl) rfl b.Fh qc (Va (ga 0))) Fa) (rn (Ad (ET b) a (Va (Db (ga 0) Fa)))))) Af)
  (Yb (gf (je (Sg (Sd a)) pf (Db (ga 0) Fa) Vd (be _)) (Yc (aj (bo a (Kn As (Qs rfl) rfl b.Fh qc (Va (ga 0))) Fa) (aj (Ad (ET b) a (Va (Db (ga 0) Fa))) (rn (Ad (fP b) a (Va (Db (ga 0) Fa))))))) Af)
  (Yb (gf (je (Sg (Sd a)) pf (Db (ga 0) Fa) Vd (be _)) (Yc (aj (bo a (Kn As (Qs rfl) rfl b.Fh qc (Va (ga 0))) Fa) (rn (Ad (fP b) a (Va (Db (ga 0) Fa)))))) Af)
  (Yb (gf (je (Sg (Sd a)) pf (Db (ga 0) Fa) Vd (be _)) (Yc (aj (bo a (Kn As (Qs rfl) rfl b.Fh qc (Va (ga 0))) Fa) (rn (Ad (DI b) a (Va (pe (Ja Fa (Ja (Db (ga 0) Fa) (Va (Db (ga 0) Fa)))))))))) Af)
  (Yb (gf (je (Sg (Sd a)) pf (Db (ga 0) Fa) Vd (be _)) js Af)
  (Yc Xp))))))
abbrev o9:Stmt:=dc 49
def SM:Ev->M Fl:=
 (ub (Ue (Vl (Mn (eT (Cd (dq .tuple) (ba 0)))) (Vl (eT (ya oLt (Xh Hl (ia (ba 0) Ha)) (eC (.int 3)))) (Mn (eT (Cd (dq .str) (ya Ma (ba 0) (eC (.int 0)))))))) Kr vf) (Tc (Li (Xc 1 Wh [] (ia (ya Ma (ba 0) (eC (.int 1))) Ha)) (Xc 1 kc [] (ia (ba 0) Ha)))))
def gc:List D->M D:=Cb λa=>jc (Md 1 SM a)
theorem zhp:wa ["thing"] ["thing"] (Pc o9):=Be
theorem pH(a:md K mg ca):Le ⟨K,ca,tx K⟩ P w mg base 10 "is_letter" ["thing"] gc:=
 Ig a.gc zhp λb=>
  (Yb (gf (L2.PW.pt (Nm (So (Xk (wv .tuple (ga 0) rfl a.Jd rfl a.Pg bg))) (Nm (je sA Gz (Kn As (Qs rfl) rfl a.Fh qc (Va (ga 0))) Fa (be _)) (pp (So (Xk (wv .str (Db (ga 0) Fa) rfl a.Jd rfl a.fy boot_str))))))) js Af)
  (Yc (aj (Ad (IQ a) b (Va (Db (ga 0) Fa))) (rn (Ad (υ a) b (Va (ga 0)))))))
theorem BU(a:md K mg ca):Bk ⟨K,ca,tx K⟩ P w mg base 1 "agree_of" ["self","side","one"] [(5,na)]:=(uk a.Ng a.Hi (SB a) Jn)
abbrev È:Stmt:=dc 51
def UR:Ev->M Fl:=
 (Tc (Li (Xc 2 ue [] (ia (ba 0) (ia (Xc 1 Lh [] (ia (ba 1) Ha)) Ha))) (ya se (ya Ma (ba 0) (eC (.int 0))) (ya kh (ya Ma (ba 1) (eC (.int 0))) (eC (.int 1))))))
def yf:List D->M D:=Cb λa=>jc (Md 2 UR a)
theorem Ć:wa ["thing","one"] ["thing","one"] (Pc È):=Be
theorem Z2(a:md K mg ca):Le ⟨K,ca,tx K⟩ P w mg base 8 "is_following" ["thing","one"] yf:=
 Ig a.yf Ć λb=>
  (Yc (aj (Ad (HP a) b (Ja (ga 0) (Va (Ad (qK a) b (Va (ga 1)))))) (rn (bo b (Db (ga 0) Fa) (Hj (Db (ga 1) Fa) Fa)))))
abbrev B3:Stmt:=lh (dc 52) 2
def zR:Ev->M Fl:=
 (Tc (ee (ia (eC (.str "strike")) (ia (Cd (Nc [4,5,6,7] "pot") (ba 0)) (ia (ba 1) (ia (ya Ma (ba 2) (eC (.int 0))) Ha))))))
def Ka:List D->M D:=Cb λa=>jc (Md 3 zR a)
theorem P2:wa ["self","side","one"] ["self","side","one"] (Pc B3):=Be
theorem xJ(a:md K mg ca):yi ⟨K,ca,tx K⟩ P w mg base 1 (ca 12) ["self","side","one"] Ka:=
 Br a.Ka P2 λb=>
  (Yc (pe (Ja Vd (Ja (Ce (Bq a) (ga 0)) (Ja (ga 1) (Va (Db (ga 2) Fa)))))))
theorem A8(a:md K mg ca):Bk ⟨K,ca,tx K⟩ P w mg base 1 "strike_of" ["self","side","one"] [(5,Ka)]:=(uk a.Ng a.ul (xJ a) Jn)
abbrev ŉ:Stmt:=lh (dc 53) 1
def OK:Ev->M Fl:=
 (ub (Ue (Vl (eT (ya uh (Cd (Nc [4,5,6,7] "side") (ba 0)) (eC (.int 1)))) (Vl (Mn (eT (Xc 1 gc [] (ia (ba 1) Ha)))) (eT (ya uh (ya Ma (ba 1) (eC (.int 0))) (eC (.str "offer")))))) (Tc (ee (ia (ba 0) (ia (eC .Rb) Ha)))) vf) (ub (lf 2 (ya Ma (ya Ma (ba 1) (eC (.int 2))) (eC (.int 3)))) (ub (lf 3 (xg [(5,na)] 3 "agree_of" (ba 0) (ia (eC (.int 0)) (ia (ba 2) Ha)))) (ub (Ue (Vl (eT (ya uh (ba 1) (ee (ia (eC (.str "offer")) (ia (Cd (Nc [4,5,6,7] "pot") (ba 0)) (ia (ba 3) Ha)))))) (Mn (eT (Xc 2 yf [] (ia (ba 2) (ia (Cd (Nc [4,5,6,7] "mine") (ba 0)) Ha)))))) (Tc (ee (ia (ba 0) (ia (eC .Rb) Ha)))) vf) (ub (lf 4 (ki (Ut 7 7 Nj (ia (Cd (Nc [4,5,6,7] "pot") (ba 0)) (ia (Cd (Nc [4,5,6,7] "side") (ba 0)) (ia (ba 2) (ia (ba 3) (ia (Nh (ia (Cd (Nc [4,5,6,7] "mine") (ba 0)) (ia (ba 2) Ha))) (ia (Cd (Nc [4,5,6,7] "strikes") (ba 0)) Ha))))))))) (Tc (ee (ia (ba 4) (ia (ee (ia (eC (.str "accept")) (ia (Cd (Nc [4,5,6,7] "pot") (ba 0)) (ia (xg [(5,na)] 3 "agree_of" (ba 0) (ia (eC (.int 1)) (ia (ba 2) Ha))) (ia (xg [(5,Ka)] 3 "strike_of" (ba 0) (ia (eC (.int 1)) (ia (Cd (Nc [4,5,6,7] "mine") (ba 0)) Ha))) Ha))))) Ha)))))))))
def Cc:List D->M D:=Cb λa=>jc (Md 5 OK a)
theorem MG:wa ["self","letter","one","agree","behind"] ["self","letter"] (Pc ŉ):=Be
theorem Φ(a:md K mg ca):yi ⟨K,ca,tx K⟩ P w mg base 11 (ca 14) ["self","letter"] Cc:=
 Br a.Cc MG λb=>
  (Yb (gf (L2.PW.pt (Nm (je (Lp (Sd b)) pf (Ce (Hv a) (ga 0)) Fa (be _)) (Nm (So (Xk (Ad (pH a) b (Va (ga 1))))) (pp (je (Lp (Sd b)) pf (Db (ga 1) Fa) Vd (be _)))))) (Yc (pe (Ja (ga 0) (Va On)))) Af)
  (Yb (Qf MG.nd (Db (Db (ga 1) Fa) Fa))
  (Yb (Qf MG.nd (fmt (BU a) b (ga 0) (Ja Fa (Va (ga 2)))))
  (Yb (gf (L2.PW.pt (Nm (je (Lp (Sd b)) pf (ga 1) (pe (Ja Vd (Ja (Ce (Bq a) (ga 0)) (Va (ga 3))))) (be _)) (pp (So (Xk (Ad (Z2 a) b (Ja (ga 2) (Va (Ce (Rq a) (ga 0)))))))))) (Yc (pe (Ja (ga 0) (Va On)))) Af)
  (Yb (Qf MG.nd (Ho (qB (c:=7) (ps:=["self","pot","side","mine","grant","may","strikes"]) ⟨_,a.ou,a.Os,JD a⟩ rfl (b.mono (by decide)) rfl (Ja (Ce (Bq a) (ga 0)) (Ja (Ce (Hv a) (ga 0)) (Ja (ga 2) (Ja (ga 3) (Ja (bj (Ja (Ce (Rq a) (ga 0)) (Va (ga 2)))) (Va (Ce (cE a) (ga 0)))))))))))
  (Yc (pe (Ja (ga 4) (Va (pe (Ja Vd (Ja (Ce (Bq a) (ga 0)) (Ja (fmt (BU a) b (ga 0) (Ja Fa (Va (ga 2)))) (Va (fmt (A8 a) b (ga 0) (Ja Fa (Va (Ce (Rq a) (ga 0)))))))))))))))))))
theorem K2(a:md K mg ca):Bk ⟨K,ca,tx K⟩ P w mg base 1 "agree_of" ["self","side","one"] [(6,na)]:=(uk a.Fe a.Gh (SB a) Jn)
theorem BP(a:md K mg ca):Bk ⟨K,ca,tx K⟩ P w mg base 1 "strike_of" ["self","side","one"] [(6,Ka)]:=(uk a.Fe a.Dj (xJ a) Jn)
abbrev ù:Stmt:=lh (dc 54) 1
def gQ:Ev->M Fl:=
 (ub (lf 2 (ya Ma (Cd (Nc [4,5,6,7] "may") (ba 0)) (eC (.int 1)))) (ub (lf 3 (xg [(6,na)] 3 "agree_of" (ba 0) (ia (eC (.int 1)) (ia (ba 2) Ha)))) (ub (Ue (Vl (Mn (eT (Xc 1 gc [] (ia (ba 1) Ha)))) (eT (ya uh (ba 1) (ee (ia (eC (.str "accept")) (ia (Cd (Nc [4,5,6,7] "pot") (ba 0)) (ia (ba 3) (ia (xg [(6,Ka)] 3 "strike_of" (ba 0) (ia (eC (.int 1)) (ia (Cd (Nc [4,5,6,7] "mine") (ba 0)) Ha))) Ha)))))))) (Tc (ee (ia (ba 0) (ia (eC .Rb) Ha)))) vf) (ub (lf 4 (ki (Ut 5 7 Nj (ia (Cd (Nc [4,5,6,7] "pot") (ba 0)) (ia (Cd (Nc [4,5,6,7] "side") (ba 0)) (ia (ba 2) (ia (ba 3) (ia (Nh (ia (ba 2) Ha)) (ia (ya kh (Cd (Nc [4,5,6,7] "strikes") (ba 0)) (Nh (ia (ya Ma (Cd (Nc [4,5,6,7] "mine") (ba 0)) (eC (.int 0))) Ha))) Ha))))))))) (Tc (ee (ia (ba 4) (ia (ee (ia (eC (.str "struck")) (ia (Cd (Nc [4,5,6,7] "pot") (ba 0)) (ia (xg [(6,Ka)] 3 "strike_of" (ba 0) (ia (eC (.int 0)) (ia (Cd (Nc [4,5,6,7] "mine") (ba 0)) Ha))) Ha)))) Ha))))))))
def Ec:List D->M D:=Cb λa=>jc (Md 5 gQ a)
theorem qH:wa ["self","letter","one","agree","behind"] ["self","letter"] (Pc ù):=Be
theorem mY(a:md K mg ca):yi ⟨K,ca,tx K⟩ P w mg base 11 (ca 16) ["self","letter"] Ec:=
 Br a.Ec qH λb=>
  (Yb (Qf qH.nd (Db (Ce (zB a) (ga 0)) Fa))
  (Yb (Qf qH.nd (fmt (K2 a) b (ga 0) (Ja Fa (Va (ga 2)))))
  (Yb (gf (L2.PW.pt (Nm (So (Xk (Ad (pH a) b (Va (ga 1))))) (pp (je (Lp (Sd b)) pf (ga 1) (pe (Ja Vd (Ja (Ce (Bq a) (ga 0)) (Ja (ga 3) (Va (fmt (BP a) b (ga 0) (Ja Fa (Va (Ce (Rq a) (ga 0)))))))))) (be _))))) (Yc (pe (Ja (ga 0) (Va On)))) Af)
  (Yb (Qf qH.nd (Ho (qB (c:=5) (ps:=["self","pot","side","mine","grant","may","strikes"]) ⟨_,a.Ts,a.Cq,JD a⟩ rfl (b.mono (by decide)) rfl (Ja (Ce (Bq a) (ga 0)) (Ja (Ce (Hv a) (ga 0)) (Ja (ga 2) (Ja (ga 3) (Ja (bj (Va (ga 2))) (Va (Hj (Ce (cE a) (ga 0)) (bj (Va (Db (Ce (Rq a) (ga 0)) Fa)))))))))))))
  (Yc (pe (Ja (ga 4) (Va (pe (Ja Vd (Ja (Ce (Bq a) (ga 0)) (Va (fmt (BP a) b (ga 0) (Ja Fa (Va (Ce (Rq a) (ga 0)))))))))))))))))
theorem P5(a:md K mg ca):Bk ⟨K,ca,tx K⟩ P w mg base 1 "strike_of" ["self","side","one"] [(7,Ka)]:=(uk a.Ze a.Ej (xJ a) Jn)
abbrev Ĝ:Stmt:=lh (dc 55) 1
def zT:Ev->M Fl:=
 (ub (lf 2 (ya Ma (Cd (Nc [4,5,6,7] "may") (ba 0)) (eC (.int 0)))) (ub (Ue (Vl (Mn (eT (Xc 1 gc [] (ia (ba 1) Ha)))) (eT (ya uh (ba 1) (ee (ia (eC (.str "struck")) (ia (Cd (Nc [4,5,6,7] "pot") (ba 0)) (ia (xg [(7,Ka)] 3 "strike_of" (ba 0) (ia (eC (.int 0)) (ia (ba 2) Ha))) Ha))))))) (Tc (ee (ia (ba 0) (ia (eC .Rb) Ha)))) vf) (ub (lf 3 (ki (Ut 5 7 Nj (ia (Cd (Nc [4,5,6,7] "pot") (ba 0)) (ia (Cd (Nc [4,5,6,7] "side") (ba 0)) (ia (Cd (Nc [4,5,6,7] "mine") (ba 0)) (ia (Cd (Nc [4,5,6,7] "grant") (ba 0)) (ia (Nh (ia (Cd (Nc [4,5,6,7] "mine") (ba 0)) Ha)) (ia (ya kh (Cd (Nc [4,5,6,7] "strikes") (ba 0)) (Nh (ia (ya Ma (ba 2) (eC (.int 0))) Ha))) Ha))))))))) (Tc (ee (ia (ba 3) (ia (eC .Rb) Ha)))))))
def Dc:List D->M D:=Cb λa=>jc (Md 4 zT a)
theorem hL:wa ["self","letter","old","behind"] ["self","letter"] (Pc Ĝ):=Be
theorem M5(a:md K mg ca):yi ⟨K,ca,tx K⟩ P w mg base 11 (ca 18) ["self","letter"] Dc:=
 Br a.Dc hL λb=>
  (Yb (Qf hL.nd (Db (Ce (zB a) (ga 0)) Fa))
  (Yb (gf (L2.PW.pt (Nm (So (Xk (Ad (pH a) b (Va (ga 1))))) (pp (je (Lp (Sd b)) pf (ga 1) (pe (Ja Vd (Ja (Ce (Bq a) (ga 0)) (Va (fmt (P5 a) b (ga 0) (Ja Fa (Va (ga 2)))))))) (be _))))) (Yc (pe (Ja (ga 0) (Va On)))) Af)
  (Yb (Qf hL.nd (Ho (qB (c:=5) (ps:=["self","pot","side","mine","grant","may","strikes"]) ⟨_,a.Ts,a.Cq,JD a⟩ rfl (b.mono (by decide)) rfl (Ja (Ce (Bq a) (ga 0)) (Ja (Ce (Hv a) (ga 0)) (Ja (Ce (Rq a) (ga 0)) (Ja (Ce (QK a) (ga 0)) (Ja (bj (Va (Ce (Rq a) (ga 0)))) (Va (Hj (Ce (cE a) (ga 0)) (bj (Va (Db (ga 2) Fa)))))))))))))
  (Yc (pe (Ja (ga 3) (Va On)))))))
theorem lP(a:md K mg ca):Bk ⟨K,ca,tx K⟩ P w mg base 11 "taken" ["self","letter"] [(5,Cc),(6,Ec),(7,Dc)]:=(uk a.Ng a.Ep (Φ a) (uk a.Fe a.Xl (mY a) (uk a.Ze a.Ul (M5 a) Jn)))
abbrev O6:Stmt:=dc 88
def nJ:Ev->M Fl:=
 (ub (Ue (eT (ya se (Cd (Nc [4,5,6,7] "side") (ba 0)) (eC (.int 0)))) (Tc (Xc 3 dh [] (ia (ba 0) (ia (ya Ma (ba 1) (eC (.int 1))) (ia (ya Ma (ba 1) (eC (.int 2))) Ha))))) vf) (ub (lf 2 (ee (ia (eC (.str "offer")) (ia (Cd (Nc [4,5,6,7] "pot") (ba 0)) (ia (xg [(4,na),(5,na),(6,na),(7,na)] 3 "agree_of" (ba 0) (ia (eC (.int 0)) (ia (ba 1) Ha))) Ha))))) (Tc (ee (ia (ya Ma (xg [(5,Cc),(6,Ec),(7,Dc)] 2 "taken" (ba 0) (ia (ba 2) Ha)) (eC (.int 0))) (ia (ee (ia (eC (.str "ask")) (ia (Cd (Nc [4,5,6,7] "pot") (ba 0)) (ia (ya Ma (ba 1) (eC (.int 1))) (ia (ya Ma (ba 1) (eC (.int 2))) Ha))))) Ha))))))
def bh:List D->M D:=Cb λa=>jc (Md 3 nJ a)
theorem mT:wa ["account","one","offer"] ["account","one"] (Pc O6):=Be
theorem YZ(a:md K mg ca):Le ⟨K,ca,tx K⟩ P w mg base 12 "step_to" ["account","one"] bh:=
 Ig a.bh mT λb=>
  (Yb (gf (je (Sg (Sd b)) pf (Ce (Hv a) (ga 0)) Fa (be _)) (Yc (Ad (pV a) b (Ja (ga 0) (Ja (Db (ga 1) Fa) (Va (Db (ga 1) Fa)))))) Af)
  (Yb (Qf mT.nd (pe (Ja Vd (Ja (Ce (Bq a) (ga 0)) (Va (fmt (FQ a) b (ga 0) (Ja Fa (Va (ga 1)))))))))
  (Yc (pe (Ja (Db (fmt (lP a) b (ga 0) (Va (ga 2))) Fa) (Va (pe (Ja Vd (Ja (Ce (Bq a) (ga 0)) (Ja (Db (ga 1) Fa) (Va (Db (ga 1) Fa))))))))))))
theorem hV(a:md K mg ca):Ln ⟨K,ca,tx K⟩ [8] "pots":=(kj a.Hn a.xq zr)
abbrev T7:Stmt:=dc 37
def RV:Ev->M Fl:=
 (Tc (Li (ya Ow (ya Ma (ba 0) (eC (.int 2))) (ba 1)) (ya oLt (ya Jl (ba 1) (ya Ma (ba 0) (eC (.int 2)))) (ya Ma (ba 0) (eC (.int 3))))))
def ke:List D->M D:=Cb λa=>jc (Md 2 RV a)
theorem FX:wa ["tie","shown"] ["tie","shown"] (Pc T7):=Be
theorem HV(b:md K mg ca):Le ⟨K,ca,tx K⟩ P w mg base 1 "shown_in_time" ["tie","shown"] ke:=
 Ig b.ke FX λa=>
  (Yc (aj (Bt (NL (Sd a)) ML (Db (ga 0) Fa) (ga 1) rfl) (rn (Bt sA Gz (Rt (Sd a) (ga 1) (Db (ga 0) Fa) (λ_ _=>rfl)) (Db (ga 0) Fa) (be _)))))
abbrev Đ:Stmt:=dc 61
def YP:Ev->M Fl:=
 (ub (Ue (eT (Xc 2 ke [] (ia (ba 2) (ia (ba 1) Ha)))) (Tc (eC (.str "lost"))) vf) (ub (Ue (eT (ya tH (Cd (Nc [8,9] "last_look") (ba 0)) (ya Ma (ba 2) (eC (.int 3))))) (Tc (eC (.str "back"))) vf) (Tc (eC (.str "open")))))
def Nf:List D->M D:=Cb λa=>jc (Md 3 YP a)
theorem w5:wa ["view","seen","tie"] ["view","seen","tie"] (Pc Đ):=Be
theorem Y7(a:md K mg ca):Le ⟨K,ca,tx K⟩ P w mg base 2 "lot_of_paid" ["view","seen","tie"] Nf:=
 Ig a.Nf w5 λb=>
  (Yb (gf (Xk (Ad (HV a) b (Ja (ga 2) (Va (ga 1))))) (Yc Vd) Af)
  (Yb (gf (je uN YJ (Ce (kB a) (ga 0)) (Db (ga 2) Fa) (be _)) (Yc Vd) Af)
  (Yc Vd)))
abbrev qX:Stmt:=dc 62
def NO:Ev->M Fl:=
 (ub (Ue (eT (Xc 2 ke [] (ia (ba 2) (ia (ba 1) Ha)))) (Tc (eC (.str "won"))) vf) (ub (Ue (eT (ya tH (Cd (Nc [8,9] "last_look") (ba 0)) (ya Ma (ba 2) (eC (.int 3))))) (Tc (eC (.str "gone"))) vf) (ub (Ue (cu (eT (ya (EC false) (ya Ma (ba 2) (eC (.int 2))) (Cd (Nc [8,9] "known") (ba 0)))) (eT (ya oLt (ya kh (Cd (Nc [8,9] "last_look") (ba 0)) (Cd (Nc [8,9] "every") (ba 0))) (ya Ma (ba 2) (eC (.int 3)))))) (Tc (eC (.str "sure"))) vf) (Tc (eC (.str "hangs"))))))
def jg:List D->M D:=Cb λa=>jc (Md 3 NO a)
theorem S5:wa ["view","seen","tie"] ["view","seen","tie"] (Pc qX):=Be
theorem Ĕ(a:md K mg ca):Le ⟨K,ca,tx K⟩ P w mg base 2 "lot_of_due" ["view","seen","tie"] jg:=
 Ig a.jg S5 λb=>
  (Yb (gf (Xk (Ad (HV a) b (Ja (ga 2) (Va (ga 1))))) (Yc Vd) Af)
  (Yb (gf (je uN YJ (Ce (kB a) (ga 0)) (Db (ga 2) Fa) (be _)) (Yc Vd) Af)
  (Yb (gf (L2.PW.pt (Iv (je (UY rfl (Sd b)) pf (Db (ga 2) Fa) (Ce (QA a) (ga 0)) rfl) (Mw (je sA Gz (Hj (Ce (kB a) (ga 0)) (Ce (yC a) (ga 0))) (Db (ga 2) Fa) (be _))))) (Yc Vd) Af)
  (Yc Vd))))
abbrev Q3:Stmt:=dc 63
def bO:Ev->M Fl:=
 (ub (Ue (eT (ya se (ya Ma (ba 2) (eC (.int 0))) (ya Ma (ba 1) (eC (.int 0))))) (Tc (Xc 3 Nf [] (ia (ba 0) (ia (ya Ma (ba 1) (eC (.int 2))) (ia (ba 2) Ha))))) vf) (Tc (Xc 3 jg [] (ia (ba 0) (ia (ya Ma (ba 1) (eC (.int 2))) (ia (ba 2) Ha))))))
def Ii:List D->M D:=Cb λa=>jc (Md 3 bO a)
theorem cX:wa ["view","pot","tie"] ["view","pot","tie"] (Pc Q3):=Be
theorem Y0(a:md K mg ca):Le ⟨K,ca,tx K⟩ P w mg base 3 "lot_of" ["view","pot","tie"] Ii:=
 Ig a.Ii cX λb=>
  (Yb (gf (je (Sg (Sd b)) pf (Db (ga 2) Fa) (Db (ga 1) Fa) (be _)) (Yc (Ad (Y7 a) b (Ja (ga 0) (Ja (Db (ga 1) Fa) (Va (ga 2)))))) Af)
  (Yc (Ad (Ĕ a) b (Ja (ga 0) (Ja (Db (ga 1) Fa) (Va (ga 2)))))))
abbrev BY:Stmt:=dc 64
abbrev xH:Ev->M Fl:=(ub (lf 6 (Xc 3 Ii [] (ia (ba 0) (ia (ba 1) (ia (ba 5) Ha))))) (ub (Et (ee (ia (ba 6) (ia (ya Ma (ba 5) (eC (.int 1))) (ia (ya Ma (ba 5) (eC (.int 3))) Ha)))) (ba 4) (ya Ma (ba 5) (eC (.int 2)))) (Ue (eT (Cd (tG false ["won","sure","back"]) (ba 6))) (Ry (λa b=>a+b) 3 (ya Ma (ba 5) (eC (.int 1)))) vf)))
def XT:Ev->M Fl:=
 (ub (lf 3 (ya Ma (ya Ma (ba 2) (eC (.int 1))) (ya Ma (ba 1) (eC (.int 0))))) (ub (lf 4 Ou) (ub (nu (vj (ya Ma (ba 2) (eC (.int 2)))) (Lf 5) xH) (Tc (ee (ia (ba 3) (ia (ba 4) Ha)))))))
def Df:List D->M D:=Cb λa=>jc (Md 7 XT a)
theorem LB:wa ["view","pot","one","firm","lots","tie","lot"] ["view","pot","one"] (Pc BY):=Be
theorem S4(a:md K mg ca):Le ⟨K,ca,tx K⟩ P w mg base 4 "read_stand" ["view","pot","one"] Df:=
 Ig a.Df LB λb=>
  (Yb (Qf LB.nd (Db (Db (ga 2) Fa) (Db (ga 1) Fa)))
  (Yb (Qf LB.nd ux)
  (Yb (qv Rr rfl (Uo rfl (Db (ga 2) Fa)) (cj LB.nd) (Yb (Qf LB.nd (Ad (Y0 a) b (Ja (ga 0) (Ja (ga 1) (Va (ga 5))))))
  (Yb (Qu (Sd b) (pe (Ja (ga 6) (Ja (Db (ga 5) Fa) (Va (Db (ga 5) Fa))))) (ga 4) (Db (ga 5) Fa))
  (Hh (gf (L5 (ss:=["won","sure","back"]) rfl a.Vz (ga 6)) (Hh (cQ (i:=3) YO LB.nd rfl (Or.inl rfl) (Db (ga 5) Fa))) Af)))))
  (Yc (pe (Ja (ga 3) (Va (ga 4))))))))
abbrev A0:Stmt:=dc 65
abbrev GP:Ev->M Fl:=(Jp (LA yq (ba 1) (ia (ki (Xm (Dp (vj (ya Ma (ba 2) (eC (.int 1))))) [0,2] (Lf 0) Fq (Xc 3 Df [] (ia (ba 2) (ia (ba 3) (ia (ba 0) Ha)))))) Ha)))
def pT:Ev->M Fl:=
 (ub (lf 1 (zz Ha)) (ub (nu (vj (Cd (Nc [8] "pots") (ba 0))) (Lf 2) GP) (Tc (ba 1))))
def Dg:List D->M D:=Cb λa=>jc (Md 3 pT a)
theorem zJ:wa ["view","readings","pot"] ["view"] (Pc A0):=Be
theorem F8(a:md K mg ca):Le ⟨K,ca,tx K⟩ P w mg base 5 "read_pots" ["view"] Dg:=
 Ig a.Dg zJ λb=>
  (Yb (Qf zJ.nd (SC mm))
  (Yb (qv Rr rfl (Uo rfl (Ce (hV a) (ga 0))) (rK (i:=2) zJ.nd rfl (Or.inr rfl)) (Hh (zq (MH Gg Di Ei dI BG (ga 1) (Va (Ho (Ku (x:="one") (z0:="0") (M':=["view","pot"]) (ix:=[0,2]) rfl ⟨rfl,rfl,rfl,rfl,rfl,rfl⟩ (Ot (Uo rfl (Db (ga 2) Fa))) (λ_ _ _ _ _=>cj (by show List.Nodup (("one"::"0"::["view","pot"]):List Str);decide +kernel)) (λ_ _ _ _ _=>mx) (λ_ _ _ _ _=>(Ad (S4 a) b (Ja (ga 2) (Ja (ga 3) (Va (ga 0)))))))))))))
  (Yc (ga 1))))
abbrev LX:Stmt:=dc 66
abbrev LH:Ev->M Fl:=(Jp (LA mz (ba 3) (ia (ki (Xm (Dp (Fy (Xh Hl (ia (ba 2) Ha)))) [4] (Lf 0) Fq (ya kh (ba 2) (Nh (ia (ba 0) Ha))))) Ha)))
abbrev ZV:Ev->M Fl:=(ub (lf 3 (zz Ha)) (ub (nu (vj (ba 1)) (Lf 4) LH) (lf 1 (ba 3))))
def SQ:Ev->M Fl:=
 (ub (lf 1 (Nh (ia (Nh Ha) Ha))) (ub (nu (vj (ba 0)) (Lf 2) ZV) (Tc (ba 1))))
def We:List D->M D:=Cb λa=>jc (Md 5 SQ a)
theorem KB:wa ["readings","choices","stands","longer","chosen"] ["readings"] (Pc LX):=Be
theorem G1(a:md K mg ca):Le ⟨K,ca,tx K⟩ P w mg base 1 "all_choices" ["readings"] We:=
 Ig a.We KB λb=>
  (Yb (Qf KB.nd (bj (Va (bj mm))))
  (Yb (qv Rr rfl (Uo rfl (ga 0)) (cj KB.nd) (Yb (Qf KB.nd (SC mm))
  (Yb (qv Rr rfl (Uo rfl (ga 1)) (rK (i:=4) KB.nd rfl (Or.inr rfl)) (Hh (zq (MH Gg PySem.F.slot_list_extend PySem.F.type_list_extend oY E3 (ga 3) (Va (Ho (Ku (x:="place") (z0:="0") (M':=["chosen"]) (ix:=[4]) rfl ⟨rfl,rfl,rfl,rfl,rfl,rfl⟩ (Ot (AN rfl a.qq (Kn As (Qs rfl) rfl a.Fh qc (Va (ga 2))))) (λ_ _ _ _ _=>cj (by show List.Nodup (("place"::"0"::["chosen"]):List Str);decide +kernel)) (λ_ _ _ _ _=>mx) (λ_ _ _ _ _=>(Hj (ga 2) (bj (Va (ga 0))))))))))))
  (Hh (Qf KB.nd (ga 3))))))
  (Yc (ga 1))))
abbrev UZ:Stmt:=dc 68
abbrev GL:Ev->M Fl:=(Jp (LA yq (QI Pz (ba 1) (ia (ba 3) (ia (zz Ha) Ha))) (ia (ba 4) Ha)))
abbrev gM:Ev->M Fl:=(Lw (PB (ya Ma (ba 2) (eC (.int 1)))) (gr 2 (Ck (Lf 3) (Ck (Lf 4) Mr))) GL)
def nO:Ev->M Fl:=
 (ub (lf 1 Ou) (ub (nu (vj (ba 0)) (Lf 2) gM) (Tc (ba 1))))
def uf:List D->M D:=Cb λa=>jc (Md 5 nO a)
theorem QE:wa ["reads","by_word","read","word","lot"] ["reads"] (Pc UZ):=Be
theorem zcp(a:md K mg ca):Le ⟨K,ca,tx K⟩ P w mg base 1 "lots_by_word" ["reads"] uf:=
 Ig a.uf QE λb=>
  (Yb (Qf QE.nd ux)
  (Yb (qv Rr rfl (Uo rfl (ga 0)) (cj QE.nd) (Hh (lC Rr rfl (SK (Db (ga 2) Fa)) (wy rfl (Lr (cj QE.nd) (Lr (cj QE.nd) ay))) (Hh (zq (MH Gg Di Ei dI BG (KQ Fg Bn PySem.F.type_dict_setdefault VX V5 (ga 1) (Ja (ga 3) (Va (SC mm)))) (Va (ga 4))))))))
  (Yc (ga 1))))
abbrev IZ:Stmt:=dc 69
def IR:Ev->M Fl:=
 (Tc (ya kh (Nh (ia (eC .Rb) Ha)) (ki (Xm (Dp (vj (ba 0))) [] (Lf 0) (eT (ya se (ya Ma (ba 0) (eC (.int 0))) (eC (.str "open")))) (ya Ma (ba 0) (eC (.int 2)))))))
def Zg:List D->M D:=Cb λa=>jc (Md 1 IR a)
theorem U5:wa ["lots"] ["lots"] (Pc IZ):=Be
theorem Ρ(a:md K mg ca):Le ⟨K,ca,tx K⟩ P w mg base 1 "fates_of" ["lots"] Zg:=
 Ig a.Zg U5 λb=>
  (Yc (Hj (bj (Va On)) (Ho (Ku (x:="lot") (z0:="0") (M':=[]) (ix:=[]) rfl ⟨rfl,rfl,rfl,rfl,rfl,rfl⟩ (Ot (Uo rfl (ga 0))) (λ_ _ _ _ _=>cj (by show List.Nodup (("lot"::"0"::[]):List Str);decide +kernel)) (λ_ _ _ _ _=>TB (je (Sg (Sd b)) pf (Db (ga 0) Fa) Vd (be _))) (λ_ _ _ _ _=>(Db (ga 0) Fa))))))
abbrev V3:Stmt:=dc 70
def jV:Ev->M Fl:=
 (ub (Ue (eT (ya se (ya Ma (ba 0) (eC (.int 0))) (eC (.str "open")))) (Tc (gK (ya Wp (ba 1) (eC .Rb)) (ya ky (ba 1) (ya Ma (ba 0) (eC (.int 2)))))) vf) (Tc (Li (ya se (ya Ma (ba 0) (eC (.int 0))) (eC (.str "hangs"))) (Li (ya xy (ba 1) (eC .Rb)) (ya oLt (ya kh (ya dB (ba 1) (eC (.int 1))) (ba 2)) (ya Ma (ba 0) (eC (.int 2))))))))
def ie:List D->M D:=Cb λa=>jc (Md 3 jV a)
theorem T9:wa ["lot","fate","every"] ["lot","fate","every"] (Pc V3):=Be
theorem m9(b:md K mg ca):Le ⟨K,ca,tx K⟩ P w mg base 1 "comes_by_fate" ["lot","fate","every"] ie:=
 Ig b.ie T9 λa=>
  (Yb (gf (je (Sg (Sd a)) pf (Db (ga 0) Fa) Vd (be _)) (Yc (yqq (Bt Tz rA (ga 1) On (be _)) (rn (Bt OA ZA (ga 1) (Db (ga 0) Fa) (be _))))) Af)
  (Yc (aj (bo a (Db (ga 0) Fa) Vd) (aj (Bt IN zN (ga 1) On (be _)) (rn (Bt sA Gz (Hj (Rg TD bF (ga 1) Fa) (ga 2)) (Db (ga 0) Fa) (be _)))))))
abbrev P6:Stmt:=dc 71
def mU:Ev->M Fl:=
 (Tc (Xh Pu (ia (ki (Xm (Dp (vj (ba 0))) [1,2] (Lf 0) (eT (Xc 3 ie [] (ia (ba 0) (ia (ba 2) (ia (ba 3) Ha))))) (ya Ma (ba 0) (eC (.int 1))))) Ha)))
def Zd:List D->M D:=Cb λa=>jc (Md 3 mU a)
theorem zev:wa ["lots","fate","every"] ["lots","fate","every"] (Pc P6):=Be
theorem US(a:md K mg ca):Le ⟨K,ca,tx K⟩ P w mg base 2 "sum_by_fate" ["lots","fate","every"] Zd:=
 Ig a.Zd zev λb=>
  (Yc (Kn (NF rfl) (LG rfl) rfl a.Pt Ux (Va (Ho (Ku (x:="lot") (z0:="0") (M':=["fate","every"]) (ix:=[1,2]) rfl ⟨rfl,rfl,rfl,rfl,rfl,rfl⟩ (Ot (Uo rfl (ga 0))) (λ_ _ _ _ _=>cj (by show List.Nodup (("lot"::"0"::["fate","every"]):List Str);decide +kernel)) (λ_ _ _ _ _=>TB (Xk (Ad (m9 a) b (Ja (ga 0) (Ja (ga 2) (Va (ga 3))))))) (λ_ _ _ _ _=>(Db (ga 0) Fa)))))))
abbrev zhe:Stmt:=dc 72
def mW:Ev->M Fl:=
 (Tc (RF [0,1] (Xc 3 Zd [] (ia (ba 1) (ia (ba 0) (ia (ba 2) Ha)))) (ia (Xc 1 Zg [] (ia (ba 0) Ha)) Ha)))
def Ef:List D->M D:=Cb λa=>jc (Md 2 mW a)
theorem n4:wa ["lots","every"] ["lots","every"] (Pc zhe):=Be
theorem ĕ(a:md K mg ca):Le ⟨K,ca,tx K⟩ P w mg base 5 "least_fate" ["lots","every"] Ef:=
 Le.Cb (Le.jc (nT a.Ef n4 λ_ _ _ _ _ _ b=>
  (Yc (wS (x:="fate") (M':=["lots","every"]) (ix:=[0,1]) (t:=OF K) (k:=2) (b.mono (by decide)) ⟨rfl,rfl,rfl,rfl,rfl,rfl⟩ rfl ⟨(WS K),λd c=>a.TC _ (WS K) d c,rfl,a.tb.hd _ (by decide),rfl,rfl,rfl,a.oP,a.tb.bb⟩ rfl a.sr rfl rfl rfl (λ_ _ _ _ _=>rfl) (Va (Ad (Ρ a) b (Va (ga 0)))) (λ_ _ _ _ _ b=>(Ad (US a) b (Ja (ga 1) (Ja (ga 0) (Va (ga 2))))))))))
abbrev iY:Stmt:=dc 73
abbrev JS:Ev->M Fl:=(Ry (λa b=>a+b) 4 (Xc 3 Zd [] (ia (ba 6) (ia (ya Jl (ba 2) (ba 5)) (ia (ba 3) Ha)))))
def mQ:Ev->M Fl:=
 (ub (lf 4 (Xh Pu (ia (ki (Xm (Dp (vj (ba 0))) [] (Lf 0) Fq (ya Ma (ba 0) (eC (.int 0))))) Ha))) (ub (Lw (PB (ba 1)) (gr 2 (Ck (Lf 5) (Ck (Lf 6) Mr))) JS) (Tc (ba 4))))
def Ki:List D->M D:=Cb λa=>jc (Md 7 mQ a)
theorem rC:wa ["reads","by_word","fates","every","total","word","lots"] ["reads","by_word","fates","every"] (Pc iY):=Be
theorem χ(a:md K mg ca):Le ⟨K,ca,tx K⟩ P w mg base 3 "sum_of" ["reads","by_word","fates","every"] Ki:=
 Ig a.Ki rC λb=>
  (Yb (Qf rC.nd (Kn (NF rfl) (LG rfl) rfl a.Pt Ux (Va (Ho (Ku (x:="read") (z0:="0") (M':=[]) (ix:=[]) rfl ⟨rfl,rfl,rfl,rfl,rfl,rfl⟩ (Ot (Uo rfl (ga 0))) (λ_ _ _ _ _=>cj (by show List.Nodup (("read"::"0"::[]):List Str);decide +kernel)) (λ_ _ _ _ _=>mx) (λ_ _ _ _ _=>(Db (ga 0) Fa)))))))
  (Yb (lC Rr rfl (SK (ga 1)) (wy rfl (Lr (cj rC.nd) (Lr (cj rC.nd) ay))) (Hh (cQ (i:=4) YO rC.nd rfl (Or.inl rfl) (Ad (US a) b (Ja (ga 6) (Ja (Rt (Sd b) (ga 2) (ga 5) (λ_ _=>rfl)) (Va (ga 3))))))))
  (Yc (ga 4))))
abbrev θ:Stmt:=dc 74
abbrev QL:Ev->M Fl:=(Et (Xc 2 Ef [] (ia (ba 6) (ia (ba 2) Ha))) (ba 4) (ba 5))
def pP:Ev->M Fl:=
 (ub (lf 3 (Xc 1 uf [] (ia (ba 0) Ha))) (ub (lf 4 Ou) (ub (Lw (PB (ba 3)) (gr 2 (Ck (Lf 5) (Ck (Lf 6) Mr))) QL) (Tc (ee (ia (Xc 4 Ki [] (ia (ba 0) (ia (ba 3) (ia (ba 4) (ia (ba 2) Ha))))) (ia (ba 1) (ia (ba 4) Ha))))))))
def Xe:List D->M D:=Cb λa=>jc (Md 7 pP a)
theorem sD:wa ["reads","chosen","every","by_word","fates","word","lots"] ["reads","chosen","every"] (Pc θ):=Be
theorem F7(a:md K mg ca):Le ⟨K,ca,tx K⟩ P w mg base 6 "least_paper" ["reads","chosen","every"] Xe:=
 Ig a.Xe sD λb=>
  (Yb (Qf sD.nd (Ad (zcp a) b (Va (ga 0))))
  (Yb (Qf sD.nd ux)
  (Yb (lC Rr rfl (SK (ga 3)) (wy rfl (Lr (cj sD.nd) (Lr (cj sD.nd) ay))) (Hh (Qu (Sd b) (Ad (ĕ a) b (Ja (ga 6) (Va (ga 2)))) (ga 4) (ga 5))))
  (Yc (pe (Ja (Ad (χ a) b (Ja (ga 0) (Ja (ga 3) (Ja (ga 4) (Va (ga 2)))))) (Ja (ga 1) (Va (ga 4)))))))))
abbrev e8:Stmt:=dc 67
def nR:Ev->M Fl:=
 (Tc (ki (Xm (uH (ba 0) (ba 1)) [] (gr 2 (Ck (Lf 0) (Ck (Lf 1) Mr))) Fq (ya Ma (ba 0) (ba 1)))))
def Fd:List D->M D:=Cb λa=>jc (Md 2 nR a)
theorem yX:wa ["readings","chosen"] ["readings","chosen"] (Pc e8):=Be
theorem IY(a:md K mg ca):Le ⟨K,ca,tx K⟩ P w mg base 1 "chosen_readings" ["readings","chosen"] Fd:=
 Ig a.Fd yX λb=>
  (Yc (Ho (Ku (x:="stands") (z0:="place") (M':=[]) (ix:=[]) rfl ⟨rfl,rfl,rfl,rfl,rfl,rfl⟩ (Λ rfl a.vC (ga 0) (ga 1)) (λ_ _ _ _ _=>wy rfl (Lr (cj (by show List.Nodup (("stands"::"place"::[]):List Str);decide +kernel)) (Lr (cj (by show List.Nodup (("stands"::"place"::[]):List Str);decide +kernel)) ay))) (λ_ _ _ _ _=>mx) (λ_ _ _ _ _=>(Db (ga 0) (ga 1))))))
abbrev ć:Stmt:=dc 75
def pO:Ev->M Fl:=
 (ub (lf 1 (Xc 1 Dg [] (ia (ba 0) Ha))) (ub (lf 2 (ki (Xm (Dp (vj (Xc 1 We [] (ia (ba 1) Ha)))) [1,0] (Lf 0) Fq (Xc 3 Xe [] (ia (Xc 2 Fd [] (ia (ba 2) (ia (ba 0) Ha))) (ia (ba 0) (ia (Cd (Nc [8,9] "every") (ba 3)) Ha))))))) (Tc (RF [] (ya Ma (ba 0) (eC (.int 0))) (ia (ba 2) Ha)))))
def Jj:List D->M D:=Cb λa=>jc (Md 3 pO a)
theorem lN:wa ["view","readings","papers"] ["view"] (Pc ć):=Be
theorem zut(a:md K mg ca):Le ⟨K,ca,tx K⟩ P w mg base 7 "paper" ["view"] Jj:=
 Le.Cb (Le.jc (nT a.Jj lN λ_ _ _ _ _ _ b=>
  (Yb (YK (i:=1) lN.nd rfl (Or.inr rfl) (Ad (F8 a) b (Va (ga 0))))
  (Yb (KJ (jJ (i:=2) lN.nd rfl (Or.inl rfl) (x:="chosen") (z0:="0") (M':=["readings","view"]) (ix:=[1,0]) rfl ⟨rfl,rfl,rfl,rfl,rfl,rfl⟩ (Ot (Uo rfl (Ad (G1 a) b (Va (ga 1))))) (λ_ _ _ _ _=>cj (by show List.Nodup (("chosen"::"0"::["readings","view"]):List Str);decide +kernel)) (λ_ _ _ _ _=>mx) (λ_ _ _ _ _=>(Ad (F7 a) b (Ja (Ad (IY a) b (Ja (ga 2) (Va (ga 0)))) (Ja (ga 0) (Va (Ce (yC a) (ga 3)))))))))
  (Yc (wS (x:="told") (M':=[]) (ix:=[]) (t:=kG K) (k:=0) (b.mono (by decide)) ⟨rfl,rfl,rfl,rfl,rfl,rfl⟩ rfl ⟨(xS K),λd c=>a.TC _ (xS K) d c,rfl,a.tb.hd _ (by decide),rfl,rfl,rfl,a.oP,a.tb.bb⟩ rfl a.sr rfl rfl rfl (λ_ _ _ _ _=>rfl) (Va (ga 2)) (λ_ _ _ _ _ b=>(Db (ga 0) Fa))))))))
abbrev BX:Stmt:=dc 76
def iV:Ev->M Fl:=
 (Tc (ya Ma (Xc 1 Jj [] (ia (ba 0) Ha)) (eC (.int 0))))
def ri:List D->M D:=Cb λa=>jc (Md 1 iV a)
theorem T6:wa ["view"] ["view"] (Pc BX):=Be
theorem eQ(a:md K mg ca):Le ⟨K,ca,tx K⟩ P w mg base 8 "worth" ["view"] ri:=
 Ig a.ri T6 λb=>
  (Yc (Db (Ad (zut a) b (Va (ga 0))) Fa))
abbrev D3:Stmt:=dc 82
def jT:Ev->M Fl:=
 (ub (Ue (eT (ya se (ya Ma (ba 1) (eC (.int 0))) (eC (.str "held")))) (Tc (Cd (Nc [4,5,6,7] "may") (ba 0))) vf) Kr)
def Mf:List D->M D:=Cb λa=>jc (Md 2 jT a)
theorem Œ:wa ["account","claim"] ["account","claim"] (Pc D3):=Be
theorem F9(a:md K mg ca):Le ⟨K,ca,tx K⟩ P w mg base 1 "stands_told" ["account","claim"] Mf:=
 Ig a.Mf Œ λb=>
  (Yb (gf (je (Sg (Sd b)) pf (Db (ga 1) Fa) Vd (be _)) (Yc (Ce (zB a) (ga 0))) Af)
  js)
abbrev T1:Stmt:=lh (dc 60) 0
def DP:Ev->M Fl:=
 (ub (Rn [8,9] "every" (ba 1) (ba 0)) (ub (Rn [8,9] "last_look" (ba 2) (ba 0)) (ub (Rn [8,9] "known" (ki (Xh Fs (ia (ba 3) Ha))) (ba 0)) (Rn [8] "pots" (ki (Xm (Dp (vj (ba 4))) [] (Lf 0) Fq (ee (ia (ya Ma (ba 0) (eC (.int 0))) (ia (ki (Xh Fs (ia (ya Ma (ba 0) (eC (.int 1))) Ha))) (ia (Xh VA (ia (ya Ma (ba 0) (eC (.int 2))) Ha)) Ha)))))) (ba 0)))))
def Cs:List D->M D:=Cb (Md 5 DP)
theorem N4:wa ["self","every","look","words","pots"] ["self","every","look","words","pots"] (Pc T1):=Be
theorem V0(a:md K mg ca):yi ⟨K,ca,tx K⟩ P w mg base 1 (ca 19) ["self","every","look","words","pots"] Cs:=
 qx a.Cs N4 λb=>
  (Yb (Yp rfl (yC a) (ga 0) (ga 1))
  (Yb (Yp rfl (kB a) (ga 0) (ga 2))
  (Yb (Yp rfl (QA a) (ga 0) (Ho (Mv JG (BH rfl) rfl a.oq Zu (Va (ga 3)))))
  (Hh (Yp rfl (hV a) (ga 0) (Ho (Ku (x:="pot") (z0:="0") (M':=[]) (ix:=[]) rfl ⟨rfl,rfl,rfl,rfl,rfl,rfl⟩ (Ot (Uo rfl (ga 4))) (λ_ _ _ _ _=>cj (by show List.Nodup (("pot"::"0"::[]):List Str);decide +kernel)) (λ_ _ _ _ _=>mx) (λ_ _ _ _ _=>(pe (Ja (Db (ga 0) Fa) (Ja (Ho (Mv JG (BH rfl) rfl a.oq Zu (Va (Db (ga 0) Fa)))) (Va (Mv FV ß rfl a.Dv boot_dict (Va (Db (ga 0) Fa)))))))))))))))
abbrev j5:Stmt:=lh (dc 89) 3
def VS:Ev->M Fl:=
 (Tc (ki (Xh IA (ia (Cd (Nc [8,9] "known") (ba 0)) Ha))))
def ce:List D->M D:=Cb λa=>jc (Md 1 VS a)
theorem kZ:wa ["self"] ["self"] (Pc j5):=Be
theorem ψ(a:md K mg ca):yi ⟨K,ca,tx K⟩ P w mg base 1 (ca 23) ["self"] ce:=
 Br a.ce kZ λb=>
  (Yc (Ho (Kn (E2 rfl) (Ν rfl) rfl a.Ov L4.Ū (Va (Ce (QA a) (ga 0))))))
theorem gZ(a:md K mg ca):Bk ⟨K,ca,tx K⟩ P w mg base 1 "words" ["self"] [(9,ce)]:=(uk a.ic a.bn (ψ a) Jn)
abbrev Ť:Stmt:=lh (dc 89) 7
abbrev ZL:Ev->M Fl:=(Jp (LA yq (ba 2) (ia (ee (ia (Cd (Nc [4,5,6,7] "side") (ba 4)) (ia (Xc 2 Mf [] (ia (ba 4) (ia (ya Jl (Cd (Nc [9] "claims") (ba 0)) (ba 3)) Ha))) (ia (ya Jl (Cd (Nc [9] "seen") (ba 0)) (ba 3)) Ha)))) Ha)))
def OS:Ev->M Fl:=
 (ub (lf 2 (zz Ha)) (ub (EG (ba 1) (Lw (GH (ba 1)) (gr 2 (Ck (Lf 3) (Ck (Lf 4) Mr))) ZL)) (Tc (ki (Ut 8 5 Cs (ia (Cd (Nc [8,9] "every") (ba 0)) (ia (Cd (Nc [8,9] "last_look") (ba 0)) (ia (xg [(9,ce)] 1 "words" (ba 0) Ha) (ia (ba 2) Ha)))))))))
def Oc:List D->M D:=Cb λa=>jc (Md 5 OS a)
theorem rG:wa ["self","accounts","pots","pot","account"] ["self","accounts"] (Pc Ť):=Be
theorem k6(a:md K mg ca):yi ⟨K,ca,tx K⟩ P w mg base 3 (ca 27) ["self","accounts"] Oc:=
 Br a.Oc rG λb=>
  (Yb (Qf rG.nd (SC mm))
  (Yb (Ĩ (lC Rr rfl (zmu (ga 1)) (wy rfl (Lr (cj rG.nd) (Lr (cj rG.nd) ay))) (Hh (zq (MH Gg Di Ei dI BG (ga 2) (Va (pe (Ja (Ce (Hv a) (ga 4)) (Ja (Ad (F9 a) b (Ja (ga 4) (Va (Rt (Sd b) (Ce (KG a) (ga 0)) (ga 3) (λ_ _=>rfl))))) (Va (Rt (Sd b) (Ce (cM a) (ga 0)) (ga 3) (λ_ _=>rfl))))))))))))
  (Yc (Ho (qB (c:=8) (ps:=["self","every","look","words","pots"]) ⟨_,a.pA,a.yx,V0 a⟩ rfl (b.mono (by decide)) rfl (Ja (Ce (yC a) (ga 0)) (Ja (Ce (kB a) (ga 0)) (Ja (Pr (gZ a) b (ga 0)) (Va (ga 2))))))))))
theorem PQ(a:md K mg ca):Bk ⟨K,ca,tx K⟩ P w mg base 3 "view_by" ["self","accounts"] [(9,Oc)]:=(uk a.ic a.il (k6 a) Jn)
abbrev œ:Stmt:=lh (dc 89) 8
def fO:Ev->M Fl:=
 (Tc (xg [(9,Oc)] 2 "view_by" (ba 0) (ia (Cd (Nc [9] "accounts") (ba 0)) Ha)))
def ve:List D->M D:=Cb λa=>jc (Md 1 fO a)
theorem Ι:wa ["self"] ["self"] (Pc œ):=Be
theorem eX(a:md K mg ca):yi ⟨K,ca,tx K⟩ P w mg base 4 (ca 28) ["self"] ve:=
 Br a.ve Ι λb=>
  (Yc (fmt (PQ a) b (ga 0) (Va (Ce (Nr a) (ga 0)))))
theorem N0(a:md K mg ca):Bk ⟨K,ca,tx K⟩ P w mg base 4 "view" ["self"] [(9,ve)]:=(uk a.ic a.Co (eX a) Jn)
abbrev i5:Stmt:=lh (dc 89) 9
def YN:Ev->M Fl:=
 (Tc (Xc 1 ri [] (ia (xg [(9,ve)] 1 "view" (ba 0) Ha) Ha)))
def Gc:List D->M D:=Cb λa=>jc (Md 1 YN a)
theorem gY:wa ["self"] ["self"] (Pc i5):=Be
theorem ń(a:md K mg ca):yi ⟨K,ca,tx K⟩ P w mg base 9 (ca 29) ["self"] Gc:=
 Br a.Gc gY λb=>
  (Yc (Ad (Le.alias (eQ a) a.Fj) b (Va (Pr (N0 a) b (ga 0)))))
theorem nH(a:md K mg ca):Bk ⟨K,ca,tx K⟩ P w mg base 9 "worth" ["self"] [(9,Gc)]:=(uk a.ic a.vn (ń a) Jn)
abbrev TX:Stmt:=lh (dc 89) 11
def YU:Ev->M Fl:=
 (ub (lf 3 (Xh wC (ia (Cd (Nc [9] "accounts") (ba 0)) Ha))) (ub (Et (ba 1) (ba 3) (Cd (Nc [4,5,6,7] "pot") (ba 1))) (Tc (ya tH (Xc 1 ri [] (ia (xg [(9,Oc)] 2 "view_by" (ba 0) (ia (ba 3) Ha)) Ha)) (ya dB (xg [(9,Gc)] 1 "worth" (ba 0) Ha) (ba 2))))))
def Fb:List D->M D:=Cb λa=>jc (Md 4 YU a)
theorem jR:wa ["self","account","allowance","accounts"] ["self","account","allowance"] (Pc TX):=Be
theorem NY(a:md K mg ca):yi ⟨K,ca,tx K⟩ P w mg base 10 (ca 31) ["self","account","allowance"] Fb:=
 Br a.Fb jR λb=>
  (Yb (Qf jR.nd (Mv FV U7 rfl a.Dv boot_dict (Va (Ce (Nr a) (ga 0)))))
  (Yb (Qu (Sd b) (ga 1) (ga 3) (Ce (Bq a) (ga 1)))
  (Yc (Bt uN YJ (Ad (Le.alias (eQ a) a.Fj) b (Va (fmt (PQ a) b (ga 0) (Va (ga 3))))) (Rg TD bF (Pr (nH a) b (ga 0)) (ga 2)) (be _)))))
theorem CK(a:md K mg ca):Bk ⟨K,ca,tx K⟩ P w mg base 10 "is_good" ["self","account","allowance"] [(9,Fb)]:=(uk a.ic a.Qk (NY a) Jn)
abbrev Ľ:Stmt:=lh (dc 89) 14
abbrev WI:Ev->M Fl:=(lf 3 (ya Ma (ba 2) (eC (.int 1))))
abbrev vI:Ev->M Fl:=(lf 4 (Cd (Nc [4,5,6,7] "side") (ya Jl (Cd (Nc [9] "accounts") (ba 0)) (ba 3))))
abbrev VI:Ev->M Fl:=(lf 5 (Xc 1 xf [] (ia (ba 2) Ha)))
abbrev TH:Ev->M Fl:=(lf 6 (Xc 2 bh [] (ia (ya Jl (Cd (Nc [9] "accounts") (ba 0)) (ba 3)) (ia (ba 1) Ha))))
abbrev TF:Ev->M Fl:=(Ue (Mn (eT (xg [(9,Fb)] 3 "is_good" (ba 0) (ia (ya Ma (ba 6) (eC (.int 0))) (ia (ba 5) Ha))))) (Tc (ee (ia (eC (.bl false)) (ia (Nh Ha) Ha)))) vf)
abbrev MF:Ev->M Fl:=(Ue (eT (ya se (ba 4) (eC (.int 0)))) (ub (Et (ya Ma (ba 6) (eC (.int 0))) (Cd (Nc [9] "accounts") (ba 0)) (ba 3)) (kI [9] "gave" (ba 5) (ba 0))) (Et (ee (ia (ba 5) (ia (ya Ma (ba 1) (eC (.int 1))) (ia (ya Ma (ba 1) (eC (.int 2))) Ha)))) (Cd (Nc [9] "asked") (ba 0)) (ba 3)))
abbrev vG:Ev->M Fl:=(Ue (eT (ya se (ya Ma (ba 2) (eC (.int 0))) (eC (.str "settle")))) (Tc (ee (ia (eC (.bl true)) (ia (Nh (ia (ee (ia (eC (.str "word")) (ia (ba 3) (ia (ya Ma (ba 2) (eC (.int 2))) Ha)))) (ia (ya Ma (ba 6) (eC (.int 1))) Ha))) Ha)))) vf)
abbrev nG:Ev->M Fl:=(Tc (ee (ia (eC (.bl true)) (ia (Nh (ia (ya Ma (ba 6) (eC (.int 1))) Ha)) Ha))))
def oH:Ev->M Fl:=
 (ub WI (ub vI (ub VI (ub TH (ub TF (ub MF (ub vG nG)))))))
def Sb:List D->M D:=Cb (Md 7 oH)
theorem kD:wa ["self","one","wish","pot","side","allowance","step"] ["self","one","wish"] (Pc Ľ):=Be
theorem gX(a:md K mg ca):yi ⟨K,ca,tx K⟩ P w mg base 13 (ca 34) ["self","one","wish"] Sb:=
 qx a.Sb kD λb=>
  (Yb (Qf kD.nd (Db (ga 2) Fa))
  (Yb (Qf kD.nd (Ce (Hv a) (Rt (Sd b) (Ce (Nr a) (ga 0)) (ga 3) (λ_ _=>rfl))))
  (Yb (Qf kD.nd (Ad (f8 a) b (Va (ga 2))))
  (Yb (Qf kD.nd (Ad (YZ a) b (Ja (Rt (Sd b) (Ce (Nr a) (ga 0)) (ga 3) (λ_ _=>rfl)) (Va (ga 1)))))
  (Yb (gf (So (Xk (fmt (CK a) b (ga 0) (Ja (Db (ga 6) Fa) (Va (ga 5)))))) (Yc (pe (Ja Xp (Va (bj mm))))) Af)
  (Yb (gf (je (Sg (Sd b)) pf (ga 4) Fa (be _)) (Yb (Qu (Sd b) (Db (ga 6) Fa) (Ce (Nr a) (ga 0)) (ga 3))
  (Hh (XS rfl (OI a) (ga 0) (ga 5)))) (Hh (Qu (Sd b) (pe (Ja (ga 5) (Ja (Db (ga 1) Fa) (Va (Db (ga 1) Fa))))) (Ce (pB a) (ga 0)) (ga 3))))
  (Yb (gf (je (Sg (Sd b)) pf (Db (ga 2) Fa) Vd (be _)) (Yc (pe (Ja Xp (Va (bj (Ja (pe (Ja Vd (Ja (ga 3) (Va (Db (ga 2) Fa))))) (Va (Db (ga 6) Fa)))))))) Af)
  (Yc (pe (Ja Xp (Va (bj (Va (Db (ga 6) Fa))))))))))))))
theorem M0(a:md K mg ca):Bk ⟨K,ca,tx K⟩ P w mg base 13 "wish_for" ["self","one","wish"] [(9,Sb)]:=(uk a.ic a.qk (gX a) Jn)
abbrev K0:Stmt:=lh (dc 89) 13
abbrev dD:Ev->M Fl:=(Ue (Mn (eT (xg [(9,pc)] 2 "holds" (ba 0) (ia (ya Ma (ba 1) (eC (.int 1))) Ha)))) Kr vf)
abbrev UE:Ev->M Fl:=(Ue (eT (ya se (ya Ma (ba 1) (eC (.int 0))) (eC (.str "finish")))) (ub (Et (eC (.bl true)) (Cd (Nc [9] "finishing") (ba 0)) (ya Ma (ba 1) (eC (.int 1)))) (Tc (ee (ia (eC (.bl true)) (ia (Nh Ha) Ha))))) vf)
abbrev uD:Ev->M Fl:=(lf 2 (ya Jl (Cd (Nc [9] "accounts") (ba 0)) (ya Ma (ba 1) (eC (.int 1)))))
abbrev gE:Ev->M Fl:=(Ue (eT (ya uh (xg [(5,Pb),(6,Wb),(7,Vb)] 1 "word" (ba 2) Ha) (eC (.str "calm")))) (Tc (ee (ia (eC (.bl false)) (ia (Nh Ha) Ha)))) vf)
abbrev sC:Ev->M Fl:=(GI (lf 3 (Xc 3 tf [] (ia (ba 2) (ia (ba 1) (ia (Cd (Nc [8,9] "known") (ba 0)) Ha))))) (⟨(jG [(1,true)]),none,(Tc (ee (ia (eC (.bl false)) (ia (Nh Ha) Ha))))⟩::[]))
abbrev fD:Ev->M Fl:=(Tc (xg [(9,Sb)] 3 "wish_for" (ba 0) (ia (ba 3) (ia (ba 1) Ha))))
def JE:Ev->M Fl:=
 (ub dD (ub UE (ub uD (ub gE (ub sC fD)))))
def db:List D->M D:=Cb (Md 4 JE)
theorem aM:wa ["self","wish","account","one"] ["self","wish"] (Pc K0):=Be
theorem đ(a:md K mg ca):yi ⟨K,ca,tx K⟩ P w mg base 14 (ca 33) ["self","wish"] db:=
 qx a.db aM λb=>
  (Yb (gf (So (Xk (fmt (DR a) b (ga 0) (Va (Db (ga 1) Fa))))) js Af)
  (Yb (gf (je (Sg (Sd b)) pf (Db (ga 1) Fa) Vd (be _)) (Yb (Qu (Sd b) Xp (Ce (SR a) (ga 0)) (Db (ga 1) Fa))
  (Yc (pe (Ja Xp (Va (bj mm)))))) Af)
  (Yb (Qf aM.nd (Rt (Sd b) (Ce (Nr a) (ga 0)) (Db (ga 1) Fa) (λ_ _=>rfl)))
  (Yb (gf (je (Lp (Sd b)) pf (Pr (vD a) b (ga 2)) Vd (be _)) (Yc (pe (Ja Xp (Va (bj mm))))) Af)
  (Yb (QQ rfl rfl (λ_ _ c=>(Hh (Qf aM.nd (Ad (g6 a) b (Ja (ga 2) (Ja (ga 1) (Va (Ce (QA a) (ga 0))))))))) (.cons rfl (by decide) (.inl a.Oh) (O5 (n3 a.Tk N3)) (λ_=>(Yc (pe (Ja Xp (Va (bj mm)))))) .nil))
  (Yc (fmt (M0 a) b (ga 0) (Ja (ga 3) (Va (ga 1))))))))))
theorem ME(a:md K mg ca):Bk ⟨K,ca,tx K⟩ P w mg base 14 "wish" ["self","wish"] [(9,db)]:=(uk a.ic a.Io (đ a) Jn)
abbrev WY:Stmt:=lh (dc 89) 16
abbrev xU:Ev->M Fl:=(GI (lf 2 (Xc 3 dh [] (ia (ya Jl (Cd (Nc [9] "accounts") (ba 0)) (ya Ma (ba 1) (eC (.int 1)))) (ia (ya Ma (ba 1) (eC (.int 2))) (ia (ya Ma (ba 1) (eC (.int 3))) Ha))))) [])
abbrev RU:Ev->M Fl:=(Ue (Mn (eT (xg [(9,Fb)] 3 "is_good" (ba 0) (ia (ya Ma (ba 2) (eC (.int 0))) (ia (eC (.int 0)) Ha))))) Kr vf)
abbrev zS:Ev->M Fl:=(Et (ya Ma (ba 2) (eC (.int 0))) (Cd (Nc [9] "accounts") (ba 0)) (ya Ma (ba 1) (eC (.int 1))))
abbrev XR:Ev->M Fl:=(Tc (Nh (ia (ya Ma (ba 2) (eC (.int 1))) Ha)))
def MU:Ev->M Fl:=
 (ub xU (ub RU (ub zS XR)))
def qd:List D->M D:=Cb (Md 3 MU)
theorem OQ:wa ["self","letter","step"] ["self","letter"] (Pc WY):=Be
theorem zat(a:md K mg ca):yi ⟨K,ca,tx K⟩ P w mg base 11 (ca 36) ["self","letter"] qd:=
 qx a.qd OQ λb=>
  (Yb (QQ rfl rfl (λ_ _ c=>(Hh (Qf OQ.nd (Ad (pV a) b (Ja (Rt (Sd b) (Ce (Nr a) (ga 0)) (Db (ga 1) Fa) (λ_ _=>rfl)) (Ja (Db (ga 1) Fa) (Va (Db (ga 1) Fa)))))))) .nil)
  (Yb (gf (So (Xk (fmt (CK a) b (ga 0) (Ja (Db (ga 2) Fa) (Va Fa))))) js Af)
  (Yb (Qu (Sd b) (Db (ga 2) Fa) (Ce (Nr a) (ga 0)) (Db (ga 1) Fa))
  (Yc (bj (Va (Db (ga 2) Fa)))))))
theorem Μ(a:md K mg ca):Bk ⟨K,ca,tx K⟩ P w mg base 11 "take_ask" ["self","letter"] [(9,qd)]:=(uk a.ic a.yk (zat a) Jn)
abbrev W0:Stmt:=lh (dc 89) 17
def RK:Ev->M Fl:=
 (ub (Ue (Vl (eT (ya uh (ya Ma (ba 1) (eC (.int 0))) (eC (.str "offer")))) (eT (ya xw (ya Ma (ba 1) (eC (.int 1))) (Cd (Nc [9] "asked") (ba 0))))) (Tc (eC (.bl false))) vf) (Tc (ya se (dA (ya Ma (ya Ma (ba 1) (eC (.int 2))) (eC (.int 3))) (some (eC (.int 1))) none) (dA (ya Jl (Cd (Nc [9] "asked") (ba 0)) (ya Ma (ba 1) (eC (.int 1)))) (some (eC (.int 1))) none))))
def Hb:List D->M D:=Cb λa=>jc (Md 2 RK a)
theorem zX:wa ["self","letter"] ["self","letter"] (Pc W0):=Be
theorem č(b:md K mg ca):yi ⟨K,ca,tx K⟩ P w mg base 1 (ca 37) ["self","letter"] Hb:=
 Br b.Hb zX λa=>
  (Yb (gf (L2.PW.pt (Nm (je (Lp (Sd a)) pf (Db (ga 1) Fa) Vd (be _)) (pp (je (gO (Sd a)) xR (Db (ga 1) Fa) (Ce (pB b) (ga 0)) rfl)))) (Yc Xp) Af)
  (Yc (bo a (eF rfl (Db (Db (ga 1) Fa) Fa) (oC Fa) KC) (eF rfl (Rt (Sd a) (Ce (pB b) (ga 0)) (Db (ga 1) Fa) (λ_ _=>rfl)) (oC Fa) KC))))
theorem Ė(a:md K mg ca):Bk ⟨K,ca,tx K⟩ P w mg base 1 "is_as_asked" ["self","letter"] [(9,Hb)]:=(uk a.ic a.uj (č a) Jn)
abbrev ŀ:Stmt:=lh (dc 89) 18
abbrev mI:Ev->M Fl:=(lf 2 (ya Ma (ba 1) (eC (.int 1))))
abbrev aG:Ev->M Fl:=(lf 3 (xg [(5,Cc),(6,Ec),(7,Dc)] 2 "taken" (ya Jl (Cd (Nc [9] "accounts") (ba 0)) (ba 2)) (ia (ba 1) Ha)))
abbrev qC:Ev->M Fl:=(lf 4 (xg [(9,Hb)] 2 "is_as_asked" (ba 0) (ia (ba 1) Ha)))
abbrev lF:Ev->M Fl:=(lf 5 (dy (eT (ba 4)) (ya Ma (ya Jl (Cd (Nc [9] "asked") (ba 0)) (ba 2)) (eC (.int 0))) (eC (.int 0))))
abbrev YC:Ev->M Fl:=(Ue (Mn (eT (xg [(9,Fb)] 3 "is_good" (ba 0) (ia (ya Ma (ba 3) (eC (.int 0))) (ia (ba 5) Ha))))) Kr vf)
abbrev fE:Ev->M Fl:=(Et (ya Ma (ba 3) (eC (.int 0))) (Cd (Nc [9] "accounts") (ba 0)) (ba 2))
abbrev XC:Ev->M Fl:=(Ue (eT (ba 4)) (ub (Jp (QI bA (Cd (Nc [9] "asked") (ba 0)) (ia (ba 2) Ha))) (kI [9] "gave" (ba 5) (ba 0))) vf)
abbrev HD:Ev->M Fl:=(Tc (dy (eT (ya Wp (ya Ma (ba 3) (eC (.int 1))) (eC .Rb))) (Nh Ha) (Nh (ia (ya Ma (ba 3) (eC (.int 1))) Ha))))
def HI:Ev->M Fl:=
 (ub mI (ub aG (Zx [(7,5),(5,7),(5,6)] [5] (ya Ma (ba 3) (eC (.int 0))) (ya Jl (Cd (Nc [9] "accounts") (ba 0)) (ba 2)) (Tc (Nh Ha)) (ub qC (ub lF (ub YC (ub fE (ub XC HD))))))))
def Mb:List D->M D:=Cb (Md 6 HI)
theorem VC:wa ["self","letter","pot","step","as_asked","allowance"] ["self","letter"] (Pc ŀ):=Be
theorem SX(a:md K mg ca):yi ⟨K,ca,tx K⟩ P w mg base 12 (ca 38) ["self","letter"] Mb:=
 qx a.Mb VC λb=>
  (Yb (Qf VC.nd (Db (ga 1) Fa))
  (Yb (Qf VC.nd (fmt (lP a) b (Rt (Sd b) (Ce (Nr a) (ga 0)) (ga 2) (λ_ _=>rfl)) (Va (ga 1))))
  (yY (Sd b) (RJ a.xm a.jl a.Pm a.Ym (RJ a.jl a.xm a.Em a.ln (RJ a.jl a.jr a.Jm a.cn HX))) (l5 a.jl G9) rfl (Db (ga 3) Fa) (Rt (Sd b) (Ce (Nr a) (ga 0)) (ga 2) (λ_ _=>rfl)) (Yc (bj mm))
  (Yb (Qf VC.nd (fmt (Ė a) b (ga 0) (Va (ga 1))))
  (Yb (Qf VC.nd (xC (Xk (ga 4)) (Db (Rt (Sd b) (Ce (pB a) (ga 0)) (ga 2) (λ_ _=>rfl)) Fa) Fa))
  (Yb (gf (So (Xk (fmt (CK a) b (ga 0) (Ja (Db (ga 3) Fa) (Va (ga 5)))))) js Af)
  (Yb (Qu (Sd b) (Db (ga 3) Fa) (Ce (Nr a) (ga 0)) (ga 2))
  (Yb (gf (Xk (ga 4)) (Yb (zq (KQ Fg Vq PySem.F.type_dict_pop j6 ý (Ce (pB a) (ga 0)) (Va (ga 2))))
  (Hh (XS rfl (OI a) (ga 0) (ga 5)))) Af)
  (Yc (xC (je Tz rA (Db (ga 3) Fa) On (be _)) (bj mm) (bj (Va (Db (ga 3) Fa)))))))))))))
theorem zdu(a:md K mg ca):Bk ⟨K,ca,tx K⟩ P w mg base 12 "take_step" ["self","letter"] [(9,Mb)]:=(uk a.ic a.Mj (SX a) Jn)
abbrev K7:Stmt:=lh (dc 89) 15
def aH:Ev->M Fl:=
 (ub (Ue (Mn (eT (Xc 1 gc [] (ia (ba 1) Ha)))) (Tc (Nh Ha)) vf) (ub (Ue (eT (ya se (ya Ma (ba 1) (eC (.int 0))) (eC (.str "word")))) Kr vf) (ub (Ue (Mn (eT (xg [(9,pc)] 2 "holds" (ba 0) (ia (ya Ma (ba 1) (eC (.int 1))) Ha)))) Kr vf) (ub (Ue (eT (ya se (ya Ma (ba 1) (eC (.int 0))) (eC (.str "ask")))) (Tc (xg [(9,qd)] 2 "take_ask" (ba 0) (ia (ba 1) Ha))) vf) (Tc (xg [(9,Mb)] 2 "take_step" (ba 0) (ia (ba 1) Ha)))))))
def Pa:List D->M D:=Cb (Md 2 aH)
theorem Ď:wa ["self","letter"] ["self","letter"] (Pc K7):=Be
theorem Z0(b:md K mg ca):yi ⟨K,ca,tx K⟩ P w mg base 13 (ca 35) ["self","letter"] Pa:=
 qx b.Pa Ď λa=>
  (Yb (gf (So (Xk (Ad (pH b) a (Va (ga 1))))) (Yc (bj mm)) Af)
  (Yb (gf (je (Sg (Sd a)) pf (Db (ga 1) Fa) Vd (be _)) js Af)
  (Yb (gf (So (Xk (fmt (DR b) a (ga 0) (Va (Db (ga 1) Fa))))) js Af)
  (Yb (gf (je (Sg (Sd a)) pf (Db (ga 1) Fa) Vd (be _)) (Yc (fmt (Μ b) a (ga 0) (Va (ga 1)))) Af)
  (Yc (fmt (zdu b) a (ga 0) (Va (ga 1))))))))
theorem Ew(a:md K mg ca):Bk ⟨K,ca,tx K⟩ P w mg base 13 "take" ["self","letter"] [(9,Pa)]:=(uk a.ic a.ro (Z0 a) Jn)
abbrev O3:Stmt:=lh (dc 89) 6
def YQ:Ev->M Fl:=
 (ub (Ue (eT (ya xw (ba 1) (Cd (Nc [9] "accounts") (ba 0)))) Kr vf) (Tc (ya Jl (Cd (Nc [9] "accounts") (ba 0)) (ba 1))))
def Zb:List D->M D:=Cb λa=>jc (Md 2 YQ a)
theorem ŷ:wa ["self","pot"] ["self","pot"] (Pc O3):=Be
theorem Τ(a:md K mg ca):yi ⟨K,ca,tx K⟩ P w mg base 1 (ca 26) ["self","pot"] Zb:=
 Br a.Zb ŷ λb=>
  (Yb (gf (je (gO (Sd b)) xR (ga 1) (Ce (Nr a) (ga 0)) rfl) js Af)
  (Yc (Rt (Sd b) (Ce (Nr a) (ga 0)) (ga 1) (λ_ _=>rfl))))
theorem IG(a:md K mg ca):Bk ⟨K,ca,tx K⟩ P w mg base 1 "account" ["self","pot"] [(9,Zb)]:=(uk a.ic a.Yk (Τ a) Jn)
abbrev Ÿ:Stmt:=dc 93
abbrev XH:Ev->M Fl:=(lf 4 (ee (ia (ya kh (ya Ma (ba 2) (eC (.int 0))) (eC (.int 1))) (ia (Xc 3 re [] (ia (ya Ma (ba 2) (eC (.int 1))) (ia (ya Ma (ba 3) (eC (.int 0))) (ia (Cd Ny (ya Ma (ba 3) (eC (.int 1)))) Ha)))) (ia (ya kh (ya Ma (ba 2) (eC (.int 2))) (ee (ia (ba 3) Ha))) Ha)))))
abbrev fA:Ev->M Fl:=(Ue (eT (ya se (ya Ma (ba 3) (eC (.int 0))) (ba 1))) (Jp (xg [(9,db)] 2 "wish" (ba 0) (ia (ya kh (ee (ia (eC (.str "pay")) (ia (eC (.int 0)) Ha))) (dA (ba 3) (some (eC (.int 1))) none)) Ha))) (Ue (eT (ya se (ba 1) (eC (.int 0)))) (Jp (xg [(9,Pa)] 2 "take" (ba 0) (ia (ee (ia (eC (.str "ask")) (ia (eC (.int 0)) (ia (ya Ma (ba 4) (eC (.int 1))) (ia (ya Ma (ba 4) (eC (.int 2))) Ha))))) Ha))) vf))
abbrev Qy:Ev->M Fl:=(Ue (eT (ya se (ba 1) (eC (.int 0)))) (Jp (xg [(9,Pa)] 2 "take" (ba 0) (ia (ee (ia (eC (.str "accept")) (ia (eC (.int 0)) (ia (ee (ia (eC (.str "agree")) (ia (eC (.int 0)) (ia (eC (.int 1)) (ia (ba 4) Ha))))) (ia (ee (ia (eC (.str "strike")) (ia (eC (.int 0)) (ia (eC (.int 1)) (ia (ya Ma (ba 2) (eC (.int 0))) Ha))))) Ha))))) Ha))) (ub (Jp (xg [(9,Pa)] 2 "take" (ba 0) (ia (ee (ia (eC (.str "offer")) (ia (eC (.int 0)) (ia (ee (ia (eC (.str "agree")) (ia (eC (.int 0)) (ia (eC (.int 0)) (ia (ba 4) Ha))))) Ha)))) Ha))) (Jp (xg [(9,Pa)] 2 "take" (ba 0) (ia (ee (ia (eC (.str "struck")) (ia (eC (.int 0)) (ia (ee (ia (eC (.str "strike")) (ia (eC (.int 0)) (ia (eC (.int 0)) (ia (ya Ma (ba 2) (eC (.int 0))) Ha))))) Ha)))) Ha)))))
abbrev RI:Ev->M Fl:=(Tc (Cd (Nc [4,5,6,7] "mine") (xg [(9,Zb)] 2 "account" (ba 0) (ia (eC (.int 0)) Ha))))
def hU:Ev->M Fl:=
 (ub XH (ub fA (ub Qy RI)))
def De:List D->M D:=Cb (Md 5 hU)
theorem AS:wa ["_law_keeper","_law_side","_law_one","_law_tie_here","_law_new_here"] ["_law_keeper","_law_side","_law_one","_law_tie_here"] (Pc Ÿ):=Be
theorem P4(b:md K mg ca):Le ⟨K,ca,tx K⟩ P w mg base 15 "_law_forward" ["_law_keeper","_law_side","_law_one","_law_tie_here"] De:=
 Le.Cb (uI b.De AS λ_ _ _ _ _ _ _ a=>
  (Yb (Qf AS.nd (pe (Ja (Hj (Db (ga 2) Fa) Fa) (Ja (Ad (ZD b) a (Ja (Db (ga 2) Fa) (Ja (Db (ga 3) Fa) (Va (MA CB BB (Db (ga 3) Fa)))))) (Va (Hj (Db (ga 2) Fa) (pe (Va (ga 3)))))))))
  (Yb (gf (je (Sg (Sd a)) pf (Db (ga 3) Fa) (ga 1) (be _)) (Hh (zq (fmt (ME b) a (ga 0) (Va (Hj (pe (Ja Vd (Va Fa))) (eF rfl (ga 3) (oC Fa) KC)))))) (Hh (gf (je (Sg (Sd a)) pf (ga 1) Fa (be _)) (Hh (zq (fmt (Ew b) a (ga 0) (Va (pe (Ja Vd (Ja Fa (Ja (Db (ga 4) Fa) (Va (Db (ga 4) Fa)))))))))) Af)))
  (Yb (gf (je (Sg (Sd a)) pf (ga 1) Fa (be _)) (Hh (zq (fmt (Ew b) a (ga 0) (Va (pe (Ja Vd (Ja Fa (Ja (pe (Ja Vd (Ja Fa (Ja Fa (Va (ga 4)))))) (Va (pe (Ja Vd (Ja Fa (Ja Fa (Va (Db (ga 2) Fa))))))))))))))) (Yb (zq (fmt (Ew b) a (ga 0) (Va (pe (Ja Vd (Ja Fa (Va (pe (Ja Vd (Ja Fa (Ja Fa (Va (ga 4)))))))))))))
  (Hh (zq (fmt (Ew b) a (ga 0) (Va (pe (Ja Vd (Ja Fa (Va (pe (Ja Vd (Ja Fa (Ja Fa (Va (Db (ga 2) Fa))))))))))))))))
  (Yc (Ce (Rq b) (fmt (IG b) a (ga 0) (Va Fa))))))))
abbrev cZ:Stmt:=dc 96
abbrev MC:Ev->M Fl:=(lf 3 (Xc 2 jb [] (ia (ba 0) (ia (eC (.int 8)) Ha))))
abbrev ZH:Ev->M Fl:=(lf 4 (ya Ma (Nh (ia (eC (.int 1)) (ia (ya Ma (ya Ma (ba 1) (eC (.int 1))) (ba 2)) (ia (ya kh (ya Ma (ya Ma (ba 1) (eC (.int 1))) (ba 2)) (eC (.int 1))) (ia (eC (.int 0)) (ia (ya dB (Cd Ny (eC (.int 1))) (ya zo (ya du (ba 3) (eC (.int 6))) (ya Vm (eC (.int 10)) (eC (.int 20))))) (ia (ya kh (eC (.int 1)) (ya zo (ya du (ba 3) (eC (.int 6))) (ya Vm (eC (.int 10)) (eC (.int 12))))) Ha))))))) (ya zo (ba 3) (eC (.int 6)))))
abbrev eB:Ev->M Fl:=(lf 5 (ya zo (Xc 2 jb [] (ia (ba 0) (ia (eC (.int 9)) Ha))) (eC (.int 60))))
abbrev LD:Ev->M Fl:=(Ue (cu (eT (ya uh (ya Ma (ba 1) (eC (.int 2))) (ee Ha))) (eT (ya ky (ya zo (ya du (Xc 2 jb [] (ia (ba 0) (ia (eC (.int 9)) Ha))) (eC (.int 60))) (eC (.int 3))) (eC (.int 0))))) (lf 5 (ya Ma (ya Ma (ya Ma (ba 1) (eC (.int 2))) (ya zo (ya du (Xc 2 jb [] (ia (ba 0) (ia (eC (.int 9)) Ha))) (eC (.int 180))) (Xh Hl (ia (ya Ma (ba 1) (eC (.int 2))) Ha)))) (eC (.int 2)))) vf)
abbrev OG:Ev->M Fl:=(lf 6 (ya Ma (Nh (ia (eC (.str "give")) (ia (eC (.str "pay")) (ia (eC (.str "pass")) (ia (eC (.str "settle")) (ia (eC (.str "drop")) (ia (eC (.str "finish")) (ia (eC (.str "pay")) (ia (eC (.str "settle")) Ha))))))))) (ya zo (Xc 2 jb [] (ia (ba 0) (ia (eC (.int 7)) Ha))) (eC (.int 8)))))
abbrev HG:Ev->M Fl:=(Ue (eT (ya se (ba 6) (eC (.str "give")))) (Tc (ee (ia (ba 6) (ia (eC (.int 0)) (ia (Xh Oy (ia (ba 4) (ia (ya Vm (eC (.int 10)) (eC (.int 12))) Ha))) Ha))))) vf)
abbrev PH:Ev->M Fl:=(Ue (Vl (eT (ya se (ba 6) (eC (.str "pay")))) (eT (ya se (ba 6) (eC (.str "pass"))))) (Tc (ee (ia (ba 6) (ia (eC (.int 0)) (ia (Xh Oy (ia (ba 4) (ia (ya Vm (eC (.int 10)) (eC (.int 12))) Ha))) (ia (ba 5) (ia (ya Ma (Nh (ia (eC (.int 0)) (ia (ya zo (Xc 2 jb [] (ia (ba 0) (ia (eC (.int 10)) Ha))) (ya kh (ya Vm (eC (.int 10)) (eC (.int 6))) (eC (.int 1)))) Ha))) (ya zo (ya du (ba 3) (eC (.int 6))) (eC (.int 2)))) Ha))))))) vf)
abbrev wG:Ev->M Fl:=(Ue (eT (ya se (ba 6) (eC (.str "finish")))) (Tc (ee (ia (ba 6) (ia (eC (.int 0)) Ha)))) vf)
abbrev CG:Ev->M Fl:=(Tc (ee (ia (ba 6) (ia (eC (.int 0)) (ia (ba 5) Ha)))))
def BQ:Ev->M Fl:=
 (ub MC (ub ZH (ub eB (ub LD (ub OG (ub HG (ub PH (ub wG CG))))))))
def Cg:List D->M D:=Cb λa=>jc (Md 7 BQ a)
theorem RB:wa ["_law_script","_law_one","_law_side","_law_cell","_law_amount","_law_word","_law_kind"] ["_law_script","_law_one","_law_side"] (Pc cZ):=Be
theorem à(b:md K mg ca):Le ⟨K,ca,tx K⟩ P w mg base 2 "_law_wish" ["_law_script","_law_one","_law_side"] Cg:=
 Ig b.Cg RB λa=>
  (Yb (Qf RB.nd (Ad (Nt b) a (Ja (ga 0) (Va Fa))))
  (Yb (Qf RB.nd (Db (bj (Ja Fa (Ja (Db (Db (ga 1) Fa) (ga 2)) (Ja (Hj (Db (Db (ga 1) Fa) (ga 2)) Fa) (Ja Fa (Ja (Rg TD bF (MA CB BB Fa) (Rg vq Dq (Rg Sv pv (ga 3) Fa) (Rg Ks Js Fa Fa))) (Va (Hj Fa (Rg vq Dq (Rg Sv pv (ga 3) Fa) (Rg Ks Js Fa Fa)))))))))) (Rg vq Dq (ga 3) Fa)))
  (Yb (Qf RB.nd (Rg vq Dq (Ad (Nt b) a (Ja (ga 0) (Va Fa))) Fa))
  (Yb (gf (L2.PW.pt (Iv (je (Lp (Sd a)) pf (Db (ga 1) Fa) (pe mm) (be _)) (Mw (je OA ZA (Rg vq Dq (Rg Sv pv (Ad (Nt b) a (Ja (ga 0) (Va Fa))) Fa) Fa) Fa (be _))))) (Hh (Qf RB.nd (Db (Db (Db (ga 1) Fa) (Rg vq Dq (Rg Sv pv (Ad (Nt b) a (Ja (ga 0) (Va Fa))) Fa) (Kn As (Qs rfl) rfl b.Fh qc (Va (Db (ga 1) Fa))))) Fa))) Af)
  (Yb (Qf RB.nd (Db (bj (Ja Vd (Ja Vd (Ja Vd (Ja Vd (Ja Vd (Ja Vd (Ja Vd (Va Vd))))))))) (Rg vq Dq (Ad (Nt b) a (Ja (ga 0) (Va Fa))) Fa)))
  (Yb (gf (je (Sg (Sd a)) pf (ga 6) Vd (be _)) (Yc (pe (Ja (ga 6) (Ja Fa (Va (Kn (NK rfl) wM rfl b.sr PN (Ja (ga 4) (Va (Rg Ks Js Fa Fa))))))))) Af)
  (Yb (gf (L2.PW.pt (Nm (je (Sg (Sd a)) pf (ga 6) Vd (be _)) (pp (je (Sg (Sd a)) pf (ga 6) Vd (be _))))) (Yc (pe (Ja (ga 6) (Ja Fa (Ja (Kn (NK rfl) wM rfl b.sr PN (Ja (ga 4) (Va (Rg Ks Js Fa Fa)))) (Ja (ga 5) (Va (Db (bj (Ja Fa (Va (Rg vq Dq (Ad (Nt b) a (Ja (ga 0) (Va Fa))) (Hj (Rg Ks Js Fa Fa) Fa))))) (Rg vq Dq (Rg Sv pv (ga 3) Fa) Fa))))))))) Af)
  (Yb (gf (je (Sg (Sd a)) pf (ga 6) Vd (be _)) (Yc (pe (Ja (ga 6) (Va Fa)))) Af)
  (Yc (pe (Ja (ga 6) (Ja Fa (Va (ga 5))))))))))))))
abbrev v5:Stmt:=dc 98
abbrev pG:Ev->M Fl:=(Ue (Vl (eT (ya uh (xg [(9,Gc)] 1 "worth" (ba 1) Ha) (ya Dt (eC (.int 2)) (ya Vm (eC (.int 10)) (eC (.int 12)))))) (eT (ya uh (xg [(9,db)] 2 "wish" (ba 1) (ia (ba 3) Ha)) (ee (ia (eC (.bl false)) (ia (Nh Ha) Ha)))))) (Tc (eC (.bl false))) vf)
abbrev bE:Ev->M Fl:=(lf 1 (Ut 9 5 lr (Hw [.Rb] (ia (ya Dt (eC (.int 3)) (ba 0)) (ia (eC (.int 5)) (ia (Nh (ia (ee (ia (eC (.int 0)) (ia (eC (.int 3)) (ia (ya Vm (eC (.int 10)) (eC (.int 12))) (ia (ya Vm (eC (.int 10)) (eC (.int 12))) (ia (eC (.int 20)) Ha)))))) Ha)) Ha))))))
abbrev Sz:Ev->M Fl:=(lf 2 (zz (ia (eC (.int 0)) (ia (eC (.int 0)) Ha))))
abbrev bB:Ev->M Fl:=(sM (ya Dt (eC (.int 2)) (ya Vm (eC (.int 10)) (eC (.int 12)))) (ba 2) (ba 0))
abbrev sB:Ev->M Fl:=(Ue (eT (ya se (ba 0) (eC (.int 0)))) (ub (Jp (xg [(9,Pa)] 2 "take" (ba 1) (ia (ee (ia (eC (.str "ask")) (ia (eC (.int 0)) (ia (Xh Cw (ia (ba 2) Ha)) (ia (ee Ha) Ha))))) Ha))) (Jp (xg [(9,Pa)] 2 "take" (ba 1) (ia (ee (ia (eC (.str "accept")) (ia (eC (.int 0)) (ia (ee (ia (eC (.str "agree")) (ia (eC (.int 0)) (ia (eC (.int 1)) (ia (ee (ia (eC (.int 1)) (ia (Xh Cw (ia (ba 2) Ha)) (ia (ee Ha) Ha)))) Ha))))) (ia (ee (ia (eC (.str "strike")) (ia (eC (.int 0)) (ia (eC (.int 1)) (ia (eC (.int 0)) Ha))))) Ha))))) Ha)))) (ub (Jp (xg [(9,Pa)] 2 "take" (ba 1) (ia (ee (ia (eC (.str "offer")) (ia (eC (.int 0)) (ia (ee (ia (eC (.str "agree")) (ia (eC (.int 0)) (ia (eC (.int 0)) (ia (ee (ia (eC (.int 1)) (ia (Xh Cw (ia (ba 2) Ha)) (ia (ee Ha) Ha)))) Ha))))) Ha)))) Ha))) (Jp (xg [(9,Pa)] 2 "take" (ba 1) (ia (ee (ia (eC (.str "struck")) (ia (eC (.int 0)) (ia (ee (ia (eC (.str "strike")) (ia (eC (.int 0)) (ia (eC (.int 0)) (ia (eC (.int 0)) Ha))))) Ha)))) Ha)))))
abbrev QF:Ev->M Fl:=(nu (vj (Nh (ia (ee (ia (eC (.str "give")) (ia (eC (.int 0)) (ia (ya kh (ya Vm (eC (.int 10)) (eC (.int 12))) (eC (.int 1))) Ha)))) (ia (ee (ia (eC (.str "pay")) (ia (eC (.int 0)) (ia (ya kh (ya Vm (eC (.int 10)) (eC (.int 12))) (eC (.int 1))) (ia (eC (.int 7)) (ia (eC (.int 9)) Ha)))))) Ha)))) (Lf 3) pG)
abbrev fH:Ev->M Fl:=(Tc (ya (WC false) (ya Ma (xg [(9,db)] 2 "wish" (ba 1) (ia (ee (ia (eC (.str "give")) (ia (eC (.int 0)) (ia (ya Vm (eC (.int 10)) (eC (.int 12))) Ha)))) Ha)) (eC (.int 0))) (eC (.bl true))))
def zU:Ev->M Fl:=
 (ub bE (ub Sz (ub bB (ub sB (ub QF fH)))))
def Bg:List D->M D:=Cb (Md 4 zU)
theorem lG:wa ["_law_side","_law_keeper","_law_split","_law_wish_here"] ["_law_side"] (Pc v5):=Be
theorem ņ(a:md K mg ca):Le ⟨K,ca,tx K⟩ P w mg base 15 "_law_most" ["_law_side"] Bg:=
 Le.Cb (uI a.Bg lG λ_ _ _ _ _ _ _ b=>
  (Yb (Qf lG.nd (yP (c:=9) (ps:=["self","hand","every","pots","words"]) a.pr a.Up (BO a) (.inr rfl) wR aW rfl (b.mono (by decide)) rfl (Ja (Rg aD mF Fa (ga 0)) (Ja Fa (Va (bj (Va (pe (Ja Fa (Ja Fa (Ja (Rg Ks Js Fa Fa) (Ja (Rg Ks Js Fa Fa) (Va Fa)))))))))))))
  (Yb (Qf lG.nd (SC (Ja Fa (Va Fa))))
  (Yb (ż (Rg aD mF Fa (Rg Ks Js Fa Fa)) (ga 2) (ga 0))
  (Yb (gf (je (Sg (Sd b)) pf (ga 0) Fa (be _)) (Yb (zq (fmt (Ew a) b (ga 1) (Va (pe (Ja Vd (Ja Fa (Ja (Mv ZC (FD rfl) rfl a.Pg bg (Va (ga 2))) (Va (pe mm)))))))))
  (Hh (zq (fmt (Ew a) b (ga 1) (Va (pe (Ja Vd (Ja Fa (Ja (pe (Ja Vd (Ja Fa (Ja Fa (Va (pe (Ja Fa (Ja (Mv ZC (FD rfl) rfl a.Pg bg (Va (ga 2))) (Va (pe mm)))))))))) (Va (pe (Ja Vd (Ja Fa (Ja Fa (Va Fa))))))))))))))) (Yb (zq (fmt (Ew a) b (ga 1) (Va (pe (Ja Vd (Ja Fa (Va (pe (Ja Vd (Ja Fa (Ja Fa (Va (pe (Ja Fa (Ja (Mv ZC (FD rfl) rfl a.Pg bg (Va (ga 2))) (Va (pe mm)))))))))))))))))
  (Hh (zq (fmt (Ew a) b (ga 1) (Va (pe (Ja Vd (Ja Fa (Va (pe (Ja Vd (Ja Fa (Ja Fa (Va Fa)))))))))))))))
  (Yb (qv Rr rfl (Uo rfl (bj (Ja (pe (Ja Vd (Ja Fa (Va (Hj (Rg Ks Js Fa Fa) Fa))))) (Va (pe (Ja Vd (Ja Fa (Ja (Hj (Rg Ks Js Fa Fa) Fa) (Ja Fa (Va Fa)))))))))) (cj lG.nd) (Hh (gf (L2.PW.pt (Nm (je (Lp (Sd b)) pf (Pr (nH a) b (ga 1)) (Rg aD mF Fa (Rg Ks Js Fa Fa)) (be _)) (pp (je (Lp (Sd b)) pf (fmt (ME a) b (ga 1) (Va (ga 3))) (pe (Ja Xp (Va (bj mm)))) (be _))))) (Yc Xp) Af)))
  (Yc (Bt JL pf (Db (fmt (ME a) b (ga 1) (Va (pe (Ja Vd (Ja Fa (Va (Rg Ks Js Fa Fa))))))) Fa) Xp (be _)))))))))
abbrev w6:Stmt:=lh (dc 89) 5
def bP:Ev->M Fl:=
 (Tc (Cd (Nc [9] "gave") (ba 0)))
def Fc:List D->M D:=Cb λa=>jc (Md 1 bP a)
theorem ú:wa ["self"] ["self"] (Pc w6):=Be
theorem ŗ(a:md K mg ca):yi ⟨K,ca,tx K⟩ P w mg base 1 (ca 25) ["self"] Fc:=
 Br a.Fc ú λb=>
  (Yc (Ce (OI a) (ga 0)))
theorem GC(a:md K mg ca):Bk ⟨K,ca,tx K⟩ P w mg base 1 "given" ["self"] [(9,Fc)]:=(uk a.ic a.Im (ŗ a) Jn)
abbrev R9:Stmt:=dc 97
abbrev hG:Ev->M Fl:=(Ue (eT (ya se (ba 1) (eC (.int 0)))) (Jp (xg [(9,Pa)] 2 "take" (ba 0) (ia (ee (ia (eC (.str "ask")) (ia (eC (.int 0)) (ia (ya Ma (ba 2) (eC (.int 1))) (ia (ya Ma (ba 2) (eC (.int 2))) Ha))))) Ha))) (Jp (xg [(9,Pa)] 2 "take" (ba 0) (ia (ee (ia (eC (.str "offer")) (ia (eC (.int 0)) (ia (ee (ia (eC (.str "agree")) (ia (eC (.int 0)) (ia (eC (.int 0)) (ia (ee (ia (ya kh (ya Ma (ba 2) (eC (.int 0))) (eC (.int 1))) (ia (ya Ma (ba 2) (eC (.int 1))) (ia (ya Ma (ba 2) (eC (.int 2))) Ha)))) Ha))))) Ha)))) Ha))))
abbrev MS:Ev->M Fl:=(lf 4 (xg [(9,Zb)] 2 "account" (ba 0) (ia (eC (.int 0)) Ha)))
abbrev vO:Ev->M Fl:=(lf 5 (ee (ia (Cd (Nc [4,5,6,7] "mine") (ba 4)) (ia (Cd (Nc [4,5,6,7] "may") (ba 4)) (ia (xg [(9,Fc)] 1 "given" (ba 0) Ha) (ia (xg [(9,Gc)] 1 "worth" (ba 0) Ha) Ha))))))
abbrev UV:Ev->M Fl:=(yG (xg [(9,db)] 2 "wish" (ba 0) (ia (ba 3) Ha)) (gr 2 (Ck (Lf 6) (Ck (Lf 7) Mr))))
abbrev ZS:Ev->M Fl:=(lf 8 (xg [(9,Zb)] 2 "account" (ba 0) (ia (eC (.int 0)) Ha)))
abbrev gT:Ev->M Fl:=(Ue (Vl (eT (ya uh (xg [(5,Pb),(6,Wb),(7,Vb)] 1 "word" (ba 4) Ha) (ya Ma (Nh (ia (eC (.str "offered")) (ia (eC (.str "waiting")) Ha))) (ba 1)))) (eT (ya uh (xg [(5,Pb),(6,Wb),(7,Vb)] 1 "word" (ba 8) Ha) (xg [(5,Pb),(6,Wb),(7,Vb)] 1 "word" (ba 4) Ha)))) (Tc (eC (.bl false))) vf)
abbrev XO:Ev->M Fl:=(Ue (Vl (eT (ya uh (ee (ia (Cd (Nc [4,5,6,7] "mine") (ba 8)) (ia (Cd (Nc [4,5,6,7] "may") (ba 8)) (ia (xg [(9,Fc)] 1 "given" (ba 0) Ha) (ia (xg [(9,Gc)] 1 "worth" (ba 0) Ha) Ha))))) (ba 5))) (eT (ya uh (ba 7) (Nh Ha)))) (Tc (eC (.bl false))) vf)
abbrev qR:Ev->M Fl:=(Tc (Li (Cd (dq .bool) (ba 6)) (ya se (ba 6) (ya se (ya Ma (ba 3) (eC (.int 0))) (eC (.str "finish"))))))
def rP:Ev->M Fl:=
 (ub hG (ub MS (ub vO (ub UV (ub ZS (ub gT (ub XO qR)))))))
def sf:List D->M D:=Cb (Md 9 rP)
theorem IB:wa ["_law_keeper","_law_side","_law_one","_law_wish_here","_law_account","_law_before","_law_done","_law_letters_here","_law_after"] ["_law_keeper","_law_side","_law_one","_law_wish_here"] (Pc R9):=Be
theorem ď(a:md K mg ca):Le ⟨K,ca,tx K⟩ P w mg base 15 "_law_halfway" ["_law_keeper","_law_side","_law_one","_law_wish_here"] sf:=
 Le.Cb (uI a.sf IB λ_ _ _ _ _ _ _ b=>
  (Yb (gf (je (Sg (Sd b)) pf (ga 1) Fa (be _)) (Hh (zq (fmt (Ew a) b (ga 0) (Va (pe (Ja Vd (Ja Fa (Ja (Db (ga 2) Fa) (Va (Db (ga 2) Fa)))))))))) (Hh (zq (fmt (Ew a) b (ga 0) (Va (pe (Ja Vd (Ja Fa (Va (pe (Ja Vd (Ja Fa (Ja Fa (Va (pe (Ja (Hj (Db (ga 2) Fa) Fa) (Ja (Db (ga 2) Fa) (Va (Db (ga 2) Fa)))))))))))))))))))
  (Yb (Qf IB.nd (fmt (IG a) b (ga 0) (Va Fa)))
  (Yb (Qf IB.nd (pe (Ja (Ce (Rq a) (ga 4)) (Ja (Ce (zB a) (ga 4)) (Ja (Pr (GC a) b (ga 0)) (Va (Pr (nH a) b (ga 0))))))))
  (Yb (KR (fmt (ME a) b (ga 0) (Va (ga 3))) (wy rfl (Lr (cj IB.nd) (Lr (cj IB.nd) ay))))
  (Yb (Qf IB.nd (fmt (IG a) b (ga 0) (Va Fa)))
  (Yb (gf (L2.PW.pt (Nm (je (Lp (Sd b)) pf (Pr (vD a) b (ga 4)) (Db (bj (Ja Vd (Va Vd))) (ga 1)) (be _)) (pp (je (Lp (Sd b)) pf (Pr (vD a) b (ga 8)) (Pr (vD a) b (ga 4)) (be _))))) (Yc Xp) Af)
  (Yb (gf (L2.PW.pt (Nm (je (Lp (Sd b)) pf (pe (Ja (Ce (Rq a) (ga 8)) (Ja (Ce (zB a) (ga 8)) (Ja (Pr (GC a) b (ga 0)) (Va (Pr (nH a) b (ga 0))))))) (ga 5) (be _)) (pp (je (Lp (Sd b)) pf (ga 7) (bj mm) (be _))))) (Yc Xp) Af)
  (Yc (aj (wv .bool (ga 6) rfl a.Jd rfl a.Qv boot_bool) (rn (bo b (ga 6) (bo b (Db (ga 3) Fa) Vd)))))))))))))
abbrev G8:Stmt:=dc 94
def pQ:Ev->M Fl:=
 (ub (lf 2 (ki (Xm (Dp (vj (ya Ma (ba 0) (eC (.int 2))))) [1] (Lf 0) (eT (ya se (ya Ma (ba 0) (eC (.int 2))) (ba 2))) (ba 0)))) (ub (Ue (eT (ya se (ba 2) (Nh Ha))) (Tc (eC .Rb)) vf) (Tc (ya Ma (ba 2) (eC (.int 0))))))
def Ae:List D->M D:=Cb λa=>jc (Md 3 pQ a)
theorem qP:wa ["_law_one","_law_word","_law_found"] ["_law_one","_law_word"] (Pc G8):=Be
theorem bW(b:md K mg ca):Le ⟨K,ca,tx K⟩ P w mg base 1 "_law_tie" ["_law_one","_law_word"] Ae:=
 Ig b.Ae qP λa=>
  (Yb (KJ (jJ (i:=2) qP.nd rfl (Or.inl rfl) (x:="_law_tie_here") (z0:="0") (M':=["_law_word"]) (ix:=[1]) rfl ⟨rfl,rfl,rfl,rfl,rfl,rfl⟩ (Ot (Uo rfl (Db (ga 0) Fa))) (λ_ _ _ _ _=>cj (by show List.Nodup (("_law_tie_here"::"0"::["_law_word"]):List Str);decide +kernel)) (λ_ _ _ _ _=>TB (je (Sg (Sd a)) pf (Db (ga 0) Fa) (ga 2) (be _))) (λ_ _ _ _ _=>(ga 0))))
  (Yb (gf (je (Sg (Sd a)) pf (ga 2) (bj mm) (be _)) (Yc On) Af)
  (Yc (Db (ga 2) Fa))))
abbrev rY:Stmt:=dc 95
abbrev DC:Ev->M Fl:=(lf 4 (ya Ma (ba 2) (eC (.int 0))))
abbrev aF:Ev->M Fl:=(Ue (Vl (eT (ya se (ba 4) (eC (.str "give")))) (Vl (eT (ya se (ba 4) (eC (.str "pay")))) (eT (ya se (ba 4) (eC (.str "pass")))))) (ub (Ue (Vl (eT (ya oLt (ya Ma (ba 2) (eC (.int 2))) (eC (.int 1)))) (eT (ya ky (ya Ma (ba 2) (eC (.int 2))) (ya Ma (ya Ma (ba 0) (eC (.int 1))) (ba 1))))) (Tc (eC .Rb)) vf) (ub (Ue (eT (ya se (ba 4) (eC (.str "give")))) (Tc (ee (ia (Xc 3 re [] (ia (Xc 3 re [] (ia (ya Ma (ba 0) (eC (.int 1))) (ia (ba 1) (ia (Cd Ny (ya Ma (ba 2) (eC (.int 2)))) Ha)))) (ia (ya dB (eC (.int 1)) (ba 1)) (ia (ya Ma (ba 2) (eC (.int 2))) Ha)))) (ia (ya Ma (ba 0) (eC (.int 2))) Ha)))) vf) (ub (Ue (Vl (eT (ya xy (Xc 2 Ae [] (ia (ba 0) (ia (ya Ma (ba 2) (eC (.int 3))) Ha))) (eC .Rb))) (cu (eT (ya se (ba 4) (eC (.str "pass")))) (eT (ya ky (ya Ma (ba 2) (eC (.int 4))) (eC (.int 0)))))) (Tc (eC .Rb)) vf) (Tc (ee (ia (Xc 3 re [] (ia (ya Ma (ba 0) (eC (.int 1))) (ia (ba 1) (ia (Cd Ny (ya Ma (ba 2) (eC (.int 2)))) Ha)))) (ia (ya kh (ya Ma (ba 0) (eC (.int 2))) (ee (ia (ya kh (ee (ia (ba 1) Ha)) (dA (ba 2) (some (eC (.int 2))) none)) Ha))) Ha))))))) vf)
abbrev iD:Ev->M Fl:=(lf 5 (Xc 2 Ae [] (ia (ba 0) (ia (ya Ma (ba 2) (eC (.int 2))) Ha))))
abbrev LC:Ev->M Fl:=(Ue (Vl (eT (ya Wp (ba 5) (eC .Rb))) (cu (eT (ya se (ba 4) (eC (.str "settle")))) (Vl (eT (ya se (ya Ma (ba 5) (eC (.int 0))) (ba 1))) (eT (ya (ju true) (ya Ma (ba 2) (eC (.int 2))) (ba 3)))))) (Tc (eC .Rb)) vf)
abbrev fF:Ev->M Fl:=(Ue (cu (eT (ya se (ba 4) (eC (.str "drop")))) (eT (ya uh (ya Ma (ba 5) (eC (.int 0))) (ba 1)))) (Tc (eC .Rb)) vf)
abbrev JC:Ev->M Fl:=(Tc (ee (ia (Xc 3 re [] (ia (ya Ma (ba 0) (eC (.int 1))) (ia (ba 1) (ia (ya Ma (ba 5) (eC (.int 1))) Ha)))) (ia (Xh Cw (ia (ki (Xm (Dp (vj (ya Ma (ba 0) (eC (.int 2))))) [5] (Lf 0) (eT (ya uh (ba 0) (ba 2))) (ba 0))) Ha)) Ha))))
def YE:Ev->M Fl:=
 (ub DC (ub aF (ub iD (ub LC (ub fF JC)))))
def Ye:List D->M D:=Cb λa=>jc (Md 6 YE a)
theorem ZM:wa ["_law_one","_law_side","_law_wish_here","_law_words","_law_kind","_law_tie_here"] ["_law_one","_law_side","_law_wish_here","_law_words"] (Pc rY):=Be
theorem Δ(b:md K mg ca):Le ⟨K,ca,tx K⟩ P w mg base 2 "_law_new" ["_law_one","_law_side","_law_wish_here","_law_words"] Ye:=
 Ig b.Ye ZM λa=>
  (Yb (Qf ZM.nd (Db (ga 2) Fa))
  (Yb (gf (L2.PW.pt (Nm (je (Sg (Sd a)) pf (ga 4) Vd (be _)) (Nm (je (Sg (Sd a)) pf (ga 4) Vd (be _)) (pp (je (Sg (Sd a)) pf (ga 4) Vd (be _)))))) (Yb (gf (L2.PW.pt (Nm (je sA Gz (Db (ga 2) Fa) Fa (be _)) (pp (je OA ZA (Db (ga 2) Fa) (Db (Db (ga 0) Fa) (ga 1)) (be _))))) (Yc On) Af)
  (Yb (gf (je (Sg (Sd a)) pf (ga 4) Vd (be _)) (Yc (pe (Ja (Ad (ZD b) a (Ja (Ad (ZD b) a (Ja (Db (ga 0) Fa) (Ja (ga 1) (Va (MA CB BB (Db (ga 2) Fa)))))) (Ja (Rg TD bF Fa (ga 1)) (Va (Db (ga 2) Fa))))) (Va (Db (ga 0) Fa))))) Af)
  (Yb (gf (L2.PW.pt (Nm (je IN zN (Ad (bW b) a (Ja (ga 0) (Va (Db (ga 2) Fa)))) On (be _)) (pp (L2.PW.pt (Iv (je (Sg (Sd a)) pf (ga 4) Vd (be _)) (Mw (je OA ZA (Db (ga 2) Fa) Fa (be _)))))))) (Yc On) Af)
  (Yc (pe (Ja (Ad (ZD b) a (Ja (Db (ga 0) Fa) (Ja (ga 1) (Va (MA CB BB (Db (ga 2) Fa)))))) (Va (Hj (Db (ga 0) Fa) (pe (Va (Hj (pe (Va (ga 1))) (eF rfl (ga 2) (oC Fa) KC)))))))))))) Af)
  (Yb (YK (i:=5) ZM.nd rfl (Or.inr rfl) (Ad (bW b) a (Ja (ga 0) (Va (Db (ga 2) Fa)))))
  (Yb (gf (L2.PW.pt (Nm (je Tz rA (ga 5) On (be _)) (pp (L2.PW.pt (Iv (je (Sg (Sd a)) pf (ga 4) Vd (be _)) (Mw (L2.PW.pt (Nm (je (Sg (Sd a)) pf (Db (ga 5) Fa) (ga 1) (be _)) (pp (je è (bK rfl true) (Db (ga 2) Fa) (ga 3) rfl)))))))))) (Yc On) Af)
  (Yb (gf (L2.PW.pt (Iv (je (Sg (Sd a)) pf (ga 4) Vd (be _)) (Mw (je (Lp (Sd a)) pf (Db (ga 5) Fa) (ga 1) (be _))))) (Yc On) Af)
  (Yc (pe (Ja (Ad (ZD b) a (Ja (Db (ga 0) Fa) (Ja (ga 1) (Va (Db (ga 5) Fa))))) (Va (Mv ZC (FD rfl) rfl b.Pg bg (Va (Ho (Ku (x:="_law_other") (z0:="0") (M':=["_law_tie_here"]) (ix:=[5]) rfl ⟨rfl,rfl,rfl,rfl,rfl,rfl⟩ (Ot (Uo rfl (Db (ga 0) Fa))) (λ_ _ _ _ _=>cj (by show List.Nodup (("_law_other"::"0"::["_law_tie_here"]):List Str);decide +kernel)) (λ_ _ _ _ _=>TB (je (Lp (Sd a)) pf (ga 0) (ga 2) (be _))) (λ_ _ _ _ _=>(ga 0)))))))))))))))
abbrev t8:Stmt:=dc 99
def xN:Ev->M Fl:=
 (ub (Ue (eT (ya se (ya Ma (ba 3) (eC (.int 0))) (eC (.str "finish")))) (Tc (Nh Ha)) vf) (ub (lf 4 (Nh (ia (ee (ia (eC (.str "ask")) (ia (eC (.int 0)) (ia (ya Ma (ba 2) (eC (.int 0))) (ia (ya Ma (ba 2) (eC (.int 1))) Ha))))) Ha))) (ub (Ue (eT (ya se (ba 0) (eC (.int 0)))) (lf 4 (Nh (ia (ee (ia (eC (.str "offer")) (ia (eC (.int 0)) (ia (ee (ia (eC (.str "agree")) (ia (eC (.int 0)) (ia (eC (.int 0)) (ia (ee (ia (ya kh (ya Ma (ba 1) (eC (.int 0))) (eC (.int 1))) (ia (ya Ma (ba 2) (eC (.int 0))) (ia (ya Ma (ba 2) (eC (.int 1))) Ha)))) Ha))))) Ha)))) Ha))) vf) (ub (Ue (eT (ya se (ya Ma (ba 3) (eC (.int 0))) (eC (.str "settle")))) (lf 4 (ya kh (Nh (ia (ee (ia (eC (.str "word")) (ia (eC (.int 0)) (ia (ya Ma (ba 3) (eC (.int 2))) Ha)))) Ha)) (ba 4))) vf) (Tc (ba 4))))))
def de:List D->M D:=Cb λa=>jc (Md 5 xN a)
theorem gH:wa ["_law_side","_law_one","_law_new_here","_law_wish_here","_law_letters_here"] ["_law_side","_law_one","_law_new_here","_law_wish_here"] (Pc t8):=Be
theorem Ű(b:md K mg ca):Le ⟨K,ca,tx K⟩ P w mg base 1 "_law_letters" ["_law_side","_law_one","_law_new_here","_law_wish_here"] de:=
 Ig b.de gH λa=>
  (Yb (gf (je (Sg (Sd a)) pf (Db (ga 3) Fa) Vd (be _)) (Yc (bj mm)) Af)
  (Yb (Qf gH.nd (bj (Va (pe (Ja Vd (Ja Fa (Ja (Db (ga 2) Fa) (Va (Db (ga 2) Fa)))))))))
  (Yb (gf (je (Sg (Sd a)) pf (ga 0) Fa (be _)) (Hh (Qf gH.nd (bj (Va (pe (Ja Vd (Ja Fa (Va (pe (Ja Vd (Ja Fa (Ja Fa (Va (pe (Ja (Hj (Db (ga 1) Fa) Fa) (Ja (Db (ga 2) Fa) (Va (Db (ga 2) Fa)))))))))))))))))) Af)
  (Yb (gf (je (Sg (Sd a)) pf (Db (ga 3) Fa) Vd (be _)) (Hh (Qf gH.nd (Hj (bj (Va (pe (Ja Vd (Ja Fa (Va (Db (ga 3) Fa))))))) (ga 4)))) Af)
  (Yc (ga 4))))))
abbrev V1:Stmt:=dc 100
abbrev zE:Ev->M Fl:=(ub (lf 7 (Xc 2 jb [] (ia (ba 0) (ia (ya kh (eC (.int 4)) (ba 6)) Ha)))) (ub (lf 8 (ya zo (ba 7) (eC (.int 2)))) (Ue (eT (ya ky (ya Ma (ya Ma (ba 5) (eC (.int 1))) (ba 8)) (eC (.int 0)))) (ub (lf 9 (ya kh (eC (.int 1)) (ya zo (ya du (ba 7) (eC (.int 2))) (Xh Oy (ia (ya Ma (ya Ma (ba 5) (eC (.int 1))) (ba 8)) (ia (ya Vm (eC (.int 10)) (eC (.int 12))) Ha)))))) (lf 5 (Xc 4 De [] (ia (ba 4) (ia (ba 1) (ia (ba 5) (ia (ee (ia (ba 8) (ia (ba 9) (ia (ya zo (ya kh (ya du (ba 7) (eC (.int 4))) (ya Dt (eC (.int 7)) (ba 6))) (eC (.int 60))) (ia (ya zo (ya du (ba 7) (eC (.int 240))) (eC (.int 1000))) Ha))))) Ha))))))) vf)))
abbrev u1:Ev->M Fl:=(lf 1 (ya zo (Xc 2 jb [] (ia (ba 0) (ia (eC (.int 0)) Ha))) (eC (.int 2))))
abbrev u2:Ev->M Fl:=(lf 2 (ee (ia (ya zo (Xc 2 jb [] (ia (ba 0) (ia (eC (.int 1)) Ha))) (ya kh (ya Vm (eC (.int 10)) (eC (.int 12))) (eC (.int 1)))) (ia (ya zo (Xc 2 jb [] (ia (ba 0) (ia (eC (.int 2)) Ha))) (ya kh (ya Vm (eC (.int 10)) (eC (.int 12))) (eC (.int 1)))) Ha))))
abbrev u3:Ev->M Fl:=(lf 3 (ki (Xm (Dp (Fy (eC (.int 60)))) [0] (Lf 0) (eT (ya se (ya NG (ya dF (Xc 2 jb [] (ia (ba 2) (ia (eC (.int 3)) Ha))) (ba 0)) (eC (.int 1))) (eC (.int 1)))) (ba 0))))
abbrev u4:Ev->M Fl:=(lf 4 (Ut 9 5 lr (Hw [] (ia (ya Dt (eC (.int 3)) (ba 1)) (ia (eC (.int 5)) (ia (Nh (ia (ee (ia (eC (.int 0)) (ia (eC (.int 3)) (ia (ya Ma (ba 2) (eC (.int 0))) (ia (ya Ma (ba 2) (eC (.int 1))) (ia (eC (.int 20)) Ha)))))) Ha)) (ia (ba 3) Ha)))))))
abbrev u5:Ev->M Fl:=(lf 5 (ee (ia (eC (.int 0)) (ia (ba 2) (ia (ee Ha) Ha)))))
abbrev u6:Ev->M Fl:=(nu (Fy (ya zo (ya du (Xc 2 jb [] (ia (ba 0) (ia (eC (.int 0)) Ha))) (eC (.int 2))) (eC (.int 3)))) (Lf 6) zE)
abbrev u7:Ev->M Fl:=(lf 10 (Xc 3 Cg [] (ia (ba 0) (ia (ba 5) (ia (ba 1) Ha)))))
abbrev u8:Ev->M Fl:=(Ue (eT (ya se (ya zo (ya du (Xc 2 jb [] (ia (ba 0) (ia (eC (.int 0)) Ha))) (eC (.int 24))) (eC (.int 8))) (eC (.int 3)))) (Tc (Xc 1 Bg [] (ia (ba 1) Ha))) vf)
abbrev u9:Ev->M Fl:=(Ue (eT (ya se (ya zo (ya du (Xc 2 jb [] (ia (ba 0) (ia (eC (.int 0)) Ha))) (eC (.int 6))) (eC (.int 4))) (eC (.int 1)))) (Tc (Xc 4 sf [] (ia (ba 4) (ia (ba 1) (ia (ba 5) (ia (ba 10) Ha)))))) vf)
abbrev Wz:Ev->M Fl:=(lf 11 (eC .Rb))
abbrev Xz:Ev->M Fl:=(Ue (eT (ya uh (ya Ma (ba 10) (eC (.int 0))) (eC (.str "finish")))) (lf 11 (Xc 4 Ye [] (ia (ba 5) (ia (ba 1) (ia (ba 10) (ia (ba 3) Ha)))))) vf)
abbrev Nz:Ev->M Fl:=(lf 12 (xg [(9,Fc)] 1 "given" (ba 4) Ha))
abbrev tz:Ev->M Fl:=(yG (xg [(9,db)] 2 "wish" (ba 4) (ia (ba 10) Ha)) (gr 2 (Ck (Lf 13) (Ck (Lf 14) Mr))))
abbrev cA:Ev->M Fl:=(Ue (cu (eT (ya uh (ya Ma (ba 10) (eC (.int 0))) (eC (.str "finish")))) (eT (ya Wp (ba 11) (eC .Rb)))) (Tc (Li (ya (WC false) (ba 13) (eC (.bl false))) (Li (ya se (ba 14) (Nh Ha)) (Li (ya se (Cd (Nc [4,5,6,7] "mine") (xg [(9,Zb)] 2 "account" (ba 4) (ia (eC (.int 0)) Ha))) (ba 5)) (ya se (xg [(9,Fc)] 1 "given" (ba 4) Ha) (ba 12)))))) vf)
abbrev Az:Ev->M Fl:=(Ue (cu (eT (ya se (ba 1) (eC (.int 0)))) (eT (ya (ju false) (ya Ma (ba 10) (eC (.int 0))) (ee (ia (eC (.str "give")) (ia (eC (.str "pay")) Ha)))))) (lf 12 (ya kh (ba 12) (ya Ma (ba 10) (eC (.int 2))))) vf)
abbrev iA:Ev->M Fl:=(Tc (Li (ya (WC false) (ba 13) (eC (.bl true))) (Li (ya se (ba 14) (Xc 4 de [] (ia (ba 1) (ia (ba 5) (ia (ba 11) (ia (ba 10) Ha)))))) (ya se (xg [(9,Fc)] 1 "given" (ba 4) Ha) (ba 12)))))
def Û:Ev->M Fl:=
 (ub u1 (ub u2 (ub u3 (ub u4 (ub u5 (ub u6 (ub u7 (ub u8 (ub u9 (ub Wz (ub Xz (ub Nz (ub tz (ub cA (ub Az iA)))))))))))))))
def bq:List D->M D:=Md 15 Û
theorem Pq:wa ["_law_script","_law_side","_law_coins","_law_words","_law_keeper","_law_one","_law_k","_law_cell","_law_payer","_law_amount","_law_wish_here","_law_new_here","_law_spent","_law_done","_law_letters_here"] ["_law_script"] (Pc V1):=Be
theorem é(b:md K mg ca):XJ ⟨K,ca,tx K⟩ P w mg 16 "law" ["_law_script"] bq:=
 J1 b.bq Pq λ_ _ _ _ _ _ _ _ a=>
  (Yb (Qf Pq.nd (Rg vq Dq (Ad (Nt b) a (Ja (ga 0) (Va Fa))) Fa))
  (Yb (Qf Pq.nd (pe (Ja (Rg vq Dq (Ad (Nt b) a (Ja (ga 0) (Va Fa))) (Hj (Rg Ks Js Fa Fa) Fa)) (Va (Rg vq Dq (Ad (Nt b) a (Ja (ga 0) (Va Fa))) (Hj (Rg Ks Js Fa Fa) Fa))))))
  (Yb (KJ (jJ (i:=3) Pq.nd rfl (Or.inl rfl) (x:="_law_word") (z0:="0") (M':=["_law_script"]) (ix:=[0]) rfl ⟨rfl,rfl,rfl,rfl,rfl,rfl⟩ (Ot (AN rfl b.qq Fa)) (λ_ _ _ _ _=>cj (by show List.Nodup (("_law_word"::"0"::["_law_script"]):List Str);decide +kernel)) (λ_ _ _ _ _=>TB (je (Sg (Sd a)) pf (Rg Η Ó (Rg û Z8 (Ad (Nt b) a (Ja (ga 2) (Va Fa))) (ga 0)) Fa) Fa (be _))) (λ_ _ _ _ _=>(ga 0))))
  (Yb (Qf Pq.nd (yP (c:=9) (ps:=["self","hand","every","pots","words"]) b.pr b.Up (BO b) (.inl rfl) .nil (λ_ _=>Jb.nil) rfl (a.mono (by decide)) rfl (Ja (Rg aD mF Fa (ga 1)) (Ja Fa (Ja (bj (Va (pe (Ja Fa (Ja Fa (Ja (Db (ga 2) Fa) (Ja (Db (ga 2) Fa) (Va Fa)))))))) (Va (ga 3)))))))
  (Yb (Qf Pq.nd (pe (Ja Fa (Ja (ga 2) (Va (pe mm))))))
  (Yb (qv Rr rfl (AN rfl b.qq (Rg vq Dq (Rg Sv pv (Ad (Nt b) a (Ja (ga 0) (Va Fa))) Fa) Fa)) (cj Pq.nd) (Yb (Qf Pq.nd (Ad (Nt b) a (Ja (ga 0) (Va (Hj Fa (ga 6))))))
  (Yb (Qf Pq.nd (Rg vq Dq (ga 7) Fa))
  (Hh (gf (je OA ZA (Db (Db (ga 5) Fa) (ga 8)) Fa (be _)) (Yb (Qf Pq.nd (Hj Fa (Rg vq Dq (Rg Sv pv (ga 7) Fa) (Kn (NK rfl) wM rfl b.sr PN (Ja (Db (Db (ga 5) Fa) (ga 8)) (Va (Rg Ks Js Fa Fa)))))))
  (Hh (Qf Pq.nd (Ad (P4 b) a (Ja (ga 4) (Ja (ga 1) (Ja (ga 5) (Va (pe (Ja (ga 8) (Ja (ga 9) (Ja (Rg vq Dq (Hj (Rg Sv pv (ga 7) Fa) (Rg aD mF Fa (ga 6))) Fa) (Va (Rg vq Dq (Rg Sv pv (ga 7) Fa) Fa)))))))))))))) Af)))))
  (Yb (Qf Pq.nd (Ad (à b) a (Ja (ga 0) (Ja (ga 5) (Va (ga 1))))))
  (Yb (gf (je (Sg (Sd a)) pf (Rg vq Dq (Rg Sv pv (Ad (Nt b) a (Ja (ga 0) (Va Fa))) Fa) Fa) Fa (be _)) (Yc (Ad (ņ b) a (Va (ga 1)))) Af)
  (Yb (gf (je (Sg (Sd a)) pf (Rg vq Dq (Rg Sv pv (Ad (Nt b) a (Ja (ga 0) (Va Fa))) Fa) Fa) Fa (be _)) (Yc (Ad (ď b) a (Ja (ga 4) (Ja (ga 1) (Ja (ga 5) (Va (ga 10))))))) Af)
  (Yb (Qf Pq.nd On)
  (Yb (gf (je (Lp (Sd a)) pf (Db (ga 10) Fa) Vd (be _)) (Hh (Qf Pq.nd (Ad (Δ b) a (Ja (ga 5) (Ja (ga 1) (Ja (ga 10) (Va (ga 3)))))))) Af)
  (Yb (Qf Pq.nd (Pr (GC b) a (ga 4)))
  (Yb (KR (fmt (ME b) a (ga 4) (Va (ga 10))) (wy rfl (Lr (cj Pq.nd) (Lr (cj Pq.nd) ay))))
  (Yb (gf (L2.PW.pt (Iv (je (Lp (Sd a)) pf (Db (ga 10) Fa) Vd (be _)) (Mw (je Tz rA (ga 11) On (be _))))) (Yc (aj (Bt JL pf (ga 13) Xp (be _)) (aj (bo a (ga 14) (bj mm)) (aj (bo a (Ce (Rq b) (fmt (IG b) a (ga 4) (Va Fa))) (ga 5)) (rn (bo a (Pr (GC b) a (ga 4)) (ga 12))))))) Af)
  (Yb (gf (L2.PW.pt (Iv (je (Sg (Sd a)) pf (ga 1) Fa (be _)) (Mw (je iM (bK rfl false) (Db (ga 10) Fa) (pe (Ja Vd (Va Vd))) rfl)))) (Hh (Qf Pq.nd (Hj (ga 12) (Db (ga 10) Fa)))) Af)
  (Yc (aj (Bt JL pf (ga 13) Xp (be _)) (aj (bo a (ga 14) (Ad (Ű b) a (Ja (ga 1) (Ja (ga 5) (Ja (ga 11) (Va (ga 10))))))) (rn (bo a (Pr (GC b) a (ga 4)) (ga 12)))))))))))))))))))))
end
end K42
namespace K42
open PySem L2 L4
set_option maxHeartbeats 4000000
section
variable{α:Type}{xs:List α}{σ:nb}{fi:Ev->M Bool}{fe:Ev->M D}{tg:D->Ev->Option Ev}{nx:NX}{rest:Ev}
theorem QP(O:Option D->Prop)(v a:α->D)(b:α->Option D)(p:α->Bool)(y:α->D)(w:∀ i j,i<=xs.length->nx i (σ++j)=some ((xs[i]?).map v))(z:∀ x o c,O c->tg (v x) (o::c::rest)=some (some (a x)::b x::rest)/\O (b x))
  (h:∀ x∈xs,∀ j,fi (some (a x)::b x::rest) (σ++j)=.ok (p x) (σ++j)/\(p x=true->fe (some (a x)::b x::rest) (σ++j)=.ok (y x) (σ++j))) (B:xs.length<=1000) :
  ∀ (k i:Nat) (o c:Option D) (f:List D),O c->xs.length<k+i->i<=xs.length->f.length<=i->
   Wl nx σ.length tg fi fe k i (o::c::rest) (σ++[.va f])=.ok () (σ++[.va (f++((xs.drop i).filter p).map y)]):=by
 intro k;induction k with
 |zero=>intro i o c f _ t n;omega
 |succ k r=>
  intro i o c f u t n C;unfold Wl;rw[w i _ n];cases e:xs[i]? with
  |none=>
   have l:=Kc.mp e;rw[Yr l];simp
  |some d=>
   obtain⟨l,m⟩:=la.mp e;have q:xs.drop i=d::xs.drop (i+1):=by rw[<-m];exact vg l
   obtain⟨s1,s2⟩:=h d (by rw[<-m];exact Yn l) [.va f];obtain⟨A,s⟩:=z d o c u;simp only[Vn,A];rw[Jr,wI s1,lg];by_cases g:p d=true
   ·rw[g,ja rfl,Jr,wI (s2 g),lg,Jr,II (by omega),lg,r (i+1) _ _ (f++[y d]) s (by omega) (by omega) (by simp;omega),q,Ie,ja g];simp
   ·rw[ka g,r (i+1) _ _ f s (by omega) (by omega) (by omega),q,Ie,ka g]
end
theorem ED{xs:List D}(h:wg xs=true):gi a (.ok (.ref a.length) (a++[.va xs]))=.ok (.va xs) a:=by
 have:=AR (σ:=a) (j:=[]) (j':=[]) h;simpa using this
theorem qy{e:Type}{xs:List e}{src:Ev->M ip}{s:ip}{ix:List Nat}{fi:Ev->M Bool}{fe:Ev->M D}{ρ:Ev}{σ:nb}(v y:e->D)(p:e->Bool)(m:src ρ σ=.ok s σ)(l:∀ i j,s.nx i (σ++j)=some ((xs[i]?).map v))(k:xs.length<=1000)
  (a:∀ x∈xs,∀ j,fi (some (v x)::none::(ix.map λi=>(ρ[i]?).getD none)) (σ++j)=.ok (p x) (σ++j)/\(p x=true->fe (some (v x)::none::(ix.map λi=>(ρ[i]?).getD none)) (σ++j)=.ok (y x) (σ++j))) (f:∀ x∈xs,p x=true->cl (y x)=true) :
  ki (Xm (Dp src) ix (Lf 0) fi fe) ρ σ=.ok (.va ((xs.filter p).map y)) σ:=by
 show gi σ (Pd (Pd (src ρ) xP) (lL (Lf 0) fi fe (Qw ix ρ)) σ)=_;rw[Jr,Jr,m,lg];show gi σ (Pd (Wl s.nx σ.length (Lf 0) fi fe 1001 0 (none::none::(ix.map λi=>(ρ[i]?).getD none))) _ (σ++[.va []]))=_;rw[Jr,QP (λo=>o=none) v v (λ_=>none) p y (λi j _=>l i j) (λx o q h=>by subst h;exact⟨rfl,rfl⟩) a k 1001 0 none none [] rfl (by omega) (by omega) (by simp),lg];refine Eq.trans (yc (gi σ) ?_) (ED (vu λd g=>by obtain⟨x,n,rfl⟩:=Gb.mp g;obtain⟨b,c⟩:=Jg.mp n;exact f x b c));simp
theorem Uy{c:Type}{xs:List c}{src:Ev->M ip}{s:ip}{ix:List Nat}{fe:Ev->M D}{ρ:Ev}{σ:nb}(v y:c->D)(h:src ρ σ=.ok s σ)(g:∀ i j,s.nx i (σ++j)=some ((xs[i]?).map v))(f:xs.length<=1000)
  (a:∀ x∈xs,∀ j,fe (some (v x)::none::(ix.map λi=>(ρ[i]?).getD none)) (σ++j)=.ok (y x) (σ++j)) (e:∀ x∈xs,cl (y x)=true) :
  ki (Xm (Dp src) ix (Lf 0) Fq fe) ρ σ=.ok (.va (xs.map y)) σ:=by
 have:=qy (p:=λ_=>true) v y (fi:=Fq) h g f (λd b j=>⟨rfl,λ_=>a d b j⟩) (λd b _=>e d b);rw[bi.mpr λ_ _=>rfl]at this;exact this
theorem ÿ{h:Type}{xs:List h}{e:Ev->M NX}{nx:NX}{ix:List Nat}{fe:Ev->M D}{ρ:Ev}{c:nb}(a b y:h->D)(p:e ρ c=.ok nx c)(n:∀ i j,i<=xs.length->nx i (c++j)=some ((xs[i]?).map λx=>.Ga [a x,b x]))(m:xs.length<=1000)
  (f:∀ x∈xs,∀ j,fe (some (a x)::some (b x)::(ix.map λi=>(ρ[i]?).getD none)) (c++j)=.ok (y x) (c++j)) (k:∀ x∈xs,cl (y x)=true) :
  ki (Xm e ix (gr 2 (Ck (Lf 0) (Ck (Lf 1) Mr))) Fq fe) ρ c=.ok (.va (xs.map y)) c:=by
 show gi c (Pd (e ρ) (lL _ Fq fe (Qw ix ρ)) c)=_;rw[Jr,p,lg];show gi c (Pd (Wl nx c.length _ Fq fe 1001 0 (none::none::(ix.map λi=>(ρ[i]?).getD none))) _ (c++[.va []]))=_;rw[Jr,QP (λ_=>True) (λx=>.Ga [a x,b x]) a (λx=>some (b x)) (λ_=>true) y n (λx o q _=>⟨rfl,trivial⟩) (λx g j=>⟨rfl,λ_=>f x g j⟩) m 1001 0 none none [] trivial (by omega) (by omega) (by simp),lg];refine Eq.trans (yc (gi c) ?_) (ED (vu λd l=>by obtain⟨x,g,rfl⟩:=Gb.mp l;exact k x g));have fe:List.filter (λ_=>true) xs=xs:=bi.mpr λ_ _=>rfl;simp[fe]
noncomputable def Sc:D->Bool
 | .int _=>true
 | .Rb=>true
 | .bl _=>true
 | .str _=>true
 |_=>false
noncomputable def bd(d:D)(a b:Int):Bool:=match d with
 | .int i=>decide (a<=i) && decide (i<=b)
 |_=>false
theorem t9(x:Str)(a:nb):dq .int (.str x) a=.ok (.bl false) a:=nr rfl
theorem A9(h:Sc d=true)(a:nb):ah [d] a=.ok (.bl (match d with | .int _=>true|_=>false)) a:=by
 unfold ah lV;cases d with
 |int i=>simp
 |Rb=>simp
 |bl b=>simp
 |str x=>simp[t9]
 |_=>cases h
theorem qE(h:Sc d=true)(a b:Int)(c:nb):Jc [d,.int a,.int b] c=.ok (.bl (bd d a b)) c:=by
 have w:=A9 h;unfold Jc lT;cases d with
 |int i=>cases e:decide (a<=i)<;>simp[bd,e,w]
 |Rb=>simp[bd,w]
 |bl b=>simp[bd,w]
 |str x=>simp[bd,w]
 |_=>cases h
theorem uK(a b c d e:D)(r:List D)(f:nb):Ma (.Ga (a::b::c::d::e::r)) (.int 4) f=.ok e f:=gB (Tr rfl)
@[simp] theorem yh3(f:Ev->M D)(lo b:PF)(a:Ev)(c:nb):dA f lo b a c=(f a c).bind (sN (iz lo a) (iz b a)):=nr rfl
@[simp] theorem ye0(lo a:M (Option Int))(x:D)(b:nb):sN lo a x b=(lo b).bind (DJ x a):=nr rfl
@[simp] theorem ye1(x:D)(a:M (Option Int))(lo:Option Int)(b:nb):DJ x a lo b=(a b).bind (Fx x lo):=nr rfl
@[simp] theorem zyu(b:Ev)(a:nb):iz none b a=.ok none a:=nr rfl
@[simp] theorem zyv(f:Ev->M D)(a:Ev)(b:nb):iz (some f) a b=(f a b).bind oK:=nr rfl
@[simp] theorem yc6(i:Int)(a:nb):oK (.int i) a=.ok (some i) a:=nr rfl
@[simp] theorem NH(xs:List D)(lo a:Option Int)(b:nb):Fx (.Ga xs) lo a b=.ok (.Ga (Gv xs lo a)) b:=nr rfl
@[simp] theorem EE(a:D)(r:List D)(b:nb):Ma (.va (a::r)) (.int 0) b=.ok a b:=jx (Tr rfl)
@[simp] theorem iG(a b:D)(r:List D)(c:nb):Ma (.va (a::b::r)) (.int 1) c=.ok b c:=jx (Tr rfl)
@[simp] theorem JU(a b c:D)(r:List D)(d:nb):Ma (.va (a::b::c::r)) (.int 2) d=.ok c d:=jx (Tr rfl)
@[simp] theorem YV(a b c d:D)(r:List D)(e:nb):Ma (.va (a::b::c::d::r)) (.int 3) e=.ok d e:=jx (Tr rfl)
@[simp] theorem rR(a b c d e:D)(r:List D)(f:nb):Ma (.va (a::b::c::d::e::r)) (.int 4) f=.ok e f:=jx (Tr rfl)
theorem fK(h:nx i c=some (some d))(f:b d e=some ρ1):Ur nx b a (k+1) i e c=(a ρ1 c).bind (Nw (Ur nx b a k (i+1))):=by
 rw[Ur];simp only[h,f];rfl
theorem NM(h:nx i b=some none):Ur nx d a (k+1) i c b=.ok (.nx c) b:=by
 rw[Ur];simp only[h]
@[simp] theorem R1(f:Ev->M D)(a:Ev)(b:nb):IK f a b=(f a b).bind jB:=nr rfl
@[simp] theorem Cz(b:Ev->M NX)(d:D->Ev->Option Ev)(a:Ev->M Fl)(c:Ev)(e:nb):Lw b d a c e=Pn c (wJ d a c) (b c e):=oo ..
theorem E8{xs:List D}(b:zk a x=some xs)(h:wg xs=true):gi a (Fs [x] a)=.ok (.va xs) a:=by
 have e:Fs [x] a=.ok (.ref a.length) (a++[.va xs]):=by unfold Fs;simp only[b];rfl
 rw[e];have:=AR (σ:=a) (j:=[]) (j':=[]) h;simpa using this
section
variable{σ:nb}{x:D}{xs:List D}
theorem sY(h:pi σ x=some xs):jB x σ=.ok (px x) σ:=by unfold jB;rw[h]
theorem X5(h:pi σ x=some xs)(a:xs[i]?=some d):px x i σ=some (some (.Ga [.int i,d])):=by unfold px;rw[h];simp only[a]
theorem j7(h:pi σ x=some xs):px x xs.length σ=some none:=by unfold px;rw[h];simp
end
@[simp] theorem b_0:(("accept" : Str) == "offer")=false:=by decide
@[simp] theorem b_1:(("agree" : Str) == "strike")=false:=by decide
@[simp] theorem b_2:(("agree" : Str) == "word")=false:=by decide
@[simp] theorem b_3:(("ask" : Str) == "accept")=false:=by decide
@[simp] theorem b_4:(("ask" : Str) == "offer")=false:=by decide
@[simp] theorem b_5:(("ask" : Str) == "struck")=false:=by decide
@[simp] theorem b_6:(("ask" : Str) == "word")=false:=by decide
@[simp] theorem b_7:(("drop" : Str) == "finish")=false:=by decide
@[simp] theorem b_8:(("drop" : Str) == "give")=false:=by decide
@[simp] theorem b_9:(("drop" : Str) == "pass")=false:=by decide
@[simp] theorem ywq:(("drop" : Str) == "pay")=false:=by decide
@[simp] theorem ywr:(("drop" : Str) == "settle")=false:=by decide
@[simp] theorem yws:(("finish" : Str) == "give")=false:=by decide
@[simp] theorem ywt:(("finish" : Str) == "pass")=false:=by decide
@[simp] theorem ywu:(("finish" : Str) == "pay")=false:=by decide
@[simp] theorem ywv:(("give" : Str) == "settle")=false:=by decide
@[simp] theorem yww:(("pass" : Str) == "give")=false:=by decide
@[simp] theorem ywx:(("pass" : Str) == "pay")=false:=by decide
@[simp] theorem ywy:(("pass" : Str) == "settle")=false:=by decide
@[simp] theorem ywz:(("pay" : Str) == "give")=false:=by decide
@[simp] theorem yw0:(("pay" : Str) == "pass")=false:=by decide
@[simp] theorem yw1:(("pay" : Str) == "settle")=false:=by decide
@[simp] theorem yw2:(("settle" : Str) == "drop")=false:=by decide
@[simp] theorem yw3:(("settle" : Str) == "finish")=false:=by decide
@[simp] theorem yw4:(("settle" : Str) == "give")=false:=by decide
@[simp] theorem yw5:(("settle" : Str) == "pass")=false:=by decide
@[simp] theorem yw6:(("settle" : Str) == "pay")=false:=by decide
@[simp] theorem yw7:(("strike" : Str) == "word")=false:=by decide
@[simp] theorem yw8:(("struck" : Str) == "accept")=false:=by decide
@[simp] theorem yw9:(("struck" : Str) == "offer")=false:=by decide
theorem eI{xs:List D}(h:wg xs=true)(a:nb):gi a (Fs [.va xs] a)=.ok (.va xs) a:=E8 (k9 xs) h
theorem Ht(xs:List a)(v:a->D)(i:Nat):(xs.map v)[i]?=(xs[i]?).map v:=zb ..
theorem bt(h:a<=i/\i<=b)(c:nb):Jc [.int i,.int a,.int b] c=.ok (.bl true) c:=by
 rw[qE rfl];simp[bd,h]
theorem LJ(h:s=0\/s=1)(c:nb):Eg [.int s] c=.ok (.bl true) c:=by
 have b:=bt (i:=s) (a:=0) (b:=1) (by omega) c;unfold Eg vP;simp[b]
theorem g8(h:0<=s/\s<=59)(a:nb):Rh [.int s] a=.ok (.bl true) a:=by
 have b:=bt h a;unfold Rh ZN;simp[b]
theorem wW(h:0<=s/\s<=1000000)(a:nb):Yf [.int s] a=.ok (.bl true) a:=by
 have b:=bt h a;unfold Yf tV;simp[b]
theorem iL(c:nb):Wh [.int 0] c=.ok (.bl true) c:=by
 have b:=bt (i:=0) (a:=0) (b:=2) (by omega) c;unfold Wh SV;simp[b]
theorem pK(s:Int)(a:nb):Te [.int s] a=.ok (.int (1 - s)) a:=by
 unfold Te LU;simp
structure Ti where
 (p a w y:Int)
noncomputable def Ti.D(t:Ti):L4.D:=.Ga [.int t.p,.int t.a,.int t.w,.int t.y]
structure Ti.Ok(t:Ti):Prop where
 p:t.p=0\/t.p=1
 a:1<=t.a/\t.a<=1000000000000
 w:0<=t.w/\t.w<=59
 y:0<=t.y/\t.y<=1000000
noncomputable def Qq(b:List Ti):Int:=(b.map Ti.a).sum
def Fo(n a b:Int)(ts:List Ti):D:=.Ga [.int n,.Ga [.int a,.int b],.Ga (ts.map Ti.D)]
theorem VP{t:Ti}(i:t.p=0\/t.p=1)(j:0<=t.w/\t.w<=59)(k:0<=t.y/\t.y<=1000000)(c:nb):Og [t.D] c=.ok (.bl (bd (.int t.a) 1 1000000000000)) c:=by
 have e:=LJ i c;have f:Re [.int t.a] c=.ok (.bl (bd (.int t.a) 1 1000000000000)) c:=by
  have b:=qE (d:=.int t.a) rfl 1 1000000000000 c;unfold Re JN;simp[b]
 have g:=g8 j c;have h:Ji [.int t.y] c=.ok (.bl true) c:=by
  have b:=bt k c;unfold Ji RS;simp[b]
 unfold Ti.D Og GO;generalize bd (.int t.a) 1 1000000000000=B at *;cases B<;>simp[e,f,g,h]
theorem XX{t:Ti}(h:t.Ok)(b:nb):Og [t.D] b=.ok (.bl true) b:=by
 rw[VP h.p h.w h.y];simp[bd,h.a]
theorem X7{a:List Ti}(p:∀ t∈a,t.Ok)(v:a.length<=6)(b:nb):Yg [.Ga (a.map Ti.D)] b=.ok (.bl (decide (a.map Ti.w).Nodup)) b:=by
 have k:∀ b,vj (ba 0) [some (.Ga (a.map Ti.D))] b=.ok (.seq (a.map Ti.D)) b:=λb=>by simp
 have l1:=Uy (ix:=[]) (xs:=a) (fe:=Xc 1 Og [] (ia (ba 0) Ha)) Ti.D (λ_=>.bl true) (k b) (λi _=>yc some (Ht a _ i)) (by omega) (λt h j=>by
  have:=XX (p t h) (b++j);simp[this]) (λ_ _=>by simp)
 have l2:=Uy (s:=.seq (a.map Ti.D)) (ix:=[]) (xs:=a) (fe:=ya Ma (ba 0) (eC (.int 2))) Ti.D (λt=>.int t.w) (k b) (λi _=>yc some (Ht a _ i)) (by omega) (λt h j=>by simp[Ti.D]) (λd u=>by simp);have m:a.map (λt=>D.int t.w)=(a.map Ti.w).map D.int:=by rw[pd];rfl
 rw[m]at l2;have c:=S8 (σ:=b) (f:=λ_:Ti=>true) (l:=a);rw[show a.all (λ_=>true)=true from cc.mpr λ_ _=>rfl]at c;have s1:=K6 (σ:=b) (l:=a.map Ti.w) (by simp;omega);have q:Hl [.Ga (a.map Ti.D)] b=.ok (.int (a.length:Int)) b:=by
  have:=IF (σ:=b) (a.map Ti.D);simpa using this
 have o:decide ((a.length:Int) > 6)=false:=by simp;omega
 have n:(((Nu (a.map Ti.w)).length:Int) == (a.length:Int))=decide (a.map Ti.w).Nodup:=by
  have g:=M1 (a.map Ti.w);have e:(a.map Ti.w).length=a.length:=by simp
  by_cases h:(a.map Ti.w).Nodup
  ·rw[Ia h,g.mpr h,e];simp
  ·rw[Da h];have:(Nu (a.map Ti.w)).length≠a.length:=λz=>h (g.mp (by rw[z,e]));simp;omega
 unfold Yg oU;generalize ((Nu (a.map Ti.w)).length:Int)=M,(a.length:Int)=N,a.map (λ_=>D.bl true)=r,a.map Ti.D=TT,(a.map Ti.w).map D.int=W at *;simp[l1,l2,c,s1,q,o,n,-Ss]
def Ju(a b:Int):Bool:=bd (.int a) 0 2000000000000 && bd (.int b) 0 2000000000000
theorem gG(i:0<=n/\n<=1000000)(j:∀ t∈ts,t.Ok)(h:ts.length<=6)(c:nb):yd [Fo n a b ts] c=.ok (.bl (Ju a b && decide (ts.map Ti.w).Nodup)) c:=by
 have e:=wW i c;have f:ig [.Ga [.int a,.int b]] c=.ok (.bl (Ju a b)) c:=by
  have w:=qE (d:=.int a) rfl 0 2000000000000 c;have k:=qE (d:=.int b) rfl 0 2000000000000 c;unfold ig gP Ju;generalize bd (.int a) 0 2000000000000=B at *;cases B<;>simp[w,k]
 have g:=X7 j h c;unfold Fo yd qO;generalize Ju a b=B,D.Ga (ts.map Ti.D)=TT at *;cases B<;>simp[e,f,g]
structure Rs(n a b:Int)(ts:List Ti):Prop where
 n:0<=n/\n<=1000000
 a:0<=a/\a<=2000000000000
 b:0<=b/\b<=2000000000000
 t:∀ t∈ts,t.Ok
 l:ts.length<=5
 d:(ts.map Ti.w).Nodup
theorem Kz(h:Rs n a b ts)(c:nb):yd [Fo n a b ts] c=.ok (.bl true) c:=by
 rw[gG h.n h.t (by have:=h.l;omega)];simp[Ju,bd,h.a,h.b,h.d]
theorem iy(t:Ti):cl t.D=true:=by unfold Ti.D;simp
theorem JJ(b:List Ti):wg (b.map Ti.D)=true:=vu λd a=>by obtain⟨t,_,rfl⟩:=Gb.mp a;exact iy t
theorem eR(n a b:Int)(ts:List Ti):cl (Fo n a b ts)=true:=by
 unfold Fo;simp[JJ]
theorem OY(g:0<=u/\u<=1000000000000)(h:0<=v/\v<=1000000000000)(c:nb):Yi [.int u,.int v] c=.ok (Fo 0 u v []) c:=by
 have d:=Kz (n:=0) (a:=u) (b:=v) (ts:=[]) ⟨by omega,by omega,by omega,by simp,by simp,by simp⟩ c;have e:Kh [.int 0,.Ga [.int u,.int v],.Rb] c=.ok (Fo 0 u v []) c:=by
  unfold Fo at d ⊢;simp only[Am]at d ⊢;unfold Kh eM;simp[d]
 have f:=eR 0 u v [];unfold Yi tU;simp[e,f]
theorem Ì(a b:Int)(c:nb):Pu [.Ga [.int a,.int b]] c=.ok (.int (a+b)) c:=by
 simp[Pu,Lu]
theorem IT(l:List Int)(a:nb):Pu [.va (l.map D.int)] a=.ok (.int l.sum) a:=by
 simp[Pu]
theorem UK(n a b:Int)(m:ts.length<=6)(c:nb):Lh [Fo n a b ts] c=.ok (.int (a+b+Qq ts)) c:=by
 have g:∀ c,Ma (Fo n a b ts) (.int 2) c=.ok (.Ga (ts.map Ti.D)) c:=λc=>by simp[Fo]
 have f:∀ c,Ma (Fo n a b ts) (.int 1) c=.ok (.Ga [.int a,.int b]) c:=λc=>by simp[Fo]
 have l:=Uy (s:=.seq (ts.map Ti.D)) (ix:=[]) (fe:=ya Ma (ba 0) (eC (.int 1))) (ρ:=[some (Fo n a b ts)]) (σ:=c) (src:=vj (ya Ma (ba 0) (eC (.int 2)))) Ti.D (λt=>.int t.a) (by simp[g]) (λi _=>yc some (Ht ts _ i)) (by omega) (λt h j=>by simp[Ti.D]) (λd k=>by simp);have e:ts.map (λt=>D.int t.a)=(ts.map Ti.a).map D.int:=by rw[pd];rfl
 rw[e]at l;have o:=IT (ts.map Ti.a) c;unfold Lh uV;generalize (ts.map Ti.a).map D.int=G,Fo n a b ts=S at *;simp[f,l,Ì,o,Qq,-Ss]
theorem iW(h:Rs n a b ts)(c:nb):ue [Fo n a b ts,.int (a+b+Qq ts)] c=.ok (.bl true) c:=by
 have d:=Kz h c;have e:=UK n a b (ts:=ts) (by have:=h.l;omega) c;unfold ue QO;simp[d,e]
abbrev Kv:=List (sd × D)
structure Sn where
 (n a b:Int)
 ts:List Ti
def Sn.D(s:Sn):L4.D:=Fo s.n s.a s.b s.ts
theorem Si(s:Sn):cl s.D=true:=eR ..
theorem gF(ss:List Sn):wg (ss.map Sn.D)=true:=vu λd a=>by obtain⟨s,_,rfl⟩:=Gb.mp a;exact Si s
theorem s0(s:Sn)(a:nb):Ma s.D (.int 0) a=.ok (.int s.n) a:=by unfold Sn.D Fo;simp
theorem s1(s:Sn)(c:nb):Ma s.D (.int 1) c=.ok (.Ga [.int s.a,.int s.b]) c:=by unfold Sn.D Fo;simp
theorem s2(s:Sn)(a:nb):Ma s.D (.int 2) a=.ok (.Ga (s.ts.map Ti.D)) a:=by unfold Sn.D Fo;simp
noncomputable def ow(q:Int)(s:Sn):Int:=if q=0 then s.a else s.b
theorem nI(d:q=0\/q=1)(s:Sn)(c:nb):Ma (.Ga [.int s.a,.int s.b]) (.int q) c=.ok (.int (ow q s)) c:=by
 rcases d with rfl|rfl<;>simp[ow]
structure Sn.Ok(W:Int)(s:Sn):Prop where
 st:Rs s.n s.a s.b s.ts
 w:s.a+s.b+Qq s.ts=W
def jh(q:Int)(a:List Sn):D:=.Ga [.int q,.va (a.map Sn.D),.Bc [] []]
def Sl(K:List Int)(P:List D):D:=.obj 8 ["every","last_look","known","pots"] [.int 5,.int 0,.va (K.map D.int),.va P]
theorem oO(K:List Int):wg (K.map D.int)=true:=vu λd a=>by obtain⟨s,_,rfl⟩:=Gb.mp a;rfl
theorem qL(q:Int)(a:List Sn):cl (jh q a)=true:=by unfold jh;simp[cl,gF]
theorem XZ(K:List Int)(h:wg P=true):cl (Sl K P)=true:=by unfold Sl;simp[h]
structure Lo where
 (w:Int)
 (k:Str)
 (v d:Int)
def Lo.D(l:Lo):L4.D:=.Ga [.str l.k,.int l.v,.int l.d]
structure Rd where
 (f:Int)
 (x:List Lo)
def Bl(x:List Lo):Kv:=x.map λl=>(.inl l.w,l.D)
def Rd.D(r:Rd):L4.D:=.Ga [.int r.f,.Bc ((Bl r.x).map (·.1)) ((Bl r.x).map (·.2))]
noncomputable def lk(K:List Int)(q:Int)(t:Ti):Str:=if t.p=q then (if t.y<=0 then "back" else "open")else if t.y<=0 then "gone" else if t.w∈K/\5<t.y then "sure" else "hangs"
noncomputable def lD(k:Str):Bool:=k == "sure" || k == "back"
def fa(K:List Int)(q:Int)(t:Ti):Int:=if lD (lk K q t)then t.a else 0
def Qr(K:List Int)(q:Int)(a:List Ti):Int:=(a.map (fa K q)).sum
def lo(K:List Int)(q:Int)(t:Ti):Lo:=⟨t.w,lk K q t,t.a,t.y⟩
def rd(K:List Int)(q:Int)(s:Sn):Rd:=⟨ow q s+Qr K q s.ts,s.ts.map (lo K q)⟩
theorem sP(l:Lo):cl l.D=true:=by unfold Lo.D;simp
theorem NR(x:List Lo):wg ((Bl x).map (·.2))=true:=vu λd a=>by
 unfold Bl at a;rw[pd]at a;obtain⟨l,_,rfl⟩:=Gb.mp a;exact sP l
theorem JI(r:Rd):cl r.D=true:=by unfold Rd.D;simp[cl,NR]
theorem Q7(b:List Rd):wg (b.map Rd.D)=true:=vu λd a=>by obtain⟨s,_,rfl⟩:=Gb.mp a;exact JI s
@[simp] theorem ş(b:Ev)(a:nb):Ou b a=.ok (.ref a.length) (a++[.Bc []]):=nr rfl
@[simp] theorem zmn(o:D->List D->M D)(f:Ev->M D)(b:Ev->M (List D))(a:Ev)(c:nb):QI o f b a c=(f a c).bind (nA o (b a)):=nr rfl
@[simp] theorem zvo(f b fi:Ev->M D)(a:Ev)(c:nb):Et f b fi a c=Pn a (cK a b fi) (f a c):=oo ..
@[simp] theorem zv3(b fi:Ev->M D)(d:D)(a:Ev)(c:nb):cK a b fi d c=Pn a (DM a fi d) (b a c):=oo ..
@[simp] theorem zv4(fi:Ev->M D)(d x:D)(a:Ev)(b:nb):DM a fi d x b=Pn a (mu a d x) (fi a b):=oo ..
theorem Aw(h:σ[n]?=some (.Bc kvs))(a:kvs.length<1000):mu ρ d (.ref n) (.int w) σ=.ok (.nx ρ) (σ.set n (.Bc (Gn kvs (.inl w) d))):=by
 unfold mu;simp only[aq,h];rw[ja (show kvs.length<oi from a)]
theorem jM{f:D->Option D}(a:∀ d,cl d=true->f d=some d):∀ {xs:List D},wg xs=true->En f xs=some xs
 |[],_=>rfl
 |x::xs,h=>by
  rw[wg,La]at h;rw[En,a x h.1,jM a h.2]
theorem RO(h:wg (kvs.map (·.2))=true):fz σ.length (σ++.Bc kvs::j) (m+1) (.ref σ.length)=some (.Bc (kvs.map (·.1)) (kvs.map (·.2))):=by
 have e:(σ++Ob.Bc kvs::j)[σ.length]?=some (.Bc kvs):=by simp
 unfold fz;dsimp only;rw[ka (ge _),e];dsimp only;rw[jM (λd a=>QC a) h];rfl
theorem Ń(a:nb)(m:Int)(xs:List Int):Ww a (.int m) (xs.map D.int)=some (xs.map λx=>decide (x=m)):=by
 induction xs with
 |nil=>rfl
 |cons x xs b=>
  rw[Ra,Ra,Ww,b];have:yj a 7 (.int x) (.int m)=some (decide (x=m)):=by
   simp[yj,kd,To,Zj];by_cases h:x=m<;>simp[h]
  rw[this]
theorem æ(K:List Int)(w:Int)(a:nb):EC false (.int w) (.va (K.map D.int)) a=.ok (.bl (decide (w∈K))) a:=by
 have:zk a (.va (K.map D.int))=some (K.map D.int):=rfl;unfold EC;simp only[this,Ń];have e:((K.map λx=>decide (x=w)).any id)=decide (w∈K):=by
  rw[List.any_map];by_cases h:w∈K
  ·rw[Ia h,yh];exact⟨w,h,by simp⟩
  ·rw[Da h,zm];intro x b;simp;intro z;exact h (z ▸ b)
 simp[e]
theorem Ġ(K:List Int)(q:Int)(t:Ti):lk K q t = "back"\/lk K q t = "open"\/lk K q t = "gone"\/lk K q t = "sure"\/lk K q t = "hangs":=by
 unfold lk;repeat' split
 all_goals simp
theorem Q8(K:List Int)(q:Int)(t:Ti)(a:nb):tG false ["won","sure","back"] (.str (lk K q t)) a=.ok (.bl (lD (lk K q t))) a:=by
 rcases Ġ K q t with h|h|h|h|h<;>rw[h]<;>exact nr rfl
section
variable(K:List Int)(P:List D)(σ:nb)(q:Int)(ss:List Sn)
theorem Y4(t:Ti):Ii [Sl K P,jh q ss,t.D] σ=.ok (.str (lk K q t)) σ:=by
 have d:∀ σ,Nc [8,9] "last_look" (Sl K P) σ=.ok (.int 0) σ:=λσ=>Nn (Qn rfl) rfl rfl;have n:∀ σ,Nc [8,9] "known" (Sl K P) σ=.ok (.va (K.map D.int)) σ:=λσ=>Nn (Qn rfl) rfl rfl;have o:∀ σ,Nc [8,9] "every" (Sl K P) σ=.ok (.int 5) σ:=λσ=>Nn (Qn rfl) rfl rfl;have s:∀ σ,Ma (jh q ss) (.int 0) σ=.ok (.int q) σ:=λσ=>by unfold jh;simp
 have u:∀ σ,Ma (jh q ss) (.int 2) σ=.ok (.Bc [] []) σ:=λσ=>by unfold jh;simp
 have r:∀ σ,Ma t.D (.int 0) σ=.ok (.int t.p) σ:=λσ=>by unfold Ti.D;simp
 have k:∀ σ,Ma t.D (.int 2) σ=.ok (.int t.w) σ:=λσ=>by unfold Ti.D;simp
 have e:∀ σ,Ma t.D (.int 3) σ=.ok (.int t.y) σ:=λσ=>by unfold Ti.D;simp
 have v:∀ σ,Ow (.int t.w) (.Bc [] []) σ=.ok (.bl false) σ:=λσ=>nr rfl;have g:=æ K t.w;have f:∀ σ,ke [t.D,.Bc [] []] σ=.ok (.bl false) σ:=λσ=>by
  unfold ke RV;simp[k,v]
 have x:∀ σ,jg [Sl K P,.Bc [] [],t.D] σ=.ok (.str (if t.y<=0 then "gone" else if t.w∈K/\5<t.y then "sure" else "hangs")) σ:=λσ=>by
  unfold jg NO;by_cases a:t.y<=0
  ·have c:decide ((0:Int) ≥ t.y)=true:=Ia a;simp[f,d,e,c,a]
  ·have c:decide ((0:Int) ≥ t.y)=false:=Da a;by_cases i:t.w∈K
   ·have l:decide (t.w∈K)=true:=Ia i;rw[l]at g;by_cases j:5<t.y
    ·have m:decide (5<t.y)=true:=Ia j;rw[ka a,ja ⟨i,j⟩];simp[f,d,n,o,k,e,c,g,m]
    ·have m:decide (5<t.y)=false:=Da j;rw[ka a,ka λz=>j z.2];simp[f,d,n,o,k,e,c,g,m]
   ·have l:decide (t.w∈K)=false:=Da i;rw[l]at g;rw[ka a,ka λz=>i z.1];simp[f,d,n,o,k,e,c,g]
 have A:∀ σ,Nf [Sl K P,.Bc [] [],t.D] σ=.ok (.str (if t.y<=0 then "back" else "open")) σ:=λσ=>by
  unfold Nf YP;by_cases a:t.y<=0
  ·have c:decide ((0:Int) ≥ t.y)=true:=Ia a;simp[f,d,e,c,a]
  ·have c:decide ((0:Int) ≥ t.y)=false:=Da a;simp[f,d,e,c,a]
 unfold Ii bO lk;by_cases h:t.p=q
 ·simp only[h,zg];rw[h]at r;simp[s,u,r,A]
 ·have b:(t.p == q)=false:=by simp[h]
  simp only[h,Lk];simp[s,u,r,x,b]
theorem XF(d:D)(h:∀ p∈a,p.1≠.inl w):Gn a (.inl w) d=a++[(.inl w,d)]:=by
 unfold Gn;rw[ka];intro z;obtain⟨p,b,e⟩:=yh.mp z;exact h p b (by simpa using e)
theorem DQ(S:D):∀ (ts c:List Ti) (f:Int) (s j:Option D),((c++ts).map Ti.w).Nodup->(c++ts).length<=9->∃ g h,El (Lf 5) xH (ts.map Ti.D) [some (Sl K P),some (jh q ss),some S,some (.int f),some (.ref σ.length),s,j] (σ++[.Bc (Bl (c.map (lo K q)))])=.ok (.nx [some (Sl K P),some (jh q ss),some S,some (.int (f+Qr K q ts)),some (.ref σ.length),g,h]) (σ++[.Bc (Bl ((c++ts).map (lo K q)))])
 |[],c,f,s,j,_,_=>⟨s,j,by simp[Qr]⟩
 |t::ts,c,f,s,j,hd,z=>by
  have l:=λσ=>Y4 K P σ q ss t;have J:∀ σ,Ma t.D (.int 1) σ=.ok (.int t.a) σ:=λσ=>by unfold Ti.D;simp
  have L:∀ σ,Ma t.D (.int 2) σ=.ok (.int t.w) σ:=λσ=>by unfold Ti.D;simp
  have N:∀ σ,Ma t.D (.int 3) σ=.ok (.int t.y) σ:=λσ=>by unfold Ti.D;simp
  have i:∀ p∈Bl (c.map (lo K q)),p.1≠.inl t.w:=λp u e=>by
   unfold Bl at u;rw[pd]at u;obtain⟨B,v,rfl⟩:=Gb.mp u;have e:B.w=t.w:=by simpa [lo]using e
   rw[Zc,Ra,kf]at hd;exact hd.2.2 B.w (Ic v) t.w Wa e
  have A:=λC=>Aw (ρ:=C) (σ:=σ++[.Bc (Bl (c.map (lo K q)))]) (d:=.Ga [.str (lk K q t),.int t.a,.int t.y]) (n:=σ.length) (w:=t.w) (kvs:=Bl (c.map (lo K q))) (by simp) (by unfold Bl;simp at z ⊢;omega);rw[BC,XF _ i,show Bl (c.map (lo K q))++[((.inl t.w),D.Ga [.str (lk K q t),.int t.a,.int t.y])]=Bl ((c++[t]).map (lo K q)) by simp[Bl,lo,Lo.D]]at A;have I:=Q8 K q t;have G:∀ (f:Ev->M D) (k m o r g h:Option D) (x:D) (σ:nb),Ry (λa b=>a+b) 3 f [k,m,o,some x,r,g,h] σ=Pn [k,m,o,some x,r,g,h] (yE (λa b=>a+b) 3 [k,m,o,some x,r,g,h] x) (f [k,m,o,some x,r,g,h] σ):=λf k m o r g h x σ=>LQ rfl;obtain⟨g,h,H⟩:=DQ S ts (c++[t]) (f+fa K q t) (some t.D) (some (.str (lk K q t))) (by rw[Qi];exact hd) (by rw[Qi];exact z);refine⟨g,h,?_⟩;rw[show f+Qr K q (t::ts)=f+fa K q t+Qr K q ts by simp[Qr];omega,show c++t::ts=c++[t]++ts by simp,<-H,Ra,Av];simp only[Lc,Mc];have b:xH [some (Sl K P),some (jh q ss),some S,some (.int f),some (.ref σ.length),some t.D,j] (σ++[.Bc (Bl (c.map (lo K q)))])=.ok (.nx [some (Sl K P),some (jh q ss),some S,some (.int (f+fa K q t)),some (.ref σ.length),some t.D,some (.str (lk K q t))]) (σ++[.Bc (Bl ((c++[t]).map (lo K q)))]):=by
   unfold xH fa;generalize σ++[.Bc (Bl (c.map (lo K q)))]=Y,σ++[.Bc (Bl ((c++[t]).map (lo K q)))]=Z,jh q ss=P,Sl K P=V,t.D=O,lk K q t=F at *;generalize lD F=E at *;cases E<;>simp[l,J,L,N,A,I,G]
  rw[b,lg,Ps]
theorem X8(d:q=0\/q=1){s:Sn}(b:(s.ts.map Ti.w).Nodup)(c:s.ts.length<=9):Df [Sl K P,jh q ss,s.D] σ=.ok (rd K q s).D σ:=by
 have e:∀ σ,Ma (jh q ss) (.int 0) σ=.ok (.int q) σ:=λσ=>by unfold jh;simp
 have g:=s1 s;have i:=s2 s;have k:=nI d s;obtain⟨l,n,a⟩:=DQ K P σ q ss s.D s.ts [] (ow q s) none none b c;have a:El _ _ _ _ (σ++[.Bc []])=.ok (.nx [some (Sl K P),some (jh q ss),some s.D,some (.int (rd K q s).f),some (.ref σ.length),l,n]) (σ++[.Bc (Bl (rd K q s).x)]):=a;have fz:gi σ (.ok (.Ga [.int (rd K q s).f,.ref σ.length]) (σ++[.Bc (Bl (rd K q s).x)]))=.ok (rd K q s).D σ:=by
  unfold gi;dsimp only;rw[ja (by simp)];have h:=RO (σ:=σ) (j:=[]) (m:=4) (NR (rd K q s).x);have:fz σ.length (σ++[.Bc (Bl (rd K q s).x)]) 6 (.Ga [.int (rd K q s).f,.ref σ.length])=some (rd K q s).D:=by
   unfold fz;dsimp only;unfold En;unfold En;rw[h];rfl
  rw[this]
 unfold Df XT;simp[e,g,i,k,a,fz]
end
theorem y4(h:ys.length+zs.length<=1000):mz (.ref σ.length) [.va zs] (σ++[.va ys])=.ok .Rb (σ++[.va (ys++zs)]):=by
 have e:pi (σ++[Ob.va ys]) (.va zs)=some zs:=rfl;unfold mz;simp only[oF,e];rw[ja (show _<=oi from h),BC]
abbrev Dy{b:Type}(a:List b):Prop:=(∃ s,a=[s])\/∃ s t,a=[s,t]
theorem Dy.le{a:List b}(h:Dy a):a.length<=2:=by rcases h with⟨s,rfl⟩|⟨s,t,rfl⟩<;>simp
theorem Dy.map{a:List b}(h:Dy a)(f:b->c):Dy (a.map f):=by
 rcases h with⟨s,rfl⟩|⟨s,t,rfl⟩
 ·exact .inl ⟨_,rfl⟩
 ·exact .inr ⟨_,_,rfl⟩
theorem UX{xs c:List D}(e:ba i d σ=.ok (.va xs) σ)(f:ba j d σ=.ok (.va c) σ):uH (ba i) (ba j) d σ=.ok (TL (.va xs) (.va c)) σ:=by
 have a:pi σ (.va xs)=some xs:=rfl;have b:pi σ (.va c)=some c:=rfl;unfold uH;rw[Jr,e,lg];unfold wT;rw[Jr,f,lg];unfold qN;simp only[a,b]
def Jt{c:Type}(a:c->Int):List c->c->c
 |[],b=>b
 |x::xs,b=>if a x<a b then Jt a xs x else Jt a xs b
theorem pM{f:Type}(a:f->Int):∀ (xs:List f) (b:f),∀ y∈b::xs,a (Jt a xs b)<=a y
 |[],b,y,d=>by
  have:y=b:=by simpa using d
  rw[this];exact fJ _
 |x::xs,b,y,d=>by
  unfold Jt;split
  ·next h=>
   have c:=pM a xs x;rcases Na.mp d with e|e
   ·have:=c x Wa;rw[e];omega
   ·exact c y e
  ·next h=>
   have c:=pM a xs b;rcases Na.mp d with e|e
   ·rw[e];exact c b Wa
   ·rcases Na.mp e with e|e
    ·have:=c b Wa;rw[e];omega
    ·exact c y (Za _ e)
theorem qJ{d:Type}{f:d->D}{a:d->Int}{g:Ev->M D}{rest:Ev}{e:nb}:∀ (xs:List d) (b:d),(∀ x∈xs,g (some (f x)::rest) e=.ok (.int (a x)) e)->Ax g rest (xs.map f) (f b) (a b) e=.ok (f (Jt a xs b)) e
 |[],b,_=>rfl
 |x::xs,b,h=>by
  have j:=h x Wa;have i:=λy k=>h y (Za _ k);rw[Ra];unfold Ax Jt;rw[Jr,wI j,lg];dsimp only;by_cases c:a x<a b
  ·rw[ja c,ja c];exact qJ xs x i
  ·rw[ka c,ka c];exact qJ xs b i
theorem sT{f:a->D}{key:a->Int}{rest:Ev}{xs:List a}{x:a}(h:∀ y∈x::xs,fe (some (f y)::rest) σ=.ok (.int (key y)) σ):yz fe rest [.va ((x::xs).map f)] σ=.ok (f (Jt key xs x)) σ:=by
 rw[Ra];unfold yz;dsimp only;rw[Jr,wI (h x Wa),lg];exact qJ xs x λy b=>h y (Za _ b)
@[simp] theorem zqz(d:List Nat)(b:Ev->M D)(c:Ev->M (List D))(a:Ev)(e:nb):RF d b c a e=(c a e).bind (yz b (d.map λi=>(a[i]?).getD none)):=nr rfl
def RL(a:List Rd):D:=.va [.va (a.map Rd.D)]
section
variable{q:Int}(hq:q=0\/q=1){ss:List Sn}(hs:Dy ss)(K:List Int)(σ:nb)(hd:∀ s∈ss,(s.ts.map Ti.w).Nodup/\s.ts.length<=9)
include hq hs hd
theorem zvl:Dg [Sl K [jh q ss]] σ=.ok (RL (ss.map (rd K q))) σ:=by
 have c:∀ σ,Nc [8] "pots" (Sl K [jh q ss]) σ=.ok (.va [jh q ss]) σ:=λσ=>Nn (Qn rfl) rfl rfl;have l:ki (Xm (Dp (vj (ya Ma (ba 2) (eC (.int 1))))) [0,2] (Lf 0) Fq (Xc 3 Df [] (ia (ba 2) (ia (ba 3) (ia (ba 0) Ha))))) [some (Sl K [jh q ss]),some (.ref σ.length),some (jh q ss)] (σ++[.va []])=.ok (.va ((ss.map (rd K q)).map Rd.D)) (σ++[.va []]):=by
  rw[pd];refine Uy (s:=.seq (ss.map Sn.D)) (ix:=[0,2]) Sn.D _ (by unfold jh;simp) (λi _=>yc some (Ht ss _ i)) (by have:=hs.le;omega) (λs a j=>?_) (λs _=>JI _);have r:=X8 K [jh q ss] (σ++[.va []]++j) q ss hq (hd s a).1 (hd s a).2;rw[show (Rd.D ∘ rd K q) s=(rd K q s).D from rfl];generalize σ++[Ob.va []]++j=Y,s.D=k,jh q ss=n,Sl K [jh q ss]=V,(rd K q s).D=R at *;simp[r]
 have b:=II (σ:=σ) (xs:=[]) (d:=.va ((ss.map (rd K q)).map Rd.D)) (by simp);have f:∀ m,ax yq m (.ref σ.length) (σ++[.va []])=(m (σ++[.va []])).bind (yq (.ref σ.length)):=λm=>qG (xs:=[]) (by unfold pi rj;simp);have fz:gi σ (.ok (.ref σ.length) (σ++[.va ([]++[.va ((ss.map (rd K q)).map Rd.D)])]))=.ok (RL (ss.map (rd K q))) σ:=ED (by simp only[Vx,wg,cl,Q7];rfl);have e:El (Lf 2) GP [jh q ss] [some (Sl K [jh q ss]),some (.ref σ.length),none] (σ++[.va []])=.ok (.nx [some (Sl K [jh q ss]),some (.ref σ.length),some (jh q ss)]) (σ++[.va ([]++[.va ((ss.map (rd K q)).map Rd.D)])]):=by
  generalize jh q ss=P,Sl K [jh q ss]=V,σ++[Ob.va []]=Y,σ++[Ob.va ([]++[.va ((ss.map (rd K q)).map Rd.D)])]=Z,(ss.map (rd K q)).map Rd.D=g at *;simp[f,l,b,-Ss]
 unfold Dg pT;generalize jh q ss=P,Sl K [jh q ss]=V,σ++[Ob.va ([]++[.va ((ss.map (rd K q)).map Rd.D)])]=Z,RL (ss.map (rd K q))=h at *;simp[c,e,fz]
end
section
variable{ss:List Rd}(hs:Dy ss)(σ:nb)
include hs
abbrev Rx:=Rd × Nat
def cD(p:Rx):D:=.va [.int p.2]
theorem W3:We [RL ss] σ=.ok (.va (ss.zipIdx.map cD)) σ:=by
 have u:=hs.le;have c:∀ (i:Nat) a,kh (.va []) (.va [.int i]) a=.ok (.va [.int i]) a:=λi a=>by rw[IC (by unfold oi;simp)];rfl
 have h:∀ a,Hl [.va (ss.map Rd.D)] a=.ok (.int ss.length) a:=λa=>by simp
 have l:∀ (R C b:Option D) (a:nb),ki (Xm (Dp (Fy (Xh Hl (ia (ba 2) Ha)))) [4] (Lf 0) Fq (ya kh (ba 2) (Nh (ia (ba 0) Ha)))) [R,C,some (.va (ss.map Rd.D)),b,some (.va [])] a=.ok (.va (ss.zipIdx.map cD)) a:=λR C b a=>by
  have n:uy (.int ss.length) a=.ok (.seq ((List.range ss.length).map λ(i:Nat)=>.int i)) a:=by
   rw[iK (by omega) (by omega)];rfl
  have o:Fy (Xh Hl (ia (ba 2) Ha)) [R,C,some (.va (ss.map Rd.D)),b,some (.va [])] a=.ok (.seq ((List.range ss.length).map λ(i:Nat)=>.int i)) a:=by
   generalize ss.map Rd.D=r at *;simp[h,n]
  have:=Uy (ix:=[4]) (xs:=List.range ss.length) (fe:=ya kh (ba 2) (Nh (ia (ba 0) Ha))) (λ(i:Nat)=>.int i) (λ(i:Nat)=>.va [.int i]) o (λi _=>yc some (Ht (List.range ss.length) _ i)) (by simp;omega) (λi _ j=>by
   have:=c i (a++j);simp[this]) (λi _=>by simp)
  rw[this];rcases hs with⟨s,rfl⟩|⟨s,t,rfl⟩<;>rfl
 have ex:=y4 (σ:=σ) (ys:=[]) (zs:=ss.zipIdx.map cD) (by simp;omega);have k:∀ m,ax mz m (.ref σ.length) (σ++[.va []])=(m (σ++[.va []])).bind (mz (.ref σ.length)):=λm=>qG (xs:=[]) (by unfold pi rj;simp);rw[Vx]at ex;have fz:gi σ (.ok (.ref σ.length) (σ++[.va (ss.zipIdx.map cD)]))=.ok (.va (ss.zipIdx.map cD)) σ:=ED (vu λd e=>by obtain⟨p,_,rfl⟩:=Gb.mp e;unfold cD;simp);have q:∀ R C,LH [R,C,some (.va (ss.map Rd.D)),some (.ref σ.length),some (.va [])] (σ++[.va []])=.ok (.nx [R,C,some (.va (ss.map Rd.D)),some (.ref σ.length),some (.va [])]) (σ++[.va (ss.zipIdx.map cD)]):=λR C=>by
  unfold LH;simp[k,l,ex,-Ss]
 have g:∀ R C,El (Lf 4) LH [.va []] [R,C,some (.va (ss.map Rd.D)),some (.ref σ.length),none] (σ++[.va []])=.ok (.nx [R,C,some (.va (ss.map Rd.D)),some (.ref σ.length),some (.va [])]) (σ++[.va (ss.zipIdx.map cD)]):=λR C=>by
  rw[Av];simp only[Lc,Mc];rw[q,lg,Ps,cF]
 have f:∀ R,El (Lf 2) ZV [.va (ss.map Rd.D)] [R,some (.va [.va []]),none,none,none] σ=.ok (.nx [R,some (.ref σ.length),some (.va (ss.map Rd.D)),some (.ref σ.length),some (.va [])]) (σ++[.va (ss.zipIdx.map cD)]):=λR=>by
  simp[g]
 unfold We SQ RL;simp[f,fz]
omit hs
theorem CY{p:Rx}(c:ss[p.2]?=some p.1):Fd [RL ss,cD p] σ=.ok (.va [p.1.D]) σ:=by
 have b:cl (.va [p.1.D])=true:=by simp[JI]
 have d:∀ σ,Ma (.va (ss.map Rd.D)) (.int p.2) σ=.ok (p.1.D) σ:=λσ=>jx (Tr (by rw[zb,c];rfl));have l:=ÿ (xs:=[p]) (ix:=[]) (fe:=ya Ma (ba 0) (ba 1)) (ρ:=[some (RL ss),some (cD p)]) (λ_=>.va (ss.map Rd.D)) (λx=>.int x.2) (λx=>x.1.D) (UX (i:=0) (j:=1) (σ:=σ) rfl rfl) (λi j h=>by
  match i,h with
  |0,_=>rfl
  |1,_=>rfl) (by simp) (λx a j=>by
  have a:x=p:=by simpa using a
  subst a;have:=d (σ++j);simp[this]) (λx _=>JI _)
 have l:ki _ _ σ=.ok (.va [p.1.D]) σ:=l;unfold Fd nR;simp[l,b,-Ss]
end
theorem kO(A:Kv)(a:nb):su A A.length a=some none:=by unfold su;simp
theorem Ã(h:f b a=.ok (.Bc (A.map (·.1)) (A.map (·.2))) a):PB f b a=.ok (su A) a:=by
 have z:∀ A:Kv,(A.map (·.1)).zip (A.map (·.2))=A:=λA=>by
  induction A with
  |nil=>rfl
  |cons x r c=>rw[Ra,Ra,List.zip_cons_cons,c]
 show Pd (f b) dG a=_;rw[Jr,h,lg];unfold dG;dsimp only;rw[ja (by simp),z]
theorem uW{nx:NX}{o:D->Ev->Option Ev}{h:Ev->M Fl}{N:Nat}(P:Nat->Ev->nb->Prop)(n:∀ i b a,i<N->P i b a->∃ d j e g,nx i a=some (some d)/\o d b=some j/\h j a=.ok (.nx e) g/\P (i+1) e g)(m:∀ a,nx N a=some none):∀ (k i:Nat) (b:Ev) (a:nb),N<k+i->i<=N->P i b a->∃ c f,Ur nx o h k i b a=.ok (.nx c) f/\P N c f
 |0,i,b,a,v,w,_=>by omega
 |k+1,i,b,a,v,w,l=>by
  by_cases x:i=N
  ·subst x;exact⟨b,a,NM (m a),l⟩
  ·obtain⟨d,j,e,g,p,q,r,s⟩:=n i b a (by omega) l;obtain⟨c,f,t,u⟩:=uW P n m k (i+1) e g (by omega) (by omega) s;refine⟨c,f,?_,u⟩;rw[fK p q,r,lg,Ps,t]
theorem cN{A:Kv}(h:f ρ σ=.ok (.Bc (A.map (·.1)) (A.map (·.2))) σ)(r:A.length<=1000)(P:Nat->Ev->nb->Prop)(q:∀ i k v ρ σ,A[i]?=some (k,v)->P i ρ σ->∃ a b c,tg (.Ga [jD k,v]) ρ=some a/\body a σ=.ok (.nx b) c/\P (i+1) b c)(n:P 0 ρ σ):∃ d g,Lw (PB f) tg body ρ σ=.ok (.nx d) g/\P A.length d g:=by
 rw[Cz,Ã h,Bs];refine uW P (λi ρ σ p o=>?_) (kO A) 1001 0 ρ σ (by omega) (by omega) n;have e:A[i]?=some (A[i].1,A[i].2):=la.mpr ⟨p,rfl⟩;obtain⟨a,b,c,j,l,m⟩:=q i _ _ ρ σ e o;refine⟨_,a,b,c,?_,j,l,m⟩;unfold su;simp only[e]
abbrev Gr:=List (Int × List Lo)
def gD(g:Gr):D:=.Bc (g.map λp=>.inl p.1) (g.map λp=>.va (p.2.map Lo.D))
theorem g5(b:List Lo):wg (b.map Lo.D)=true:=vu λd a=>by obtain⟨t,_,rfl⟩:=Gb.mp a;exact sP t
theorem y6(a:nb)(R rd:Option D)(w:Int)(L:D)(b:Kv)(j:nb)(n:Zp b (.inl w)=none)(o:b.length<=9):GL [R,some (.ref a.length),rd,some (.int w),some L] (a++.Bc b::j)=.ok (.nx [R,some (.ref a.length),rd,some (.int w),some L]) (a++.Bc (Gn b (.inl w) (.ref (a.length+1+j.length)))::(j++[.va [L]])):=by
 have f:∀ c,nA Pz c (.ref a.length) (a++.Bc b::j)=(c (a++.Bc b::j)).bind (Pz (.ref a.length)):=λc=>by
  have:Uj (a++.Bc b::j) (.ref a.length)=some b:=by unfold Uj;simp
  unfold nA;rw[this];rfl
 have h:Pz (.ref a.length) [.int w,.ref (a.length+1+j.length)] (a++.Bc b::(j++[.va []]))=.ok (.ref (a.length+1+j.length)) (a++.Bc (Gn b (.inl w) (.ref (a.length+1+j.length)))::(j++[.va []])):=by
  have e:(a++Ob.Bc b::(j++[.va []]))[a.length]?=some (.Bc b):=by simp
  unfold Pz;simp only[aq,e];rw[ja (by unfold oi;omega)];simp[n]
 have g:rj (a++Ob.Bc (Gn b (.inl w) (.ref (a.length+1+j.length)))::(j++[.va []])) (a.length+1+j.length)=some []:=by
  unfold rj;rw[Od (by omega),show a.length+1+j.length - a.length=j.length+1 by omega];simp
 have i:∀ c,ax yq c (.ref (a.length+1+j.length)) (a++.Bc (Gn b (.inl w) (.ref (a.length+1+j.length)))::(j++[.va []]))=(c (a++.Bc (Gn b (.inl w) (.ref (a.length+1+j.length)))::(j++[.va []]))).bind (yq (.ref (a.length+1+j.length))):=λc=>qG (xs:=[]) g;have k:yq (.ref (a.length+1+j.length)) [L] (a++.Bc (Gn b (.inl w) (.ref (a.length+1+j.length)))::(j++[.va []]))=.ok .Rb (a++.Bc (Gn b (.inl w) (.ref (a.length+1+j.length)))::(j++[.va [L]])):=by
  have:=II (σ:=a++.Bc (Gn b (.inl w) (.ref (a.length+1+j.length)))::j) (xs:=[]) (d:=L) (by simp);have e:(a++Ob.Bc (Gn b (.inl w) (.ref (a.length+1+j.length)))::j).length=a.length+1+j.length:=by simp;omega
  rw[e]at this;simpa using this
 have l:(a++Ob.Bc b::j).length=a.length+1+j.length:=by simp;omega
 have m:(a++Ob.Bc b::j)++[.va []]=a++.Bc b::(j++[.va []]):=by simp
 simp[f,h,i,k,l,m]
theorem ï(g:List (Int × Nat × List Lo))(h:∀ p∈g,σ.length<=p.2.1/\(σ++.Bc (g.map λp=>(.inl p.1,.ref p.2.1))::j)[p.2.1]?=some (.va (p.2.2.map Lo.D))):gi σ (.ok (.ref σ.length) (σ++.Bc (g.map λp=>(.inl p.1,.ref p.2.1))::j))=.ok (gD (g.map λp=>(p.1,p.2.2))) σ:=by
 have e:(σ++Ob.Bc (g.map λp=>(.inl p.1,.ref p.2.1))::j)[σ.length]?=some (.Bc (g.map λp=>(.inl p.1,.ref p.2.1))):=by simp
 have b:∀ T (q:List (Int × Nat × List Lo)),(∀ p∈q,σ.length<=p.2.1/\T[p.2.1]?=some (.va (p.2.2.map Lo.D)))->En (fz σ.length T 5) (q.map λp=>D.ref p.2.1)=some (q.map λp=>D.va (p.2.2.map Lo.D)):=λT q=>by
  induction q with
  |nil=>intro _;rfl
  |cons p q l=>
   intro a;obtain⟨m,c⟩:=a p Wa;have f:fz σ.length T 5 (.ref p.2.1)=some (.va (p.2.2.map Lo.D)):=by
    unfold fz;rw[ka (by simp)];dsimp only;rw[ka (by omega),c];dsimp only;rw[jM (λd i=>QC i) (g5 _)];rfl
   rw[Ra,En,f,l λp k=>a p (Za _ k)];rfl
 unfold gi;dsimp only;rw[ja (by simp)];have:fz σ.length (σ++.Bc (g.map λp=>(.inl p.1,.ref p.2.1))::j) 6 (.ref σ.length)=some (gD (g.map λp=>(p.1,p.2.2))):=by
  unfold fz;dsimp only;rw[ka (ge _),e];dsimp only;rw[show (g.map λp=>((Sum.inl p.1:sd),D.ref p.2.1)).map (λx=>x.2)=g.map (λp=>D.ref p.2.1) by rw[pd];rfl,b _ g h];unfold gD;rw[pd,pd,pd];rfl
 rw[this]
noncomputable def gx:Nat->List Lo->List (Int × Nat × List Lo)
 |_,[]=>[]
 |n,l::a=>(l.w,n,[l])::gx (n+1) a
theorem yO:∀ (n:Nat) (a:List Lo) (l:Lo),gx n (a++[l])=gx n a++[(l.w,n+a.length,[l])]
 |n,[],l=>rfl
 |n,b::a,l=>by
  show (b.w,n,[b])::gx (n+1) (a++[l])=_;rw[yO (n+1) a l,show n+(b::a).length=n+1+a.length by simp;omega];rfl
theorem HK:∀ (n:Nat) (a:List Lo) {p:Int × Nat × List Lo},p∈gx n a->∃ i l,a[i]?=some l/\p=(l.w,n+i,[l])
 |n,[],p,h=>by simp[gx]at h
 |n,b::a,p,h=>by
  rcases Na.mp h with rfl|h
  ·exact⟨0,b,rfl,rfl⟩
  ·obtain⟨i,l,c,d⟩:=HK (n+1) a h;exact⟨i+1,l,c,by rw[d,show n+(i+1)=n+1+i by omega]⟩
theorem fW:∀ (n:Nat) (a:List Lo),(gx n a).map (λp=>(p.1,p.2.2))=a.map λl=>(l.w,[l])
 |n,[]=>rfl
 |n,b::a=>by
  show (b.w,[b])::(gx (n+1) a).map _=_;rw[fW (n+1) a];rfl
theorem zW:∀ (n:Nat) (a:List Lo),(gx n a).length=a.length
 |n,[]=>rfl
 |n,b::a=>yc (·+ 1) (zW (n+1) a)
noncomputable def Vt(x:List Lo):Gr:=x.map λl=>(l.w,[l])
structure Rd.Ok(r:Rd):Prop where
 d:(r.x.map Lo.w).Nodup
 l:r.x.length<=9
 v:∀ l∈r.x,0<=l.v
theorem DY(h:∀ p∈a,p.1≠.inl w):Zp a (.inl w)=none:=by
 unfold Zp;rw[av.mpr λp b=>by simpa using h p b];rfl
theorem ų(h:w ∉ a.map Lo.w):∀ p∈(gx n a).map (λp=>((.inl p.1:sd),D.ref p.2.1)),p.1≠.inl w:=λp d e=>by
 obtain⟨g,c,rfl⟩:=Gb.mp d;obtain⟨i,l,b,rfl⟩:=HK n a c;have e:l.w=w:=by simpa using e
 exact h (e ▸ Ic (Oa b))
theorem VQ{x:List b}{a:b}(h:x[i]?=some a):x.take (i+1)=x.take i++[a]:=by
 rw[List.take_add_one,h];rfl
theorem VU{f:b->Int}{x:List b}(c:(x.map f).Nodup){a:b}(h:x[i]?=some a):f a ∉ (x.take i).map f:=λk=>by
 have e:=(List.take_append_drop i x).symm;obtain⟨j,g⟩:=la.mp h;have d:x.drop i=a::x.drop (i+1):=by rw[<-g];exact vg j
 rw[e,d,Zc,Ra,kf]at c;exact c.2.2 _ k _ Wa rfl
theorem J5{r:Rd}(m:r.Ok)(a:nb):uf [.va [r.D]] a=.ok (gD (Vt r.x)) a:=by
 have u:∀ a,Ma r.D (.int 1) a=.ok (.Bc ((Bl r.x).map (·.1)) ((Bl r.x).map (·.2))) a:=λa=>by unfold Rd.D;simp
 have o:∃ b c,gM [some (.va [r.D]),some (.ref a.length),some r.D,none,none] (a++[.Bc []])=.ok (.nx [some (.va [r.D]),some (.ref a.length),some r.D,b,c]) (a++.Bc ((gx (a.length+1) r.x).map λp=>(.inl p.1,.ref p.2.1))::r.x.map λl=>.va [l.D]):=by
  obtain⟨G,H,e,b,c,rfl,rfl⟩:=cN (f:=ya Ma (ba 2) (eC (.int 1))) (A:=Bl r.x) (ρ:=[some (.va [r.D]),some (.ref a.length),some r.D,none,none]) (σ:=a++[.Bc []]) (tg:=gr 2 (Ck (Lf 3) (Ck (Lf 4) Mr))) (body:=GL) (by
    simp[u]) (by unfold Bl;rw[xb];have:=m.l;omega) (λi q t=>∃ b c,q=[some (.va [r.D]),some (.ref a.length),some r.D,b,c]/\t=a++.Bc ((gx (a.length+1) (r.x.take i)).map λp=>(.inl p.1,.ref p.2.1))::(r.x.take i).map λl=>.va [l.D]) (λi k v q t g z=>by
    obtain⟨b,c,rfl,rfl⟩:=z;unfold Bl at g;rw[zb]at g;obtain⟨l,h,y⟩:=Eb.mp g;obtain⟨rfl,rfl⟩:=Ir y;have B:i<r.x.length:=(la.mp h).1;have F:(r.x.take i).length=i:=by rw[xh];omega
    have s:=ų (n:=a.length+1) (VU m.d h);refine⟨[some (.va [r.D]),some (.ref a.length),some r.D,some (.int l.w),some l.D],_,_,rfl,y6 a _ _ l.w l.D _ _ (DY s) (by rw[xb,zW,F];have:=m.l;omega),some (.int l.w),some l.D,rfl,?_⟩;rw[XF _ s,VQ h,yO,Zc,Zc,xb];rfl) ⟨none,none,rfl,rfl⟩
  refine⟨b,c,?_⟩;rw[show (Bl r.x).length=r.x.length by unfold Bl;simp,nj]at e;exact e
 obtain⟨b,c,o⟩:=o;have E:El (Lf 2) gM [r.D] [some (.va [r.D]),some (.ref a.length),none,none,none] (a++[.Bc []])=.ok (.nx [some (.va [r.D]),some (.ref a.length),some r.D,b,c]) (a++.Bc ((gx (a.length+1) r.x).map λp=>(.inl p.1,.ref p.2.1))::r.x.map λl=>.va [l.D]):=by
  rw[Av];simp only[Lc,Mc];rw[o,lg,Ps,cF]
 have fz:=ï (σ:=a) (j:=r.x.map λl=>.va [l.D]) (gx (a.length+1) r.x) (λp C=>by
  obtain⟨i,l,e,rfl⟩:=HK _ _ C;refine⟨by dsimp only;omega,?_⟩;dsimp only;rw[Od (by omega),show a.length+1+i - a.length=i+1 by omega,List.getElem?_cons_succ,zb,e];rfl)
 rw[fW]at fz;unfold uf nO Vt;simp[E,fz,-Cz]
noncomputable def Sy(l:Lo):Bool:=l.k == "open"
def oD:Option Int->D
 |none=>.Rb
 |some i=>.int i
theorem yL(F:Option Int):cl (oD F)=true:=by cases F<;>rfl
def Oq(a:List Lo):List (Option Int):=(a.filter Sy).map λl=>some l.d
def cm(F:Option Int)(e:Int)(l:Lo):Bool:=if Sy l then (match F with
 |none=>true
 |some f=>decide (f > l.d))else (l.k == "hangs") && (match F with
 |none=>false
 |some f=>decide (f - 1+e<l.d))
def Kt(a:List Lo)(F:Option Int)(e:Int):Int:=((a.filter (cm F e)).map Lo.v).sum
def mf(a:List Lo)(e:Int):Option Int:=Jt (λx=>Kt a x e) (Oq a) none
section
variable(l:Lo)(σ:nb)
theorem l0:Ma l.D (.int 0) σ=.ok (.str l.k) σ:=by unfold Lo.D;simp
theorem l1:Ma l.D (.int 1) σ=.ok (.int l.v) σ:=by unfold Lo.D;simp
theorem l2:Ma l.D (.int 2) σ=.ok (.int l.d) σ:=by unfold Lo.D;simp
end
section
variable{ls:List Lo}(hl:ls.length<=2)(e:Int)(σ:nb)
theorem ŕ(l:Lo)(F:Option Int):ie [l.D,oD F,.int e] σ=.ok (.bl (cm F e l)) σ:=by
 have b:=l0 l;have c:=l2 l;have o:(l.k == ("open"))=Sy l:=rfl;unfold ie jV cm;generalize Sy l=B,l.D=L at *;generalize a:(l.k == ("hangs" : Str))=H at *;cases F with
 |none=>cases B<;>cases H<;>simp[b,o,a,oD]
 |some f=>
  cases B<;>cases H<;>simp[b,c,o,a,oD]
include hl
theorem E6:Zg [.va (ls.map Lo.D)] σ=.ok (.va ((none::Oq ls).map oD)) σ:=by
 have l:=qy (src:=vj (ba 0)) (ρ:=[some (.va (ls.map Lo.D))]) (σ:=σ) (s:=.seq (ls.map Lo.D)) (ix:=[]) (fi:=eT (ya se (ya Ma (ba 0) (eC (.int 0))) (eC (.str "open")))) (fe:=ya Ma (ba 0) (eC (.int 2))) Lo.D (λl=>.int l.d) Sy (by simp) (λi _=>yc some (Ht ls _ i)) (by omega) (λl _ j=>by
  have e:=l0 l (σ++j);have f:=l2 l (σ++j);have o:(l.k == ("open"))=Sy l:=rfl;exact⟨by simp[e,o],λ_=>by simp[f]⟩) (λ_ _ _=>rfl)
 rw[show (ls.filter Sy).map (λl=>D.int l.d)=(Oq ls).map oD by unfold Oq;rw[pd];rfl]at l;have m:(Oq ls).length<=2:=by unfold Oq;rw[xb];exact Qb (qh ..) hl
 have a:∀ σ,kh (.va [.Rb]) (.va ((Oq ls).map oD)) σ=.ok (.va ((none::Oq ls).map oD)) σ:=λσ=>by rw[IC (by unfold oi;simp;omega)];rfl
 have b:wg ((none::Oq ls).map oD)=true:=vu λd c=>by obtain⟨t,_,rfl⟩:=Gb.mp c;exact yL t
 unfold Zg IR;generalize ls.map Lo.D=L,(Oq ls).map oD=g,(none::Oq ls).map oD=h at *;simp[l,a,b,-Ss]
theorem OO(F:Option Int):Zd [.va (ls.map Lo.D),oD F,.int e] σ=.ok (.int (Kt ls F e)) σ:=by
 have l:=qy (src:=vj (ba 0)) (ρ:=[some (.va (ls.map Lo.D)),some (oD F),some (.int e)]) (σ:=σ) (s:=.seq (ls.map Lo.D)) (ix:=[1,2]) (fi:=eT (Xc 3 ie [] (ia (ba 0) (ia (ba 2) (ia (ba 3) Ha))))) (fe:=ya Ma (ba 0) (eC (.int 1))) Lo.D (λl=>.int l.v) (cm F e) (by simp) (λi _=>yc some (Ht ls _ i)) (by omega) (λl _ j=>by
  have c:=ŕ e (σ++j) l F;have a:=l1 l (σ++j);exact⟨by simp[c],λ_=>by simp[a]⟩) (λ_ _ _=>rfl)
 rw[show (ls.filter (cm F e)).map (λl=>D.int l.v)=((ls.filter (cm F e)).map Lo.v).map D.int by rw[pd];rfl]at l;have s:=IT ((ls.filter (cm F e)).map Lo.v) σ;unfold Zd mU Kt;generalize oD F=b,ls.map Lo.D=L,((ls.filter (cm F e)).map Lo.v).map D.int=d at *;simp[l,s,-Ss]
theorem fY:Ef [.va (ls.map Lo.D),.int e] σ=.ok (oD (mf ls e)) σ:=by
 have b:=E6 hl;have m:=sT (f:=oD) (key:=λx=>Kt ls x e) (x:=none) (xs:=Oq ls) (fe:=Xc 3 Zd [] (ia (ba 1) (ia (ba 0) (ia (ba 2) Ha)))) (rest:=[some (.va (ls.map Lo.D)),some (.int e)]) (σ:=σ) (λx _=>by
  have s1:=λσ=>OO hl e σ x;simp[s1])
 rw[show Jt (λx=>Kt ls x e) (Oq ls) none=mf ls e from rfl]at m;have c:=yL (mf ls e);unfold Ef mW;generalize (none::Oq ls).map oD=d,D.va (ls.map Lo.D)=g,oD (mf ls e)=a at *;simp[b,m,c]
end
theorem AH:∀ {xs:List Int},(∀ x∈xs,0<=x)->0<=xs.sum
 |[],_=>by simp
 |x::xs,h=>by
  have b:=h x Wa;have c:=AH λy a=>h y (Za _ a);rw[List.sum_cons];omega
theorem N5(a:List Lo)(e:Int)(h:x∈none::Oq a):Kt a (mf a e) e<=Kt a x e:=pM (λx=>Kt a x e) (Oq a) none x h
theorem ë(h:∀ l∈a,0<=l.v)(F:Option Int)(e:Int):0<=Kt a F e:=AH λx c=>by
 obtain⟨l,b,rfl⟩:=Gb.mp c;exact h l (Jg.mp b).1
theorem lz(h:∀ l∈a,0<=l.v)(e:Int)(b:x∈none::Oq a)(c:Kt a x e=0):Kt a (mf a e) e=0:=by
 have:=N5 a e b;have:=ë h (mf a e) e;omega
theorem h9(h:0<=l.v)(e:Int):Kt [l] (mf [l] e) e=0:=by
 have c:∀ k∈[l],0<=k.v:=λk b=>by simp at b;rw[b];exact h
 by_cases a:Sy l=true
 ·exact lz c e (x:=some l.d) (by simp[Oq,a]) (by simp[Kt,cm,a])
 ·exact lz c e (x:=none) (by simp) (by simp[Kt,cm,a])
theorem r0(r:Rd)(a:nb):Ma r.D (.int 0) a=.ok (.int r.f) a:=by unfold Rd.D;simp
theorem TQ(x:List Lo):gD (Vt x)=.Bc ((x.map λl=>((.inl l.w:sd),D.va [l.D])).map (·.1)) ((x.map λl=>((.inl l.w:sd),D.va [l.D])).map (·.2)):=by
 unfold gD Vt;simp only[pd];rfl
def FK(x:List Lo):Kv:=x.map λl=>(.inl l.w,oD (mf [l] 5))
theorem tO(x:List Lo):wg ((FK x).map (·.2))=true:=vu λd a=>by
 unfold FK at a;rw[pd]at a;obtain⟨p,_,rfl⟩:=Gb.mp a;exact yL _
theorem iU:∀ {x:List Lo},(x.map Lo.w).Nodup->∀ l∈x,Zp (FK x) (.inl l.w)=some (oD (mf [l] 5))
 |[],_,l,h=>by cases h
 |b::x,hd,l,h=>by
  rw[Ra,qe]at hd;unfold FK Zp;rcases Na.mp h with rfl|h
  ·simp
  ·have a:b.w≠l.w:=λe=>hd.1 (e ▸ Ic h);have c:=iU hd.2 l h;unfold FK Zp at c;simpa [a]using c
section
variable{r:Rd}(hr:r.Ok)(σ:nb)
include hr
theorem R5(F:D)(u:∀ l∈r.x,Jl F (.int l.w) σ=.ok (oD (mf [l] 5)) σ):Ki [.va [r.D],gD (Vt r.x),F,.int 5] σ=.ok (.int r.f) σ:=by
 have l:=Uy (src:=vj (ba 0)) (ρ:=[some (.va [r.D]),some (gD (Vt r.x)),some F,some (.int 5),none,none,none]) (σ:=σ) (s:=.seq [r.D]) (ix:=[]) (fe:=ya Ma (ba 0) (eC (.int 0))) Rd.D (λr=>.int r.f) (by simp) (λi _=>yc some (Ht [r] _ i)) (by simp) (λr _ j=>by
  have:=r0 r (σ++j);simp[this]) (λ_ _=>rfl)
 have l:ki _ _ σ=.ok (.va [.int r.f]) σ:=l;have s1:Pu [.va [.int r.f]] σ=.ok (.int r.f) σ:=by simp[Pu,Lu]
 have E:∀ (f:Ev->M D) (g h m n c d:Option D) (x:D) (σ:nb),Ry (λa b=>a+b) 4 f [g,h,m,n,some x,c,d] σ=Pn [g,h,m,n,some x,c,d] (yE (λa b=>a+b) 4 [g,h,m,n,some x,c,d] x) (f [g,h,m,n,some x,c,d] σ):=λ_ _ _ _ _ _ _ _ _=>LQ rfl;obtain⟨G,H,C,c,d,rfl,rfl⟩:=cN (f:=ba 1) (A:=r.x.map λl=>((.inl l.w:sd),D.va [l.D])) (ρ:=[some (.va [r.D]),some (gD (Vt r.x)),some F,some (.int 5),some (.int r.f),none,none]) (σ:=σ) (tg:=gr 2 (Ck (Lf 5) (Ck (Lf 6) Mr))) (body:=JS) (by rw[<-TQ];rfl) (by rw[xb];have:=hr.l;omega) (λ_ o e=>∃ c d,o=[some (.va [r.D]),some (gD (Vt r.x)),some F,some (.int 5),some (.int r.f),c,d]/\e=σ) (λi k v o e p y=>by
  obtain⟨c,d,rfl,rfl⟩:=y;rw[zb]at p;obtain⟨l,B,t⟩:=Eb.mp p;obtain⟨rfl,rfl⟩:=Ir t;have q:=Oa B;have sb:=OO (ls:=[l]) (by simp) 5 e (mf [l] 5);rw[h9 (hr.v l q) 5]at sb;have z:=u l q;refine⟨[some (.va [r.D]),some (gD (Vt r.x)),some F,some (.int 5),some (.int r.f),some (.int l.w),some (.va [l.D])],[some (.va [r.D]),some (gD (Vt r.x)),some F,some (.int 5),some (.int r.f),some (.int l.w),some (.va [l.D])],e,rfl,?_,some (.int l.w),some (.va [l.D]),rfl,rfl⟩;have sb:Zd [.va [l.D],oD (mf [l] 5),.int 5] e=.ok (.int 0) e:=sb;simp[E,sb,z]) ⟨none,none,rfl,rfl⟩
 unfold Ki mQ;simp[l,s1,C,-Ss,-Cz]
end
def Us(p:Rx):D:=.Ga [.int p.1.f,cD p,.Bc ((FK p.1.x).map (·.1)) ((FK p.1.x).map (·.2))]
theorem QT(p:Rx):cl (Us p)=true:=by unfold Us cD;simp[cl,tO]
theorem γ(b:p.1.Ok)(a:nb):Xe [.va [p.1.D],cD p,.int 5] a=.ok (Us p) a:=by
 have l:=J5 b;obtain⟨J,K,G,q,r,rfl,rfl⟩:=cN (f:=ba 3) (A:=p.1.x.map λl=>((.inl l.w:sd),D.va [l.D])) (ρ:=[some (.va [p.1.D]),some (cD p),some (.int 5),some (gD (Vt p.1.x)),some (.ref a.length),none,none]) (σ:=a++[.Bc []]) (tg:=gr 2 (Ck (Lf 5) (Ck (Lf 6) Mr))) (body:=QL) (by rw[<-TQ];rfl) (by rw[xb];have:=b.l;omega) (λi c y=>∃ q r,c=[some (.va [p.1.D]),some (cD p),some (.int 5),some (gD (Vt p.1.x)),some (.ref a.length),q,r]/\y=a++[.Bc (FK (p.1.x.take i))]) (λi k v c y s C=>by
  obtain⟨q,r,rfl,rfl⟩:=C;rw[zb]at s;obtain⟨l,g,B⟩:=Eb.mp s;obtain⟨rfl,rfl⟩:=Ir B;have E:i<p.1.x.length:=(la.mp g).1;have o:=fY (ls:=[l]) (by simp) 5;have o:∀ a,Ef [.va [l.D],.int 5] a=.ok (oD (mf [l] 5)) a:=o;have u:=λc=>Aw (ρ:=c) (σ:=a++[.Bc (FK (p.1.x.take i))]) (d:=oD (mf [l] 5)) (n:=a.length) (w:=l.w) (kvs:=FK (p.1.x.take i)) (by simp) (by unfold FK;rw[xb,xh];have:=b.l;omega);have H:∀ z∈FK (p.1.x.take i),z.1≠.inl l.w:=λz t e=>by
   unfold FK at t;obtain⟨m,F,rfl⟩:=Gb.mp t;have e:m.w=l.w:=by simpa using e
   exact VU b.d g (e ▸ Ic F)
  rw[BC,XF _ H,show FK (p.1.x.take i)++[((.inl l.w:sd),oD (mf [l] 5))]=FK (p.1.x.take (i+1)) by rw[VQ g];unfold FK;rw[Zc];rfl]at u;refine⟨[some (.va [p.1.D]),some (cD p),some (.int 5),some (gD (Vt p.1.x)),some (.ref a.length),some (.int l.w),some (.va [l.D])],[some (.va [p.1.D]),some (cD p),some (.int 5),some (gD (Vt p.1.x)),some (.ref a.length),some (.int l.w),some (.va [l.D])],_,rfl,?_,some (.int l.w),some (.va [l.D]),rfl,rfl⟩;unfold QL;generalize a++[.Bc (FK (p.1.x.take i))]=Y,a++[.Bc (FK (p.1.x.take (i+1)))]=Z,oD (mf [l] 5)=O,D.va [l.D]=L at *;simp[o,u]) ⟨none,none,rfl,rfl⟩
 have gt:∀ l∈p.1.x,Jl (.ref a.length) (.int l.w) (a++[.Bc (FK p.1.x)])=.ok (oD (mf [l] 5)) (a++[.Bc (FK p.1.x)]):=λl g=>by
  have h:=iU b.d l g;unfold Jl Uj;simp[aq,h]
 have I:=R5 b (a++[.Bc (FK p.1.x)]) (.ref a.length) gt;have fz:gi a (.ok (.Ga [.int p.1.f,cD p,.ref a.length]) (a++[.Bc (FK p.1.x)]))=.ok (Us p) a:=by
  unfold gi;dsimp only;rw[ja (by simp)];have h:=RO (σ:=a) (kvs:=FK p.1.x) (j:=[]) (m:=4) (tO ..);have:fz a.length (a++[.Bc (FK p.1.x)]) 6 (.Ga [.int p.1.f,cD p,.ref a.length])=some (Us p):=by
   unfold fz;dsimp only;unfold En;unfold En;unfold En;rw[h];rfl
  rw[this]
 unfold Xe pP;simp[l,G,I,fz,-Cz]
noncomputable def aA(b:List Rd):Rx:=match b.zipIdx with
 |[]=>(⟨0,[]⟩,0)
 |p::a=>Jt (λp=>p.1.f) a p
def uC(a:List Rd):Int:=(aA a).1.f
structure sv(ss:List Sn):Prop where
 f:Dy ss
 d:∀ s∈ss,(s.ts.map Ti.w).Nodup/\s.ts.length<=9
 a:∀ s∈ss,∀ t∈s.ts,0<=t.a
theorem o0(h:sv c)(K:List Int)(q:Int):∀ r∈c.map (rd K q),r.Ok:=λr f=>by
 obtain⟨s,b,rfl⟩:=Gb.mp f;refine⟨?_,?_,?_⟩
 ·unfold rd;rw[pd];exact(h.d s b).1
 ·unfold rd;rw[xb];exact(h.d s b).2
 ·intro l e;obtain⟨t,g,rfl⟩:=Gb.mp e;exact h.a s b t g
theorem tY(u:q=0\/q=1)(h:sv ss)(K:List Int)(a:nb):ri [Sl K [jh q ss]] a=.ok (.int (uC (ss.map (rd K q)))) a:=by
 have A:=λa=>zvl u h.f K a h.d;have z:=o0 h K q;have g:=h.f.map (rd K q);have ev:∀ a,Nc [8,9] "every" (Sl K [jh q ss]) a=.ok (.int 5) a:=λa=>Nn (Qn rfl) rfl rfl;generalize ss.map (rd K q)=b,Sl K [jh q ss]=V at *;have c:=W3 g;have k:∀ a,ki (Xm (Dp (vj (Xc 1 We [] (ia (ba 1) Ha)))) [1,0] (Lf 0) Fq (Xc 3 Xe [] (ia (Xc 2 Fd [] (ia (ba 2) (ia (ba 0) Ha))) (ia (ba 0) (ia (Cd (Nc [8,9] "every") (ba 3)) Ha))))) [some V,some (RL b),none] a=.ok (.va (b.zipIdx.map Us)) a:=λa=>by
  refine Uy (s:=.seq (b.zipIdx.map cD)) cD Us ?_ (λi _=>yc some (Ht _ _ i)) (by have:=g.le;simp;omega) (λp e j=>?_) (λp _=>QT p)
  ·generalize RL b=R at *;simp[c]
  ·have n:=List.mem_zipIdx_iff_getElem?.mp e;have o:=λa=>CY a n;have w:=γ (p:=p) (z p.1 (Oa n));simp[o,w,ev]
 have l:∀ a,yz (ya Ma (ba 0) (eC (.int 0))) [] [.va (b.zipIdx.map Us)] a=.ok (Us (aA b)) a:=λa=>by
  obtain⟨p,m,e⟩:∃ p m,b.zipIdx=p::m:=by rcases g with⟨s,rfl⟩|⟨s,t,rfl⟩<;>exact⟨_,_,rfl⟩
  rw[show aA b=Jt (λp=>p.1.f) m p by unfold aA;rw[e],e];refine sT (f:=Us) (key:=λp=>p.1.f) λy _=>?_;have:∀ a,Ma (Us y) (.int 0) a=.ok (.int y.1.f) a:=λa=>by unfold Us;simp
  simp[this]
 have r:=QT (aA b);have v:∀ a,Ma (Us (aA b)) (.int 0) a=.ok (.int (uC b)) a:=λa=>by unfold Us uC;simp
 have x:∀ a,Jj [V] a=.ok (Us (aA b)) a:=λa=>by
  have k:=k a;have l:=l a;unfold Jj pO;simp[A,k,l,r,-Ss]
 unfold ri iV;simp[x,v]
theorem RX(r s:Rd):uC [r,s]=if s.f<r.f then s.f else r.f:=by
 show (Jt _ [(s,1)] (r,0)).1.f=_;unfold Jt Jt;by_cases h:s.f<r.f
 ·rw[ja h,ja h]
 ·rw[ka h,ka h]
structure Ac where
 q:Int
 c:Nat
 m:Sn
 G:D
 y:List Sn
 L:List D
def Ac.D(a:Ac):L4.D:=.obj a.c ["pot","side","mine","grant","may","strikes"] [.int 0,.int a.q,a.m.D,a.G,.va (a.y.map Sn.D),.va a.L]
structure Ac.Ok(a:Ac):Prop where
 q:a.q=0\/a.q=1
 c:[4,5,6,7].contains a.c=true
 g:cl a.G=true
 l:wg a.L=true
 y:sv a.y
theorem Ñ(c:Nat)(i:List D->M D)(a b d e f g:D)(h:nb):Mq c 7 i [a,b,d,e,f,g] h=mD h.length (i [.ref h.length,a,b,d,e,f,g] (h++[.Ld c []])):=lU rfl
section
variable{a:Ac}(h:a.Ok)(σ:nb)
include h
theorem Dw:Rl σ a.D=some (a.c,([("pot",.int 0),("side",.int a.q),("mine",a.m.D),("grant",a.G),("may",.va (a.y.map Sn.D)),("strikes",.va a.L)]:List (Str × D))):=Qn rfl
theorem Ex:Nc [4,5,6,7] "pot" a.D σ=.ok (.int 0) σ:=Nn (Dw h σ) h.c rfl
theorem Lv:Nc [4,5,6,7] "side" a.D σ=.ok (.int a.q) σ:=Nn (Dw h σ) h.c rfl
theorem ny:Nc [4,5,6,7] "mine" a.D σ=.ok a.m.D σ:=Nn (Dw h σ) h.c rfl
theorem GS:Nc [4,5,6,7] "grant" a.D σ=.ok a.G σ:=Nn (Dw h σ) h.c rfl
theorem kH:Nc [4,5,6,7] "may" a.D σ=.ok (.va (a.y.map Sn.D)) σ:=Nn (Dw h σ) h.c rfl
theorem UI:Nc [4,5,6,7] "strikes" a.D σ=.ok (.va a.L) σ:=Nn (Dw h σ) h.c rfl
theorem Zw:cl a.D=true:=by unfold Ac.D;simp[Si,gF,h.g,h.l]
theorem ZE:gi σ (Mq a.c 7 Nj [.int 0,.int a.q,a.m.D,a.G,.va (a.y.map Sn.D),.va a.L] σ)=.ok a.D σ:=by
 have k:=gF a.y;have w:=Si a.m;have t:=h.g;have n:=h.l;have r:=h.c;unfold Ac.D;generalize a.q=j,a.c=c,a.m.D=m,a.G=g,a.L=z,a.y.map Sn.D=y at *;have e:=λf v (b:List (Str × D)) (u:b.length<1000)=>xO (ρ:=[some (.ref σ.length),some (.int 0),some (.int j),some m,some g,some (.va y),some (.va z)]) (σ:=σ) (cs:=[4,5,6,7]) (f:=f) (d:=v) (c:=c) (fs:=b) r u;have x:∀ p:D,Bo "pot" p []=([("pot",p)]:List (Str × D)):=λ_=>rfl;have A:∀ p s:D,Bo "side" s [("pot",p)]=([("pot",p),("side",s)]:List (Str × D)):=λ_ _=>rfl;have B:∀ p s:D,Bo "mine" m [("pot",p),("side",s)]=([("pot",p),("side",s),("mine",m)]:List (Str × D)):=λ_ _=>rfl;have C:∀ p s:D,Bo "grant" g [("pot",p),("side",s),("mine",m)]=([("pot",p),("side",s),("mine",m),("grant",g)]:List (Str × D)):=λ_ _=>rfl;have p4:∀ p s:D,Bo "may" (.va y) [("pot",p),("side",s),("mine",m),("grant",g)]=([("pot",p),("side",s),("mine",m),("grant",g),("may",.va y)]:List (Str × D)):=λ_ _=>rfl;have E:∀ p s:D,Bo "strikes" (.va z) [("pot",p),("side",s),("mine",m),("grant",g),("may",.va y)]=([("pot",p),("side",s),("mine",m),("grant",g),("may",.va y),("strikes",.va z)]:List (Str × D)):=λ_ _=>rfl;have o:=eI k;have fz:=eI n;have i:Nj [.ref σ.length,.int 0,.int j,m,g,.va y,.va z] (σ++[.Ld c []])=.ok .Rb (σ++[.Ld c [("pot",.int 0),("side",.int j),("mine",m),("grant",g),("may",.va y),("strikes",.va z)]]):=by
  unfold Nj XV;simp[e,x,A,B,C,p4,E,o,fz]
 rw[Ñ,i,BL,RP (by simp[w,t,k,n])];rfl
end
def Aa(q:Int)(m:Sn)(G:D)(L:List D):Ac:=⟨q,5,m,G,[m],L⟩
def Fi(q:Int)(m o:Sn)(G:D)(L:List D):Ac:=⟨q,6,m,G,[m,o],L⟩
def ik(q:Int)(o m:Sn)(G:D)(L:List D):Ac:=⟨q,7,m,G,[o,m],L⟩
theorem Wv{a L:nb}(i:Nat):(a++L)[a.length+i]?=L[i]?:=by
 rw[Od (by omega),show a.length+i - a.length=i by omega]
theorem jN{a L:nb}:(a++L)[a.length]?=L[0]?:=Wv 0
theorem Kx{a L:nb}(i:Nat)(x:Ob):(a++L).set (a.length+i) x=a++L.set i x:=by
 rw[ot _ _ (by omega),show a.length+i - a.length=i by omega]
theorem WT{a L:nb}(x:Ob):(a++L).set a.length x=a++L.set 0 x:=Kx 0 x
def Mz(b:Nat)(q g:Int):List (Str × D):=[("hand",.int (3 * q)),("every",.int 5),("last_look",.int 0),("gave",.int g),("known",.ref (b+1)),("accounts",.ref (b+2)),("claims",.ref (b+3)),("seen",.ref (b+4)),("asked",.ref (b+5)),("finishing",.ref (b+6))]
noncomputable def Hu(K:List Int):Kv:=K.map λw=>(.inl w,.bl true)
noncomputable def gy:Kv:=[(.inl 0,.gt ["held"])]
noncomputable def Gy:Kv:=[(.inl 0,.Bc [] [])]
noncomputable def fi(f:Bool):Kv:=if f then [(.inl 0,.bl true)]else []
abbrev AV(a:Ac):Kv:=[(.inl 0,a.D)]
def S(a:nb)(q g:Int)(K:List Int)(A Q:Kv)(F:Bool)(J:nb):nb:=a++.Ld 9 (Mz a.length q g)::.Bc (Hu K)::.Bc A::.Bc gy::.Bc Gy::.Bc Q::.Bc (fi F)::J
structure Vs(b:Nat)(q g:Int)(K:List Int)(σ:nb):Prop where
 h0:σ[b]?=some (.Ld 9 (Mz b q g))
 h1:σ[b+1]?=some (.Bc (Hu K))
 h3:σ[b+3]?=some (.Bc gy)
 h4:σ[b+4]?=some (.Bc Gy)
theorem ij(a:nb)(q g:Int)(K:List Int)(A Q:Kv)(F:Bool)(J:nb):Vs a.length q g K (S a q g K A Q F J):=⟨jN,Wv 1,Wv 3,Wv 4⟩
theorem pz{a j:nb}{k:Nat}(h:a[k]?=some o):(a++j)[k]?=some o:=by
 rw[Kb (la.mp h).1,h]
theorem Vs.app(h:Vs b q g K a)(j:nb):Vs b q g K (a++j):=⟨pz h.h0,pz h.h1,pz h.h3,pz h.h4⟩
theorem KF{a:nb}(n:r≠k)(h:a[k]?=some o):(a.set r x)[k]?=some o:=by
 rw[jk n,h]
theorem Vs.set(h:Vs b q g K a)(c:r=b+2\/b+6<r)(x:Ob):Vs b q g K (a.set r x):=⟨KF (by omega) h.h0,KF (by omega) h.h1,KF (by omega) h.h3,KF (by omega) h.h4⟩
theorem NE(h:a[n]?=some (.Bc b))(c:Zp b (.inl w)=some d):Jl (.ref n) (.int w) a=.ok d a:=by
 unfold Jl Uj;simp only[aq,h];simp[c]
section
variable{b:Nat}{q g:Int}{K:List Int}{σ:nb}(h:Vs b q g K σ)
include h
theorem Xv:Rl σ (.ref b)=some (9,Mz b q g):=by unfold Rl;simp[h.h0]
theorem Ł:Nc [8,9] "every" (.ref b) σ=.ok (.int 5) σ:=Nn (Xv h) rfl rfl
theorem YW:Nc [8,9] "last_look" (.ref b) σ=.ok (.int 0) σ:=Nn (Xv h) rfl rfl
theorem lJ:Nc [8,9] "known" (.ref b) σ=.ok (.ref (b+1)) σ:=Nn (Xv h) rfl rfl
theorem Ï:Nc [9] "gave" (.ref b) σ=.ok (.int g) σ:=Nn (Xv h) rfl rfl
theorem Zs:Nc [9] "accounts" (.ref b) σ=.ok (.ref (b+2)) σ:=Nn (Xv h) rfl rfl
theorem xQ:Nc [9] "claims" (.ref b) σ=.ok (.ref (b+3)) σ:=Nn (Xv h) rfl rfl
theorem Ă:Nc [9] "seen" (.ref b) σ=.ok (.ref (b+4)) σ:=Nn (Xv h) rfl rfl
theorem SE:Nc [9] "asked" (.ref b) σ=.ok (.ref (b+5)) σ:=Nn (Xv h) rfl rfl
theorem ă:Nc [9] "finishing" (.ref b) σ=.ok (.ref (b+6)) σ:=Nn (Xv h) rfl rfl
theorem jj{m:Str}(n:Nat)(a:List D->M D)(c:M (List D))(d:(Mz b q g).lookup m=none):Km [(9,a)] n m c (.ref b) σ=(c σ).bind (Ik n a (.ref b)):=lp (Xv h) rfl d
theorem iO:Jl (.ref (b+3)) (.int 0) σ=.ok (.gt ["held"]) σ:=NE h.h3 rfl
theorem M8:Jl (.ref (b+4)) (.int 0) σ=.ok (.Bc [] []) σ:=NE h.h4 rfl
end
theorem gW:∀ K:List Int,Ey (Hu K)=some K
 |[]=>rfl
 |w::K=>by
  have a:=gW K;unfold Hu at a ⊢;unfold Ey;simp[a]
abbrev ks(K:List Int):List Int:=Jw K
theorem qZ(h:Vs b q g K a)(i:K.length<=60):ce [.ref b] a=.ok (.va ((ks K).map D.int)) a:=by
 have e:=lJ h;have o:IA [.ref (b+1)] a=.ok (.ref a.length) (a++[.va ((ks K).map D.int)]):=by
  have l:pi a (.ref (b+1))=none:=by unfold pi rj;simp[h.h1]
  have d:Uj a (.ref (b+1))=some (Hu K):=by unfold Uj;simp[h.h1]
  unfold IA;simp only[l];unfold wH;simp only[d,gW];rw[ja (by omega)];rfl
 have c:=oO (ks K);have f:gi a (IA [.ref (b+1)] a)=.ok (.va ((ks K).map D.int)) a:=by rw[o];exact ED c
 unfold ce VS;simp[e,f]
theorem ė{a:Ac}(c:a.Ok)(b:nb):Mf [a.D,.gt ["held"]] b=.ok (.va (a.y.map Sn.D)) b:=by
 have m:=kH c;have e:∀ b,Ma (.gt ["held"]) (.int 0) b=.ok (.str "held") b:=λb=>nr rfl;have d:=gF a.y;unfold Mf jT;simp[e,m,d]
theorem lK{xs:List D}(h:rj a n=some xs)(j:nb):rj (a++j) n=some xs:=by
 have e:=BV h;unfold rj;rw[pz e]
theorem ZW(j:f ρ σ=.ok (.ref n) σ)(g:σ[n]?=some (.Bc A))(i:src ρ σ=.ok nx c)(k:Ur nx e a 1001 0 ρ c=.ok (.nx d) b)(h:b[n]?=some (.Xf A')):EG f (Lw src e a) ρ σ=.ok (.nx d) (b.set n (.Bc A')):=by
 show ZF EK (f ρ) (Lw src e a ρ) σ=_;unfold ZF;rw[j];dsimp only;rw[g];rw[Cz,i,Bs];show sE EK _ (Ur nx e a 1001 0 ρ c)=_;rw[k];unfold sE;simp only[h];rfl
theorem t7(c:f b a=.ok (.ref n) a)(g:a[n]?=some (.Bc A)):GH f b a=.ok (su A) (a.set n (.Xf A)):=by
 show Pd (f b) oG a=_;rw[Jr,c,lg];unfold oG;simp only[g]
theorem wZ{a:nb}(h:a[r]?=some o):a.set r o=a:=by
 obtain⟨b,c⟩:=la.mp h;rw[<-c];exact List.set_getElem_self b
theorem BS(c:Nat)(g:List D->M D)(a b d e:D)(f:nb):Mq c 5 g [a,b,d,e] f=mD f.length (g [.ref f.length,a,b,d,e] (f++[.Ld c []])):=lU rfl
theorem ĝ(e:nb)(K:List Int)(p:rj e n=some [jh q ss]):Cs [.ref e.length,.int 5,.int 0,.va (K.map D.int),.ref n] (e++[.Ld 8 []])=.ok .Rb (e++[.Ld 8 [("every",.int 5),("last_look",.int 0),("known",.va (K.map D.int)),("pots",.va [jh q ss])]]):=by
 have E:=λ(o:List Nat) (y:o.contains 8=true) (f:Str) (w:D) (g:List (Str × D)) (z:g.length<1000)=>xO (ρ:=[some (.ref e.length),some (.int 5),some (.int 0),some (.va (K.map D.int)),some (.ref n)]) (σ:=e) (cs:=o) (f:=f) (d:=w) (c:=8) (fs:=g) y z;have u:∀ g,gi (e++[.Ld 8 g]) (Fs [.va (K.map D.int)] (e++[.Ld 8 g]))=.ok (.va (K.map D.int)) (e++[.Ld 8 g]):=λg=>eI (oO K) _;have A:∀ g,ki (Xm (Dp (vj (ba 4))) [] (Lf 0) Fq (ee (ia (ya Ma (ba 0) (eC (.int 0))) (ia (ki (Xh Fs (ia (ya Ma (ba 0) (eC (.int 1))) Ha))) (ia (Xh VA (ia (ya Ma (ba 0) (eC (.int 2))) Ha)) Ha))))) [some (.ref e.length),some (.int 5),some (.int 0),some (.va (K.map D.int)),some (.ref n)] (e++[.Ld 8 g])=.ok (.va [jh q ss]) (e++[.Ld 8 g]):=λg=>by
  have s1:JB (.ref n) (e++[.Ld 8 g])=.ok (.wu n) (e++[.Ld 8 g]):=by
   show (match rj (e++[.Ld 8 g]) n with|some _=>_|none=>_)=_;rw[lK p]
  have:=Uy (ix:=[]) (src:=vj (ba 4)) (s:=.wu n) (xs:=[jh q ss]) (ρ:=[some (.ref e.length),some (.int 5),some (.int 0),some (.va (K.map D.int)),some (.ref n)]) (σ:=e++[.Ld 8 g]) (fe:=ee (ia (ya Ma (ba 0) (eC (.int 0))) (ia (ki (Xh Fs (ia (ya Ma (ba 0) (eC (.int 1))) Ha))) (ia (Xh VA (ia (ya Ma (ba 0) (eC (.int 2))) Ha)) Ha)))) (λd=>d) (λd=>d) (by simp[s1]) (λi j=>by
    show (rj (e++[.Ld 8 g]++j) n).map _=_;rw[lK (lK p _)];cases h:[jh q ss][i]?<;>simp[h]) (by simp)
   (λv k j=>by
    have k:v=jh q ss:=by simpa using k
    subst k;have t:=eI (gF ss);have r:∀ m,VA [.Bc [] []] m=.ok (.Bc [] []) m:=λm=>nr rfl;unfold jh;simp[t,r]) (λv k=>by
    have k:v=jh q ss:=by simpa using k
    subst k;exact qL ..)
  exact this
 have B:Bo "every" (.int 5) ([]:List (Str × D))=([("every",.int 5)]:List (Str × D)):=rfl;have C:∀ a b:D,Bo "last_look" b ([("every",a)]:List (Str × D))=([("every",a),("last_look",b)]:List (Str × D)):=λ_ _=>rfl;have F:∀ a b c:D,Bo "known" c ([("every",a),("last_look",b)]:List (Str × D))=([("every",a),("last_look",b),("known",c)]:List (Str × D)):=λ_ _ _=>rfl;have p4:∀ a b c d:D,Bo "pots" d ([("every",a),("last_look",b),("known",c)]:List (Str × D))=([("every",a),("last_look",b),("known",c),("pots",d)]:List (Str × D)):=λ_ _ _ _=>rfl;have x:∀ l e,ki (Xh Fs (ia (ba 3) Ha)) l e=gi e (Xh Fs (ia (ba 3) Ha) l e):=λ_ _=>rfl;unfold Cs DP;simp[E,B,C,F,p4,u,A,x,-Ss]
def Qz(K:List Int)(a:Ac):D:=Sl (ks K) [jh a.q a.y]
theorem lO(K:List Int)(a:Ac):cl (Qz K a)=true:=XZ _ (by simp[qL])
theorem sW(G:K.length<=60)(t:a.Ok)(h:Vs b q g K c)(o:c[r]?=some (.Bc (AV a)))(F:r=b+2\/b+6<r):Oc [.ref b,.ref r] c=.ok (Qz K a) c:=by
 have e:=(la.mp o).1;have J:=h.set F (.Xf (AV a));have p:(c.set r (.Xf (AV a))).length=c.length:=Qx;have S:ZL [some (.ref b),some (.ref r),some (.ref c.length),some (.int 0),some a.D] (c.set r (.Xf (AV a))++[Ob.va []])=.ok (.nx [some (.ref b),some (.ref r),some (.ref c.length),some (.int 0),some a.D]) (c.set r (.Xf (AV a))++[Ob.va ([]++[jh a.q a.y])]):=by
  have s:=II (σ:=c.set r (.Xf (AV a))) (xs:=[]) (d:=jh a.q a.y) (by simp);rw[p]at s;have M:∀ m,ax yq m (.ref c.length) (c.set r (.Xf (AV a))++[Ob.va []])=(m (c.set r (.Xf (AV a))++[Ob.va []])).bind (yq (.ref c.length)):=λm=>qG (xs:=[]) (by rw[<-p];unfold pi rj;simp);have v:=J.app [.va []];have z:=xQ v;have A:=Ă v;have B:=iO v;have C:=M8 v;have Q:=ė t;have P:=Lv t;have R:D.Ga [.int a.q,.va (a.y.map Sn.D),.Bc [] []]=jh a.q a.y:=rfl;simp[z,A,B,C,Q,P,M,R,s]
 have H:∀ w x,Ur (su (AV a)) (gr 2 (Ck (Lf 3) (Ck (Lf 4) Mr))) ZL 1001 0 [some (.ref b),some (.ref r),some (.ref c.length),w,x] ((c++[Ob.va []]).set r (.Xf (AV a)))=.ok (.nx [some (.ref b),some (.ref r),some (.ref c.length),some (.int 0),some a.D]) (c.set r (.Xf (AV a))++[Ob.va [jh a.q a.y]]):=λw x=>by
  rw[au _ _ e];rw[fK (d:=.Ga [.int 0,a.D]) rfl (ρ1:=[some (.ref b),some (.ref r),some (.ref c.length),some (.int 0),some a.D]) rfl,S,lg,Ps];exact NM (k:=999) (kO (AV a) _)
 have i:=pz (j:=[.va []]) o;have u:=ZW (f:=ba 1) (src:=GH (ba 1)) (ρ:=[some (.ref b),some (.ref r),some (.ref c.length),none,none]) (σ:=c++[.va []]) (n:=r) (by simp) i (t7 (by simp) i) (H none none) (A':=AV a) (pz (by rw[zj e]));rw[au _ _ (by rw[p];exact e),List.set_set,wZ o]at u;have l:=h.app [.va [jh a.q a.y]];have T:=qZ l G;have O:=λE=>jj l (m:="words") 1 ce E rfl;have ev:=Ł l;have L:=YW l;have I:=lO K a;have N:gi (c++[.va [jh a.q a.y]]) (Mq 8 5 Cs [.int 5,.int 0,.va ((ks K).map D.int),.ref c.length] (c++[.va [jh a.q a.y]]))=.ok (Qz K a) (c++[.va [jh a.q a.y]]):=by
  rw[BS,ĝ _ (ks K) (n:=c.length) (q:=a.q) (ss:=a.y) (by unfold rj;simp),BL,RP (by simp[qL])];rfl
 have fz:gi c (.ok (Qz K a) (c++[.va [jh a.q a.y]]))=.ok (Qz K a) c:=mV I;unfold Oc OS;simp[-Cz,u,ev,L,T,O,N,fz]
def W(K:List Int)(a:Ac):Int:=uC (a.y.map (rd (ks K) a.q))
theorem wV(K:List Int)(c:a.Ok)(b:nb):ri [Qz K a] b=.ok (.int (W K a)) b:=tY c.q c.y (ks K) b
section
variable{σ0:nb}{q g:Int}{K:List Int}(hK:K.length<=60){a:Ac}(ha:a.Ok){Q:Kv}{F:Bool}{J:nb}
abbrev SA(b:nb)(q g:Int)(K:List Int)(a:Ac)(Q:Kv)(F:Bool)(J:nb):nb:=S b q g K (AV a) Q F J
theorem lB:(SA σ0 q g K a Q F J)[σ0.length+2]?=some (.Bc (AV a)):=Wv 2
include hK ha
theorem YM:Gc [.ref σ0.length] (SA σ0 q g K a Q F J)=.ok (.int (W K a)) (SA σ0 q g K a Q F J):=by
 have b:=ij σ0 q g K (AV a) Q F J;have v:=sW hK ha b lB (.inl rfl);have d:=Zs b;have w:=wV K ha;have f:=λc=>jj b (m:="view_by") 2 Oc c rfl;have h:=λc=>jj b (m:="view") 1 ve c rfl;have e:=lO K a;unfold SA at *;generalize Qz K a=V,S σ0 q g K (AV a) Q F J=Y at *;have i:ve [.ref σ0.length] Y=.ok V Y:=by
  unfold ve fO;simp[f,d,v,e]
 unfold Gc YN;simp[h,i,w]
theorem jz{x:Ac}(c:x.Ok)(d:Int):Fb [.ref σ0.length,x.D,.int d] (SA σ0 q g K a Q F J)=.ok (.bl (decide (W K x ≥ W K a - d))) (SA σ0 q g K a Q F J):=by
 have i:=ij σ0 q g K (AV a) Q F J;have j:=Zs i;have k:wC [.ref (σ0.length+2)] (SA σ0 q g K a Q F J)=.ok (.ref (SA σ0 q g K a Q F J).length) (SA σ0 q g K a Q F J++[.Bc (AV a)]):=by
  have:Uj (SA σ0 q g K a Q F J) (.ref (σ0.length+2))=some (AV a):=by unfold Uj;simp[lB]
  unfold wC;simp only[this]
 have p:∀ f,mu f x.D (.ref (SA σ0 q g K a Q F J).length) (.int 0) (SA σ0 q g K a Q F J++[.Bc (AV a)])=.ok (.nx f) (SA σ0 q g K a Q F J++[.Bc (AV x)]):=λf=>by
  rw[Aw (kvs:=AV a) (by simp) (by simp),show Gn (AV a) (.inl 0) x.D=AV x from rfl,BC]
 have o:=Ex c;have e:=i.app [.Bc (AV x)];have v:=sW hK c e (r:=(SA σ0 q g K a Q F J).length) (by simp) (.inr (by unfold SA S;rw[Dd];show σ0.length+6<σ0.length+(J.length+7);omega));have w:=wV K c;have h:=YM (σ0:=σ0) (q:=q) (g:=g) hK ha (Q:=Q) (F:=F) (J:=J++[.Bc (AV x)]);rw[show SA σ0 q g K a Q F (J++[.Bc (AV x)])=SA σ0 q g K a Q F J++[.Bc (AV x)] by unfold SA S;simp]at h;have l:=λb=>jj e (m:="view_by") 2 Oc b rfl;have n:=λb=>jj e (m:="worth") 1 Gc b rfl;have fz:∀ t,gi (SA σ0 q g K a Q F J) (.ok (.bl t) (SA σ0 q g K a Q F J++[.Bc (AV x)]))=.ok (.bl t) (SA σ0 q g K a Q F J):=λt=>mV (by simp);unfold Fb YU;simp[j,k,p,o,v,w,h,l,n,fz]
omit hK ha
theorem YA:pc [.ref σ0.length,.int 0] (SA σ0 q g K a Q F J)=.ok (.bl true) (SA σ0 q g K a Q F J):=by
 have b:=ij σ0 q g K (AV a) Q F J;have f:=Zs b;have c:=xQ b;have h:=iO b;have i:Ow (.int 0) (.ref (σ0.length+2)) (SA σ0 q g K a Q F J)=.ok (.bl true) (SA σ0 q g K a Q F J):=by
  have:Uj (SA σ0 q g K a Q F J) (.ref (σ0.length+2))=some (AV a):=by unfold Uj;simp[lB]
  unfold Ow;simp only[this];rfl
 have e:∀ d,EI (.gt ["held"]) (.gt ["held"]) d=.ok (.bl true) d:=λd=>nr rfl;unfold pc iR;simp[f,c,h,i,e]
theorem Vu:Jl (.ref (σ0.length+2)) (.int 0) (SA σ0 q g K a Q F J)=.ok a.D (SA σ0 q g K a Q F J):=NE lB rfl
include ha
theorem PK:Zb [.ref σ0.length,.int 0] (SA σ0 q g K a Q F J)=.ok a.D (SA σ0 q g K a Q F J):=by
 have d:=ij σ0 q g K (AV a) Q F J;have c:=Zs d;have i:xw (.int 0) (.ref (σ0.length+2)) (SA σ0 q g K a Q F J)=.ok (.bl false) (SA σ0 q g K a Q F J):=by
  have:Uj (SA σ0 q g K a Q F J) (.ref (σ0.length+2))=some (AV a):=by unfold Uj;simp[lB]
  unfold xw;simp only[this];rfl
 have h:=Vu (σ0:=σ0) (q:=q) (g:=g) (K:=K) (a:=a) (Q:=Q) (F:=F) (J:=J);have b:=Zw ha;unfold Zb YQ;simp[c,i,h,b]
omit ha
theorem sR:Fc [.ref σ0.length] (SA σ0 q g K a Q F J)=.ok (.int g) (SA σ0 q g K a Q F J):=by
 have b:=Ï (ij σ0 q g K (AV a) Q F J);unfold Fc bP;simp[b]
theorem aE(x:Ac)(b:Ev):mu b x.D (.ref (σ0.length+2)) (.int 0) (SA σ0 q g K a Q F J)=.ok (.nx b) (SA σ0 q g K x Q F J):=by
 rw[Aw lB (by simp)];unfold SA S;rw[Kx];rfl
end
def Wf(s:Int)(X:D):D:=.Ga [.str "agree",.int 0,.int s,X]
def Ip(s n:Int):D:=.Ga [.str "strike",.int 0,.int s,.int n]
def vh(s:Sn):D:=.Ga [.str "offer",.int 0,Wf 0 s.D]
def um(n:Int):D:=.Ga [.str "struck",.int 0,Ip 0 n]
def Tn(m s:Sn):D:=.Ga [.str "accept",.int 0,Wf 1 s.D,Ip 1 m.n]
def Al(s:Sn):D:=.Ga [.str "ask",.int 0,.Ga [.int s.a,.int s.b],.Ga (s.ts.map Ti.D)]
theorem Ix{xs:List D}(h:∀ x∈xs,pl n x=true):pl (n+1) (.Ga xs)=true:=cc.mpr h
theorem bQ(n:Nat)(t:Ti):pl (n+1) t.D=true:=by simp[pl,Ti.D]
theorem vJ(n:Nat)(ts:List Ti):pl (n+2) (.Ga (ts.map Ti.D))=true:=Ix λx a=>by obtain⟨t,_,rfl⟩:=Gb.mp a;exact bQ n t
theorem AI(n:Nat)(s:Sn):pl (n+3) s.D=true:=Ix λx c=>by
 have c:x=.int s.n\/x=.Ga [.int s.a,.int s.b]\/x=.Ga (s.ts.map Ti.D):=by simpa using c
 rcases c with rfl|rfl|rfl
 ·simp[pl]
 ·simp[pl]
 ·exact vJ n s.ts
theorem nN(n:Nat)(q:Int)(s:Sn):pl (n+4) (Wf q s.D)=true:=Ix λx a=>by
 have a:x=.str "agree"\/x=.int 0\/x=.int q\/x=s.D:=by simpa using a
 rcases a with rfl|rfl|rfl|rfl
 ·simp[pl]
 ·simp[pl]
 ·simp[pl]
 ·exact AI n s
theorem G0(s:Sn):pl 8 (vh s)=true:=Ix λx a=>by
 have a:x=.str "offer"\/x=.int 0\/x=Wf 0 s.D:=by simpa using a
 rcases a with rfl|rfl|rfl
 ·simp[pl]
 ·simp[pl]
 ·exact nN 3 0 s
theorem VY(m s:Sn):pl 8 (Tn m s)=true:=Ix λx a=>by
 have a:x=.str "accept"\/x=.int 0\/x=Wf 1 s.D\/x=Ip 1 m.n:=by simpa using a
 rcases a with rfl|rfl|rfl|rfl
 ·simp[pl]
 ·simp[pl]
 ·exact nN 3 1 s
 ·simp[pl,Ip]
theorem O1(n:Int):pl 8 (um n)=true:=by simp[pl,um,Ip]
theorem Fp(h:cl X=true):cl (Wf s X)=true:=by unfold Wf;simp[h]
theorem kM(s:Sn):cl (vh s)=true:=by unfold vh;simp[Fp (Si s)]
theorem M2(n:Int):cl (um n)=true:=by unfold um Ip;simp
theorem n8(m s:Sn):cl (Tn m s)=true:=by unfold Tn Ip;simp[Fp (Si s)]
theorem vQ(s:Sn):cl (Al s)=true:=by unfold Al;simp[JJ]
section
variable(σ:nb)
theorem PM{q:Int}(c:q=0\/q=1)(k X:D):ze [.Ga [k,.int 0,.int q,X]] σ=.ok (.bl true) σ:=by
 have a:=LJ c σ;have b:=iL σ;unfold ze bT;simp[a,b]
theorem TU{q:Int}(e:q=0\/q=1){s:Sn}(h:Rs s.n s.a s.b s.ts):Gf [Wf q s.D] σ=.ok (.bl true) σ:=by
 have c:=Kz h σ;have d:=λX=>PM σ e (.str "agree") X;have t:Ee [Wf q s.D] σ=.ok (.bl true) σ:=by
  unfold Sn.D Wf Ee lI;simp[c,d]
 have i:Ma (Wf q s.D) (.int 0) σ=.ok (.str "agree") σ:=by unfold Wf;simp
 unfold Gf NJ;simp[t,i]
theorem bU{q n:Int}(c:q=0\/q=1)(h:0<=n/\n<=1000000):Vf [Ip q n] σ=.ok (.bl true) σ:=by
 have a:=wW h σ;have b:=λX=>PM σ c (.str "strike") X;have t:Ee [Ip q n] σ=.ok (.bl true) σ:=by
  unfold Ip Ee lI;simp[a,b]
 have i:Ma (Ip q n) (.int 0) σ=.ok (.str "strike") σ:=by unfold Ip;simp
 unfold Vf dS;simp[t,i]
theorem JH{k:Str}{x:D}{r:List D}(c:r.length<=3)(h:kc [.Ga (.str k::.int 0::x::r)] σ=.ok (.bl true) σ):gc [.Ga (.str k::.int 0::x::r)] σ=.ok (.bl true) σ:=by
 have a:=iL σ;have b:Hl [.Ga (.str k::.int 0::x::r)] σ=.ok (.int (r.length+3)) σ:=by
  have:=IF (σ:=σ) (.str k::.int 0::x::r);rw[this];congr 2
 have lt:decide ((r.length:Int)+3<3)=false:=Da (by omega);unfold gc SM;simp[h,a,b,lt]
theorem aL{s:Sn}(h:Rs s.n s.a s.b s.ts):gc [vh s] σ=.ok (.bl true) σ:=by
 have a:=TU σ (.inl rfl) h;refine JH σ (by simp) ?_;unfold kc Ly;simp[a]
theorem JO{m s:Sn}(h:Rs s.n s.a s.b s.ts)(c:0<=m.n/\m.n<=1000000):gc [Tn m s] σ=.ok (.bl true) σ:=by
 have a:=TU σ (.inr rfl) h;have b:=bU σ (.inr rfl) c;refine JH σ (by simp) ?_;unfold kc Ly;simp[a,b]
theorem zL{n:Int}(h:0<=n/\n<=1000000):gc [um n] σ=.ok (.bl true) σ:=by
 have b:=bU σ (.inl rfl) h;refine JH σ (by simp) ?_;unfold kc Ly;simp[b]
theorem RZ{s:Sn}(h:Rs s.n s.a s.b s.ts):gc [Al s] σ=.ok (.bl true) σ:=by
 have a:=Kz (n:=0) ⟨by omega,h.a,h.b,h.t,h.l,h.d⟩ σ;unfold Fo at a;refine JH σ (by simp) ?_;unfold kc Ly;simp[a]
end
theorem W2{W:Int}{s m:Sn}(h:s.Ok W)(f:m.Ok W)(i:s.n=m.n+1)(c:nb):yf [s.D,m.D] c=.ok (.bl true) c:=by
 have d:=iW h.st c;have e:=UK m.n m.a m.b (ts:=m.ts) (by have:=f.st.l;omega) c;rw[h.w]at d;rw[f.w]at e;have j:=s0 s c;have k:=s0 m c;have g:(s.n == m.n+1)=true:=by simp[i]
 unfold yf UR;unfold Sn.D at *;simp[d,e,j,k,g]
section
variable{a:Ac}(ha:a.Ok)
include ha
theorem bD(s:Int){X:D}(c:cl X=true)(b:nb):na [a.D,.int s,X] b=.ok (Wf s X) b:=by
 have p:=Ex ha;unfold na ZO Wf;simp[p,c]
theorem DG(s:Int)(m:Sn)(b:nb):Ka [a.D,.int s,m.D] b=.ok (Ip s m.n) b:=by
 have p:=Ex ha;have c:=s0 m;unfold Ka zR Ip;simp[p,c]
end
structure JM(s:Sn):Prop where
 n:0<=s.n/\s.n<=1000000
 t:∀ t∈s.ts,t.Ok
 l:s.ts.length<=6
 d:¬ (s.ts.map Ti.w).Nodup
theorem QR(h:JM s)(c:nb):yd [s.D] c=.ok (.bl false) c:=by
 have:=gG (a:=s.a) (b:=s.b) h.n h.t h.l c;rw[Da h.d,nk]at this;exact this
section
variable{s:Sn}(h:JM s)(σ:nb)
include h
theorem MR{q:Int}(c:q=0\/q=1):Gf [Wf q s.D] σ=.ok (.bl false) σ:=by
 have a:=QR h σ;have b:=λX=>PM σ c (.str "agree") X;have t:Ee [Wf q s.D] σ=.ok (.bl false) σ:=by
  unfold Wf Ee lI;simp[a,b]
 unfold Gf NJ;simp[t]
omit h
theorem FM{k:Str}{x:D}{r:List D}(c:r.length<=3)(h:kc [.Ga (.str k::.int 0::x::r)] σ=.ok (.bl false) σ):gc [.Ga (.str k::.int 0::x::r)] σ=.ok (.bl false) σ:=by
 have a:=iL σ;have b:Hl [.Ga (.str k::.int 0::x::r)] σ=.ok (.int (r.length+3)) σ:=by
  have:=IF (σ:=σ) (.str k::.int 0::x::r);rw[this];congr 2
 have lt:decide ((r.length:Int)+3<3)=false:=Da (by omega);unfold gc SM;simp[h,a,b,lt]
include h
theorem Į:gc [vh s] σ=.ok (.bl false) σ:=by
 have a:=MR h σ (.inl rfl);refine FM σ (by simp) ?_;unfold kc Ly;simp[a]
theorem B8(m:Sn):gc [Tn m s] σ=.ok (.bl false) σ:=by
 have a:=MR h σ (.inr rfl);refine FM σ (by simp) ?_;unfold kc Ly;simp[a]
theorem Ĉ:gc [Al s] σ=.ok (.bl false) σ:=by
 have a:=QR (s:=⟨0,s.a,s.b,s.ts⟩) ⟨by simp,h.t,h.l,h.d⟩ σ;unfold Sn.D Fo at a;refine FM σ (by simp) ?_;unfold kc Ly;simp[a]
end
theorem rJ{W:Int}{s:Sn}(h:s.Ok W):(s.ts.map Ti.w).Nodup/\s.ts.length<=9:=⟨h.st.d,by have:=h.st.l;omega⟩
theorem FJ{W:Int}{s:Sn}(h:s.Ok W):∀ t∈s.ts,0<=t.a:=λt b=>by have:=(h.st.t t b).a;omega
theorem TZ{W:Int}(h:s.Ok W):sv [s]:=⟨.inl ⟨s,rfl⟩,λt a=>by
 have:t=s:=by simpa using a
 subst this;exact rJ h,λt a=>by
 have:t=s:=by simpa using a
 subst this;exact FJ h⟩
theorem bS{W:Int}(h:s.Ok W)(b:r.Ok W):sv [s,r]:=⟨.inr ⟨s,r,rfl⟩,λt a=>by
 have a:t=s\/t=r:=by simpa using a
 rcases a with rfl|rfl
 ·exact rJ h
 ·exact rJ b,λt a=>by
 have a:t=s\/t=r:=by simpa using a
 rcases a with rfl|rfl
 ·exact FJ h
 ·exact FJ b⟩
section
variable{q:Int}(hq:q=0\/q=1)
include hq
theorem zp{m:Sn}{W:Int}(c:m.Ok W){G:D}{L:List D}(a:cl G=true)(b:wg L=true):(Aa q m G L).Ok:=⟨hq,rfl,a,b,TZ c⟩
theorem GB{m o:Sn}{W:Int}(c:m.Ok W)(d:o.Ok W){G:D}{L:List D}(a:cl G=true)(b:wg L=true):(Fi q m o G L).Ok:=⟨hq,rfl,a,b,bS c d⟩
theorem jA{o m:Sn}{W:Int}(d:o.Ok W)(c:m.Ok W){G:D}{L:List D}(a:cl G=true)(b:wg L=true):(ik q o m G L).Ok:=⟨hq,rfl,a,b,bS d c⟩
end
section
variable{m s:Sn}{W:Int}(hm:m.Ok W)(hs:s.Ok W)(hn:s.n=m.n+1){G:D}{L:List D}(hg:cl G=true)(hl:wg L=true)(hLk:L.length<=100)
include hm hs hn hg hl
theorem IM(a:nb):Cc [(Aa 1 m G L).D,vh s] a=.ok (.Ga [(ik 1 m s (Wf 0 s.D) L).D,Tn m s]) a:=by
 have e:(1:Int)=0\/(1:Int)=1:=.inr rfl;have c:=zp e hm hg hl;have g:=jA e hm hs (Fp (s:=0) (Si s)) hl;have t:=λa=>aL a hs.st;have i:∀ a,Nc [4,5,6,7] "side" (Aa 1 m G L).D a=.ok (.int 1) a:=Lv c;have j:=Ex c;have p:∀ a,Ma (vh s) (.int 0) a=.ok (.str "offer") a:=λa=>by unfold vh;simp
 have q:∀ a,Ma (vh s) (.int 2) a=.ok (Wf 0 s.D) a:=λa=>by unfold vh;simp
 have r:∀ a,Ma (Wf 0 s.D) (.int 3) a=.ok s.D a:=λa=>by unfold Wf;simp
 have h:=bD c 0 (Si s);have d:∀ a,na [(Aa 1 m G L).D,.int 1,s.D] a=.ok (Wf 1 s.D) a:=bD c 1 (Si s);have z:∀ a,Ka [(Aa 1 m G L).D,.int 1,m.D] a=.ok (Ip 1 m.n) a:=DG c 1 m;have y:∀ a,uh (.str "offer") (.str "offer") a=.ok (.bl false) a:=λa=>Ar (by simp[pl]);have w:∀ b a,Km [(5,na)] 3 "agree_of" b (Aa 1 m G L).D a=(b a).bind (Ik 3 na (Aa 1 m G L).D):=λb a=>lp (Qn rfl) rfl rfl;have v:∀ b a,Km [(5,Ka)] 3 "strike_of" b (Aa 1 m G L).D a=(b a).bind (Ik 3 Ka (Aa 1 m G L).D):=λb a=>lp (Qn rfl) rfl rfl;have x:∀ a,uh (vh s) (.Ga [.str "offer",.int 0,Wf 0 s.D]) a=.ok (.bl false) a:=λa=>Ar (G0 s);have o:=W2 hs hm hn;have u:∀ a,gi a (Mq 7 7 Nj [.int 0,.int 1,s.D,Wf 0 s.D,.va [m.D,s.D],.va L] a)=.ok (ik 1 m s (Wf 0 s.D) L).D a:=ZE g;have k:∀ a,Nc [4,5,6,7] "mine" (Aa 1 m G L).D a=.ok m.D a:=ny c;have l:∀ a,Nc [4,5,6,7] "strikes" (Aa 1 m G L).D a=.ok (.va L) a:=UI c;have f:cl (.Ga [(ik 1 m s (Wf 0 s.D) L).D,Tn m s])=true:=by simp[Zw g,n8]
 unfold Tn at f ⊢;unfold Cc OK;simp[t,i,j,k,l,p,q,r,h,d,z,w,v,x,y,o,u,f]
theorem CS(c:nb):dh [(Aa 0 m G L).D,.Ga [.int s.a,.int s.b],.Ga (s.ts.map Ti.D)] c=.ok (.Ga [(Fi 0 m s G L).D,vh s]) c:=by
 have f:(0:Int)=0\/(0:Int)=1:=.inl rfl;have e:=zp f hm hg hl;have g:=GB f hm hs hg hl;have k:∀ c,Nc [4,5,6,7] "side" (Aa 0 m G L).D c=.ok (.int 0) c:=Lv e;have o:∀ c,Nc [4,5,6,7] "pot" (Aa 0 m G L).D c=.ok (.int 0) c:=Ex e;have p:∀ c,Nc [4,5,6,7] "mine" (Aa 0 m G L).D c=.ok m.D c:=ny e;have q:∀ c,Nc [4,5,6,7] "strikes" (Aa 0 m G L).D c=.ok (.va L) c:=UI e;have r:∀ c,Nc [4,5,6,7] "grant" (Aa 0 m G L).D c=.ok G c:=GS e;have u:=s0 m;have j:∀ c,Lh [m.D] c=.ok (.int W) c:=λc=>by rw[<-hm.w];exact UK _ _ _ (by have:=hm.st.l;omega) c
 have E:∀ c,ue [s.D,.int W] c=.ok (.bl true) c:=λc=>by rw[<-hs.w];exact iW hs.st c
 have C:D.Ga [.int (m.n+1),.Ga [.int s.a,.int s.b],.Ga (s.ts.map Ti.D)]=s.D:=by rw[<-hn];rfl
 have A:∀ c,uh (.str "calm") (.str "calm") c=.ok (.bl false) c:=λc=>Ar (by simp[pl]);have i:∀ x c,Pb [x] c=.ok (.str "calm") c:=λx c=>by unfold Pb SF;simp
 have z:∀ d c,Km [(5,Pb),(6,Wb),(7,Vb)] 1 "word" d (Aa 0 m G L).D c=(d c).bind (Ik 1 Pb (Aa 0 m G L).D):=λd c=>lp (Qn rfl) rfl rfl;have h:∀ c,na [(Aa 0 m G L).D,.int 0,s.D] c=.ok (Wf 0 s.D) c:=bD e 0 (Si s);have y:∀ d c,Km [(4,na),(5,na),(6,na),(7,na)] 3 "agree_of" d (Aa 0 m G L).D c=(d c).bind (Ik 3 na (Aa 0 m G L).D):=λd c=>lp (Qn rfl) rfl rfl;have v:∀ c,gi c (Mq 6 7 Nj [.int 0,.int 0,m.D,G,.va [m.D,s.D],.va L] c)=.ok (Fi 0 m s G L).D c:=ZE g;have B:D.Ga [.str "offer",.int 0,Wf 0 s.D]=vh s:=rfl;have t:cl (.Ga [(Fi 0 m s G L).D,vh s])=true:=by simp[Zw g,kM]
 unfold dh cR;simp[k,o,p,q,r,u,j,E,C,A,i,z,h,y,v,B,t]
omit hn
include hLk
theorem z7(a:nb):Ec [(Fi 0 m s G L).D,Tn m s] a=.ok (.Ga [(Aa 0 s (Wf 1 s.D) (L++[.int m.n])).D,um m.n]) a:=by
 have f:(0:Int)=0\/(0:Int)=1:=.inl rfl;have b:=GB f hm hs hg hl;have d:wg (L++[.int m.n])=true:=by rw[eD,hl];rfl
 have g:=zp f hs (Fp (s:=1) (Si s)) d;have t:=λa=>JO a hs.st hm.st.n;have j:∀ a,Nc [4,5,6,7] "side" (Fi 0 m s G L).D a=.ok (.int 0) a:=Lv b;have k:∀ a,Nc [4,5,6,7] "pot" (Fi 0 m s G L).D a=.ok (.int 0) a:=Ex b;have l:∀ a,Nc [4,5,6,7] "mine" (Fi 0 m s G L).D a=.ok m.D a:=ny b;have o:∀ a,Nc [4,5,6,7] "strikes" (Fi 0 m s G L).D a=.ok (.va L) a:=UI b;have p:∀ a,Nc [4,5,6,7] "may" (Fi 0 m s G L).D a=.ok (.va [m.D,s.D]) a:=kH b;have i:∀ a,na [(Fi 0 m s G L).D,.int 1,s.D] a=.ok (Wf 1 s.D) a:=bD b 1 (Si s);have y:∀ a,Ka [(Fi 0 m s G L).D,.int 1,m.D] a=.ok (Ip 1 m.n) a:=DG b 1 m;have e:∀ a,Ka [(Fi 0 m s G L).D,.int 0,m.D] a=.ok (Ip 0 m.n) a:=DG b 0 m;have r:=s0 m;have w:∀ c a,Km [(6,na)] 3 "agree_of" c (Fi 0 m s G L).D a=(c a).bind (Ik 3 na (Fi 0 m s G L).D):=λc a=>lp (Qn rfl) rfl rfl;have v:∀ c a,Km [(6,Ka)] 3 "strike_of" c (Fi 0 m s G L).D a=(c a).bind (Ik 3 Ka (Fi 0 m s G L).D):=λc a=>lp (Qn rfl) rfl rfl;have x:∀ a,uh (Tn m s) (.Ga [.str "accept",.int 0,Wf 1 s.D,Ip 1 m.n]) a=.ok (.bl false) a:=λa=>Ar (VY m s);have h:∀ a,kh (.va L) (.va [.int m.n]) a=.ok (.va (L++[.int m.n])) a:=λa=>IC (by unfold oi;simp;omega);have u:∀ a,gi a (Mq 5 7 Nj [.int 0,.int 0,s.D,Wf 1 s.D,.va [s.D],.va (L++[.int m.n])] a)=.ok (Aa 0 s (Wf 1 s.D) (L++[.int m.n])).D a:=ZE g;have z:D.Ga [.str "struck",.int 0,Ip 0 m.n]=um m.n:=rfl;have q:cl (.Ga [(Aa 0 s (Wf 1 s.D) (L++[.int m.n])).D,um m.n])=true:=by simp[Zw g,M2]
 unfold Ec gQ;simp[t,j,k,l,o,p,i,y,e,r,w,v,x,h,u,z,q]
theorem Ħ(a:nb):Dc [(ik 1 m s G L).D,um m.n] a=.ok (.Ga [(Aa 1 s G (L++[.int m.n])).D,.Rb]) a:=by
 have e:(1:Int)=0\/(1:Int)=1:=.inr rfl;have b:=jA e hm hs hg hl;have d:wg (L++[.int m.n])=true:=by rw[eD,hl];rfl
 have f:=zp e hs hg d;have r:=λa=>zL a hm.st.n;have h:∀ a,Nc [4,5,6,7] "side" (ik 1 m s G L).D a=.ok (.int 1) a:=Lv b;have i:=Ex b;have j:∀ a,Nc [4,5,6,7] "mine" (ik 1 m s G L).D a=.ok s.D a:=ny b;have k:∀ a,Nc [4,5,6,7] "strikes" (ik 1 m s G L).D a=.ok (.va L) a:=UI b;have l:∀ a,Nc [4,5,6,7] "may" (ik 1 m s G L).D a=.ok (.va [m.D,s.D]) a:=kH b;have o:∀ a,Nc [4,5,6,7] "grant" (ik 1 m s G L).D a=.ok G a:=GS b;have q:=s0 m;have w:∀ a,Ka [(ik 1 m s G L).D,.int 0,m.D] a=.ok (Ip 0 m.n) a:=DG b 0 m;have u:∀ c a,Km [(7,Ka)] 3 "strike_of" c (ik 1 m s G L).D a=(c a).bind (Ik 3 Ka (ik 1 m s G L).D):=λc a=>lp (Qn rfl) rfl rfl;have v:∀ a,uh (um m.n) (.Ga [.str "struck",.int 0,Ip 0 m.n]) a=.ok (.bl false) a:=λa=>Ar (O1 ..);have g:∀ a,kh (.va L) (.va [.int m.n]) a=.ok (.va (L++[.int m.n])) a:=λa=>IC (by unfold oi;simp;omega);have t:∀ a,gi a (Mq 5 7 Nj [.int 0,.int 1,s.D,G,.va [s.D],.va (L++[.int m.n])] a)=.ok (Aa 1 s G (L++[.int m.n])).D a:=ZE f;have p:cl (.Ga [(Aa 1 s G (L++[.int m.n])).D,.Rb])=true:=by simp[Zw f]
 unfold Dc zT;simp[r,h,i,j,k,l,o,q,w,u,v,g,t,p]
end
theorem CZ(m:e b a=.ok x a)(n:f b a=.ok y a)(p:Rl a x=some (c,i))(q:Rl a y=some (d,k))(o:(c,d)∈l):Zx l h e f j g b a=g b a:=by
 unfold Zx;rw[oo,m,Bs,oo,n,Bs];unfold jH;simp only[p,q];rw[ja o]
theorem j4(k:f d a=.ok x a)(m:g d a=.ok y a)(q:Rl a x=some (c,fs))(r:Rl a y=some (c,gs))(p:(c,c) ∉ l)(o:c∈e)(n:h d a=.ok (.rt z) b)(j:i d a=.ok (.rt z) b):Zx l e f g h i d a=.ok (.rt z) b:=by
 unfold Zx;rw[oo,k,Bs,oo,m,Bs];unfold jH;simp only[q,r];rw[ka p,ja ⟨⟨rfl,o⟩,z,b,n,j⟩,j]
def At(d:Int)(s:Sn):D:=.Ga [.int d,.Ga [.int s.a,.int s.b],.Ga (s.ts.map Ti.D)]
abbrev QV(d:Int)(s:Sn):Kv:=[(.inl 0,At d s)]
section
variable{σ0:nb}{q g:Int}{K:List Int}{a:Ac}{F:Bool}{J:nb}
theorem lE(Q:Kv):(SA σ0 q g K a Q F J)[σ0.length+5]?=some (.Bc Q):=Wv 5
theorem xL(Q:Kv):Uj (SA σ0 q g K a Q F J) (.ref (σ0.length+5))=some Q:=by unfold Uj;simp[lE]
theorem cP(h:∀ c,Ma X (.int 0) c=.ok (.str k) c)(l:∀ c,Ma X (.int 1) c=.ok (.int 0) c)(j:Q=[]\/(k == ("offer" : Str))=false):Hb [.ref σ0.length,X] (SA σ0 q g K a Q F J)=.ok (.bl false) (SA σ0 q g K a Q F J):=by
 have i:=SE (ij σ0 q g K (AV a) Q F J);have n:Q=[]->xw (.int 0) (.ref (σ0.length+5)) (SA σ0 q g K a Q F J)=.ok (.bl true) (SA σ0 q g K a Q F J):=λe=>by
  unfold xw;simp only[xL];rw[e];rfl
 have f:∀ c,uh (.str k) (.str "offer") c=.ok (.bl (!(k == "offer"))) c:=λc=>Jy (b:=(k == "offer")) (by simp[yj,kd,To,Zj]);unfold Hb RK;rcases j with d|d
 ·have n:=n d;generalize (k == ("offer" : Str))=B at *;cases B<;>simp[h,l,i,n,f]
 ·rw[d]at f;simp[h,i,f]
theorem J7(d:Int)(s:Sn):Hb [.ref σ0.length,vh s] (SA σ0 q g K a (QV d s) F J)=.ok (.bl true) (SA σ0 q g K a (QV d s) F J):=by
 have o:=SE (ij σ0 q g K (AV a) (QV d s) F J);have n:xw (.int 0) (.ref (σ0.length+5)) (SA σ0 q g K a (QV d s) F J)=.ok (.bl false) (SA σ0 q g K a (QV d s) F J):=by
  unfold xw;simp only[xL];rfl
 have gt:Jl (.ref (σ0.length+5)) (.int 0) (SA σ0 q g K a (QV d s) F J)=.ok (At d s) (SA σ0 q g K a (QV d s) F J):=NE (lE _) rfl;have p:∀ c,uh (.str "offer") (.str "offer") c=.ok (.bl false) c:=λc=>Ar (by simp[pl]);have j:∀ c,Ma (vh s) (.int 0) c=.ok (.str "offer") c:=λc=>by unfold vh;simp
 have k:∀ c,Ma (vh s) (.int 1) c=.ok (.int 0) c:=λc=>by unfold vh;simp
 have l:∀ c,Ma (vh s) (.int 2) c=.ok (Wf 0 s.D) c:=λc=>by unfold vh;simp
 have m:∀ c,Ma (Wf 0 s.D) (.int 3) c=.ok s.D c:=λc=>by unfold Wf;simp
 have f:Gv [.int s.n,.Ga [.int s.a,.int s.b],.Ga (s.ts.map Ti.D)] (some 1) none=[.Ga [.int s.a,.int s.b],.Ga (s.ts.map Ti.D)]:=rfl;have h:Gv [.int d,.Ga [.int s.a,.int s.b],.Ga (s.ts.map Ti.D)] (some 1) none=[.Ga [.int s.a,.int s.b],.Ga (s.ts.map Ti.D)]:=rfl;have l1:∀ c,Fx s.D (some 1) none c=.ok (.Ga [.Ga [.int s.a,.int s.b],.Ga (s.ts.map Ti.D)]) c:=λc=>by
  unfold Sn.D Fo;rw[NH,f]
 have l2:∀ c,Fx (At d s) (some 1) none c=.ok (.Ga [.Ga [.int s.a,.int s.b],.Ga (s.ts.map Ti.D)]) c:=λc=>by
  unfold At;rw[NH,h]
 have i:∀ c,se (.Ga [.Ga [.int s.a,.int s.b],.Ga (s.ts.map Ti.D)]) (.Ga [.Ga [.int s.a,.int s.b],.Ga (s.ts.map Ti.D)]) c=.ok (.bl true) c:=λc=>Hz (Ix λx e=>by
  have e:x=.Ga [.int s.a,.int s.b]\/x=.Ga (s.ts.map Ti.D):=by simpa using e
  rcases e with rfl|rfl
  ·simp[pl]
  ·exact vJ 5 s.ts)
 unfold Hb RK;simp[j,k,l,m,o,n,p,gt,l1,l2,i]
end
@[simp] theorem zvm(b:List Nat)(f:Str)(d c:Ev->M D)(a:Ev)(e:nb):kI b f d c a e=Pn a (xz a b f d) (c a e):=oo ..
section
variable{σ0:nb}{q g:Int}{K:List Int}{a:Ac}{F:Bool}{J:nb}
theorem zV(h:c b (SA σ0 q g K a Q F J)=.ok (.int d) (SA σ0 q g K a Q F J)):xz b [9] "gave" c (.ref σ0.length) (SA σ0 q g K a Q F J)=.ok (.nx b) (SA σ0 q (g+d) K a Q F J):=by
 have f:=Xv (ij σ0 q g K (AV a) Q F J);have e:=(ij σ0 q g K (AV a) Q F J).h0;have lk:List.lookup ("gave" : Str) (Mz σ0.length q g)=some (D.int g):=rfl;unfold xz;rw[f];simp only[lk];rw[oo,h,Bs];unfold sJ;simp only[e];unfold SA S;rw[WT];rfl
theorem PY(d:Int)(s:Sn):bA (.ref (σ0.length+5)) [.int 0] (SA σ0 q g K a (QV d s) F J)=.ok (At d s) (SA σ0 q g K a [] F J):=by
 have h:=lE (σ0:=σ0) (q:=q) (g:=g) (K:=K) (a:=a) (F:=F) (J:=J) (QV d s);unfold bA;simp only[aq,h];unfold SA S;rw[Kx];rfl
theorem jX(c:Q.length<=9)(X:D)(b:Ev):mu b X (.ref (σ0.length+5)) (.int 0) (SA σ0 q g K a Q F J)=.ok (.nx b) (SA σ0 q g K a (Gn Q (.inl 0) X) F J):=by
 rw[Aw (lE Q) (by omega)];unfold SA S;rw[Kx];rfl
theorem PX(b:Ev):mu b (.bl true) (.ref (σ0.length+6)) (.int 0) (SA σ0 q g K a Q F J)=.ok (.nx b) (SA σ0 q g K a Q true J):=by
 rw[Aw (Wv 6) (by cases F<;>simp[fi])];unfold SA S;rw[Kx];cases F<;>rfl
variable{x:Ac}(hK:K.length<=60)(ha:a.Ok)(hx:x.Ok)
include ha
theorem HR{Q:Kv}{c:Nat}(h:(x.c,a.c)∈[(7,5),(5,7),(5,6)])(hx:x.Ok)(R X:D)(d e:Option D)(b:Ev->M Fl):Zx [(7,5),(5,7),(5,6)] [5] (ya Ma (ba 3) (eC (.int 0))) (ya Jl (Cd (Nc [9] "accounts") (ba 0)) (ba 2)) (Tc (Nh Ha)) b [some (.ref σ0.length),some X,some (.int 0),some (.Ga [x.D,R]),d,e] (SA σ0 q g K a Q F J)=b [some (.ref σ0.length),some X,some (.int 0),some (.Ga [x.D,R]),d,e] (SA σ0 q g K a Q F J):=by
 have i:=Zs (ij σ0 q g K (AV a) Q F J);have f:=Vu (σ0:=σ0) (q:=q) (g:=g) (K:=K) (a:=a) (Q:=Q) (F:=F) (J:=J);refine CZ ?_ ?_ (Dw hx _) (Dw ha _) h
 ·simp
 ·unfold SA at *;simp[i,f]
include hK hx
theorem iN{Q:Kv}{X R:D}{k:Str}{f:Bool}{fn:List D->M D}(t:∀ b,Ma X (.int 0) b=.ok (.str k) b)(l:∀ b,Ma X (.int 1) b=.ok (.int 0) b)(r:Q=[]\/(k == ("offer" : Str))=false)(w:∀ d b,Km [(5,Cc),(6,Ec),(7,Dc)] 2 "taken" d a.D b=(d b).bind (Ik 2 fn a.D))(A:∀ b,fn [a.D,X] b=.ok (.Ga [x.D,R]) b)(e:(x.c,a.c)∈[(7,5),(5,7),(5,6)])(z:∀ b,Wp R .Rb b=.ok (.bl f) b)(h:W K a<=W K x):Mb [.ref σ0.length,X] (SA σ0 q g K a Q F J)=.ok (.va (if f then []else [R])) (SA σ0 q g K x Q F J):=by
 have i:=ij σ0 q g K (AV a) Q F J;have u:=Zs i;have o:=Vu (σ0:=σ0) (q:=q) (g:=g) (K:=K) (a:=a) (Q:=Q) (F:=F) (J:=J);have n:=λB C p=>HR (σ0:=σ0) (q:=q) (g:=g) (K:=K) (F:=F) (J:=J) (c:=0) (Q:=Q) ha e hx R X B C p;have j:=jz (σ0:=σ0) (q:=q) (g:=g) (Q:=Q) (F:=F) (J:=J) hK ha hx 0;rw[Ia (show W K x ≥ W K a - 0 by omega)]at j;have s:=cP (σ0:=σ0) (q:=q) (g:=g) (K:=K) (F:=F) (J:=J) (a:=a) t l r;have v:=λd=>jj i (m:="is_good") 3 Fb d rfl;have y:=λd=>jj i (m:="is_as_asked") 2 Hb d rfl;have sa:=λE=>aE (σ0:=σ0) (q:=q) (g:=g) (K:=K) (a:=a) (Q:=Q) (F:=F) (J:=J) x E;unfold Mb HI mI aG qC lF YC fE XC HD;cases f<;>simp[u,o,l,w,A,n,j,v,y,s,sa,z]
theorem U2{d:Int}{s:Sn}{R:D}{fn:List D->M D}(H:∀ e b,Km [(5,Cc),(6,Ec),(7,Dc)] 2 "taken" e a.D b=(e b).bind (Ik 2 fn a.D))(P:∀ b,fn [a.D,vh s] b=.ok (.Ga [x.D,R]) b)(j:(x.c,a.c)∈[(7,5),(5,7),(5,6)])(O:∀ b,Wp R .Rb b=.ok (.bl false) b)(h:W K a - d<=W K x):Mb [.ref σ0.length,vh s] (SA σ0 q g K a (QV d s) F J)=.ok (.va [R]) (SA σ0 q (g+d) K x [] F J):=by
 have i:=ij σ0 q g K (AV a) (QV d s) F J;have S:=ij σ0 q g K (AV x) (QV d s) F J;have B:∀ b,Ma (vh s) (.int 1) b=.ok (.int 0) b:=λb=>by unfold vh;simp
 have C:=Zs i;have E:=SE i;have k:=SE S;have v:=Vu (σ0:=σ0) (q:=q) (g:=g) (K:=K) (a:=a) (Q:=QV d s) (F:=F) (J:=J);have u:=λf T y=>HR (σ0:=σ0) (q:=q) (g:=g) (K:=K) (F:=F) (J:=J) (c:=0) (Q:=QV d s) ha j hx R (vh s) f T y;have r:=jz (σ0:=σ0) (q:=q) (g:=g) (Q:=QV d s) (F:=F) (J:=J) hK ha hx d;rw[Ia (show W K x ≥ W K a - d by omega)]at r;have A:=J7 (σ0:=σ0) (q:=q) (g:=g) (K:=K) (F:=F) (J:=J) (a:=a) d s;have G:=λe=>jj i (m:="is_good") 3 Fb e rfl;have L:=λe=>jj i (m:="is_as_asked") 2 Hb e rfl;have w:Jl (.ref (σ0.length+5)) (.int 0) (SA σ0 q g K a (QV d s) F J)=.ok (At d s) (SA σ0 q g K a (QV d s) F J):=NE (lE _) rfl;have t:∀ b,Ma (At d s) (.int 0) b=.ok (.int d) b:=λb=>by unfold At;simp
 have sa:=λU=>aE (σ0:=σ0) (q:=q) (g:=g) (K:=K) (a:=a) (Q:=QV d s) (F:=F) (J:=J) x U;have I:∀ e,nA bA e (.ref (σ0.length+5)) (SA σ0 q g K x (QV d s) F J)=(e (SA σ0 q g K x (QV d s) F J)).bind (bA (.ref (σ0.length+5))):=λe=>by
  unfold nA;rw[xL];rfl
 have N:=PY (σ0:=σ0) (q:=q) (g:=g) (K:=K) (a:=x) (F:=F) (J:=J) d s;have z:∀ (l n o p f:Option D),xz [l,n,o,p,f,some (.int d)] [9] "gave" (ba 5) (.ref σ0.length) (SA σ0 q g K x [] F J)=.ok (.nx [l,n,o,p,f,some (.int d)]) (SA σ0 q (g+d) K x [] F J):=λl n o p f=>zV (by simp);unfold Mb HI mI aG qC lF YC fE XC HD;simp[C,E,k,v,B,H,P,u,r,G,L,A,w,t,sa,I,N,z,O]
omit hK hx
theorem i7{Q:Kv}{X:D}{k:Str}{fn:List D->M D}(hK:K.length<=60)(r:∀ b,Ma X (.int 0) b=.ok (.str k) b)(j:∀ b,Ma X (.int 1) b=.ok (.int 0) b)(o:Q=[]\/(k == ("offer" : Str))=false)(t:∀ d b,Km [(5,Cc),(6,Ec),(7,Dc)] 2 "taken" d a.D b=(d b).bind (Ik 2 fn a.D))(v:∀ b,fn [a.D,X] b=.ok (.Ga [a.D,.Rb]) b)(i:a.c=5):Mb [.ref σ0.length,X] (SA σ0 q g K a Q F J)=.ok (.va []) (SA σ0 q g K a Q F J):=by
 have f:=ij σ0 q g K (AV a) Q F J;have e:=Zs f;have h:=Vu (σ0:=σ0) (q:=q) (g:=g) (K:=K) (a:=a) (Q:=Q) (F:=F) (J:=J);have n:=jz (σ0:=σ0) (q:=q) (g:=g) (Q:=Q) (F:=F) (J:=J) hK ha ha 0;have p:=cP (σ0:=σ0) (q:=q) (g:=g) (K:=K) (F:=F) (J:=J) (a:=a) r j o;have s:=λd=>jj f (m:="is_good") 3 Fb d rfl;have u:=λd=>jj f (m:="is_as_asked") 2 Hb d rfl;have sa:=λw=>aE (σ0:=σ0) (q:=q) (g:=g) (K:=K) (a:=a) (Q:=Q) (F:=F) (J:=J) a w;have l:Zx [(7,5),(5,7),(5,6)] [5] (ya Ma (ba 3) (eC (.int 0))) (ya Jl (Cd (Nc [9] "accounts") (ba 0)) (ba 2)) (Tc (Nh Ha)) (ub qC (ub lF (ub YC (ub fE (ub XC HD))))) [some (.ref σ0.length),some X,some (.int 0),some (.Ga [a.D,.Rb]),none,none] (SA σ0 q g K a Q F J)=.ok (.rt (.va [])) (SA σ0 q g K a Q F J):=by
  refine j4 (x:=a.D) (y:=a.D) (c:=5) (fs:=_) (gs:=_) ?_ ?_ (by rw[Dw ha,i]) (by rw[Dw ha,i]) (by simp) (by simp) (by simp) ?_
  ·simp
  ·unfold SA at *;simp[e,h]
  ·unfold qC lF YC fE XC HD;have z:∀ b,Wp .Rb .Rb b=.ok (.bl true) b:=λb=>nr rfl;simp[e,n,s,u,p,sa]
 unfold Mb HI mI aG;simp[e,h,j,t,v,l]
omit ha
theorem xD(h:∀ b,gc [X] b=.ok (.bl true) b)(j:∀ b,Ma X (.int 0) b=.ok (.str k) b)(l:∀ b,Ma X (.int 1) b=.ok (.int 0) b)(o:(k == ("word" : Str))=false)(n:(k == ("ask" : Str))=false)
  (s:Mb [.ref σ0.length,X] (SA σ0 q g K a Q F J)=.ok d c):Pa [.ref σ0.length,X] (SA σ0 q g K a Q F J)=.ok d c:=by
 have f:=ij σ0 q g K (AV a) Q F J;have i:=YA (σ0:=σ0) (q:=q) (g:=g) (K:=K) (a:=a) (Q:=Q) (F:=F) (J:=J);have p:=λe=>jj f (m:="holds") 2 pc e rfl;have r:=λe=>jj f (m:="take_step") 2 Mb e rfl;unfold Pa aH;simp[h,j,l,o,n,i,p,r,s]
theorem OM{a:nb}(n:Nat)(b:∀ a,gc [X] a=.ok (.bl false) a):Pa [.ref n,X] a=.ok (.va []) a:=by
 unfold Pa aH;simp[b]
end
section
variable{σ0:nb}{q g:Int}{K:List Int}(hK:K.length<=60){Q:Kv}{F:Bool}{J:nb}{m s:Sn}{T:Int}(hm:m.Ok T)(hs:s.Ok T)(hn:s.n=m.n+1){G:D}{L:List D}(hg:cl G=true)(hl:wg L=true)(hLk:L.length<=100)
include hK hm hs hn hg hl
theorem dM(h:W K (Aa 1 m G L)<=W K (ik 1 m s (Wf 0 s.D) L)):Pa [.ref σ0.length,vh s] (SA σ0 q g K (Aa 1 m G L) [] F J)=.ok (.va [Tn m s]) (SA σ0 q g K (ik 1 m s (Wf 0 s.D) L) [] F J):=by
 have d:=zp (.inr rfl) hm hg hl;have e:=jA (.inr rfl) hm hs (Fp (s:=0) (Si s)) hl;have b:∀ a,Ma (vh s) (.int 0) a=.ok (.str "offer") a:=λa=>by unfold vh;simp
 have c:∀ a,Ma (vh s) (.int 1) a=.ok (.int 0) a:=λa=>by unfold vh;simp
 have f:=iN (σ0:=σ0) (q:=q) (g:=g) (F:=F) (J:=J) hK d e b c (.inl rfl) (λi a=>lp (Qn rfl) rfl rfl) (λa=>IM hm hs hn hg hl a) (by simp[ik,Aa]) (λa=>rfl) h;exact xD (λa=>aL a hs.st) b c (by decide) (by decide) f
theorem ã{d:Int}(h:W K (Aa 1 m G L) - d<=W K (ik 1 m s (Wf 0 s.D) L)):Pa [.ref σ0.length,vh s] (SA σ0 q g K (Aa 1 m G L) (QV d s) F J)=.ok (.va [Tn m s]) (SA σ0 q (g+d) K (ik 1 m s (Wf 0 s.D) L) [] F J):=by
 have b:=zp (.inr rfl) hm hg hl;have c:=jA (.inr rfl) hm hs (Fp (s:=0) (Si s)) hl;have e:∀ a,Ma (vh s) (.int 0) a=.ok (.str "offer") a:=λa=>by unfold vh;simp
 have f:∀ a,Ma (vh s) (.int 1) a=.ok (.int 0) a:=λa=>by unfold vh;simp
 have i:=U2 (σ0:=σ0) (q:=q) (g:=g) (F:=F) (J:=J) hK b c (λj a=>lp (Qn rfl) rfl rfl) (λa=>IM hm hs hn hg hl a) (by simp[ik,Aa]) (λa=>rfl) h;exact xD (λa=>aL a hs.st) e f (by decide) (by decide) i
theorem wK(h:W K (Aa 0 m G L)<=W K (Fi 0 m s G L)):Pa [.ref σ0.length,Al s] (SA σ0 q g K (Aa 0 m G L) Q F J)=.ok (.va [vh s]) (SA σ0 q g K (Fi 0 m s G L) Q F J):=by
 have k:=zp (.inl rfl) hm hg hl;have n:=GB (q:=0) (.inl rfl) hm hs hg hl;have e:=ij σ0 q g K (AV (Aa 0 m G L)) Q F J;have o:∀ c,Ma (Al s) (.int 0) c=.ok (.str "ask") c:=λc=>by unfold Al;simp
 have i:∀ c,Ma (Al s) (.int 1) c=.ok (.int 0) c:=λc=>by unfold Al;simp
 have p:∀ c,Ma (Al s) (.int 2) c=.ok (.Ga [.int s.a,.int s.b]) c:=λc=>by unfold Al;simp
 have r:∀ c,Ma (Al s) (.int 3) c=.ok (.Ga (s.ts.map Ti.D)) c:=λc=>by unfold Al;simp
 have t:=Zs e;have j:=Vu (σ0:=σ0) (q:=q) (g:=g) (K:=K) (a:=Aa 0 m G L) (Q:=Q) (F:=F) (J:=J);have y:=CS hm hs hn hg hl;have f:=jz (σ0:=σ0) (q:=q) (g:=g) (Q:=Q) (F:=F) (J:=J) hK k n 0;rw[Ia (show W K (Fi 0 m s G L) ≥ W K (Aa 0 m G L) - 0 by omega)]at f;have v:=λd=>jj e (m:="is_good") 3 Fb d rfl;have sa:=λA=>aE (σ0:=σ0) (q:=q) (g:=g) (K:=K) (a:=Aa 0 m G L) (Q:=Q) (F:=F) (J:=J) (Fi 0 m s G L) A;have z:qd [.ref σ0.length,Al s] (SA σ0 q g K (Aa 0 m G L) Q F J)=.ok (.va [vh s]) (SA σ0 q g K (Fi 0 m s G L) Q F J):=by
  unfold qd MU xU RU zS XR;simp[t,j,i,p,r,y,f,v,sa]
 have u:=λc=>RZ c hs.st;have l:=YA (σ0:=σ0) (q:=q) (g:=g) (K:=K) (a:=Aa 0 m G L) (Q:=Q) (F:=F) (J:=J);have w:=λd=>jj e (m:="holds") 2 pc d rfl;have x:=λd=>jj e (m:="take_ask") 2 qd d rfl;unfold Pa aH;simp[u,o,i,l,w,x,z]
omit hn
include hLk
theorem CV(h:W K (Fi 0 m s G L)<=W K (Aa 0 s (Wf 1 s.D) (L++[.int m.n]))):Pa [.ref σ0.length,Tn m s] (SA σ0 q g K (Fi 0 m s G L) Q F J)=.ok (.va [um m.n]) (SA σ0 q g K (Aa 0 s (Wf 1 s.D) (L++[.int m.n])) Q F J):=by
 have e:=GB (.inl rfl) hm hs hg hl;have b:wg (L++[.int m.n])=true:=by rw[eD,hl];rfl
 have f:=zp (.inl rfl) hs (Fp (s:=1) (Si s)) b;have c:∀ a,Ma (Tn m s) (.int 0) a=.ok (.str "accept") a:=λa=>by unfold Tn;simp
 have d:∀ a,Ma (Tn m s) (.int 1) a=.ok (.int 0) a:=λa=>by unfold Tn;simp
 have i:=iN (σ0:=σ0) (q:=q) (g:=g) (F:=F) (J:=J) (Q:=Q) hK e f c d (.inr (by decide)) (λj a=>lp (Qn rfl) rfl rfl) (λa=>z7 hm hs hg hl hLk a) (by simp[Fi,Aa]) (λa=>rfl) h;exact xD (λa=>JO (m:=m) a hs.st hm.st.n) c d (by decide) (by decide) i
theorem NU(h:W K (ik 1 m s G L)<=W K (Aa 1 s G (L++[.int m.n]))):Pa [.ref σ0.length,um m.n] (SA σ0 q g K (ik 1 m s G L) Q F J)=.ok (.va []) (SA σ0 q g K (Aa 1 s G (L++[.int m.n])) Q F J):=by
 have e:=jA (.inr rfl) hm hs hg hl;have b:wg (L++[.int m.n])=true:=by rw[eD,hl];rfl
 have f:=zp (.inr rfl) hs hg b;have c:∀ a,Ma (um m.n) (.int 0) a=.ok (.str "struck") a:=λa=>by unfold um;simp
 have d:∀ a,Ma (um m.n) (.int 1) a=.ok (.int 0) a:=λa=>by unfold um;simp
 have i:=iN (σ0:=σ0) (q:=q) (g:=g) (F:=F) (J:=J) (Q:=Q) hK e f c d (.inr (by decide)) (λj a=>lp (Qn rfl) rfl rfl) (λa=>Ħ hm hs hg hl hLk a) (by simp[ik,Aa]) (λa=>rfl) h;exact xD (λa=>zL a hm.st.n) c d (by decide) (by decide) i
omit hs hLk
theorem Ċ{n:Int}(h:0<=n/\n<=1000000):Pa [.ref σ0.length,um n] (SA σ0 q g K (Aa 1 m G L) Q F J)=.ok (.va []) (SA σ0 q g K (Aa 1 m G L) Q F J):=by
 have c:=zp (q:=1) (.inr rfl) hm hg hl;have d:∀ a,Ma (um n) (.int 0) a=.ok (.str "struck") a:=λa=>by unfold um;simp
 have e:∀ a,Ma (um n) (.int 1) a=.ok (.int 0) a:=λa=>by unfold um;simp
 have f:=λa=>zL a h;have i:∀ a,Nc [4,5,6,7] "side" (Aa 1 m G L).D a=.ok (.int 1) a:=Lv c;have l:∀ a,uh (.str "struck") (.str "offer") a=.ok (.bl true) a:=λa=>Jy (b:=false) (by simp[yj,L4.kd,To,Zj]);have k:∀ a,uh (.int 1) (.int 1) a=.ok (.bl false) a:=λa=>Ar (by simp[pl]);have j:cl (.Ga [(Aa 1 m G L).D,.Rb])=true:=by simp[Zw c]
 have p:∀ a,Cc [(Aa 1 m G L).D,um n] a=.ok (.Ga [(Aa 1 m G L).D,.Rb]) a:=λa=>by
  unfold Cc OK;simp[f,i,d,l,k,j]
 have o:=i7 (σ0:=σ0) (q:=q) (g:=g) (F:=F) (J:=J) (Q:=Q) c hK d e (.inr (by decide)) (fn:=Cc) (λr a=>lp (Qn rfl) rfl rfl) p rfl;exact xD f d e (by decide) (by decide) o
end
noncomputable def sa(q d a:Int):Int:=if q=0 then a+d else a
noncomputable def sb(q d b:Int):Int:=if q=0 then b else b+d
theorem cH(e:q=0\/q=1)(a b d:Int)(c:nb):Qe [.Ga [.int a,.int b],.int q,.int d] c=.ok (.Ga [.int (sa q d a),.int (sb q d b)]) c:=by
 unfold Qe eV sa sb;rcases e with rfl|rfl<;>simp
theorem fB(e:q=0\/q=1)(a b d:Int)(c:nb):re [.Ga [.int a,.int b],.int q,.int d] c=.ok (.Ga [.int (sa q d a),.int (sb q d b)]) c:=by
 unfold re uS sa sb;rcases e with rfl|rfl<;>simp
def fo(m:Sn)(q d:Int):Sn:=⟨m.n+1,sa (1 - q) d (sa q (-d) m.a),sb (1 - q) d (sb q (-d) m.b),m.ts⟩
def vd(m:Sn)(t:Ti):Sn:=⟨m.n+1,sa t.p (-t.a) m.a,sb t.p (-t.a) m.b,m.ts++[t]⟩
noncomputable def rm(w:Int)(a:List Ti):List Ti:=a.filter λu=>decide (u.w≠w)
def Vg(m:Sn)(t:Ti)(r:Int):Sn:=⟨m.n+1,sa r t.a m.a,sb r t.a m.b,rm t.w m.ts⟩
section
variable{m s:Sn}{W:Int}(hm:m.Ok W)(hW:W<=2000000000000)(hn:m.n<=99)
theorem EZ(h:∀ c,yd [s.D] c=.ok (.bl b) c)(c:nb):Kh [.int s.n,.Ga [.int s.a,.int s.b],.Ga (s.ts.map Ti.D)] c=if b then .ok s.D c else .ex ⟨1⟩ c:=by
 have e:D.Ga [.int s.n,.Ga [.int s.a,.int s.b],.Ga (s.ts.map Ti.D)]=s.D:=rfl;have d:=Si s;unfold Kh eM;cases b<;>simp[e,h,d]
theorem VJ(h:∀ c,yd [s.D] c=.ok (.bl b) c)(f:s.n=m.n+1)(c:nb):Bd [m.D,.Ga [.int s.a,.int s.b],.Ga (s.ts.map Ti.D)] c=if b then .ok s.D c else .ex ⟨1⟩ c:=by
 have d:=EZ h;rw[f]at d;have g:=s0 m;have e:=Si s;unfold Bd nS;cases b<;>simp[g,d,e]
include hm hW hn
theorem U3(d:Int)(a:nb):Re [.int d] a=.ok (.bl (bd (.int d) 1 1000000000000)) a:=by
 have b:=qE (d:=.int d) rfl 1 1000000000000 a;unfold Re JN;simp[b]
theorem vT{q d:Int}(f:q=0\/q=1)(i:0<=d)(c:d<=ow q m):(fo m q d).Ok W:=by
 obtain⟨⟨n,a,b,t,l,e⟩,w⟩:=hm;have j:0<=Qq m.ts:=by
  refine AH λx h=>?_;obtain⟨u,g,rfl⟩:=Gb.mp h;have:=(t u g).a;omega
 rcases f with rfl|rfl
 ·simp only[ow,zg]at c;refine⟨⟨?_,?_,?_,t,l,e⟩,?_⟩<;>simp[fo,sa,sb]<;>omega
 ·simp only[ow]at c;refine⟨⟨?_,?_,?_,t,l,e⟩,?_⟩<;>simp[fo,sa,sb]<;>omega
theorem ζ{q:Int}(f:q=0\/q=1)(d:Int)(c:nb):pk [m.D,.int q,.int d] c=if (1<=d/\d<=1000000000000)/\d<=ow q m then .ok (fo m q d).D c else .ex ⟨1⟩ c:=by
 have k:=LJ f;have e:=U3 hm hW hn d;by_cases i:1<=d/\d<=1000000000000
 ·have j:bd (.int d) 1 1000000000000=true:=by simp[bd,i]
  rw[j]at e;have v:=cH f m.a m.b (-d);have w:=cH (q:=1 - q) (by omega) (sa q (-d) m.a) (sb q (-d) m.b) d;have x:=pK q;have r:=s1 m;have u:=s2 m;have y:∀ c,yd [(fo m q d).D] c=.ok (.bl (decide (d<=ow q m))) c:=λc=>by
   by_cases h:d<=ow q m
   ·rw[Ia h];exact Kz (vT hm hW hn f (by omega) h).st c
   ·rw[Da h];have:=gG (n:=m.n+1) (a:=(fo m q d).a) (b:=(fo m q d).b) (ts:=m.ts) (by have:=hm.st.n;omega) hm.st.t (by have:=hm.st.l;omega) c;have z:Ju (fo m q d).a (fo m q d).b=false:=by
     have:=hm.st.a;have:=hm.st.b;rcases f with rfl|rfl
     ·simp[ow]at h;simp[fo,sa,Ju,bd];omega
     ·simp[ow]at h;simp[fo,sb,Ju,bd];omega
    rw[z,fq]at this;exact this
  have g:=VJ (m:=m) (s:=fo m q d) y rfl;have g:∀ c,Bd [m.D,.Ga [.int (sa (1 - q) d (sa q (-d) m.a)),.int (sb (1 - q) d (sb q (-d) m.b))],.Ga (m.ts.map Ti.D)] c=if decide (d<=ow q m)then .ok (fo m q d).D c else .ex ⟨1⟩ c:=g;have p:=Si (fo m q d);have o:((1<=d/\d<=1000000000000)/\d<=ow q m)=(d<=ow q m):=by simp[i]
  simp only[o];unfold pk DL;by_cases h:d<=ow q m<;>simp[k,e,v,w,x,r,u,g,h,p]
 ·have j:bd (.int d) 1 1000000000000=false:=by simp[bd];omega
  rw[j]at e;rw[ka λz=>i z.1];unfold pk DL;simp[k,e]
theorem pN{t:Ti}(g:t.Ok)(d:t.a<=ow t.p m)(v:m.ts.length<=4)(k:t.w ∉ m.ts.map Ti.w):(vd m t).Ok W:=by
 obtain⟨⟨n,a,b,s,l,r⟩,w⟩:=hm;have e:Qq (m.ts++[t])=Qq m.ts+t.a:=by simp[Qq]
 have i:∀ u∈(vd m t).ts,u.Ok:=λu j=>by
  rcases bf.mp j with h|h
  ·exact s u h
  ·have:u=t:=by simpa using h
   rw[this];exact g
 have l2:(vd m t).ts.length<=5:=by show (m.ts++[t]).length<=5;simp;omega
 have c:((vd m t).ts.map Ti.w).Nodup:=by
  show ((m.ts++[t]).map Ti.w).Nodup;rw[Zc,kf];exact⟨r,by simp,λx o y q e=>k (by have:y=t.w:=(by simpa using q);rw[<-this,<-e];exact o)⟩
 have z:=g.a;rcases g.p with f|f
 ·rw[f]at d;simp only[ow,zg]at d;refine⟨⟨?_,?_,?_,i,l2,c⟩,?_⟩<;>simp[vd,sa,sb]<;>omega
 ·rw[f]at d;simp only[ow]at d;refine⟨⟨?_,?_,?_,i,l2,c⟩,?_⟩<;>simp[vd,sa,sb,e]<;>omega
theorem Õ{t:Ti}(d:t.p=0\/t.p=1)(f:0<=t.w/\t.w<=59)(x:0<=t.y/\t.y<=1000000)(H:m.ts.length<=4)(c:nb):Cj [m.D,.int t.p,.int t.a,.int t.w,.int t.y] c=if ((1<=t.a/\t.a<=1000000000000)/\t.a<=ow t.p m)/\t.w ∉ m.ts.map Ti.w then .ok (vd m t).D c else .ex ⟨1⟩ c:=by
 have q:D.Ga [.int t.p,.int t.a,.int t.w,.int t.y]=t.D:=rfl;have g:=VP (t:=t) d f x;by_cases j:1<=t.a/\t.a<=1000000000000
 ·have l:bd (.int t.a) 1 1000000000000=true:=by simp[bd,j]
  rw[l]at g;have v:t.Ok:=⟨d,j,f,x⟩
  have C:=cH d m.a m.b (-t.a);have A:=s1 m;have B:=s2 m;have E:∀ c,kh (.Ga (m.ts.map Ti.D)) (.Ga [t.D]) c=.ok (.Ga ((vd m t).ts.map Ti.D)) c:=λc=>by
   rw[HE (by unfold oi;simp;omega)];show Jk.ok (D.Ga (m.ts.map Ti.D++[t.D])) c=.ok (.Ga ((m.ts++[t]).map Ti.D)) c;rw[Zc];rfl
  have J:∀ c,yd [(vd m t).D] c=.ok (.bl (decide (t.a<=ow t.p m/\t.w ∉ m.ts.map Ti.w))) c:=λc=>by
   by_cases h:t.a<=ow t.p m/\t.w ∉ m.ts.map Ti.w
   ·rw[Ia h];exact Kz (pN hm hW hn v h.1 H h.2).st c
   ·rw[Da h];have:=gG (n:=m.n+1) (a:=(vd m t).a) (b:=(vd m t).b) (ts:=m.ts++[t]) (by have:=hm.st.n;omega) (λu I=>by
     rcases bf.mp I with h|h
     ·exact hm.st.t u h
     ·have:u=t:=by simpa using h
      rw[this];exact v) (by simp;omega) c
    have z:(Ju (vd m t).a (vd m t).b && decide ((m.ts++[t]).map Ti.w).Nodup)=false:=by
     by_cases e:t.a<=ow t.p m
     ·have G:¬ ((m.ts++[t]).map Ti.w).Nodup:=λz=>h ⟨e,λo=>by
       rw[Zc,kf]at z;exact z.2.2 t.w o t.w (by simp) rfl⟩
      rw[Da G,nk]
     ·have z:Ju (vd m t).a (vd m t).b=false:=by
       have:=hm.st.a;have:=hm.st.b;rcases d with d|d
       ·rw[d]at e;simp[ow]at e;simp[vd,sa,sb,Ju,bd,d];omega
       ·rw[d]at e;simp[ow]at e;simp[vd,sa,sb,Ju,bd,d];omega
      rw[z,fq]
    rw[z]at this;exact this
  have i:=VJ (m:=m) (s:=vd m t) J rfl;have i:∀ c,Bd [m.D,.Ga [.int (sa t.p (-t.a) m.a),.int (sb t.p (-t.a) m.b)],.Ga ((vd m t).ts.map Ti.D)] c=if decide (t.a<=ow t.p m/\t.w ∉ m.ts.map Ti.w)then .ok (vd m t).D c else .ex ⟨1⟩ c:=i;have r:=Si (vd m t);have F:(((1<=t.a/\t.a<=1000000000000)/\t.a<=ow t.p m)/\t.w ∉ m.ts.map Ti.w)=(t.a<=ow t.p m/\t.w ∉ m.ts.map Ti.w):=by simp[j]
  simp only[F];by_cases h:t.a<=ow t.p m/\t.w ∉ m.ts.map Ti.w
  ·have k:∀ c,Bd [m.D,.Ga [.int (sa t.p (-t.a) m.a),.int (sb t.p (-t.a) m.b)],.Ga ((vd m t).ts.map Ti.D)] c=.ok (vd m t).D c:=λc=>(i c).trans (by rw[Ia h];rfl);rw[ja h];unfold Cj bH;simp[q,g,C,A,B,E,k,r]
  ·have k:∀ c,Bd [m.D,.Ga [.int (sa t.p (-t.a) m.a),.int (sb t.p (-t.a) m.b)],.Ga ((vd m t).ts.map Ti.D)] c=.ex ⟨1⟩ c:=λc=>(i c).trans (by rw[Da h];rfl);rw[ka h];unfold Cj bH;simp[q,g,C,A,B,E,k,r]
 ·have l:bd (.int t.a) 1 1000000000000=false:=by simp[bd];omega
  rw[l]at g;rw[ka λz=>j z.1.1];unfold Cj bH;simp[q,g]
end
noncomputable def uo(w:Int)(a:List Ti):Option Ti:=a.find? λu=>decide (u.w=w)
def oT:Option Ti->D
 |some t=>t.D
 |none=>.Rb
theorem ww(h:uo w a=some t):t∈a/\t.w=w:=⟨List.mem_of_find?_eq_some h,by have:=List.find?_some h;simpa using this⟩
theorem jY(h:uo w a=none):w ∉ a.map Ti.w:=λb=>by
 obtain⟨t,c,e⟩:=Gb.mp b;have:=av.mp h t c;exact this (by simpa using e)
theorem KA(t:Ti)(a:nb):Ma t.D (.int 0) a=.ok (.int t.p) a:=by unfold Ti.D;simp
theorem xI(t:Ti)(b:nb):Ma t.D (.int 1) b=.ok (.int t.a) b:=by unfold Ti.D;simp
theorem pE(t:Ti)(a:nb):Ma t.D (.int 2) a=.ok (.int t.w) a:=by unfold Ti.D;simp
theorem UQ(a b:Int)(c:nb):uh (.int a) (.int b) c=.ok (.bl (decide (a≠b))) c:=by
 by_cases h:a=b<;>simp[h]
theorem vU(M:Option D)(w:Int)(a:nb):∀ (ts:List Ti) (x:Option D),∃ y,El (Lf 2) BJ (ts.map Ti.D) [M,some (.int w),x] a=(match uo w ts with
  |some t=>.ok (.rt t.D) a
  |none=>.ok (.nx [M,some (.int w),y]) a)
 |[],x=>⟨x,rfl⟩
 |t::ts,x=>by
  obtain⟨y,e⟩:=vU M w a ts (some t.D);refine⟨y,?_⟩;rw[Ra,Av];simp only[Lc,Mc];have c:=pE t;have b:BJ [M,some (.int w),some t.D] a=if t.w=w then .ok (.rt t.D) a else .ok (.nx [M,some (.int w),some t.D]) a:=by
   by_cases h:t.w=w
   ·simp[c,h]
   ·have d:(t.w == w)=false:=by simp[h]
    simp[c,h,d]
  rw[b];unfold uo;rw[bp];by_cases h:t.w=w
  ·rw[ja h,Ia h,lg,O0]
  ·rw[ka h,Da h,lg,Ps,e];rfl
section
variable{m:Sn}{W:Int}(hm:m.Ok W)(hW:W<=2000000000000)(hn:m.n<=99)
theorem TR(m:Sn)(w:Int)(b:nb):rg [m.D,.int w] b=.ok (oT (uo w m.ts)) b:=by
 obtain⟨y,a⟩:=vU (some m.D) w b m.ts none;have c:=s2 m;unfold rg oQ oT;cases h:uo w m.ts with
 |none=>
  rw[h]at a;simp[c,a]
 |some t=>
  have d:=iy t;rw[h]at a;simp[c,a,d]
def pb(w p:Int)(a:List Ti):Bool:=match uo w a with
 |some t=>decide (t.p=p)
 |none=>false
theorem DO(m:Sn)(w p:Int)(a:nb):Cf [m.D,.int w,.int p] a=.ok (.bl (pb w p m.ts)) a:=by
 have b:=TR m w;unfold Cf sO pb;generalize m.D=d at *;cases h:uo w m.ts with
 |none=>
  rw[h]at b;have b:∀ a,rg [d,.int w] a=.ok .Rb a:=b;simp[b]
 |some t=>
  rw[h]at b;have b:∀ a,rg [d,.int w] a=.ok t.D a:=b;have e:=KA t;have f:∀ a,xy t.D .Rb a=.ok (.bl true) a:=λa=>rfl;by_cases c:t.p=p
  ·simp[b,e,f,c]
  ·have g:(t.p == p)=false:=by simp[c]
   simp[b,e,f,c]
theorem ZP(h:uo w m.ts=some t)(a:nb):Ff [m.D,.int w] a=.ok t.D a:=by
 have b:=TR m w;rw[h]at b;have b:∀ a,rg [m.D,.int w] a=.ok t.D a:=b;have d:∀ a,Wp t.D .Rb a=.ok (.bl false) a:=λa=>rfl;have c:=iy t;unfold Ff GR;simp[b,d,c]
theorem jW:∀ {d:List Ti} {t:Ti},(d.map Ti.w).Nodup->t∈d->Qq (rm t.w d)+t.a=Qq d
 |[],t,_,h=>by cases h
 |b::d,t,hd,h=>by
  rw[Ra,qe]at hd;unfold rm;rw[Ie];rcases Na.mp h with rfl|h
  ·have e:d.filter (λu=>decide (u.w≠t.w))=d:=bi.mpr λu g=>Ia λe=>hd.1 (e ▸ Ic g);rw[e];simp[Qq];omega
  ·have i:b.w≠t.w:=λe=>hd.1 (e ▸ Ic h);have f:=jW hd.2 h;unfold rm at f;rw[Ia i,ja rfl];have c:∀ xs:List Ti,Qq (b::xs)=b.a+Qq xs:=λxs=>by simp[Qq]
   rw[c,c,<-f];omega
include hm hW hn
theorem vK{t:Ti}(g:t∈m.ts){r:Int}(i:r=0\/r=1):(Vg m t r).Ok W:=by
 have q:=jW hm.st.d g;obtain⟨⟨n,a,b,f,l,k⟩,w⟩:=hm;have o:=(f t g).a;have p:0<=Qq (rm t.w m.ts):=by
  refine AH λx j=>?_;obtain⟨u,e,rfl⟩:=Gb.mp j;have:=(f u (Jg.mp e).1).a;omega
 have h:∀ u∈(Vg m t r).ts,u.Ok:=λu e=>f u (Jg.mp e).1;have l2:(Vg m t r).ts.length<=5:=Qb (qh ..) l;have c:((Vg m t r).ts.map Ti.w).Nodup:=k.sublist (List.filter_sublist.map _);rcases i with rfl|rfl
 ·refine⟨⟨?_,?_,?_,h,l2,c⟩,?_⟩<;>simp[Vg,sa,sb]<;>omega
 ·refine⟨⟨?_,?_,?_,h,l2,c⟩,?_⟩<;>simp[Vg,sa,sb]<;>omega
theorem NS{t:Ti}(g:t∈m.ts){r:Int}(e:r=0\/r=1)(c:nb):Zi [m.D,t.D,.int r] c=.ok (Vg m t r).D c:=by
 have k:=s1 m;have n:=s2 m;have l:=qy (src:=vj (ya Ma (ba 0) (eC (.int 2)))) (ρ:=[some m.D,some t.D,some (.int r),none]) (σ:=c) (s:=.seq (m.ts.map Ti.D)) (ix:=[1]) (fi:=eT (ya uh (ya Ma (ba 0) (eC (.int 2))) (ya Ma (ba 2) (eC (.int 2))))) (fe:=ba 0) Ti.D Ti.D (λu=>decide (u.w≠t.w)) (by
   simp[n]) (λi _=>yc some (Ht m.ts _ i)) (by have:=hm.st.l;omega) (λu _ j=>by
  have u2:=pE u (c++j);have q:=pE t (c++j);have p:=UQ u.w t.w (c++j);exact⟨by simp[u2,q,p],λ_=>by simp⟩) (λu _ _=>iy u)
 have l:ki _ _ c=.ok (.va ((Vg m t r).ts.map Ti.D)) c:=l;have o:=cH e m.a m.b t.a;have h:=xI t;have d:=λc=>VJ (s:=Vg m t r) (b:=true) (λc=>Kz (vK hm hW hn g e).st c) rfl c;have d:∀ c,Bd [m.D,.Ga [.int (sa r t.a m.a),.int (sb r t.a m.b)],.Ga ((Vg m t r).ts.map Ti.D)] c=.ok (Vg m t r).D c:=d;have f:=Si (Vg m t r);unfold Zi jU;simp[l,k,o,h,d,f,-Ss]
theorem Χ{w:Int}{t:Ti}(h:uo w m.ts=some t)(b:nb):Ph [m.D,.int w] b=.ok (Vg m t (1 - t.p)).D b:=by
 have g:=ZP h;have a:=(ww h).1;have i:=(hm.st.t t a).p;have c:=NS hm hW hn a (r:=1 - t.p) (by omega);have f:=pK t.p;have e:=KA t;have d:=Si (Vg m t (1 - t.p));unfold Ph uQ;simp[g,c,f,e,d]
theorem ī{w:Int}{t:Ti}(h:uo w m.ts=some t)(b:nb):Sh [m.D,.int w] b=.ok (Vg m t t.p).D b:=by
 have g:=ZP h;have a:=(ww h).1;have e:=(hm.st.t t a).p;have c:=NS hm hW hn a e;have f:=KA t;have d:=Si (Vg m t t.p);unfold Sh eP;simp[g,c,f,d]
end
inductive Wi where
 |sg (d:Int)
 |Qg (pay:Bool) (d w y:Int)
 |af (w:Int)
 |drop (w:Int)
noncomputable def Wi.k:Wi->Str
 | .sg _=>"give"
 | .Qg true _ _ _=>"pay"
 | .Qg false _ _ _=>"pass"
 | .af _=>"settle"
 | .drop _=>"drop"
def Wi.D:Wi->L4.D
 | .sg d=>.Ga [.str "give",.int 0,.int d]
 | .Qg p d w y=>.Ga [.str (if p then "pay" else "pass"),.int 0,.int d,.int w,.int y]
 | .af w=>.Ga [.str "settle",.int 0,.int w]
 | .drop w=>.Ga [.str "drop",.int 0,.int w]
def Wi.al:Wi->Int
 | .sg d=>d
 | .Qg true d _ _=>d
 |_=>0
def Wi.Ok:Wi->Prop
 | .Qg _ _ w y=>(0<=w/\w<=59)/\0<=y/\y<=1000000
 |_=>True
def Wi.st(q:Int)(K:List Int)(m:Sn):Wi->Option Sn
 | .sg d=>if (1<=d/\d<=1000000000000)/\d<=ow q m then some (fo m q d)else none
 | .Qg _ d w y=>if ((1<=d/\d<=1000000000000)/\d<=ow q m)/\w ∉ m.ts.map Ti.w then some (vd m ⟨q,d,w,y⟩)else none
 | .af w=>match uo w m.ts with
  |some t=>if t.p=1 - q/\w∈K then some (Vg m t q)else none
  |none=>none
 | .drop w=>match uo w m.ts with
  |some t=>if t.p=q then some (Vg m t q)else none
  |none=>none
def oS(a:nb):Option Sn->Jk D
 |some s=>.ok s.D a
 |none=>.ex ⟨1⟩ a
theorem Kw(a:Wi)(b:nb):Ma a.D (.int 0) b=.ok (.str a.k) b:=by
 cases a with
 |Qg p d w y=>cases p<;>simp[Wi.D,Wi.k]
 |_=>simp[Wi.D,Wi.k]
theorem NB(a:Wi)(b:nb):Ma a.D (.int 1) b=.ok (.int 0) b:=by cases a<;>simp[Wi.D]
theorem nL(a:Wi)(b:nb):xf [a.D] b=.ok (.int a.al) b:=by
 unfold xf tW;cases a with
 |Qg p d w y=>cases p<;>simp[Wi.D,Wi.al]
 |_=>simp[Wi.D,Wi.al]
section
variable{σ0:nb}{q g:Int}(hq:q=0\/q=1){K:List Int}{Q:Kv}{F:Bool}{J:nb}{m:Sn}{T:Int}(hm:m.Ok T)(hT:T<=2000000000000)(hn:m.n<=99)(hl4:m.ts.length<=4){G:D}{L:List D}(hg:cl G=true)(hl:wg L=true)
theorem m7(w:Int):Ow (.int w) (.ref (σ0.length+1)) (SA σ0 q g K a Q F J)=.ok (.bl (decide (w∈K))) (SA σ0 q g K a Q F J):=by
 have:Uj (SA σ0 q g K a Q F J) (.ref (σ0.length+1))=some (Hu K):=by
  have:=(ij σ0 q g K (AV a) Q F J).h1;unfold Uj;simp[this]
 unfold Ow;simp only[aq,this];have e:∀ K:List Int,(Zp (Hu K) (.inl w)).isSome=decide (w∈K):=λK=>by
  induction K with
  |nil=>rfl
  |cons v K b=>
   unfold Hu Zp at b ⊢;by_cases h:v=w
   ·simp[h]
   ·have c:¬ w=v:=λz=>h z.symm;simpa [h,c]using b
 simp[e]
include hq hm hT hn hl4 hg hl
theorem qW{ws:Wi}(x:ws.Ok):tf [(Aa q m G L).D,ws.D,.ref (σ0.length+1)] (SA σ0 q g K (Aa q m G L) Q F J)=oS (SA σ0 q g K (Aa q m G L) Q F J) (ws.st q K m):=by
 have v:=zp (q:=q) hq hm hg hl;have c:∀ j,Nc [4,5,6,7] "side" (Aa q m G L).D j=.ok (.int q) j:=Lv v;have e:∀ j,Nc [4,5,6,7] "mine" (Aa q m G L).D j=.ok m.D j:=ny v;have o:=λw=>m7 (σ0:=σ0) (q:=q) (g:=g) (K:=K) (Q:=Q) (F:=F) (J:=J) (a:=Aa q m G L) w;have r:=pK q;unfold SA at *;generalize S σ0 q g K (AV (Aa q m G L)) Q F J=Y at *;unfold tf qS Wi.D Wi.st;cases ws with
 |sg d=>
  have f:=ζ hm hT hn hq d;have n:=Si (fo m q d);dsimp only;generalize (Aa q m G L).D=CD at *;by_cases h:(1<=d/\d<=1000000000000)/\d<=ow q m
  ·simp only[ja h]at f ⊢;unfold oS;dsimp only;generalize m.D=l,(fo m q d).D=B at *;simp[c,e,f,n]
  ·simp only[ka h]at f ⊢;unfold oS;dsimp only;generalize m.D=l at *;simp[c,e,f]
 |Qg p d w y=>
  have f:=Õ (t:=⟨q,d,w,y⟩) hm hT hn hq x.1 x.2 hl4;have n:=Si (vd m ⟨q,d,w,y⟩);dsimp only at f ⊢;generalize (Aa q m G L).D=CD at *;have A:∀ k j,Ma (.Ga [.str k,.int 0,.int d,.int w,.int y]) (.int 4) j=.ok (.int y) j:=λk j=>uK ..;by_cases h:((1<=d/\d<=1000000000000)/\d<=ow q m)/\w ∉ m.ts.map Ti.w
  ·simp only[ja h]at f ⊢;unfold oS;dsimp only;generalize m.D=l,(vd m ⟨q,d,w,y⟩).D=B at *;cases p<;>simp[c,e,f,n,A]
  ·simp only[ka h]at f ⊢;unfold oS;dsimp only;generalize m.D=l at *;cases p<;>simp[c,e,f,A]
 |af w=>
  have b:=DO m w (1 - q);have o:=o w;unfold pb at b;dsimp only;generalize (Aa q m G L).D=CD at *;cases h:uo w m.ts with
  |none=>
   rw[h]at b;dsimp only at b ⊢;unfold oS;dsimp only;generalize m.D=l at *;simp[c,e,r,b]
  |some t=>
   rw[h]at b;dsimp only at b ⊢;by_cases i:t.p=1 - q
   ·rw[Ia i]at b;by_cases u:w∈K
    ·rw[Ia u]at o;have s:=Χ hm hT hn h;rw[show 1 - t.p=q by omega]at s;have n:=Si (Vg m t q);rw[ja ⟨i,u⟩];unfold oS;dsimp only;generalize m.D=l,(Vg m t q).D=C at *;simp[c,e,r,b,o,s,n]
    ·rw[Da u]at o;rw[ka λz=>u z.2];unfold oS;dsimp only;generalize m.D=l at *;simp[c,e,r,b,o]
   ·rw[Da i]at b;rw[ka λz=>i z.1];unfold oS;dsimp only;generalize m.D=l at *;simp[c,e,r,b]
 |drop w=>
  have b:=DO m w q;unfold pb at b;dsimp only;generalize (Aa q m G L).D=CD at *;cases h:uo w m.ts with
  |none=>
   rw[h]at b;unfold oS;simp[c,e,r,b]
  |some t=>
   rw[h]at b;dsimp only at b ⊢;by_cases i:t.p=q
   ·rw[Ia i]at b;have s:=ī hm hT hn h;rw[i]at s;have n:=Si (Vg m t q);rw[ja i];unfold oS;simp[c,e,b,s,n]
   ·rw[Da i]at b;rw[ka i];unfold oS;simp[c,e,b]
omit hg hl
theorem GF{ws:Wi}(a:ws.Ok){s:Sn}(h:ws.st q K m=some s):s.Ok T/\s.n=m.n+1:=by
 unfold Wi.st at h;cases ws with
 |sg d=>
  dsimp only at h;split at h
  ·next c=>cases h;exact⟨vT hm hT hn hq (by omega) c.2,rfl⟩
  ·cases h
 |Qg p d w y=>
  dsimp only at h;split at h
  ·next c=>cases h;exact⟨pN hm hT hn ⟨hq,c.1.1,a.1,a.2⟩ c.1.2 hl4 c.2,rfl⟩
  ·cases h
 |af w=>
  dsimp only at h;split at h
  ·next t e=>
   split at h
   ·cases h;exact⟨vK hm hT hn (ww e).1 hq,rfl⟩
   ·cases h
  ·cases h
 |drop w=>
  dsimp only at h;split at h
  ·next t e=>
   split at h
   ·cases h;exact⟨vK hm hT hn (ww e).1 hq,rfl⟩
   ·cases h
  ·cases h
end
def xa(q:Int)(m s:Sn)(G:D)(L:List D):Ac:=if q=0 then Fi 0 m s G L else ik 1 m s (Wf 0 s.D) L
def lt(q:Int)(s:Sn):D:=if q=0 then vh s else Al s
def Wi.wd:Wi->List L4.D
 | .af w=>[.Ga [.str "word",.int 0,.int w]]
 |_=>[]
section
variable{q:Int}(hq:q=0\/q=1){m s:Sn}{T:Int}(hm:m.Ok T)(hs:s.Ok T)(hn:s.n=m.n+1){G:D}{L:List D}(hg:cl G=true)(hl:wg L=true)
include hq hm hs hg hl
theorem Oz:(xa q m s G L).Ok/\(xa q m s G L).q=q/\(xa q m s G L).y=[m,s]:=by
 rcases hq with rfl|rfl
 ·exact⟨GB (.inl rfl) hm hs hg hl,rfl,rfl⟩
 ·exact⟨jA (.inr rfl) hm hs (Fp (Si s)) hl,rfl,rfl⟩
include hn
theorem kN(c:nb):bh [(Aa q m G L).D,s.D] c=.ok (.Ga [(xa q m s G L).D,lt q s]) c:=by
 have e:=zp hq hm hg hl;have h:∀ c,Nc [4,5,6,7] "side" (Aa q m G L).D c=.ok (.int q) c:=Lv e;have n:∀ c,Nc [4,5,6,7] "pot" (Aa q m G L).D c=.ok (.int 0) c:=Ex e;have i:=s1 s;have j:=s2 s;rcases hq with rfl|rfl
 ·have g:=CS hm hs hn hg hl;have f:cl (.Ga [(Fi 0 m s G L).D,vh s])=true:=by simp[Zw (GB (.inl rfl) hm hs hg hl),kM]
  show _=Jk.ok (D.Ga [(Fi 0 m s G L).D,vh s]) c;unfold bh nJ;simp[h,i,j,g,f]
 ·have r:=IM hm hs hn hg hl;have k:∀ c,na [(Aa 1 m G L).D,.int 0,s.D] c=.ok (Wf 0 s.D) c:=bD e 0 (Si s);have p:∀ d c,Km [(4,na),(5,na),(6,na),(7,na)] 3 "agree_of" d (Aa 1 m G L).D c=(d c).bind (Ik 3 na (Aa 1 m G L).D):=λd c=>lp (Qn rfl) rfl rfl;have o:∀ d c,Km [(5,Cc),(6,Ec),(7,Dc)] 2 "taken" d (Aa 1 m G L).D c=(d c).bind (Ik 2 Cc (Aa 1 m G L).D):=λd c=>lp (Qn rfl) rfl rfl;have g:D.Ga [.str "offer",.int 0,Wf 0 s.D]=vh s:=rfl;have l:D.Ga [.str "ask",.int 0,.Ga [.int s.a,.int s.b],.Ga (s.ts.map Ti.D)]=Al s:=rfl;have f:cl (.Ga [(ik 1 m s (Wf 0 s.D) L).D,Al s])=true:=by simp[Zw (jA (q:=1) (.inr rfl) hm hs (Fp (s:=0) (Si s)) hl),vQ]
  show _=Jk.ok (D.Ga [(ik 1 m s (Wf 0 s.D) L).D,Al s]) c;unfold bh nJ;simp[h,n,i,j,r,k,p,o,g,l,f]
variable{σ0:nb}{g:Int}{K:List Int}(hK:K.length<=60){Q:Kv}{F:Bool}{J:nb}
include hK
theorem À{ws:Wi}(h:¬ W K (xa q m s G L) ≥ W K (Aa q m G L) - ws.al):Sb [.ref σ0.length,s.D,ws.D] (SA σ0 q g K (Aa q m G L) Q F J)=.ok (.Ga [.bl false,.va []]) (SA σ0 q g K (Aa q m G L) Q F J):=by
 have c:=zp hq hm hg hl;obtain⟨p,r,t⟩:=Oz hq hm hs hg hl;have d:=ij σ0 q g K (AV (Aa q m G L)) Q F J;have k:=Zs d;have j:=Vu (σ0:=σ0) (q:=q) (g:=g) (K:=K) (a:=Aa q m G L) (Q:=Q) (F:=F) (J:=J);have f:=Lv c;have o:=NB ws;have e:=nL ws;have n:=kN hq hm hs hn hg hl;have b:=jz (σ0:=σ0) (q:=q) (g:=g) (Q:=Q) (F:=F) (J:=J) hK c p ws.al;rw[Da h]at b;have l:=λi=>jj d (m:="is_good") 3 Fb i rfl;unfold Sb oH WI vI VI TH TF MF vG nG;simp[k,j,f,o,e,n,b,l]
end
section
variable{m s:Sn}{T:Int}(hm:m.Ok T)(hs:s.Ok T)(hn:s.n=m.n+1){G:D}{L:List D}(hg:cl G=true)(hl:wg L=true){σ0:nb}{g:Int}{K:List Int}(hK:K.length<=60){Q:Kv}{F:Bool}{J:nb}
include hm hs hg hl hn hK
theorem nK{ws:Wi}(h:W K (xa 0 m s G L) ≥ W K (Aa 0 m G L) - ws.al):Sb [.ref σ0.length,s.D,ws.D] (SA σ0 0 g K (Aa 0 m G L) Q F J)=.ok (.Ga [.bl true,.va (ws.wd++[lt 0 s])]) (SA σ0 0 (g+ws.al) K (xa 0 m s G L) Q F J):=by
 have u:(0:Int)=0\/(0:Int)=1:=.inl rfl;have H:=zp (q:=0) u hm hg hl;obtain⟨P,T,U⟩:=Oz u hm hs hg hl;have I:=ij σ0 0 g K (AV (Aa 0 m G L)) Q F J;have n:=Zs I;have l:=Vu (σ0:=σ0) (q:=0) (g:=g) (K:=K) (a:=Aa 0 m G L) (Q:=Q) (F:=F) (J:=J);have j:∀ b,Nc [4,5,6,7] "side" (Aa 0 m G L).D b=.ok (.int 0) b:=Lv H;have c:=Kw ws;have t:=NB ws;have i:=nL ws;have r:=kN u hm hs hn hg hl;have e:=jz (σ0:=σ0) (q:=0) (g:=g) (Q:=Q) (F:=F) (J:=J) hK H P ws.al;rw[Ia h]at e;have o:=λM=>jj I (m:="is_good") 3 Fb M rfl;have sb:=λR=>aE (σ0:=σ0) (q:=0) (g:=g) (K:=K) (a:=Aa 0 m G L) (Q:=Q) (F:=F) (J:=J) (xa 0 m s G L) R;have f:∀ (v x z A B C:Option D),xz [v,x,z,A,B,some (.int ws.al),C] [9] "gave" (ba 5) (.ref σ0.length) (SA σ0 0 g K (xa 0 m s G L) Q F J)=.ok (.nx [v,x,z,A,B,some (.int ws.al),C]) (SA σ0 0 (g+ws.al) K (xa 0 m s G L) Q F J):=λv x z A B C=>zV (by simp);have N:∀ (E:D) (k:Str) (S:Int),(∀ b,Ma E (.int 0) b=.ok (.str k) b)->(∀ b,Ma E (.int 1) b=.ok (.int 0) b)->True:=λ_ _ _ _ _=>trivial;unfold Sb oH WI vI VI TH TF MF vG nG;unfold SA at *;cases ws with
 |af w=>
  have O:∀ b,Ma (Wi.af w).D (.int 2) b=.ok (.int w) b:=λb=>by unfold Wi.D;simp
  unfold Wi.k at c;unfold Wi.wd;simp[n,l,j,c,t,O,i,r,e,o,sb,f]
 |sg d=>
  unfold Wi.k at c;unfold Wi.wd;simp[n,l,j,c,t,i,r,e,o,sb,f]
 |drop w=>
  unfold Wi.k at c;unfold Wi.wd;simp[n,l,j,c,t,i,r,e,o,sb,f]
 |Qg p d w y=>
  unfold Wi.wd;cases p with
  |true=>
   unfold Wi.k at c;simp[n,l,j,c,t,i,r,e,o,sb,f]
  |false=>
   unfold Wi.k at c;simp[n,l,j,c,t,i,r,e,o,sb,f]
theorem oN{ws:Wi}(I:Q.length<=9)(h:W K (xa 1 m s G L) ≥ W K (Aa 1 m G L) - ws.al):Sb [.ref σ0.length,s.D,ws.D] (SA σ0 1 g K (Aa 1 m G L) Q F J)=.ok (.Ga [.bl true,.va (ws.wd++[lt 1 s])]) (SA σ0 1 g K (Aa 1 m G L) (Gn Q (.inl 0) (At ws.al s)) F J):=by
 have B:(1:Int)=0\/(1:Int)=1:=.inr rfl;have E:=zp (q:=1) B hm hg hl;obtain⟨N,P,R⟩:=Oz B hm hs hg hl;have C:=ij σ0 1 g K (AV (Aa 1 m G L)) Q F J;have t:=Zs C;have u:=SE C;have n:=Vu (σ0:=σ0) (q:=1) (g:=g) (K:=K) (a:=Aa 1 m G L) (Q:=Q) (F:=F) (J:=J);have l:∀ i,Nc [4,5,6,7] "side" (Aa 1 m G L).D i=.ok (.int 1) i:=Lv E;have c:=Kw ws;have A:=NB ws;have j:=nL ws;have z:=kN B hm hs hn hg hl;have f:=jz (σ0:=σ0) (q:=1) (g:=g) (Q:=Q) (F:=F) (J:=J) hK E N ws.al;rw[Ia h]at f;have v:=λH=>jj C (m:="is_good") 3 Fb H rfl;have o:=s1 s;have r:=s2 s;have x:=λO=>jX (σ0:=σ0) (q:=1) (g:=g) (K:=K) (a:=Aa 1 m G L) (F:=F) (J:=J) I (At ws.al s) O;have e:D.Ga [.int ws.al,.Ga [.int s.a,.int s.b],.Ga (s.ts.map Ti.D)]=At ws.al s:=rfl;unfold Sb oH WI vI VI TH TF MF vG nG;unfold SA at *;cases ws with
 |af w=>
  have M:∀ i,Ma (Wi.af w).D (.int 2) i=.ok (.int w) i:=λi=>by unfold Wi.D;simp
  unfold Wi.k at c;unfold Wi.wd;simp[t,u,n,l,c,A,M,j,z,f,v,o,r,e,x]
 |sg d=>
  unfold Wi.k at c;unfold Wi.wd;simp[t,u,n,l,c,A,j,z,f,v,o,r,e,x]
 |drop w=>
  unfold Wi.k at c;unfold Wi.wd;simp[t,u,n,l,c,A,j,z,f,v,o,r,e,x]
 |Qg p d w y=>
  unfold Wi.wd;cases p with
  |true=>
   unfold Wi.k at c;simp[t,u,n,l,c,A,j,z,f,v,o,r,e,x]
  |false=>
   unfold Wi.k at c;simp[t,u,n,l,c,A,j,z,f,v,o,r,e,x]
end
def qu:D:=.Ga [.str "finish",.int 0]
section
variable{σ0:nb}{q g:Int}{K:List Int}{Q:Kv}{F:Bool}{J:nb}
theorem kF(a:Wi):(a.k == ("finish" : Str))=false:=by
 have b:(("give" : Str) == "finish")=false:=by decide
 have c:(("pay" : Str) == "finish")=false:=by decide
 have e:(("pass" : Str) == "finish")=false:=by decide
 have f:(("settle" : Str) == "finish")=false:=by decide
 have g:(("drop" : Str) == "finish")=false:=by decide
 cases a with
 |Qg p d w y=>cases p<;>simp only[Wi.k,c,e]
 |_=>simp only[Wi.k,b,f,g]
theorem KU(a:Ac):db [.ref σ0.length,qu] (SA σ0 q g K a Q F J)=.ok (.Ga [.bl true,.va []]) (SA σ0 q g K a Q true J):=by
 have b:=ij σ0 q g K (AV a) Q F J;have d:=YA (σ0:=σ0) (q:=q) (g:=g) (K:=K) (a:=a) (Q:=Q) (F:=F) (J:=J);have f:=λc=>jj b (m:="holds") 2 pc c rfl;have e:=ă b;have h:=λi=>PX (σ0:=σ0) (q:=q) (g:=g) (K:=K) (a:=a) (Q:=Q) (F:=F) (J:=J) i;unfold db JE dD UE uD gE sC fD qu;simp[d,f,e,h]
theorem AY(e:Wi)(r:∀ d c,Km [(5,Pb),(6,Wb),(7,Vb)] 1 "word" d a.D c=(d c).bind (Ik 1 f a.D))(j:∀ x c,f [x] c=.ok (.str k) c)(n:(k == ("calm" : Str))=false):db [.ref σ0.length,e.D] (SA σ0 q g K a Q F J)=.ok (.Ga [.bl false,.va []]) (SA σ0 q g K a Q F J):=by
 have h:=ij σ0 q g K (AV a) Q F J;have o:=YA (σ0:=σ0) (q:=q) (g:=g) (K:=K) (a:=a) (Q:=Q) (F:=F) (J:=J);have s:=λd=>jj h (m:="holds") 2 pc d rfl;have p:=Zs h;have l:=Vu (σ0:=σ0) (q:=q) (g:=g) (K:=K) (a:=a) (Q:=Q) (F:=F) (J:=J);have u:=Kw e;have v:=NB e;have i:=kF e;have t:∀ c,uh (.str k) (.str "calm") c=.ok (.bl true) c:=λc=>by
  have:=Jy (σ:=c) (x:=.str k) (y:=.str "calm") (b:=(k == "calm")) (by simp[yj,L4.kd,To,Zj]);rw[n]at this;exact this
 unfold db JE dD UE uD gE sC fD;simp[o,s,p,l,u,v,i,r,j,t]
variable(hq:q=0\/q=1){m:Sn}{T:Int}(hm:m.Ok T)(hT:T<=2000000000000)(hn:m.n<=99)(hl4:m.ts.length<=4){G:D}{L:List D}(hg:cl G=true)(hl:wg L=true)
include hq hm hT hn hl4 hg hl
theorem Ez{ws:Wi}(p:ws.Ok){s:Sn}(j:ws.st q K m=some s){d:D}{e:nb}(h:Sb [.ref σ0.length,s.D,ws.D] (SA σ0 q g K (Aa q m G L) Q F J)=.ok d e):db [.ref σ0.length,ws.D] (SA σ0 q g K (Aa q m G L) Q F J)=.ok d e:=by
 have i:=qW (σ0:=σ0) (g:=g) (K:=K) (Q:=Q) (F:=F) (J:=J) hq hm hT hn hl4 hg hl p;rw[j]at i;unfold oS at i;have f:=ij σ0 q g K (AV (Aa q m G L)) Q F J;have o:=YA (σ0:=σ0) (q:=q) (g:=g) (K:=K) (a:=Aa q m G L) (Q:=Q) (F:=F) (J:=J);have v:=λc=>jj f (m:="holds") 2 pc c rfl;have w:=λc=>jj f (m:="wish_for") 3 Sb c rfl;have r:=Zs f;have t:=lJ f;have n:=Vu (σ0:=σ0) (q:=q) (g:=g) (K:=K) (a:=Aa q m G L) (Q:=Q) (F:=F) (J:=J);have z:=Kw ws;have A:=NB ws;have k:=kF ws;have y:∀ b,uh (.str "calm") (.str "calm") b=.ok (.bl false) b:=λb=>Ar (by simp[pl]);have l:∀ x b,Pb [x] b=.ok (.str "calm") b:=λx b=>by unfold Pb SF;simp
 have u:∀ c b,Km [(5,Pb),(6,Wb),(7,Vb)] 1 "word" c (Aa q m G L).D b=(c b).bind (Ik 1 Pb (Aa q m G L).D):=λc b=>lp (Qn rfl) rfl rfl;unfold db JE dD UE uD gE sC fD;simp[o,v,w,r,t,n,z,A,k,y,l,u,i,h]
theorem IH{ws:Wi}(o:ws.Ok)(e:ws.st q K m=none):db [.ref σ0.length,ws.D] (SA σ0 q g K (Aa q m G L) Q F J)=.ok (.Ga [.bl false,.va []]) (SA σ0 q g K (Aa q m G L) Q F J):=by
 have d:=qW (σ0:=σ0) (g:=g) (K:=K) (Q:=Q) (F:=F) (J:=J) hq hm hT hn hl4 hg hl o;rw[e]at d;unfold oS at d;have f:=ij σ0 q g K (AV (Aa q m G L)) Q F J;have n:=YA (σ0:=σ0) (q:=q) (g:=g) (K:=K) (a:=Aa q m G L) (Q:=Q) (F:=F) (J:=J);have t:=λc=>jj f (m:="holds") 2 pc c rfl;have p:=Zs f;have r:=lJ f;have k:=Vu (σ0:=σ0) (q:=q) (g:=g) (K:=K) (a:=Aa q m G L) (Q:=Q) (F:=F) (J:=J);have v:=Kw ws;have w:=NB ws;have i:=kF ws;have u:∀ b,uh (.str "calm") (.str "calm") b=.ok (.bl false) b:=λb=>Ar (by simp[pl]);have j:∀ x b,Pb [x] b=.ok (.str "calm") b:=λx b=>by unfold Pb SF;simp
 have s:∀ c b,Km [(5,Pb),(6,Wb),(7,Vb)] 1 "word" c (Aa q m G L).D b=(c b).bind (Ik 1 Pb (Aa q m G L).D):=λc b=>lp (Qn rfl) rfl rfl;have l:∀ g (h:Ev) (b:nb),bx h ⟨1⟩ [⟨jG [(1,true)],none,g⟩] b=hit ⟨jG [(1,true)],none,g⟩ h ⟨1⟩ b:=λg h b=>zsr rfl;unfold db JE dD UE uD gE sC fD;simp[n,t,p,r,k,v,w,i,u,j,s,d,l]
end
def V(K:List Int)(q:Int)(s:Sn):Int:=ow q s+Qr (ks K) q s.ts
theorem Ru(K:List Int)(q:Int)(m:Sn)(G:D)(L:List D):W K (Aa q m G L)=V K q m:=rfl
theorem Hy(K:List Int)(b:a.q=q)(c:a.y=[m,s]):W K a=if V K q s<V K q m then V K q s else V K q m:=by
 unfold W;rw[c,b];exact RX _ _
theorem HJ(K:List Int)(q:Int)(t:Ti):fa K q t=0\/fa K q t=t.a:=by
 unfold fa;split
 ·exact .inr rfl
 ·exact .inl rfl
theorem VT(K:List Int)(q d w y:Int):fa K q ⟨q,d,w,y⟩=if y<=0 then d else 0:=by
 unfold fa lk;simp only[zg];by_cases h:y<=0
 ·rw[ja h,ja h,ja (show lD "back" = true by decide)]
 ·rw[ka h,ka h,ka (show ¬ lD "open" = true by decide)]
theorem PR(K:List Int)(a:q=0\/q=1)(m:Sn)(d:Int):V K q (fo m q d)=V K q m - d:=by
 rcases a with rfl|rfl<;>simp[V,fo,ow,sa,sb]<;>omega
theorem uL(K:List Int)(c:q=0\/q=1)(m:Sn)(b:t.p=0\/t.p=1):V K q (vd m t)=V K q m+fa (ks K) q t - if t.p=q then t.a else 0:=by
 have e:Qr (ks K) q (m.ts++[t])=Qr (ks K) q m.ts+fa (ks K) q t:=by simp[Qr]
 rcases c with rfl|rfl<;>rcases b with b|b<;>simp[V,vd,ow,sa,sb]<;>omega
theorem uO(K:List Int)(q:Int):∀ {a:List Ti} {t:Ti},(a.map Ti.w).Nodup->t∈a->Qr K q (rm t.w a)+fa K q t=Qr K q a
 |[],t,_,h=>by cases h
 |b::a,t,hd,h=>by
  rw[Ra,qe]at hd;have c:∀ xs:List Ti,Qr K q (b::xs)=fa K q b+Qr K q xs:=λxs=>by simp[Qr]
  unfold rm;rw[Ie];rcases Na.mp h with rfl|h
  ·have e:a.filter (λu=>decide (u.w≠t.w))=a:=bi.mpr λu f=>Ia λe=>hd.1 (e ▸ Ic f);rw[show decide (t.w≠t.w)=false by simp];simp only[Ml,Lk];rw[e,c];omega
  ·have g:b.w≠t.w:=λe=>hd.1 (e ▸ Ic h);have d:=uO K q hd.2 h;unfold rm at d;rw[Ia g,ja rfl,c,c,<-d];omega
theorem zP(K:List Int)(c:q=0\/q=1)(b:(m.ts.map Ti.w).Nodup)(d:t∈m.ts):V K q (Vg m t q)=V K q m+t.a - fa (ks K) q t:=by
 have:=uO (ks K) q b d;rcases c with rfl|rfl<;>simp[V,Vg,ow,sa,sb]<;>omega
structure Fw(q T:Int)(j:Nat)(m:Sn)(G:D)(L:List D):Prop where
 ok:m.Ok T
 n:m.n<=j
 l:m.ts.length<=j
 g:cl G=true
 cl:wg L=true
 ll:L.length<=j
section
variable{σ0:nb}{q g T:Int}(hq:q=0\/q=1)(hT:T<=2000000000000){K:List Int}(hK:K.length<=60){J:nb}{j:Nat}(hj:j<=3){m:Sn}{G:D}{L:List D}(h:Fw q T j m G L){t:Ti}(ht:t.Ok)(hd:t.a<=ow t.p m)
include hq hT hK hj h ht hd
theorem uY:∃ (o:Sn) (C:Int) (r:D) (B:List D),Fw q T (j+1) o r B/\De [.ref σ0.length,.int q,m.D,t.D] (SA σ0 q g K (Aa q m G L) [] false J)=.ok o.D (SA σ0 q C K (Aa q o r B) [] false J):=by
 have A:m.n<=99:=by have:=h.n;omega
 have M:m.ts.length<=4:=by have:=h.l;omega
 have i:=h.ok;have vs:=ij σ0 q g K (AV (Aa q m G L)) [] false J;have ha:=zp (q:=q) hq i h.g h.cl;have j0:=s0 m;have j1:=s1 m;have j2:=s2 m;have R:=KA t;have i1:=xI t;have mo:=fB ht.p m.a m.b (-t.a);have tt:∀ c,kh (.Ga (m.ts.map Ti.D)) (.Ga [t.D]) c=.ok (.Ga ((vd m t).ts.map Ti.D)) c:=λc=>by
  rw[HE (by unfold oi;simp;omega)];show Jk.ok (D.Ga (m.ts.map Ti.D++[t.D])) c=.ok (.Ga ((m.ts++[t]).map Ti.D)) c;rw[Zc];rfl
 have es:D.Ga [.int (m.n+1),.Ga [.int (sa t.p (-t.a) m.a),.int (sb t.p (-t.a) m.b)],.Ga ((vd m t).ts.map Ti.D)]=(vd m t).D:=rfl;have b2:∀ (x4:Option D) (Y:nb),XH [some (.ref σ0.length),some (.int q),some m.D,some t.D,x4] Y=.ok (.nx [some (.ref σ0.length),some (.int q),some m.D,some t.D,some (vd m t).D]) Y:=λx4 Y=>by
  unfold XH;generalize t.D=Z,m.D=O,D.Ga [.int m.a,.int m.b]=MB,D.Ga (m.ts.map Ti.D)=TT,D.Ga [.int (sa t.p (-t.a) m.a),.int (sb t.p (-t.a) m.b)]=AB,D.Ga ((vd m t).ts.map Ti.D)=T2,(vd m t).D=X at *;simp[j0,j1,j2,R,i1,mo,tt,es]
 have n0:=s0 (vd m t);have n1:=s1 (vd m t);have n2:=s2 (vd m t);have eo:D.Ga [.str "offer",.int 0,.Ga [.str "agree",.int 0,.int 0,(vd m t).D]]=vh (vd m t):=rfl;have ek:D.Ga [.str "struck",.int 0,.Ga [.str "strike",.int 0,.int 0,.int m.n]]=um m.n:=rfl;have ec:D.Ga [.str "accept",.int 0,.Ga [.str "agree",.int 0,.int 1,(vd m t).D],.Ga [.str "strike",.int 0,.int 1,.int m.n]]=Tn m (vd m t):=rfl;have ea:D.Ga [.str "ask",.int 0,.Ga [.int (vd m t).a,.int (vd m t).b],.Ga ((vd m t).ts.map Ti.D)]=Al (vd m t):=rfl;have sl:∀ c,Fx t.D (some 1) none c=.ok (.Ga [.int t.a,.int t.w,.int t.y]) c:=λc=>by unfold Ti.D;rw[NH];rfl
 have ap:∀ c,kh (.Ga [.str "pay",.int 0]) (.Ga [.int t.a,.int t.w,.int t.y]) c=.ok (Wi.Qg true t.a t.w t.y).D c:=λc=>by rw[HE (by unfold oi;simp)];rfl
 have hw:(Wi.Qg true t.a t.w t.y).Ok:=⟨ht.w,ht.y⟩
 have a3:=λe (Q:Kv) a (g:Int)=>jj (ij σ0 q g K (AV a) Q false J) (m:="wish") 2 db e rfl;have x:=λe (Q:Kv) a (g:Int)=>jj (ij σ0 q g K (AV a) Q false J) (m:="take") 2 Pa e rfl;have a5:=λe (Q:Kv) a (g:Int)=>jj (ij σ0 q g K (AV a) Q false J) (m:="account") 2 Zb e rfl;have f:∀ {g1 P:Int} {Q1:Kv} {a1:Ac} {o:Sn} {r:D} {B:List D},Sn.Ok T o->cl r=true->wg B=true->
   fA [some (.ref σ0.length),some (.int q),some m.D,some t.D,some (vd m t).D] (SA σ0 q g K (Aa q m G L) [] false J)=.ok (.nx [some (.ref σ0.length),some (.int q),some m.D,some t.D,some (vd m t).D]) (SA σ0 q g1 K a1 Q1 false J)->
   Qy [some (.ref σ0.length),some (.int q),some m.D,some t.D,some (vd m t).D] (SA σ0 q g1 K a1 Q1 false J)=.ok (.nx [some (.ref σ0.length),some (.int q),some m.D,some t.D,some (vd m t).D]) (SA σ0 q P K (Aa q o r B) [] false J)->
   De [.ref σ0.length,.int q,m.D,t.D] (SA σ0 q g K (Aa q m G L) [] false J)=.ok o.D (SA σ0 q P K (Aa q o r B) [] false J):=fun {g1 P Q1 a1 o r B} b0 a8 a9 e2 e3=>by
  have v:=zp (q:=q) hq b0 a8 a9;have ac:=PK (σ0:=σ0) (q:=q) (g:=P) (K:=K) (Q:=[]) (F:=false) (J:=J) v;have mi:∀ c,Nc [4,5,6,7] "mine" (Aa q o r B).D c=.ok o.D c:=ny v;have ma:=λe=>a5 e [] (Aa q o r B) P;have w4:RI [some (.ref σ0.length),some (.int q),some m.D,some t.D,some (vd m t).D] (SA σ0 q P K (Aa q o r B) [] false J)=.ok (.rt o.D) (SA σ0 q P K (Aa q o r B) [] false J):=by
   unfold RI;unfold SA at *;generalize o.D=O,(Aa q o r B).D=CD,S σ0 q P K (AV (Aa q o r B)) [] false J=Y at *;simp[ac,mi,ma]
  have w1:=b2 none (SA σ0 q g K (Aa q m G L) [] false J);unfold De hU;generalize RI=A4,Qy=A3,fA=A2,XH=A1 at *;simp[w1,e2,e3,w4]
 have cq:V K q (vd m t)=V K q m+fa (ks K) q t - if t.p=q then t.a else 0:=uL K hq m ht.p;have fc:=HJ (ks K) q t;have ta:=ht.a;by_cases I:t.w∈m.ts.map Ti.w
 ·
  have Xb:JM (vd m t):=⟨by show 0<=m.n+1/\m.n+1<=1000000;have:=i.st.n;omega,λu hu=>by
    rcases bf.mp hu with h|h
    ·exact i.st.t u h
    ·have:u=t:=by simpa using h
     rw[this];exact ht,by show (m.ts++[t]).length<=6;simp;omega,λz=>by
    have z:((m.ts++[t]).map Ti.w).Nodup:=z;rw[Zc,kf]at z;exact z.2.2 t.w I t.w (by simp) rfl⟩
  refine⟨m,g,G,L,⟨i,by have:=h.n;omega,by have:=h.l;omega,h.g,h.cl,by have:=h.ll;omega⟩,?_⟩;have N:(Wi.Qg true t.a t.w t.y).st q K m=none:=ka λz=>z.2 I;have wn:=IH (σ0:=σ0) (g:=g) (K:=K) (Q:=[]) (F:=false) (J:=J) hq i hT A M h.g h.cl hw N;have t1:∀ c,Pa [.ref σ0.length,Al (vd m t)] c=.ok (.va []) c:=λc=>OM _ λc=>Ĉ Xb c;have t2:∀ c,Pa [.ref σ0.length,Tn m (vd m t)] c=.ok (.va []) c:=λc=>OM _ λc=>B8 Xb c m;have t3:∀ c,Pa [.ref σ0.length,vh (vd m t)] c=.ok (.va []) c:=λc=>OM _ λc=>Į Xb c;have mw:=λe=>a3 e [] (Aa q m G L) g;have mk:=λe=>x e [] (Aa q m G L) g;refine f (g1:=g) (Q1:=[]) (a1:=Aa q m G L) i h.g h.cl ?_ ?_
  ·unfold fA;unfold SA at *;generalize D.Ga [.int t.a,.int t.w,.int t.y]=CT,t.D=Z,m.D=O,(vd m t).D=X,D.Ga [.int (vd m t).a,.int (vd m t).b]=AB,D.Ga ((vd m t).ts.map Ti.D)=T2,Al (vd m t)=AL,(Wi.Qg true t.a t.w t.y).D=WD,S σ0 q g K (AV (Aa q m G L)) [] false J=Y at *;by_cases k:t.p=q
   ·have v:(t.p == q)=true:=by simp[k]
    simp[R,v,mw,sl,ap,wn]
   ·have v:(t.p == q)=false:=by simp[k]
    rcases hq with rfl|rfl
    ·simp[R,v,mk,n1,n2,ea,t1]
    ·simp[R,v]
  ·rcases hq with rfl|rfl
   ·unfold Qy;unfold SA at *;generalize t.D=Z,m.D=O,(vd m t).D=X,Tn m (vd m t)=AL,S σ0 0 g K (AV (Aa 0 m G L)) [] false J=Y at *;simp[mk,j0,ec,t2]
   ·have t4:=Ċ (σ0:=σ0) (q:=1) (g:=g) hK (Q:=[]) (F:=false) (J:=J) i h.g h.cl (n:=m.n) i.st.n;unfold Qy;unfold SA at *;generalize t.D=Z,m.D=O,(vd m t).D=X,um m.n=SL,vh (vd m t)=AL,S σ0 1 g K (AV (Aa 1 m G L)) [] false J=Y at *;simp[mk,j0,eo,ek,t3,t4]
 ·have E:=pN i hT A ht hd M I;have he:(vd m t).n=m.n+1:=rfl;have H:wg (L++[.int m.n])=true:=by rw[eD,h.cl];rfl
  have a4:L.length<=100:=by have:=h.ll;omega
  have fw:∀ r,cl r=true->Fw q T (j+1) (vd m t) r (L++[.int m.n]):=λr a7=>⟨E,by have:=h.n;rw[he];omega,by show (m.ts++[t]).length<=_;have:=h.l;simp;omega,a7,H,by have:=h.ll;simp;omega⟩
  have N:t.p=q->(Wi.Qg true t.a t.w t.y).st q K m=some (vd m t):=λk=>by
   have:(⟨q,t.a,t.w,t.y⟩:Ti)=t:=by rw[<-k]
   unfold Wi.st;dsimp only;rw[<-k];rw[ja ⟨⟨ta,hd⟩,I⟩]
  rcases hq with rfl|rfl
  ·
   have wc:=Ru K 0 m G L;have U:=Hy K (a:=Fi 0 m (vd m t) G L) (q:=0) rfl rfl;have wn:=Ru K 0 (vd m t) (Wf 1 (vd m t).D) (L++[.int m.n]);have b1:=λC=>CV (σ0:=σ0) (q:=0) (g:=C) hK (Q:=[]) (F:=false) (J:=J) i E h.g h.cl a4 (by rw[U,wn];split<;>omega);have Vg:∀ C,Qy [some (.ref σ0.length),some (.int 0),some m.D,some t.D,some (vd m t).D] (SA σ0 0 C K (Fi 0 m (vd m t) G L) [] false J)=.ok (.nx [some (.ref σ0.length),some (.int 0),some m.D,some t.D,some (vd m t).D]) (SA σ0 0 C K (Aa 0 (vd m t) (Wf 1 (vd m t).D) (L++[.int m.n])) [] false J):=λC=>by
    have tc:=b1 C;have mk:=λe=>x e [] (Fi 0 m (vd m t) G L) C;unfold Qy;unfold SA at *;generalize t.D=Z,m.D=O,(vd m t).D=X,Tn m (vd m t)=AL,S σ0 0 C K (AV (Fi 0 m (vd m t) G L)) [] false J=Y,S σ0 0 C K (AV (Aa 0 (vd m t) (Wf 1 (vd m t).D) (L++[.int m.n]))) [] false J=Y2 at *;simp[mk,j0,ec,tc]
   by_cases k:t.p=0
   ·refine⟨vd m t,g+t.a,Wf 1 (vd m t).D,L++[.int m.n],fw _ (Fp (Si _)),f (g1:=g+t.a) (Q1:=[]) (a1:=Fi 0 m (vd m t) G L) E (Fp (Si _)) H ?_ (Vg _)⟩;have wi:=Ez (σ0:=σ0) (g:=g) (K:=K) (Q:=[]) (F:=false) (J:=J) (.inl rfl) i hT A M h.g h.cl hw (N k) (nK i E he h.g h.cl hK (ws:=.Qg true t.a t.w t.y) (by
     show W K (Fi 0 m (vd m t) G L) ≥ W K (Aa 0 m G L) - t.a;rw[U,wc,cq,ja k];split<;>omega))
    have wi:db [.ref σ0.length,(Wi.Qg true t.a t.w t.y).D] (SA σ0 0 g K (Aa 0 m G L) [] false J)=.ok (.Ga [.bl true,.va [lt 0 (vd m t)]]) (SA σ0 0 (g+t.a) K (Fi 0 m (vd m t) G L) [] false J):=wi;have mw:=λe=>a3 e [] (Aa 0 m G L) g;have v:(t.p == 0)=true:=by simp[k]
    unfold fA;unfold SA at *;generalize D.Ga [.int t.a,.int t.w,.int t.y]=CT,t.D=Z,m.D=O,(vd m t).D=X,lt 0 (vd m t)=LT,(Wi.Qg true t.a t.w t.y).D=WD,S σ0 0 g K (AV (Aa 0 m G L)) [] false J=Y,S σ0 0 (g+t.a) K (AV (Fi 0 m (vd m t) G L)) [] false J=Y2 at *;simp[R,v,mw,sl,ap,wi]
   ·refine⟨vd m t,g,Wf 1 (vd m t).D,L++[.int m.n],fw _ (Fp (Si _)),f (g1:=g) (Q1:=[]) (a1:=Fi 0 m (vd m t) G L) E (Fp (Si _)) H ?_ (Vg _)⟩;have tk:=wK (σ0:=σ0) (q:=0) (g:=g) hK (Q:=[]) (F:=false) (J:=J) i E he h.g h.cl (by rw[U,wc,cq,ka k];split<;>omega);have mk:=λe=>x e [] (Aa 0 m G L) g;have v:(t.p == 0)=false:=by simp[k]
    unfold fA;unfold SA at *;generalize t.D=Z,m.D=O,(vd m t).D=X,D.Ga [.int (vd m t).a,.int (vd m t).b]=AB,D.Ga ((vd m t).ts.map Ti.D)=T2,Al (vd m t)=AL,S σ0 0 g K (AV (Aa 0 m G L)) [] false J=Y,S σ0 0 g K (AV (Fi 0 m (vd m t) G L)) [] false J=Y2 at *;simp[R,v,mk,n1,n2,ea,tk]
  ·
   have wc:=Ru K 1 m G L;have U:=Hy K (a:=ik 1 m (vd m t) (Wf 0 (vd m t).D) L) (q:=1) rfl rfl;have wn:=Ru K 1 (vd m t) (Wf 0 (vd m t).D) (L++[.int m.n]);have a6:=λC=>NU (σ0:=σ0) (q:=1) (g:=C) hK (Q:=[]) (F:=false) (J:=J) i E (Fp (s:=0) (Si (vd m t))) h.cl a4 (by rw[U,wn];split<;>omega);by_cases k:t.p=1
   ·refine⟨vd m t,g+t.a,Wf 0 (vd m t).D,L++[.int m.n],fw _ (Fp (Si _)),f (g1:=g) (Q1:=QV t.a (vd m t)) (a1:=Aa 1 m G L) E (Fp (Si _)) H ?_ ?_⟩
    ·have wi:=Ez (σ0:=σ0) (g:=g) (K:=K) (Q:=[]) (F:=false) (J:=J) (.inr rfl) i hT A M h.g h.cl hw (N k) (oN i E he h.g h.cl hK (ws:=.Qg true t.a t.w t.y) (by simp) (by
      show W K (ik 1 m (vd m t) (Wf 0 (vd m t).D) L) ≥ W K (Aa 1 m G L) - t.a;rw[U,wc,cq,ja k];split<;>omega))
     have wi:db [.ref σ0.length,(Wi.Qg true t.a t.w t.y).D] (SA σ0 1 g K (Aa 1 m G L) [] false J)=.ok (.Ga [.bl true,.va [lt 1 (vd m t)]]) (SA σ0 1 g K (Aa 1 m G L) (QV t.a (vd m t)) false J):=wi;have mw:=λe=>a3 e [] (Aa 1 m G L) g;have v:(t.p == 1)=true:=by simp[k]
     unfold fA;unfold SA at *;generalize D.Ga [.int t.a,.int t.w,.int t.y]=CT,t.D=Z,m.D=O,(vd m t).D=X,lt 1 (vd m t)=LT,(Wi.Qg true t.a t.w t.y).D=WD,S σ0 1 g K (AV (Aa 1 m G L)) [] false J=Y,S σ0 1 g K (AV (Aa 1 m G L)) (QV t.a (vd m t)) false J=Y2 at *;simp[R,v,mw,sl,ap,wi]
    ·have to:=ã (σ0:=σ0) (q:=1) (g:=g) hK (F:=false) (J:=J) i E he h.g h.cl (d:=t.a) (by rw[U,wc,cq,ja k];split<;>omega);have ts:=a6 (g+t.a);have a0:=λe=>x e (QV t.a (vd m t)) (Aa 1 m G L) g;have a2:=λe=>x e [] (ik 1 m (vd m t) (Wf 0 (vd m t).D) L) (g+t.a);unfold Qy;simp[a0,a2,j0,eo,ek,to,ts]
   ·refine⟨vd m t,g,Wf 0 (vd m t).D,L++[.int m.n],fw _ (Fp (Si _)),f (g1:=g) (Q1:=[]) (a1:=Aa 1 m G L) E (Fp (Si _)) H ?_ ?_⟩
    ·have v:(t.p == 1)=false:=by simp[k]
     simp[R,v]
    ·have to:=dM (σ0:=σ0) (q:=1) (g:=g) hK (F:=false) (J:=J) i E he h.g h.cl (by rw[U,wc,cq,ka k];split<;>omega);have ts:=a6 g;have a0:=λe=>x e [] (Aa 1 m G L) g;have a2:=λe=>x e [] (ik 1 m (vd m t) (Wf 0 (vd m t).D) L) g;simp[a0,a2,j0,eo,ek,to,ts]
end
def Gs(a:List Int)(k:Nat):Int:=a.getD k 0
theorem EB(a:List Int)(k:Int)(c:0<=k)(b:nb):jb [.Uf a,.int k] b=.ok (.int (Gs a k.toNat)) b:=by
 unfold jb OR Gs;by_cases h:k<a.length
 ·simp[h,Υ c h]
 ·have e:a.length<=k.toNat:=by omega
  simp[h,List.getElem?_eq_none e]
def Gm:List D->Nat->Ev
 |_,0=>[]
 |[],n+1=>none::Gm [] n
 |d::l,n+1=>some d::Gm l n
theorem pw(a:nb):Vm (.int 10) (.int 12) a=.ok (.int 1000000000000) a:=GA (by simp[vx])
theorem Ş(a:nb):Vm (.int 10) (.int 6) a=.ok (.int 1000000) a:=GA (by simp[vx])
theorem LY(a:nb):Vm (.int 10) (.int 20) a=.ok (.int 100000000000000000000) a:=GA (by simp[vx])
theorem eqT(u t:Ti)(c:nb)(n:Nat):yj c (n+1) u.D t.D=some ((u.p == t.p) && ((u.a == t.a) && ((u.w == t.w) && ((u.y == t.y) && true)))):=by
 have e:∀ a b:Int,yj c n (.int a) (.int b)=some (a == b):=λa b=>by cases n<;>simp[yj,L4.kd,To,Zj]
 unfold Ti.D;simp[yj,L4.kd,To,Bp,e]
theorem iQ:∀ {d:List Ti} {u t:Ti},(d.map Ti.w).Nodup->u∈d->t∈d->u.w=t.w->u=t
 |[],_,_,_,h,_,_=>by cases h
 |b::d,u,t,hd,g,f,e=>by
  rw[Ra,qe]at hd;rcases Na.mp g with rfl|c
  ·rcases Na.mp f with rfl|a
   ·rfl
   ·exact absurd (by rw[e];exact Ic a) hd.1
  ·rcases Na.mp f with rfl|a
   ·exact absurd (by rw[<-e];exact Ic c) hd.1
   ·exact iQ hd.2 c a e
theorem neT{a:List Ti}(f:(a.map Ti.w).Nodup)(i:u∈a)(g:t∈a)(c:nb):uh u.D t.D c=.ok (.bl (decide (u.w≠t.w))) c:=by
 by_cases h:u.w=t.w
 ·have e:=iQ f i g h;rw[e,Ar (bQ 7 t)];simp
 ·have d:(u.w == t.w)=false:=by simp[h]
  have:=Jy (b:=false) (by rw[eqT u t c 7,d];simp);rw[this];simp[h]
theorem yJ{m:Sn}(k:m.Ok T)(w:Int)(a:nb):Ae [m.D,.int w] a=.ok (oT (uo w m.ts)) a:=by
 have n:=s2 m;have l:=qy (src:=vj (ya Ma (ba 0) (eC (.int 2)))) (ρ:=[some m.D,some (.int w),none]) (σ:=a) (s:=.seq (m.ts.map Ti.D)) (ix:=[1]) (xs:=m.ts) (fi:=eT (ya se (ya Ma (ba 0) (eC (.int 2))) (ba 2))) (fe:=ba 0) Ti.D Ti.D (λu=>decide (u.w=w)) (by
   simp[n]) (λi _=>yc some (Ht m.ts _ i)) (by have:=k.st.l;omega) (λu _ j=>by
  have u2:=pE u (a++j);refine⟨?_,λ_=>by simp⟩;by_cases h:u.w=w
  ·simp[u2,h]
  ·have q:(u.w == w)=false:=by simp[h]
   simp[u2,h]) (λu _ _=>iy u)
 have g:uo w m.ts=(m.ts.filter λu=>decide (u.w=w)).head?:=(List.head?_filter ..).symm;rw[g];generalize m.ts.filter (λu=>decide (u.w=w))=c at *;have d:∀ a,se (.va []) (.va []) a=.ok (.bl true) a:=λa=>Hz (by simp[pl]);unfold Ae pQ;cases c with
 |nil=>
  simp[l,d,oT,-Ss]
 |cons t c=>
  have e:∀ a,se (.va ((t::c).map Ti.D)) (.va []) a=.ok (.bl false) a:=λa=>mG (b:=false) (by simp[yj,L4.kd,To,Bp]);have f:∀ a,Ma (.va ((t::c).map Ti.D)) (.int 0) a=.ok t.D a:=λa=>by rw[Ra];exact EE ..
  have hc:=iy t;generalize m.D=p,(t::c).map Ti.D=o at *;show _=Jk.ok t.D a;simp[l,e,f,hc,-Ss]
def nD:Option Sn->D
 |some s=>.Ga [.Ga [.int s.a,.int s.b],.Ga (s.ts.map Ti.D)]
 |none=>.Rb
theorem R6(o:Option Sn):cl (nD o)=true:=by
 cases o with
 |none=>rfl
 |some s=>unfold nD;simp[JJ]
def Wi.new(q:Int)(K:List Int)(m:Sn):Wi->Option Sn
 | .Qg false d w y=>if 0<y then none else (Wi.Qg false d w y).st q K m
 |ws=>ws.st q K m
def Wi.lim:Wi->Prop
 | .sg d=>d<=1000000000000
 | .Qg _ d _ _=>d<=1000000000000
 |_=>True
def qj(K:List Int):D:=.va (K.map D.int)
section
variable{q:Int}(hq:q=0\/q=1)(K:List Int){m:Sn}{T:Int}(hm:m.Ok T)
include hq hm
theorem Ő{ws:Wi}(T:ws.lim)(f:nb):Ye [m.D,.int q,ws.D,qj K] f=.ok (nD (ws.new q K m)) f:=by
 have B:=s1 m;have Q:=s2 m;have F:=nI hq m;have n:=Kw ws;have g:=R6 (ws.new q K m);cases ws with
 |sg d=>
  have r:∀ f,Ma (Wi.sg d).D (.int 2) f=.ok (.int d) f:=λf=>by unfold Wi.D;simp
  have X:=fB hq m.a m.b (-d);have m2:=fB (q:=1 - q) (by omega) (sa q (-d) m.a) (sb q (-d) m.b) d;have T:d<=1000000000000:=T;unfold Wi.k at n;unfold Wi.new Wi.st at g ⊢;dsimp only at g ⊢;unfold Ye YE DC aF iD LC fF JC;by_cases h:(1<=d/\d<=1000000000000)/\d<=ow q m
  ·have v:decide (d<1)=false:=Da (by omega);have C:decide (d > ow q m)=false:=Da (by omega);rw[ja h]at g ⊢;unfold nD fo at g ⊢;dsimp only at g ⊢;generalize m.D=A,D.Ga [.int (sa (1 - q) d (sa q (-d) m.a)),.int (sb (1 - q) d (sb q (-d) m.b))]=AB,D.Ga [.int m.a,.int m.b]=I,D.Ga (m.ts.map Ti.D)=TT,(Wi.sg d).D=WD at *;simp[B,Q,F,n,r,X,m2,v,C,g]
  ·rw[ka h];unfold nD;dsimp only;generalize m.D=A,D.Ga [.int m.a,.int m.b]=I,(Wi.sg d).D=WD at *;by_cases c:d<1
   ·have v:decide (d<1)=true:=Ia c;simp[B,F,n,r,v]
   ·have v:decide (d<1)=false:=Da c;have C:decide (d > ow q m)=true:=Ia (by omega);simp[B,F,n,r,v,C]
 |Qg p d w y=>
  have r:∀ f,Ma (Wi.Qg p d w y).D (.int 2) f=.ok (.int d) f:=λf=>by unfold Wi.D;simp
  have Y:∀ f,Ma (Wi.Qg p d w y).D (.int 3) f=.ok (.int w) f:=λf=>by unfold Wi.D;simp
  have w4:∀ f,Ma (Wi.Qg p d w y).D (.int 4) f=.ok (.int y) f:=λf=>by unfold Wi.D;exact uK ..
  have sl:∀ f,Fx (Wi.Qg p d w y).D (some 2) none f=.ok (.Ga [.int d,.int w,.int y]) f:=λf=>by unfold Wi.D;rw[NH];rfl
  have a1:∀ f,kh (.Ga [.int q]) (.Ga [.int d,.int w,.int y]) f=.ok (⟨q,d,w,y⟩:Ti).D f:=λf=>by rw[HE (by unfold oi;simp)];rfl
  have L:∀ f,kh (.Ga (m.ts.map Ti.D)) (.Ga [(⟨q,d,w,y⟩:Ti).D]) f=.ok (.Ga ((vd m ⟨q,d,w,y⟩).ts.map Ti.D)) f:=λf=>by
   rw[HE (by unfold oi;have:=hm.st.l;simp;omega)];show Jk.ok (D.Ga (m.ts.map Ti.D++[_])) f=.ok (.Ga ((m.ts++[(⟨q,d,w,y⟩:Ti)]).map Ti.D)) f;rw[Zc];rfl
  have X:=fB hq m.a m.b (-d);have lt:=yJ hm w;have T:d<=1000000000000:=T;have G:∀ o f,xy (oT o) .Rb f=.ok (.bl o.isSome) f:=λo f=>by cases o<;>rfl
  have G:=G (uo w m.ts);have fw:(uo w m.ts).isSome=decide (w∈m.ts.map Ti.w):=by
   cases h:uo w m.ts with
   |none=>rw[Da (jY h)];rfl
   |some t=>rw[Ia (by rw[<-(ww h).2];exact Ic (ww h).1)];rfl
  rw[fw]at G;generalize oT (uo w m.ts)=OT at *;have Z:∀ f,ky (.int y) (.int 0) f=.ok (.bl (decide (y > 0))) f:=λf=>nr rfl;have a0:(Wi.Qg p d w y).st q K m=if ((1<=d/\d<=1000000000000)/\d<=ow q m)/\w ∉ m.ts.map Ti.w then some (vd m ⟨q,d,w,y⟩)else none:=rfl;have P:(Wi.Qg p d w y).new q K m=if p=false/\0<y then none else (Wi.Qg p d w y).st q K m:=by
   cases p
   ·by_cases h:0<y<;>simp[Wi.new,h]
   ·simp[Wi.new]
  rw[P,a0]at g ⊢;unfold Ye YE DC aF iD LC fF JC;by_cases h:(1<=d/\d<=1000000000000)/\d<=ow q m
  ·have v:decide (d<1)=false:=Da (by omega);have C:decide (d > ow q m)=false:=Da (by omega);by_cases E:w∈m.ts.map Ti.w
   ·rw[Ia E]at G;have e:nD (if p=false/\0<y then none else if ((1<=d/\d<=1000000000000)/\d<=ow q m)/\w ∉ m.ts.map Ti.w then some (vd m ⟨q,d,w,y⟩)else none)=.Rb:=by
     rw[ka (c:=(((1<=d/\d<=1000000000000)/\d<=ow q m)/\w ∉ m.ts.map Ti.w)) λz=>z.2 E];split<;>rfl
    rw[e];generalize m.D=A,D.Ga [.int m.a,.int m.b]=I,(Wi.Qg p d w y).D=WD at *;cases p<;>simp[B,F,n,Wi.k,r,Y,v,C,lt,G]
   ·rw[Da E]at G;rw[ja (c:=(((1<=d/\d<=1000000000000)/\d<=ow q m)/\w ∉ m.ts.map Ti.w)) ⟨h,E⟩]at g ⊢;by_cases V:0<y
    ·have y1:decide (y > 0)=true:=Ia V;rw[y1]at Z;cases p with
     |false=>
      rw[ja ⟨rfl,V⟩]at g ⊢;generalize m.D=A,D.Ga [.int m.a,.int m.b]=I,(Wi.Qg false d w y).D=WD at *;simp[B,F,n,Wi.k,r,Y,w4,v,C,lt,G,Z,nD]
     |true=>
      rw[ka (by simp)]at g ⊢;unfold nD vd at g ⊢;dsimp only at g ⊢;unfold vd at L;dsimp only at L;generalize m.D=A,D.Ga [.int (sa q (-d) m.a),.int (sb q (-d) m.b)]=AB,D.Ga [.int m.a,.int m.b]=I,D.Ga (m.ts.map Ti.D)=TT,D.Ga ((m.ts++[(⟨q,d,w,y⟩:Ti)]).map Ti.D)=T2,(⟨q,d,w,y⟩:Ti).D=O,(Wi.Qg true d w y).D=WD at *;simp[B,Q,F,n,Wi.k,r,Y,v,C,lt,G,X,sl,a1,L,g]
    ·have y1:decide (y > 0)=false:=Da V;rw[y1]at Z;rw[ka λz=>V z.2]at g ⊢;unfold nD vd at g ⊢;dsimp only at g ⊢;unfold vd at L;dsimp only at L;generalize m.D=A,D.Ga [.int (sa q (-d) m.a),.int (sb q (-d) m.b)]=AB,D.Ga [.int m.a,.int m.b]=I,D.Ga (m.ts.map Ti.D)=TT,D.Ga ((m.ts++[(⟨q,d,w,y⟩:Ti)]).map Ti.D)=T2,(⟨q,d,w,y⟩:Ti).D=O,(Wi.Qg p d w y).D=WD at *;cases p<;>simp[B,Q,F,n,Wi.k,r,Y,w4,v,C,lt,G,Z,X,sl,a1,L,g]
  ·have e:nD (if p=false/\0<y then none else if ((1<=d/\d<=1000000000000)/\d<=ow q m)/\w ∉ m.ts.map Ti.w then some (vd m ⟨q,d,w,y⟩)else none)=.Rb:=by
    rw[ka (c:=(((1<=d/\d<=1000000000000)/\d<=ow q m)/\w ∉ m.ts.map Ti.w)) λz=>h z.1];split<;>rfl
   rw[e];generalize m.D=A,D.Ga [.int m.a,.int m.b]=I,(Wi.Qg p d w y).D=WD at *;by_cases c:d<1
   ·have v:decide (d<1)=true:=Ia c;cases p<;>simp[B,F,n,Wi.k,r,v]
   ·have v:decide (d<1)=false:=Da c;have C:decide (d > ow q m)=true:=Ia (by omega);cases p<;>simp[B,F,n,Wi.k,r,v,C]
 |af w=>
  have r:∀ f,Ma (Wi.af w).D (.int 2) f=.ok (.int w) f:=λf=>by unfold Wi.D;simp
  have lt:=yJ hm w;have W:∀ f,ju true (.int w) (qj K) f=.ok (.bl (!decide (w∈K))) f:=λf=>by
   rw[ś (ws:=K) rfl];have:(K.any λx=>x == w)=decide (w∈K):=by
    by_cases h:w∈K
    ·rw[Ia h,yh];exact⟨w,h,by simp⟩
    ·rw[Da h,zm];intro x hx;simp;intro z;exact h (z ▸ hx)
   simp[this]
  unfold Wi.k at n;unfold Wi.new Wi.st at g ⊢;dsimp only at g ⊢;unfold Ye YE DC aF iD LC fF JC;generalize (Wi.af w).D=WD,qj K=KD at *;cases h:uo w m.ts with
  |none=>
   rw[h]at lt;have lt:∀ f,Ae [m.D,.int w] f=.ok .Rb f:=lt;unfold nD;dsimp only;generalize m.D=A at *;simp[n,r,lt]
  |some t=>
   rw[h]at lt g;have lt:∀ f,Ae [m.D,.int w] f=.ok t.D f:=lt;have U:=(ww h).1;have a3:=(hm.st.t t U).p;have M:=KA t;have i1:=xI t;have N:∀ f,Wp t.D .Rb f=.ok (.bl false) f:=λf=>rfl;dsimp only at g ⊢;by_cases J:t.p=1 - q
   ·have R:(t.p == q)=false:=by simp;omega
    by_cases S:w∈K
    ·rw[Ia S]at W;rw[ja ⟨J,S⟩]at g ⊢;have mo:=fB hq m.a m.b t.a;have l:=qy (src:=vj (ya Ma (ba 0) (eC (.int 2)))) (ρ:=[some m.D,some (.int q),some WD,some KD,some (.str "settle"),some t.D]) (σ:=f) (s:=.seq (m.ts.map Ti.D)) (ix:=[5]) (xs:=m.ts) (fi:=eT (ya uh (ba 0) (ba 2))) (fe:=ba 0) Ti.D Ti.D (λu=>decide (u.w≠t.w)) (by
       generalize m.D=A at *;simp[Q]) (λi _=>yc some (Ht m.ts _ i)) (by have:=hm.st.l;omega) (λu hu j=>by
      have H:=neT hm.st.d hu U (f++j);generalize t.D=O,u.D=UD at *;exact⟨by simp[H],λ_=>by simp⟩) (λu _ _=>iy u)
     have l:ki _ _ f=.ok (.va ((Vg m t q).ts.map Ti.D)) f:=l;unfold nD at g ⊢;dsimp only at g ⊢;have ea:D.Ga [.int (Vg m t q).a,.int (Vg m t q).b]=D.Ga [.int (sa q t.a m.a),.int (sb q t.a m.b)]:=rfl;rw[ea]at g ⊢;generalize t.D=O,m.D=A,D.Ga [.int m.a,.int m.b]=I,D.Ga [.int (sa q t.a m.a),.int (sb q t.a m.b)]=AB,(Vg m t q).ts.map Ti.D=T2 at *;simp[n,r,lt,N,M,i1,R,W,B,mo,l,g,-Ss]
    ·rw[Da S]at W;rw[ka λz=>S z.2];unfold nD;dsimp only;generalize t.D=O,m.D=A at *;simp[n,r,lt,N,M,R,W]
   ·have R:(t.p == q)=true:=by simp;omega
    rw[ka λz=>J z.1];unfold nD;dsimp only;generalize t.D=O,m.D=A at *;simp[n,r,lt,N,M,R]
 |drop w=>
  have r:∀ f,Ma (Wi.drop w).D (.int 2) f=.ok (.int w) f:=λf=>by unfold Wi.D;simp
  have lt:=yJ hm w;unfold Wi.k at n;unfold Wi.new Wi.st at g ⊢;dsimp only at g ⊢;unfold Ye YE DC aF iD LC fF JC;generalize (Wi.drop w).D=WD,qj K=KD at *;cases h:uo w m.ts with
  |none=>
   rw[h]at lt;have lt:∀ f,Ae [m.D,.int w] f=.ok .Rb f:=lt;unfold nD;dsimp only;simp[n,r,lt]
  |some t=>
   rw[h]at lt g;have lt:∀ f,Ae [m.D,.int w] f=.ok t.D f:=lt;have U:=(ww h).1;have M:=KA t;have i1:=xI t;have N:∀ f,Wp t.D .Rb f=.ok (.bl false) f:=λf=>rfl;have H:=UQ t.p q;dsimp only at g ⊢;by_cases J:t.p=q
   ·rw[Da (show ¬ t.p≠q from λz=>z J)]at H;rw[ja J]at g ⊢;have mo:=fB hq m.a m.b t.a;have l:=qy (src:=vj (ya Ma (ba 0) (eC (.int 2)))) (ρ:=[some m.D,some (.int q),some WD,some KD,some (.str "drop"),some t.D]) (σ:=f) (s:=.seq (m.ts.map Ti.D)) (ix:=[5]) (xs:=m.ts) (fi:=eT (ya uh (ba 0) (ba 2))) (fe:=ba 0) Ti.D Ti.D (λu=>decide (u.w≠t.w)) (by
      simp[Q]) (λi _=>yc some (Ht m.ts _ i)) (by have:=hm.st.l;omega) (λu hu j=>by
     have H:=neT hm.st.d hu U (f++j);exact⟨by simp[H],λ_=>by simp⟩) (λu _ _=>iy u)
    have l:ki _ _ f=.ok (.va ((Vg m t q).ts.map Ti.D)) f:=l;unfold nD at g ⊢;dsimp only at g ⊢;have ea:D.Ga [.int (Vg m t q).a,.int (Vg m t q).b]=D.Ga [.int (sa q t.a m.a),.int (sb q t.a m.b)]:=rfl;rw[ea]at g ⊢;simp[n,r,lt,N,M,i1,H,B,mo,l,g,-Ss]
   ·rw[Ia (show t.p≠q from J)]at H;rw[ka J];unfold nD;simp[n,r,lt,N,M,H]
end
def oW:Option Wi->D
 |some ws=>ws.D
 |none=>qu
theorem Ο(o:Option Wi):cl (oW o)=true:=by
 cases o with
 |none=>simp[oW,qu]
 |some ws=>cases ws<;>simp[oW,Wi.D]
theorem pU(a b c d e f:D)(r:List D)(g:nb):Ma (.va (a::b::c::d::e::f::r)) (.int 5) g=.ok f g:=jx (Tr rfl)
theorem A5(a b c d e f g:D)(r:List D)(h:nb):Ma (.va (a::b::c::d::e::f::g::r)) (.int 6) h=.ok g h:=jx (Tr rfl)
theorem Ξ(a b c d e f g h:D)(r:List D)(i:nb):Ma (.va (a::b::c::d::e::f::g::h::r)) (.int 7) i=.ok h i:=jx (Tr rfl)
theorem ς(xs:List D)(a:nb):uh (.Ga xs) (.Ga []) a=.ok (.bl !(xs.isEmpty)) a:=by
 cases xs with
 |nil=>exact Ar (by simp[pl])
 |cons x xs=>exact Jy (by simp[yj,L4.kd,To,Bp])
section
variable{q:Int}(hq:q=0\/q=1)(ns:List Int){m:Sn}{T:Int}(hm:m.Ok T)(σ:nb)
include hq hm
theorem Ų(C:Int)(b c:Option D):∃ A:Int,ZH [some (.Uf ns),some m.D,some (.int q),some (.int C),none,b,c] σ=.ok (.nx [some (.Uf ns),some m.D,some (.int q),some (.int C),some (.int A),b,c]) σ:=by
 have i:=s1 m;have g:=nI hq m;have pb:=LY;have f:C % 6=0\/C % 6=1\/C % 6=2\/C % 6=3\/C % 6=4\/C % 6=5:=by omega
 have a:∀ L:List D,L=[.int 1,.int (ow q m),.int (ow q m+1),.int 0,.int (-1 - C / 6 % 100000000000000000000),.int (1+C / 6 % 1000000000000)]->∃ A:Int,∀ σ,Ma (.va L) (.int (C % 6)) σ=.ok (.int A) σ:=λL e=>by
  subst e;rcases f with h|h|h|h|h|h<;>rw[h]
  ·exact⟨_,λσ=>EE ..⟩
  ·exact⟨_,λσ=>iG ..⟩
  ·exact⟨_,λσ=>JU ..⟩
  ·exact⟨_,λσ=>YV ..⟩
  ·exact⟨_,λσ=>rR ..⟩
  ·exact⟨_,λσ=>pU ..⟩
 obtain⟨A,d⟩:=a _ rfl;refine⟨A,?_⟩;simp[i,g,pb,d]
theorem QY(C A:Int):∃ w:Int,(0<=w/\w<=59)/\(ub eB LD) [some (.Uf ns),some m.D,some (.int q),some (.int C),some (.int A),none,none] σ=.ok (.nx [some (.Uf ns),some m.D,some (.int q),some (.int C),some (.int A),some (.int w),none]) σ:=by
 have d:=EB ns 9 (by omega);generalize Gs ns (9:Int).toNat=a at *;have j:=s2 m;have c:=ς (m.ts.map Ti.D);have x:∀ σ,Hl [.Ga (m.ts.map Ti.D)] σ=.ok (.int (m.ts.length:Int)) σ:=λσ=>by
  have:=IF (σ:=σ) (m.ts.map Ti.D);simpa using this
 by_cases g:m.ts=[]
 ·refine⟨a % 60,by omega,?_⟩;have e:(m.ts.map Ti.D).isEmpty=true:=by rw[g];rfl
  rw[e]at c;simp[d,j,c]
 ·have e:(m.ts.map Ti.D).isEmpty=false:=by
   cases h:m.ts with
   |nil=>exact absurd h g
   |cons t y=>rfl
  rw[e]at c;by_cases k:a / 60 % 3 > 0
  ·have v:0<m.ts.length:=List.length_pos_iff.mpr g;have s:0<=a / 180 % (m.ts.length:Int):=cz _ (by omega);have u:a / 180 % (m.ts.length:Int)<m.ts.length:=tw _ (by omega);obtain⟨i,l⟩:∃ i:Nat,a / 180 % (m.ts.length:Int)=i:=⟨(a / 180 % (m.ts.length:Int)).toNat,by omega⟩
   have b:i<m.ts.length:=by omega
   have p:∀ σ,Ma (.Ga (m.ts.map Ti.D)) (.int (a / 180 % (m.ts.length:Int))) σ=.ok (m.ts[i]).D σ:=λσ=>by
    rw[l];exact gB (Tr (by rw[zb,Qc b];rfl))
   have o:=pE m.ts[i];have n:=(hm.st.t m.ts[i] (Yn b)).w;have f:decide (a / 60 % 3 > 0)=true:=Ia k;have r:∀ σ,zo (.int (a / 180)) (.int (m.ts.length:Int)) σ=.ok (.int (a / 180 % (m.ts.length:Int))) σ:=λσ=>by
    exact KO _ _ (by omega)
   refine⟨_,n,?_⟩;simp[d,j,c,f,r,p,o]
  ·refine⟨a % 60,by omega,?_⟩;have f:decide (a / 60 % 3 > 0)=false:=Da k;simp[d,j,c,f]
theorem B9:∃ o:Option Wi,(∀ ws,o=some ws->ws.Ok/\ws.lim)/\Cg [.Uf ns,m.D,.int q] σ=.ok (oW o) σ:=by
 have B:=EB ns 8 (by omega);have z:=EB ns 7 (by omega);have f:=EB ns 10 (by omega);generalize Gs ns (10:Int).toNat=c,Gs ns (7:Int).toNat=b,Gs ns (8:Int).toNat=C at *;obtain⟨A,s2⟩:=Ų hq ns hm σ C none none;obtain⟨w,v,a⟩:=QY hq ns hm σ C A;have s1:MC [some (.Uf ns),some m.D,some (.int q),none,none,none,none] σ=.ok (.nx [some (.Uf ns),some m.D,some (.int q),some (.int C),none,none,none]) σ:=by
  unfold MC;simp[B]
 have G:b % 8=0\/b % 8=1\/b % 8=2\/b % 8=3\/b % 8=4\/b % 8=5\/b % 8=6\/b % 8=7:=by omega
 obtain⟨k,K,N⟩:∃ k:Str,(k = "give"\/k = "pay"\/k = "pass"\/k = "settle"\/k = "drop"\/k = "finish")/\OG [some (.Uf ns),some m.D,some (.int q),some (.int C),some (.int A),some (.int w),none] σ=.ok (.nx [some (.Uf ns),some m.D,some (.int q),some (.int C),some (.int A),some (.int w),some (.str k)]) σ:=by
  have l:∀ L:List D,L=[.str "give",.str "pay",.str "pass",.str "settle",.str "drop",.str "finish",.str "pay",.str "settle"]->∃ k:Str,(k = "give"\/k = "pay"\/k = "pass"\/k = "settle"\/k = "drop"\/k = "finish")/\∀ σ,Ma (.va L) (.int (b % 8)) σ=.ok (.str k) σ:=λL E=>by
   subst E;rcases G with h|h|h|h|h|h|h|h<;>rw[h]
   ·exact⟨"give",by simp,λσ=>EE ..⟩
   ·exact⟨"pay",by simp,λσ=>iG ..⟩
   ·exact⟨"pass",by simp,λσ=>JU ..⟩
   ·exact⟨"settle",by simp,λσ=>YV ..⟩
   ·exact⟨"drop",by simp,λσ=>rR ..⟩
   ·exact⟨"finish",by simp,λσ=>pU ..⟩
   ·exact⟨"pay",by simp,λσ=>A5 ..⟩
   ·exact⟨"settle",by simp,λσ=>Ξ ..⟩
  obtain⟨k,I,J⟩:=l _ rfl;refine⟨k,I,?_⟩;simp[z,J]
 obtain⟨y,x,t⟩:∃ y:Int,(0<=y/\y<=1000000)/\∀ σ,Ma (.va [.int 0,.int (c % 1000001)]) (.int (C / 6 % 2)) σ=.ok (.int y) σ:=by
  have:C / 6 % 2=0\/C / 6 % 2=1:=by omega
  rcases this with h|h<;>rw[h]
  ·exact⟨0,by omega,λσ=>EE ..⟩
  ·exact⟨c % 1000001,by omega,λσ=>iG ..⟩
 have p:=pw;have p6:=Ş;have n:∀ σ,Oy [.int A,.int 1000000000000] σ=.ok (.int (min A 1000000000000)) σ:=λσ=>by simp
 have j:min A 1000000000000<=1000000000000:=by omega
 generalize min A 1000000000000=d at *;have rest:∃ o:Option Wi,(∀ ws,o=some ws->ws.Ok/\ws.lim)/\(ub HG (ub PH (ub wG CG))) [some (.Uf ns),some m.D,some (.int q),some (.int C),some (.int A),some (.int w),some (.str k)] σ=.ok (.rt (oW o)) σ:=by
  rcases K with rfl|rfl|rfl|rfl|rfl|rfl
  ·exact⟨some (.sg d),λws e=>by cases e;exact⟨trivial,j⟩,by simp[p,n,oW,Wi.D]⟩
  ·exact⟨some (.Qg true d w y),λws e=>by cases e;exact⟨⟨v,x⟩,j⟩,by simp[p,p6,n,f,t,oW,Wi.D]⟩
  ·exact⟨some (.Qg false d w y),λws e=>by cases e;exact⟨⟨v,x⟩,j⟩,by simp[p,p6,n,f,t,oW,Wi.D]⟩
  ·exact⟨some (.af w),λws e=>by cases e;exact⟨trivial,trivial⟩,by simp[oW,Wi.D]⟩
  ·exact⟨some (.drop w),λws e=>by cases e;exact⟨trivial,trivial⟩,by simp[oW,Wi.D]⟩
  ·exact⟨none,(λws e=>by cases e),by simp[oW,qu]⟩
 obtain⟨o,H,rest⟩:=rest;refine⟨o,H,?_⟩;have F:=Ο o;have g:∀ (s:Ev->M Fl),(ub eB (ub LD s)) [some (.Uf ns),some m.D,some (.int q),some (.int C),some (.int A),none,none] σ=s [some (.Uf ns),some m.D,some (.int q),some (.int C),some (.int A),some (.int w),none] σ:=λs=>by
  rw[ck]at a ⊢;cases u:eB [some (.Uf ns),some m.D,some (.int q),some (.int C),some (.int A),none,none] σ with
  |ok r O=>
   rw[u,lg]at a;rw[lg];cases r with
   |nx S=>rw[Hk]at a ⊢;rw[ck,a,lg,Hk]
   |_=>cases a
  |_=>rw[u]at a;cases a
 have i:(ub MC (ub ZH (ub eB (ub LD (ub OG (ub HG (ub PH (ub wG CG)))))))) [some (.Uf ns),some m.D,some (.int q),none,none,none,none] σ=.ok (.rt (oW o)) σ:=by
  rw[ck,s1,lg,Hk,ck,s2,lg,Hk,g,ck,N,lg,Hk,rest]
 unfold Cg BQ;generalize oW o=R,m.D=Q,(ub MC (ub ZH (ub eB (ub LD (ub OG (ub HG (ub PH (ub wG CG))))))))=P at *;simp[i,F]
end
theorem jZ(q:Int)(M N:D)(a:nb):de [.int q,M,N,qu] a=.ok (.va []) a:=by
 unfold de xN qu;simp
theorem Ò(l:q=0\/q=1){m s:Sn}(v:s.n=m.n+1)(ws:Wi)(c:nb):de [.int q,m.D,nD (some s),ws.D] c=.ok (.va (ws.wd++[lt q s])) c:=by
 have o:=s0 m;have r:∀ c,Ma (nD (some s)) (.int 0) c=.ok (.Ga [.int s.a,.int s.b]) c:=λc=>by unfold nD;simp
 have t:∀ c,Ma (nD (some s)) (.int 1) c=.ok (.Ga (s.ts.map Ti.D)) c:=λc=>by unfold nD;simp
 have e:=Kw ws;have f:=kF ws;have i:D.Ga [.str "ask",.int 0,.Ga [.int s.a,.int s.b],.Ga (s.ts.map Ti.D)]=Al s:=rfl;have j:D.Ga [.str "offer",.int 0,.Ga [.str "agree",.int 0,.int 0,.Ga [.int (m.n+1),.Ga [.int s.a,.int s.b],.Ga (s.ts.map Ti.D)]]]=vh s:=by rw[<-v];rfl
 have u:∀ (a b:D) c,kh (.va [a]) (.va [b]) c=.ok (.va [a,b]) c:=λa b c=>by rw[IC (by unfold oi;simp)];rfl
 have g:=vQ s;have h:=kM s;unfold de xN lt;cases ws with
 |af w=>
  have x:∀ c,Ma (Wi.af w).D (.int 2) c=.ok (.int w) c:=λc=>by unfold Wi.D;simp
  unfold Wi.k at e f;unfold Wi.wd;rcases l with rfl|rfl<;>simp[o,r,t,e,x,i,j,u,g,h]
 |sg d=>
  unfold Wi.k at e f;unfold Wi.wd;rcases l with rfl|rfl<;>simp[o,r,t,e,f,i,j,g,h]
 |drop d=>
  unfold Wi.k at e f;unfold Wi.wd;rcases l with rfl|rfl<;>simp[o,r,t,e,f,i,j,g,h]
 |Qg p d w y=>
  unfold Wi.wd;cases p with
  |true=>
   unfold Wi.k at e f;rcases l with rfl|rfl<;>simp[o,r,t,e,f,i,j,g,h]
  |false=>
   unfold Wi.k at e f;rcases l with rfl|rfl<;>simp[o,r,t,e,f,i,j,g,h]
noncomputable def Mi(m:Sn):Sn:=⟨m.n+1,m.a,m.b,m.ts⟩
noncomputable def Cy(q:Int):Str:=if q=0 then "offered" else "waiting"
section
variable{σ0:nb}{q g T:Int}(hq:q=0\/q=1){K:List Int}(hK:K.length<=60){J:nb}{j:Nat}(hj:j<=3){m:Sn}{G:D}{L:List D}(h:Fw q T j m G L)
include hq hK hj h
theorem S7(o:Option Wi):∃ a5,sf [.ref σ0.length,.int q,m.D,oW o] (SA σ0 q g K (Aa q m G L) [] false J)=.ok (.bl true) a5:=by
 have p:=h.ok;have O:(Mi m).Ok T:=⟨⟨by show 0<=m.n+1/\m.n+1<=1000000;have:=p.st.n;have:=h.n;omega,p.st.a,p.st.b,p.st.t,p.st.l,p.st.d⟩,p.w⟩
 have hn:(Mi m).n=m.n+1:=rfl;have hv:V K q (Mi m)=V K q m:=rfl;obtain⟨M,x2,x3⟩:=Oz hq p O h.g h.cl;have wx:=Hy K (a:=xa q m (Mi m) G L) (q:=q) x2 x3;have wc:=Ru K q m G L;have j0:=s0 m;have j1:=s1 m;have j2:=s2 m;have a0:=λi a (F:Bool)=>jj (ij σ0 q g K (AV a) [] F J) (m:="take") 2 Pa i rfl;have ea:D.Ga [.str "ask",.int 0,.Ga [.int m.a,.int m.b],.Ga (m.ts.map Ti.D)]=Al (Mi m):=rfl;have eo:D.Ga [.str "offer",.int 0,.Ga [.str "agree",.int 0,.int 0,.Ga [.int (m.n+1),.Ga [.int m.a,.int m.b],.Ga (m.ts.map Ti.D)]]]=vh (Mi m):=rfl;have e1:∀ (r:List (Option D)),hG (some (.ref σ0.length)::some (.int q)::some m.D::r) (SA σ0 q g K (Aa q m G L) [] false J)=.ok (.nx (some (.ref σ0.length)::some (.int q)::some m.D::r)) (SA σ0 q g K (xa q m (Mi m) G L) [] false J):=λr=>by
  have mk:=λi=>a0 i (Aa q m G L) false;rcases hq with rfl|rfl
  ·have u:=wK (σ0:=σ0) (q:=0) (g:=g) hK (Q:=[]) (F:=false) (J:=J) p O hn h.g h.cl (by
    show W K (Aa 0 m G L)<=W K (xa 0 m (Mi m) G L);rw[wx,wc,hv];split<;>omega)
   have u:Pa [.ref σ0.length,Al (Mi m)] (SA σ0 0 g K (Aa 0 m G L) [] false J)=.ok (.va [vh (Mi m)]) (SA σ0 0 g K (xa 0 m (Mi m) G L) [] false J):=u;unfold hG;simp[mk,j1,j2,ea,u]
  ·have u:=dM (σ0:=σ0) (q:=1) (g:=g) hK (F:=false) (J:=J) p O hn h.g h.cl (by
    show W K (Aa 1 m G L)<=W K (xa 1 m (Mi m) G L);rw[wx,wc,hv];split<;>omega)
   have u:Pa [.ref σ0.length,vh (Mi m)] (SA σ0 1 g K (Aa 1 m G L) [] false J)=.ok (.va [Tn m (Mi m)]) (SA σ0 1 g K (xa 1 m (Mi m) G L) [] false J):=u;simp[mk,j0,j1,j2,eo,u]
 have wd:∃ N,(∀ i f,Km [(5,Pb),(6,Wb),(7,Vb)] 1 "word" i (xa q m (Mi m) G L).D f=(i f).bind (Ik 1 N (xa q m (Mi m) G L).D))/\(∀ x f,N [x] f=.ok (.str (Cy q)) f)/\(Cy q == ("calm" : Str))=false:=by
  rcases hq with rfl|rfl
  ·exact⟨Wb,λi f=>lp (Qn rfl) rfl rfl,λx f=>by unfold Wb qQ;simp[Cy],by decide⟩
  ·exact⟨Vb,λi f=>lp (Qn rfl) rfl rfl,λx f=>by unfold Vb YR;simp[Cy],by decide⟩
 obtain⟨N,wm,wf,wk⟩:=wd;obtain⟨j,b,wi,wb⟩:∃ j b,db [.ref σ0.length,oW o] (SA σ0 q g K (xa q m (Mi m) G L) [] false J)=.ok (.Ga [.bl b,.va []]) (SA σ0 q g K (xa q m (Mi m) G L) [] j J)/\∀ f,∃ k:Str,Ma (oW o) (.int 0) f=.ok (.str k) f/\(k == ("finish" : Str))=b:=by
  cases o with
  |none=>exact⟨true,true,KU _,λf=>⟨"finish",by unfold oW qu;simp,by decide⟩⟩
  |some ws=>exact⟨false,false,AY ws wm wf wk,λf=>⟨ws.k,Kw ws f,kF ws⟩⟩
 have v:=λF=>PK (σ0:=σ0) (q:=q) (g:=g) (K:=K) (Q:=[]) (F:=F) (J:=J) M;have B:=λF=>YM (σ0:=σ0) (q:=q) (g:=g) hK M (Q:=[]) (F:=F) (J:=J);have z:=λF=>sR (σ0:=σ0) (q:=q) (g:=g) (K:=K) (a:=xa q m (Mi m) G L) (Q:=[]) (F:=F) (J:=J);have C:=λi F=>jj (ij σ0 q g K (AV (xa q m (Mi m) G L)) [] F J) (m:="account") 2 Zb i rfl;have H:=λi F=>jj (ij σ0 q g K (AV (xa q m (Mi m) G L)) [] F J) (m:="worth") 1 Gc i rfl;have E:=λi F=>jj (ij σ0 q g K (AV (xa q m (Mi m) G L)) [] F J) (m:="given") 1 Fc i rfl;have mi:=ny M;have my:=kH M;have a1:=v false;have a2:=v j;have k1:=B false;have k2:=B j;have g1:=z false;have g2:=z j;have R:=λi=>C i false;have U:=λi=>C i j;have a3:=λi=>H i false;have a4:=λi=>H i j;have X:=λi=>E i false;have Z:=λi=>E i j;have mh:=λi=>jj (ij σ0 q g K (AV (xa q m (Mi m) G L)) [] false J) (m:="wish") 2 db i rfl;obtain⟨k,w0,A⟩:∃ k:Str,(∀ f,Ma (oW o) (.int 0) f=.ok (.str k) f)/\(k == ("finish" : Str))=b:=by
  cases o with
  |none=>
   obtain⟨k,e,A⟩:=wb [];have I:∀ f,Ma (oW none) (.int 0) f=.ok (.str "finish") f:=λf=>by unfold oW qu;simp
   cases e;exact⟨_,I,A⟩
  |some ws=>
   obtain⟨k,e,A⟩:=wb [];have I:∀ f,Ma (oW (some ws)) (.int 0) f=.ok (.str ws.k) f:=Kw ws;rw[I]at e;cases e;exact⟨_,I,A⟩
 have ns:∀ f,uh (.str (Cy q)) (.str (Cy q)) f=.ok (.bl false) f:=λf=>Ar (by simp[pl]);have lw:∀ f,Ma (.va [.str "offered",.str "waiting"]) (.int q) f=.ok (.str (Cy q)) f:=λf=>by
  rcases hq with rfl|rfl
  ·exact EE ..
  ·exact iG ..
 have t4:∀ a b c d:D,∀ f,iu [a,b,c,d] f=.ok (.Ga [a,b,c,d]) f:=λ_ _ _ _ f=>rfl;have nt:∀ f,uh (.Ga [(xa q m (Mi m) G L).m.D,.va ((xa q m (Mi m) G L).y.map Sn.D),.int g,.int (W K (xa q m (Mi m) G L))]) (.Ga [(xa q m (Mi m) G L).m.D,.va ((xa q m (Mi m) G L).y.map Sn.D),.int g,.int (W K (xa q m (Mi m) G L))]) f=.ok (.bl false) f:=λf=>Ar (Ix λx P=>by
  have P:x=(xa q m (Mi m) G L).m.D\/x=.va ((xa q m (Mi m) G L).y.map Sn.D)\/x=.int g\/x=.int (W K (xa q m (Mi m) G L)):=by simpa using P
  rcases P with rfl|rfl|rfl|rfl
  ·exact AI 4 _
  ·show ((xa q m (Mi m) G L).y.map Sn.D).all (pl 6)=true;rw[Xr,cc];intro s _;exact AI 3 s
  ·simp[pl]
  ·simp[pl])
 have nl:∀ f,uh (.va []) (.va []) f=.ok (.bl false) f:=λf=>Ar (by simp[pl]);have ib:∀ f,dq .bool (.bl b) f=.ok (.bl true) f:=λf=>nr rfl;have eb:∀ f,se (.bl b) (.bl b) f=.ok (.bl true) f:=λf=>Hz (by simp[pl]);refine⟨SA σ0 q g K (xa q m (Mi m) G L) [] j J,?_⟩;unfold sf rP MS vO UV ZS gT XO qR;unfold SA at *;generalize Cy q=WQ,m.D=MD,oW o=OW,W K (xa q m (Mi m) G L)=XW,(xa q m (Mi m) G L).y.map Sn.D=XY,(xa q m (Mi m) G L).m.D=XM,(xa q m (Mi m) G L).D=XD,S σ0 q g K (AV (Aa q m G L)) [] false J=Y,S σ0 q g K (AV (xa q m (Mi m) G L)) [] false J=Y2,S σ0 q g K (AV (xa q m (Mi m) G L)) [] j J=Y3,hG=H1 at *;simp[e1,a1,a2,k1,k2,g1,g2,R,U,a3,a4,X,Z,mh,mi,my,wi,w0,A,wm,wf,ns,lw,nt,nl,ib,eb,t4]
end
@[simp] theorem yb5(d:List D->M D)(x a b c:D):Ik 4 d x [a,b,c] e=d [x,a,b,c] e:=xG rfl
noncomputable def cS(u v:Int):Sn:=⟨0,u,v,[]⟩
def eh(u v:Int):D:=.Ga [.int 0,.int 3,.int u,.int v,.int 20]
section
variable{σ0:nb}
theorem nP(h:b.contains 9=true)(g:Nat.ble (a.length+1) 1000=true):Jz c b f d (.ref σ0.length) (σ0++.Ld 9 a::r)=.ok (.nx c) (σ0++.Ld 9 (Bo f d a)::r):=by
 have e:uB b f d (.ref σ0.length) (σ0++.Ld 9 a::r)=.ok () (σ0++.Ld 9 (Bo f d a)::r):=by
  have:(σ0++Ob.Ld 9 a::r)[σ0.length]?=some (.Ld 9 a):=jN;unfold uB;simp only[this];rw[ja (by rw[h];simpa using (show a.length<1000 from Nat.le_of_ble_eq_true g)),WT];rfl
 unfold Jz;rw[e]
theorem cB(g:c.contains 9=true)(h:Nat.ble (b.length+1) 1000=true)(i:a.length+1=k):Rn c f Ou (ba 0) (some (.ref σ0.length)::r) (σ0++.Ld 9 b::a)=.ok (.nx (some (.ref σ0.length)::r)) (σ0++.Ld 9 (Bo f (.ref (σ0.length+k)) b)::(a++[.Bc []])):=by
 rw[rO,ş,Bs,aP,mE,Bs];have e:(σ0++Ob.Ld 9 b::a).length=σ0.length+k:=by rw[Dd,bc];omega
 have d:(σ0++Ob.Ld 9 b::a)++[.Bc []]=σ0++.Ld 9 b::(a++[.Bc []]):=by simp
 rw[e,d];exact nP g h
theorem VF(g:c.contains 9=true)(h:Nat.ble (a.length+1) 1000=true)(i:e (some (.ref σ0.length)::r) (σ0++.Ld 9 a::b)=.ok d (σ0++.Ld 9 a::b)):Rn c f e (ba 0) (some (.ref σ0.length)::r) (σ0++.Ld 9 a::b)=.ok (.nx (some (.ref σ0.length)::r)) (σ0++.Ld 9 (Bo f d a)::b):=by
 rw[rO,i,Bs,aP,mE,Bs,nP g h]
def P3(a:nb)(q:Int)(K:List Int)(A C Z:Kv):nb:=a++.Ld 9 (Mz a.length q 0)::.Bc (Hu K)::.Bc A::.Bc C::.Bc Z::.Bc []::.Bc []::[]
variable{q u v:Int}{K:List Int}
theorem iB(A C Z:Kv):Rl (P3 σ0 q K A C Z) (.ref σ0.length)=some (9,Mz σ0.length q 0):=by
 have:(P3 σ0 q K A C Z)[σ0.length]?=_:=jN;unfold Rl;simp[this]
theorem l6(e:a.Ok):Wd [.ref σ0.length,a.D,.gt ["held"],.Bc [] []] (P3 σ0 q K [] [] [])=.ok .Rb (P3 σ0 q K (AV a) gy Gy):=by
 have c:=Ex e;have f:∀ A C Z,Nc [9] "accounts" (.ref σ0.length) (P3 σ0 q K A C Z)=.ok (.ref (σ0.length+2)) (P3 σ0 q K A C Z):=λA C Z=>Nn (iB A C Z) rfl rfl;have h:∀ A C Z,Nc [9] "claims" (.ref σ0.length) (P3 σ0 q K A C Z)=.ok (.ref (σ0.length+3)) (P3 σ0 q K A C Z):=λA C Z=>Nn (iB A C Z) rfl rfl;have j:∀ A C Z,Nc [9] "seen" (.ref σ0.length) (P3 σ0 q K A C Z)=.ok (.ref (σ0.length+4)) (P3 σ0 q K A C Z):=λA C Z=>Nn (iB A C Z) rfl rfl;have g:∀ b d,mu b d (.ref (σ0.length+2)) (.int 0) (P3 σ0 q K [] [] [])=.ok (.nx b) (P3 σ0 q K [(.inl 0,d)] [] []):=λb d=>by
  rw[Aw (show (P3 σ0 q K [] [] [])[σ0.length+2]?=_ from Wv 2) (by simp)];unfold P3;rw[Kx];rfl
 have i:∀ b d A,mu b d (.ref (σ0.length+3)) (.int 0) (P3 σ0 q K A [] [])=.ok (.nx b) (P3 σ0 q K A [(.inl 0,d)] []):=λb d A=>by
  rw[Aw (show (P3 σ0 q K A [] [])[σ0.length+3]?=_ from Wv 3) (by simp)];unfold P3;rw[Kx];rfl
 have k:∀ b d A C,mu b d (.ref (σ0.length+4)) (.int 0) (P3 σ0 q K A C [])=.ok (.nx b) (P3 σ0 q K A C [(.inl 0,d)]):=λb d A C=>by
  rw[Aw (show (P3 σ0 q K A C [])[σ0.length+4]?=_ from Wv 4) (by simp)];unfold P3;rw[Kx];rfl
 show _=Jk.ok D.Rb (P3 σ0 q K [(.inl 0,a.D)] [(.inl 0,.gt ["held"])] [(.inl 0,.Bc [] [])]);unfold Wd GQ;simp[c,f,g,h,i,j,k]
theorem MV:∀ (c a:List Int) (x:Option D),(a++c).Nodup->(a++c).length<=60->∃ y,El (Lf 2) bN (c.map D.int) [some (.ref σ0.length),some (.va (K.map D.int)),x] (P3 σ0 q a [] [] [])=.ok (.nx [some (.ref σ0.length),some (.va (K.map D.int)),y]) (P3 σ0 q (a++c) [] [] [])
 |[],a,x,_,_=>⟨x,by simp⟩
 |w::c,a,x,hd,g=>by
  obtain⟨y,j⟩:=MV c (a++[w]) (some (.int w)) (by rw[Qi];exact hd) (by rw[Qi];exact g);refine⟨y,?_⟩;rw[show a++w::c=a++[w]++c by simp,<-j,Ra,Av];simp only[Lc,Mc];have k:Nc [8,9] "known" (.ref σ0.length) (P3 σ0 q a [] [] [])=.ok (.ref (σ0.length+1)) (P3 σ0 q a [] [] []):=Nn (iB [] [] []) rfl rfl;have l:∀ p∈Hu a,p.1≠.inl w:=λp i e=>by
   obtain⟨d,h,rfl⟩:=Gb.mp i;have e:d=w:=by simpa using e
   rw[kf]at hd;exact hd.2.2 d h w Wa e
  have m:∀ f,mu f (.bl true) (.ref (σ0.length+1)) (.int w) (P3 σ0 q a [] [] [])=.ok (.nx f) (P3 σ0 q (a++[w]) [] [] []):=λf=>by
   rw[Aw (Wv 1) (by unfold Hu;simp at g ⊢;omega),XF _ l];unfold P3;rw[Kx];unfold Hu;rw[Zc];rfl
  have b:bN [some (.ref σ0.length),some (.va (K.map D.int)),some (.int w)] (P3 σ0 q a [] [] [])=.ok (.nx [some (.ref σ0.length),some (.va (K.map D.int)),some (.int w)]) (P3 σ0 q (a++[w]) [] [] []):=by
   simp[k,m]
  rw[b,lg,Ps]
theorem Ŭ(a:K.Nodup)(b:K.length<=60):Gd [.ref σ0.length,.va (K.map D.int)] (P3 σ0 q [] [] [] [])=.ok .Rb (P3 σ0 q K [] [] []):=by
 obtain⟨y,c⟩:=MV (σ0:=σ0) (q:=q) (K:=K) K [] none a b;unfold Gd kU;simp[c]
variable(hq:q=0\/q=1)(hu:0<=u/\u<=1000000000000)(hv:0<=v/\v<=1000000000000)
include hq
theorem Z1(c:nb):gg [.int (3 * q),.int 5,.va [eh u v]] c=.ok .Rb c:=by
 have b:=bt (i:=5) (a:=1) (b:=50) (by omega) c;have p4:Ma (eh u v) (.int 4) c=.ok (.int 20) c:=uK ..;have e:Fx (eh u v) none (some 2) c=.ok (.Ga [.int 0,.int 3]) c:=nr rfl;have i:ju false (.int (3 * q)) (.Ga [.int 0,.int 3]) c=.ok (.bl true) c:=by
  rcases hq with rfl|rfl<;>simp[ju,Tv,zx,sc,Zj]
 have d:El (Lf 3) HQ [eh u v] [some (.int (3 * q)),some (.int 5),some (.va [eh u v]),none] c=.ok (.nx [some (.int (3 * q)),some (.int 5),some (.va [eh u v]),some (eh u v)]) c:=by
  simp[p4,e,i]
 unfold gg iP;simp[b,d]
include hu hv
theorem lH:(cS u v).Ok (u+v):=⟨⟨by show 0<=0/\0<=1000000;omega,by show 0<=u/\u<=2000000000000;omega,by show 0<=v/\v<=2000000000000;omega,by simp[cS],by simp[cS],by simp[cS]⟩,by simp[cS,Qq]⟩
theorem O8(a:nb):Me [.int 0,.int q,.int u,.int v] a=.ok (Aa q (cS u v) .Rb []).D a:=by
 have f:∀ a,Yi [.int u,.int v] a=.ok (cS u v).D a:=OY hu hv;have ok:=zp hq (lH hq hu hv) (G:=.Rb) (L:=[]) rfl rfl;have c:∀ a,gi a (Mq 5 7 Nj [.int 0,.int q,(cS u v).D,.Rb,.va [(cS u v).D],.va []] a)=.ok (Aa q (cS u v) .Rb []).D a:=ZE ok;have b:=Zw ok;unfold Me cO;simp[f,c,b]
theorem nW(r:K.Nodup)(t:K.length<=60){WD:D}(p:(WD=.Rb/\K=[])\/WD=.va (K.map D.int)):Mq 9 5 lr [.int (3 * q),.int 5,.va [eh u v],WD] σ0=.ok (.ref σ0.length) (SA σ0 q 0 K (Aa q (cS u v) .Rb []) [] false []):=by
 have I:=Z1 (u:=u) (v:=v) hq;have ok:=zp hq (lH hq hu hv) (G:=.Rb) (L:=[]) rfl rfl;have F:∀ b,Km [(9,Gd)] 2 "learn" b (.ref σ0.length) (P3 σ0 q [] [] [] [])=(b (P3 σ0 q [] [] [] [])).bind (Ik 2 Gd (.ref σ0.length)):=λb=>lp (iB [] [] []) rfl rfl;have E:∀ b,Km [(9,Wd)] 4 "hold" b (.ref σ0.length) (P3 σ0 q K [] [] [])=(b (P3 σ0 q K [] [] [])).bind (Ik 4 Wd (.ref σ0.length)):=λb=>lp (iB [] [] []) rfl rfl;have w:=l6 (σ0:=σ0) (q:=q) (K:=K) ok;have fa:=O8 hq hu hv;have B:=Ŭ (σ0:=σ0) (q:=q) r t;have g:∀ a,Ma (eh u v) (.int 0) a=.ok (.int 0) a:=λa=>by unfold eh;simp
 have h:∀ a,Ma (eh u v) (.int 1) a=.ok (.int 3) a:=λa=>by unfold eh;simp
 have z:∀ a,Ma (eh u v) (.int 2) a=.ok (.int u) a:=λa=>by unfold eh;simp
 have A:∀ a,Ma (eh u v) (.int 3) a=.ok (.int v) a:=λa=>by unfold eh;simp
 have H:sH [some (.ref σ0.length),some (.int (3 * q)),some (.int 5),some (.va [eh u v]),some WD,some (.int 0),some (eh u v),none] (P3 σ0 q K [] [] [])=.ok (.nx [some (.ref σ0.length),some (.int (3 * q)),some (.int 5),some (.va [eh u v]),some WD,some (.int 0),some (eh u v),some (.int 1)]) (P3 σ0 q K (AV (Aa q (cS u v) .Rb [])) gy Gy):=by
  have c:Ma (eh u v) (.int q) (P3 σ0 q K [] [] [])=.ok (.int (3 * q)) (P3 σ0 q K [] [] [])->kC [some (.ref σ0.length),some (.int (3 * q)),some (.int 5),some (.va [eh u v]),some WD,some (.int 0),some (eh u v),some (.int q)] (P3 σ0 q K [] [] [])=.ok (.nx [some (.ref σ0.length),some (.int (3 * q)),some (.int 5),some (.va [eh u v]),some WD,some (.int 0),some (eh u v),some (.int q)]) (P3 σ0 q K (AV (Aa q (cS u v) .Rb [])) gy Gy):=λe=>by
   unfold kC;generalize (Aa q (cS u v) .Rb []).D=N,eh u v=P,P3 σ0 q K [] [] []=Y,P3 σ0 q K (AV (Aa q (cS u v) .Rb [])) gy Gy=Z at *;simp[e,z,A,fa,E,w]
  have j:∀ (s x:Int) (Y:nb),Ma (eh u v) (.int s) Y=.ok (.int x) Y->(x == 3 * q)=false->kC [some (.ref σ0.length),some (.int (3 * q)),some (.int 5),some (.va [eh u v]),some WD,some (.int 0),some (eh u v),some (.int s)] Y=.ok (.nx [some (.ref σ0.length),some (.int (3 * q)),some (.int 5),some (.va [eh u v]),some WD,some (.int 0),some (eh u v),some (.int s)]) Y:=λs x Y e y=>by
   unfold kC;simp[e,y]
  unfold sH;rw[x5];simp -implicitDefEqProofs only[B0,J9,hJ,S3,lg,qM,BN,HN,m8,Ŵ,Bs,Ô];rw[Av];simp only[Lc,Mc];rcases hq with rfl|rfl
  ·rw[c (g _),lg,Ps,Av];simp only[Lc,Mc];rw[j 1 3 _ (h _) (by simp),lg,Ps,cF]
  ·rw[j 0 0 _ (g _) (by simp),lg,Ps,Av];simp only[Lc,Mc];rw[c (h _),lg,Ps,cF]
 have n:jB (.va [eh u v]) (P3 σ0 q K [] [] [])=.ok (px (.va [eh u v])) (P3 σ0 q K [] [] []):=sY (xs:=[eh u v]) rfl;have C:Ur (px (.va [eh u v])) (gr 2 (Ck (Lf 5) (Ck (Lf 6) Mr))) sH 1001 0 [some (.ref σ0.length),some (.int (3 * q)),some (.int 5),some (.va [eh u v]),some WD,none,none,none] (P3 σ0 q K [] [] [])=.ok (.nx [some (.ref σ0.length),some (.int (3 * q)),some (.int 5),some (.va [eh u v]),some WD,some (.int 0),some (eh u v),some (.int 1)]) (P3 σ0 q K (AV (Aa q (cS u v) .Rb [])) gy Gy):=by
  rw[fK (k:=1000) (X5 (xs:=[eh u v]) (i:=0) rfl rfl) (ρ1:=[some (.ref σ0.length),some (.int (3 * q)),some (.int 5),some (.va [eh u v]),some WD,some (.int 0),some (eh u v),none]) rfl,H,lg,Ps];exact NM (k:=999) (j7 (x:=.va [eh u v]) (xs:=[eh u v]) rfl)
 have o:∀ (l:D->Ev->Option Ev) (body:Ev->M Fl) (m:Ev) (nx:NX),wJ l body m nx=Ur nx l body 1001 0 m:=λ_ _ _ _=>rfl;have f:lr [.ref σ0.length,.int (3 * q),.int 5,.va [eh u v],WD] (σ0++[.Ld 9 []])=.ok .Rb (P3 σ0 q K (AV (Aa q (cS u v) .Rb [])) gy Gy):=by
  unfold lr cU;rw[ms,lW];show kx (ub _ _ [some (.ref σ0.length),some (.int (3 * q)),some (.int 5),some (.va [eh u v]),some WD,none,none,none] (σ0++[.Ld 9 []]))=_;rw[ck];simp -implicitDefEqProofs only[zO,ž,hJ,VO,mE,lg,qM,BN,HN,ź,I,Bs,AO,Hk];rw[ck,VF (d:=.int (3 * q)) rfl rfl (by simp),lg,Hk];rw[ck,VF (d:=.int 5) rfl rfl (by simp),lg,Hk];rw[ck,VF (d:=.int 0) rfl rfl (by simp),lg,Hk];rw[ck,VF (d:=.int 0) rfl rfl (by simp),lg,Hk];rw[ck,cB (k:=1) rfl rfl rfl,lg,Hk];rw[ck,cB (k:=2) rfl rfl rfl,lg,Hk];rw[ck,cB (k:=3) rfl rfl rfl,lg,Hk];rw[ck,cB (k:=4) rfl rfl rfl,lg,Hk];rw[ck,cB (k:=5) rfl rfl rfl,lg,Hk];rw[ck,cB (k:=6) rfl rfl rfl,lg,Hk];show kx (ub _ _ [some (.ref σ0.length),some (.int (3 * q)),some (.int 5),some (.va [eh u v]),some WD,none,none,none] (P3 σ0 q [] [] [] []))=_;rw[ck];have J:dy (eT (ya Wp (ba 4) (eC .Rb))) (Nh Ha) (ba 4) [some (.ref σ0.length),some (.int (3 * q)),some (.int 5),some (.va [eh u v]),some WD,none,none,none] (P3 σ0 q [] [] [] [])=.ok (.va (K.map D.int)) (P3 σ0 q [] [] [] []):=by
   rcases p with⟨rfl,rfl⟩|rfl
   ·simp
   ·generalize K.map D.int=KD at *;simp
  simp -implicitDefEqProofs only[zO,Ŋ,mE,lg,F,hJ,J,qM,BN,HN,oX,B,Bs,AO,Hk];rw[Cz];simp -implicitDefEqProofs only[R1,VO,mE,lg,n,Bs,o];rw[C,ο]
 rw[BS,f,BL];rfl
end
theorem zup(xs:List D)(a:nb):Cw [.ref a.length] (a++[.va xs])=.ok (.Ga xs) (a++[.va xs]):=by simp[Cw,bL]
noncomputable def mS(q:Int):Sn:=⟨1,if q=0 then 2000000000000 else 0,if q=0 then 0 else 2000000000000,[]⟩
theorem f5(a:q=0\/q=1):(mS q).Ok (1000000000000+1000000000000):=by
 rcases a with rfl|rfl
 ·exact⟨⟨by simp[mS],by simp[mS],by simp[mS],by simp[mS],by simp[mS],by simp[mS]⟩,by simp[mS,Qq]⟩
 ·exact⟨⟨by simp[mS],by simp[mS],by simp[mS],by simp[mS],by simp[mS],by simp[mS]⟩,by simp[mS,Qq]⟩
theorem EY(a:q=0\/q=1)(K:List Int):V K q (mS q)=2000000000000/\V K q (cS 1000000000000 1000000000000)=1000000000000:=by
 rcases a with rfl|rfl<;>simp[V,mS,cS,ow,Qr]
theorem MO(b:nb)(q g:Int)(K:List Int)(a:Ac)(Q:Kv)(F:Bool)(o:Ob):SA b q g K a Q F []++[o]=SA b q g K a Q F [o]/\(SA b q g K a Q F []).length=b.length+7:=by
 unfold SA S;constructor
 ·simp
 ·simp
section
variable{q:Int}(hq:q=0\/q=1)(σ0:nb)
include hq
theorem y2:∃ a0,Bg [.int q] σ0=.ok (.bl true) a0:=by
 have R:=lH (u:=1000000000000) (v:=1000000000000) hq (by omega) (by omega);have o:=f5 hq;have hn:(mS q).n=(cS 1000000000000 1000000000000).n+1:=rfl;have y:([]:List Int).length<=60:=by simp
 obtain⟨N,U⟩:=EY hq [];have mk:=nW (σ0:=σ0) (K:=[]) hq (u:=1000000000000) (v:=1000000000000) (by omega) (by omega) (by simp) y (WD:=.Rb) (.inl ⟨rfl,rfl⟩);have T:=pw;have ep:D.Ga [.int 0,.int 3,.int 1000000000000,.int 1000000000000,.int 20]=eh 1000000000000 1000000000000:=rfl;have e1:bE [some (.int q),none,none,none] σ0=.ok (.nx [some (.int q),some (.ref σ0.length),none,none]) (SA σ0 q 0 [] (Aa q (cS 1000000000000 1000000000000) .Rb []) [] false []):=by
  have ad:∀ (i:Ev->M (List D)) (P:Ev) (f:nb) (a b c:D),i P f=.ok [a,b,c] f->Hw [.Rb] i P f=.ok [a,b,c,.Rb] f:=λi P f a b c h=>by
   show Pd (i P) _ f=_;rw[Jr,h,lg];rfl
  have ag:(ia (ya Dt (eC (.int 3)) (ba 0)) (ia (eC (.int 5)) (ia (Nh (ia (ee (ia (eC (.int 0)) (ia (eC (.int 3)) (ia (ya Vm (eC (.int 10)) (eC (.int 12))) (ia (ya Vm (eC (.int 10)) (eC (.int 12))) (ia (eC (.int 20)) Ha)))))) Ha)) Ha))) [some (.int q),none,none,none] σ0=.ok [.int (3 * q),.int 5,.va [eh 1000000000000 1000000000000]] σ0:=by
   have t5:∀ a b c d e:D,∀ f,iu [a,b,c,d,e] f=.ok (.Ga [a,b,c,d,e]) f:=λ_ _ _ _ _ f=>rfl;have H:∀ f,Dt (.int 3) (.int q) f=.ok (.int (3 * q)) f:=λf=>nC (by simp) (by simp);generalize eh 1000000000000 1000000000000=PD at *;simp[T,t5,ep,H]
  have:=ad _ _ _ _ _ _ ag;unfold bE;generalize eh 1000000000000 1000000000000=PD,(Hw [.Rb] _:Ev->M (List D))=AD at *;simp[this,mk]
 obtain⟨sj,sl⟩:=MO σ0 q 0 [] (Aa q (cS 1000000000000 1000000000000) .Rb []) [] false (.va [.int (mS q).a,.int (mS q).b]);have l:(ub Sz bB) [some (.int q),some (.ref σ0.length),none,none] (SA σ0 q 0 [] (Aa q (cS 1000000000000 1000000000000) .Rb []) [] false [])=.ok (.nx [some (.int q),some (.ref σ0.length),some (.ref (σ0.length+7)),none]) (SA σ0 q 0 [] (Aa q (cS 1000000000000 1000000000000) .Rb []) [] false [.va [.int (mS q).a,.int (mS q).b]]):=by
  have H:∀ f,Dt (.int 2) (.int 1000000000000) f=.ok (.int 2000000000000) f:=λf=>nC (by simp) (by simp);rw[<-sj,<-sl];unfold Sz bB;generalize SA σ0 q 0 [] (Aa q (cS 1000000000000 1000000000000) .Rb []) [] false []=Y at *;rcases hq with rfl|rfl<;>simp[T,H,mS]
 have tu:∀ (g:Int) (a:Ac),Cw [.ref (σ0.length+7)] (SA σ0 q g [] a [] false [.va [.int (mS q).a,.int (mS q).b]])=.ok (.Ga [.int (mS q).a,.int (mS q).b]) (SA σ0 q g [] a [] false [.va [.int (mS q).a,.int (mS q).b]]):=λg a=>by
  obtain⟨a1,a2⟩:=MO σ0 q g [] a [] false (.va [.int (mS q).a,.int (mS q).b]);rw[<-a1,<-a2];exact zup _ _
 have wc:=Ru [] q (cS 1000000000000 1000000000000) .Rb [];have t:=λi a (g:Int)=>jj (ij σ0 q g [] (AV a) [] false [.va [.int (mS q).a,.int (mS q).b]]) (m:="take") 2 Pa i rfl;obtain⟨j,k,w,A,e4⟩:∃ (j:D) (k:List D),cl j=true/\wg k=true/\sB [some (.int q),some (.ref σ0.length),some (.ref (σ0.length+7)),none] (SA σ0 q 0 [] (Aa q (cS 1000000000000 1000000000000) .Rb []) [] false [.va [.int (mS q).a,.int (mS q).b]])=.ok (.nx [some (.int q),some (.ref σ0.length),some (.ref (σ0.length+7)),none]) (SA σ0 q 0 [] (Aa q (mS q) j k) [] false [.va [.int (mS q).a,.int (mS q).b]]):=by
  rcases hq with rfl|rfl
  ·have O:=Hy [] (a:=Fi 0 (cS 1000000000000 1000000000000) (mS 0) .Rb []) (q:=0) rfl rfl;have wn:=Ru [] 0 (mS 0) (Wf 1 (mS 0).D) ([]++[.int (cS 1000000000000 1000000000000).n]);have t1:=wK (σ0:=σ0) (q:=0) (g:=0) y (Q:=[]) (F:=false) (J:=[.va [.int (mS 0).a,.int (mS 0).b]]) R o hn (G:=.Rb) (L:=[]) rfl rfl (by rw[O,wc,N,U];simp);have t2:=CV (σ0:=σ0) (q:=0) (g:=0) y (Q:=[]) (F:=false) (J:=[.va [.int (mS 0).a,.int (mS 0).b]]) R o (G:=.Rb) (L:=[]) rfl rfl (by simp) (by rw[O,wn,N,U];simp);refine⟨Wf 1 (mS 0).D,[]++[.int (cS 1000000000000 1000000000000).n],Fp (Si _),rfl,?_⟩;have ea:D.Ga [.str "ask",.int 0,.Ga [.int (mS 0).a,.int (mS 0).b],.Ga []]=Al (mS 0):=rfl;have ec:D.Ga [.str "accept",.int 0,.Ga [.str "agree",.int 0,.int 1,.Ga [.int 1,.Ga [.int (mS 0).a,.int (mS 0).b],.Ga []]],.Ga [.str "strike",.int 0,.int 1,.int 0]]=Tn (cS 1000000000000 1000000000000) (mS 0):=rfl;have u1:=tu 0 (Aa 0 (cS 1000000000000 1000000000000) .Rb []);have u2:=tu 0 (Fi 0 (cS 1000000000000 1000000000000) (mS 0) .Rb []);have k1:=λi=>t i (Aa 0 (cS 1000000000000 1000000000000) .Rb []) 0;have k2:=λi=>t i (Fi 0 (cS 1000000000000 1000000000000) (mS 0) .Rb []) 0;unfold sB;unfold SA at *;generalize D.Ga [.int (mS 0).a,.int (mS 0).b]=AB,Al (mS 0)=AK,Tn (cS 1000000000000 1000000000000) (mS 0)=AC,S σ0 0 0 [] (AV (Aa 0 (cS 1000000000000 1000000000000) .Rb [])) [] false [.va [.int (mS 0).a,.int (mS 0).b]]=Y,S σ0 0 0 [] (AV (Fi 0 (cS 1000000000000 1000000000000) (mS 0) .Rb [])) [] false [.va [.int (mS 0).a,.int (mS 0).b]]=Y2,S σ0 0 0 [] (AV (Aa 0 (mS 0) (Wf 1 (mS 0).D) ([]++[.int (cS 1000000000000 1000000000000).n]))) [] false [.va [.int (mS 0).a,.int (mS 0).b]]=Y3 at *;simp[u1,u2,k1,k2,ea,ec,t1,t2]
  ·have O:=Hy [] (a:=ik 1 (cS 1000000000000 1000000000000) (mS 1) (Wf 0 (mS 1).D) []) (q:=1) rfl rfl;have wn:=Ru [] 1 (mS 1) (Wf 0 (mS 1).D) ([]++[.int (cS 1000000000000 1000000000000).n]);have t1:=dM (σ0:=σ0) (q:=1) (g:=0) y (F:=false) (J:=[.va [.int (mS 1).a,.int (mS 1).b]]) R o hn (G:=.Rb) (L:=[]) rfl rfl (by rw[O,wc,N,U];simp);have t2:=NU (σ0:=σ0) (q:=1) (g:=0) y (Q:=[]) (F:=false) (J:=[.va [.int (mS 1).a,.int (mS 1).b]]) R o (G:=Wf 0 (mS 1).D) (L:=[]) (Fp (Si _)) rfl (by simp) (by rw[O,wn,N,U];simp);refine⟨Wf 0 (mS 1).D,[]++[.int (cS 1000000000000 1000000000000).n],Fp (Si _),rfl,?_⟩;have eo:D.Ga [.str "offer",.int 0,.Ga [.str "agree",.int 0,.int 0,.Ga [.int 1,.Ga [.int (mS 1).a,.int (mS 1).b],.Ga []]]]=vh (mS 1):=rfl;have ek:D.Ga [.str "struck",.int 0,.Ga [.str "strike",.int 0,.int 0,.int 0]]=um (cS 1000000000000 1000000000000).n:=rfl;have u1:=tu 0 (Aa 1 (cS 1000000000000 1000000000000) .Rb []);have k1:=λi=>t i (Aa 1 (cS 1000000000000 1000000000000) .Rb []) 0;have k2:=λi=>t i (ik 1 (cS 1000000000000 1000000000000) (mS 1) (Wf 0 (mS 1).D) []) 0;unfold sB;unfold SA at *;generalize D.Ga [.int (mS 1).a,.int (mS 1).b]=AB,um (cS 1000000000000 1000000000000).n=AK,vh (mS 1)=AC,S σ0 1 0 [] (AV (Aa 1 (cS 1000000000000 1000000000000) .Rb [])) [] false [.va [.int (mS 1).a,.int (mS 1).b]]=Y,S σ0 1 0 [] (AV (ik 1 (cS 1000000000000 1000000000000) (mS 1) (Wf 0 (mS 1).D) [])) [] false [.va [.int (mS 1).a,.int (mS 1).b]]=Y2,S σ0 1 0 [] (AV (Aa 1 (mS 1) (Wf 0 (mS 1).D) ([]++[.int (cS 1000000000000 1000000000000).n]))) [] false [.va [.int (mS 1).a,.int (mS 1).b]]=Y3 at *;simp[u1,k1,k2,eo,ek,t1,t2]
 have ok:=zp hq o w A;have kw:=YM (σ0:=σ0) (q:=q) (g:=0) y ok (Q:=[]) (F:=false) (J:=[.va [.int (mS q).a,.int (mS q).b]]);rw[Ru,N]at kw;have vs:=ij σ0 q 0 [] (AV (Aa q (mS q) j k)) [] false [.va [.int (mS q).a,.int (mS q).b]];have mw:=λi=>jj vs (m:="worth") 1 Gc i rfl;have mi:=λi=>jj vs (m:="wish") 2 db i rfl;have p:(mS q).n<=99:=by simp[mS]
 have E:(mS q).ts.length<=4:=by simp[mS]
 have w1:=IH (σ0:=σ0) (g:=0) (K:=[]) (Q:=[]) (F:=false) (J:=[.va [.int (mS q).a,.int (mS q).b]]) hq o (by omega) p E w A (ws:=.sg 1000000000001) trivial (by unfold Wi.st;dsimp only;rw[ka λz=>by have:=z.1.2;omega]);have w2:=IH (σ0:=σ0) (g:=0) (K:=[]) (Q:=[]) (F:=false) (J:=[.va [.int (mS q).a,.int (mS q).b]]) hq o (by omega) p E w A (ws:=.Qg true 1000000000001 7 9) ⟨by omega,by omega⟩ (by unfold Wi.st;dsimp only;rw[ka λz=>by have:=z.1.1.2;omega]);have ho:(1000000000000:Int)<=ow q (mS q):=by rcases hq with rfl|rfl<;>simp[mS,ow]
 have B:(Wi.sg 1000000000000).st q [] (mS q)=some (fo (mS q) q 1000000000000):=by unfold Wi.st;dsimp only;rw[ja ⟨by omega,ho⟩]
 have I:=GF (K:=[]) hq o (by omega) p E (ws:=.sg 1000000000000) trivial B;obtain⟨s,ls,w3⟩:∃ s ls,db [.ref σ0.length,(Wi.sg 1000000000000).D] (SA σ0 q 0 [] (Aa q (mS q) j k) [] false [.va [.int (mS q).a,.int (mS q).b]])=.ok (.Ga [.bl true,.va ls]) s:=by
  obtain⟨x1,x2,x3⟩:=Oz hq o I.1 w A;have wx:=Hy [] (a:=xa q (mS q) (fo (mS q) q 1000000000000) j k) (q:=q) x2 x3;have hw:W [] (xa q (mS q) (fo (mS q) q 1000000000000) j k) ≥ W [] (Aa q (mS q) j k) - (Wi.sg 1000000000000).al:=by
   rw[wx,Ru,PR [] hq];show _ ≥ V [] q (mS q) - 1000000000000;split<;>omega
  rcases hq with rfl|rfl
  ·exact⟨_,_,Ez (.inl rfl) o (by omega) p E w A (ws:=.sg 1000000000000) trivial B (nK o I.1 I.2 w A y hw)⟩
  ·exact⟨_,_,Ez (.inr rfl) o (by omega) p E w A (ws:=.sg 1000000000000) trivial B (oN o I.1 I.2 w A y (by simp) hw)⟩
 have d1:D.Ga [.str "give",.int 0,.int 1000000000001]=(Wi.sg 1000000000001).D:=rfl;have d2:D.Ga [.str "pay",.int 0,.int 1000000000001,.int 7,.int 9]=(Wi.Qg true 1000000000001 7 9).D:=rfl;have d3:D.Ga [.str "give",.int 0,.int 1000000000000]=(Wi.sg 1000000000000).D:=rfl;have nf:∀ f,uh (.Ga [.bl false,.va []]) (.Ga [.bl false,.va []]) f=.ok (.bl false) f:=λf=>Ar (by simp[pl]);have nw:∀ f,uh (.int 2000000000000) (.int 2000000000000) f=.ok (.bl false) f:=λf=>Ar (by simp[pl]);have H:∀ f,Dt (.int 2) (.int 1000000000000) f=.ok (.int 2000000000000) f:=λf=>nC (by simp) (by simp);have t5:∀ a b c d e:D,∀ f,iu [a,b,c,d,e] f=.ok (.Ga [a,b,c,d,e]) f:=λ_ _ _ _ _ f=>rfl;have mb:∀ (X:D) (x3:Option D),db [.ref σ0.length,X] (SA σ0 q 0 [] (Aa q (mS q) j k) [] false [.va [.int (mS q).a,.int (mS q).b]])=.ok (.Ga [.bl false,.va []]) (SA σ0 q 0 [] (Aa q (mS q) j k) [] false [.va [.int (mS q).a,.int (mS q).b]])->pG [some (.int q),some (.ref σ0.length),some (.ref (σ0.length+7)),some X] (SA σ0 q 0 [] (Aa q (mS q) j k) [] false [.va [.int (mS q).a,.int (mS q).b]])=.ok (.nx [some (.int q),some (.ref σ0.length),some (.ref (σ0.length+7)),some X]) (SA σ0 q 0 [] (Aa q (mS q) j k) [] false [.va [.int (mS q).a,.int (mS q).b]]):=λX x3 hX=>by
  unfold pG;unfold SA at *;generalize S σ0 q 0 [] (AV (Aa q (mS q) j k)) [] false [.va [.int (mS q).a,.int (mS q).b]]=Y at *;simp[kw,mw,mi,hX,nf,nw,T,H]
 have e5:∀ x,El (Lf 3) pG [(Wi.sg 1000000000001).D,(Wi.Qg true 1000000000001 7 9).D] [some (.int q),some (.ref σ0.length),some (.ref (σ0.length+7)),x] (SA σ0 q 0 [] (Aa q (mS q) j k) [] false [.va [.int (mS q).a,.int (mS q).b]])=.ok (.nx [some (.int q),some (.ref σ0.length),some (.ref (σ0.length+7)),some (Wi.Qg true 1000000000001 7 9).D]) (SA σ0 q 0 [] (Aa q (mS q) j k) [] false [.va [.int (mS q).a,.int (mS q).b]]):=λx=>by
  rw[Av];simp only[Lc,Mc];rw[mb _ none w1,lg,Ps,Av];simp only[Lc,Mc];rw[mb _ none w2,lg,Ps,cF]
 have e6:(ub QF fH) [some (.int q),some (.ref σ0.length),some (.ref (σ0.length+7)),none] (SA σ0 q 0 [] (Aa q (mS q) j k) [] false [.va [.int (mS q).a,.int (mS q).b]])=.ok (.rt (.bl true)) s:=by
  simp[T,t5,d1,d2,d3,e5,mi,w3]
 refine⟨s,?_⟩;have Z:(ub bE (ub Sz (ub bB (ub sB (ub QF fH))))) [some (.int q),none,none,none] σ0=.ok (.rt (.bl true)) s:=by
  rw[ck,e1,lg,Hk];have C:∀ (tl:Ev->M Fl),(ub Sz (ub bB tl)) [some (.int q),some (.ref σ0.length),none,none] (SA σ0 q 0 [] (Aa q (cS 1000000000000 1000000000000) .Rb []) [] false [])=tl [some (.int q),some (.ref σ0.length),some (.ref (σ0.length+7)),none] (SA σ0 q 0 [] (Aa q (cS 1000000000000 1000000000000) .Rb []) [] false [.va [.int (mS q).a,.int (mS q).b]]):=λtl=>by
   rw[ck]at l ⊢;cases h3:Sz [some (.int q),some (.ref σ0.length),none,none] (SA σ0 q 0 [] (Aa q (cS 1000000000000 1000000000000) .Rb []) [] false [])with
   |ok r a3=>
    rw[h3,lg]at l;rw[lg];cases r with
    |nx P=>rw[Hk]at l ⊢;rw[ck,l,lg,Hk]
    |_=>cases l
   |_=>rw[h3]at l;cases l
  rw[C,ck,e4,lg,Hk,e6]
 unfold Bg zU;rw[ms,lW];show kx ((ub bE (ub Sz (ub bB (ub sB (ub QF fH))))) [some (.int q),none,none,none] σ0)=_;rw[Z,SO]
end
section
variable{q:Int}(hq:q=0\/q=1){K:List Int}{m:Sn}{T:Int}(hm:m.Ok T)(hT:T<=2000000000000)(hn:m.n<=99)(hl4:m.ts.length<=4){G:D}{L:List D}(hg:cl G=true)(hl:wg L=true)
include hq hm hT hn hl4 hg hl
theorem TV{ws:Wi}{s:Sn}(h:ws.new q K m=some s):ws.st q K m=some s:=by
 cases ws with
 |Qg p d w y=>
  cases p with
  |true=>exact h
  |false=>
   unfold Wi.new at h;dsimp only at h;split at h
   ·cases h
   ·exact h
 |_=>exact h
theorem B4{ws:Wi}(g:ws.Ok){s:Sn}(h:ws.new q K m=some s):W K (xa q m s G L) ≥ W K (Aa q m G L) - ws.al:=by
 have b:=TV hq hm hT hn hl4 hg hl h;have k:=GF hq hm hT hn hl4 g b;obtain⟨o,l,n⟩:=Oz hq hm k.1 hg hl;rw[Hy K l n,Ru];have j:V K q m - ws.al<=V K q s/\0<=ws.al:=by
  cases ws with
  |sg d=>
   unfold Wi.st at b;dsimp only at b;split at b
   ·next c=>cases b;rw[PR K hq];exact⟨fJ _,by show 0<=d;omega⟩
   ·cases b
  |Qg p d w y=>
   unfold Wi.st at b;dsimp only at b;split at b
   ·next c=>
    cases b;rw[uL K hq m (t:=⟨q,d,w,y⟩) hq,ja rfl,VT];cases p with
    |true=>
     have:(Wi.Qg true d w y).al=d:=rfl;exact⟨by split<;>(dsimp only;omega),by omega⟩
    |false=>
     have:(Wi.Qg false d w y).al=0:=rfl;unfold Wi.new at h;dsimp only at h;by_cases i:0<y
     ·rw[ja i]at h;cases h
     ·rw[ja (show y<=0 by omega)];exact⟨by dsimp only;omega,by omega⟩
   ·cases b
  |af w=>
   unfold Wi.st at b;dsimp only at b;split at b
   ·next t e=>
    split at b
    ·cases b;have f:=(ww e).1;rw[zP K hq hm.st.d f];have:=HJ (ks K) q t;have:=(hm.st.t t f).a;have:(Wi.af w).al=0:=rfl;rw[this];omega
    ·cases b
   ·cases b
  |drop w=>
   unfold Wi.st at b;dsimp only at b;split at b
   ·next t e=>
    split at b
    ·cases b;have f:=(ww e).1;rw[zP K hq hm.st.d f];have:=HJ (ks K) q t;have:=(hm.st.t t f).a;have:(Wi.drop w).al=0:=rfl;rw[this];omega
    ·cases b
   ·cases b
 split<;>omega
theorem ç{σ0:nb}{g:Int}(f:K.length<=60){J:nb}{ws:Wi}(b:ws.Ok)(h:ws.new q K m=none):db [.ref σ0.length,ws.D] (SA σ0 q g K (Aa q m G L) [] false J)=.ok (.Ga [.bl false,.va []]) (SA σ0 q g K (Aa q m G L) [] false J):=by
 cases a:ws.st q K m with
 |none=>exact IH hq hm hT hn hl4 hg hl b a
 |some s=>
  have e:=GF hq hm hT hn hl4 b a;refine Ez hq hm hT hn hl4 hg hl b a (À hq hm e.1 e.2 hg hl f ?_);obtain⟨l,j,k⟩:=Oz hq hm e.1 hg hl;rw[Hy K j k,Ru];cases ws with
  |Qg p d w y=>
   cases p with
   |true=>rw[show (Wi.Qg true d w y).new q K m=(Wi.Qg true d w y).st q K m from rfl,a]at h;cases h
   |false=>
    unfold Wi.new at h;dsimp only at h;by_cases i:0<y
    ·unfold Wi.st at a;dsimp only at a;split at a
     ·next c=>
      cases a;have v:=uL K hq m (t:=⟨q,d,w,y⟩) hq;rw[ja rfl,VT,ka (show ¬ y<=0 by omega)]at v;have:(Wi.Qg false d w y).al=0:=rfl;dsimp only at v;omega
     ·cases a
    ·rw[ka i,a]at h;cases h
  |sg d=>rw[show (Wi.sg d).new q K m=(Wi.sg d).st q K m from rfl,a]at h;cases h
  |af w=>rw[show (Wi.af w).new q K m=(Wi.af w).st q K m from rfl,a]at h;cases h
  |drop w=>rw[show (Wi.drop w).new q K m=(Wi.drop w).st q K m from rfl,a]at h;cases h
end
noncomputable def gp:Wi->Bool
 | .sg _=>true
 | .Qg p _ _ _=>p
 |_=>false
theorem dX(a:Wi)(b:nb):ju false (.str a.k) (.Ga [.str "give",.str "pay"]) b=.ok (.bl (gp a)) b:=by
 cases a with
 |Qg p d w y=>cases p<;>(congr 2)
 |_=>congr 2
theorem ě(a:nb):ju false (.str "finish") (.Ga [.str "give",.str "pay"]) a=.ok (.bl false) a:=by
 simp[ju,Tv,sc];decide
theorem J8(h:gp ws=true)(a:nb):Ma ws.D (.int 2) a=.ok (.int ws.al) a:=by
 cases ws with
 |sg d=>unfold Wi.D Wi.al;simp
 |Qg p d w y=>cases p with
  |true=>unfold Wi.D Wi.al;simp
  |false=>cases h
 |_=>cases h
theorem uZ(h:gp ws=false):ws.al=0:=by
 cases ws with
 |sg d=>cases h
 |Qg p d w y=>cases p with
  |true=>cases h
  |false=>rfl
 |_=>rfl
theorem O7(q:Int)(s:Sn)(d:Wi):pl 8 (.va (d.wd++[lt q s]))=true:=by
 have f:pl 7 (vh s)=true:=Ix λx c=>by
  have c:x=.str "offer"\/x=.int 0\/x=Wf 0 s.D:=by simpa using c
  rcases c with rfl|rfl|rfl
  ·simp[pl]
  ·simp[pl]
  ·exact nN 2 0 s
 have g:pl 7 (Al s)=true:=Ix λx c=>by
  have c:x=.str "ask"\/x=.int 0\/x=.Ga [.int s.a,.int s.b]\/x=.Ga (s.ts.map Ti.D):=by simpa using c
  rcases c with rfl|rfl|rfl|rfl
  ·simp[pl]
  ·simp[pl]
  ·simp[pl]
  ·exact vJ 4 s.ts
 have e:pl 7 (lt q s)=true:=by unfold lt;split<;>assumption
 show (d.wd++[lt q s]).all (pl 7)=true;rw[List.all_append,Tf,e];cases d<;>simp[Wi.wd,pl]
section
variable{σ0:nb}{q g T:Int}(hq:q=0\/q=1)(hT:T<=2000000000000){K:List Int}(hK:K.length<=60){J:nb}{j:Nat}(hj:j<=3){m:Sn}{G:D}{L:List D}(h:Fw q T j m G L)(ns:List Int)(CC:D)(x6 x7 x8 x9:Option D)
include hq hT hK hj h
theorem M9{o:Option Wi}(ho:∀ ws,o=some ws->ws.Ok/\ws.lim):∃ H,(ub Wz (ub Xz (ub Nz (ub tz (ub cA (ub Az iA)))))) [some (.Uf ns),some (.int q),some CC,some (qj K),some (.ref σ0.length),some m.D,x6,x7,x8,x9,some (oW o),none,none,none,none] (SA σ0 q g K (Aa q m G L) [] false J)=.ok (.rt (.bl true)) H:=by
 have r:=h.ok;have d:m.n<=99:=by have:=h.n;omega
 have j:m.ts.length<=4:=by have:=h.l;omega
 have ok:=zp (q:=q) hq r h.g h.cl;have t:=λg a F Q=>sR (σ0:=σ0) (q:=q) (g:=g) (K:=K) (a:=a) (Q:=Q) (F:=F) (J:=J);have v:=λi g a F Q=>jj (ij σ0 q g K (AV a) Q F J) (m:="given") 1 Fc i rfl;have R:=λi=>jj (ij σ0 q g K (AV (Aa q m G L)) [] false J) (m:="wish") 2 db i rfl;have O:=t g (Aa q m G L) false [];have p:=λi=>v i g (Aa q m G L) false [];have X:∀ c,se (.va []) (.va []) c=.ok (.bl true) c:=λc=>Hz (by simp[pl]);have I:∀ (a:Int) c,se (.int a) (.int a) c=.ok (.bl true) c:=λa c=>Hz (by simp[pl]);cases o with
 |none=>
  have E:∀ c,Ma qu (.int 0) c=.ok (.str "finish") c:=λc=>by unfold qu;simp
  have w:=KU (σ0:=σ0) (q:=q) (g:=g) (K:=K) (Q:=[]) (F:=false) (J:=J) (Aa q m G L);have z:=t g (Aa q m G L) true [];have f:=λi=>v i g (Aa q m G L) true [];have C:∀ c,uh (.str "finish") (.str "finish") c=.ok (.bl false) c:=λc=>Ar (by simp[pl]);have fi:=ě;have P:=λM N c=>jZ q M N c;refine⟨SA σ0 q g K (Aa q m G L) [] true J,?_⟩;show (ub Wz (ub Xz (ub Nz (ub tz (ub cA (ub Az iA)))))) [some (.Uf ns),some (.int q),some CC,some (qj K),some (.ref σ0.length),some m.D,x6,x7,x8,x9,some qu,none,none,none,none] _=_;unfold Wz Xz Nz tz cA Az iA;unfold SA at *;generalize m.D=MD,qj K=KD,qu=WD,S σ0 q g K (AV (Aa q m G L)) [] false J=Y,S σ0 q g K (AV (Aa q m G L)) [] true J=Y2 at *;rcases hq with rfl|rfl
  ·simp[E,C,O,p,R,w,fi,P,X,z,f,I]
  ·simp[E,C,O,p,R,w,P,X,z,f,I]
 |some ws=>
  obtain⟨U,T⟩:=ho ws rfl;have E:=Kw ws;have C:∀ c,uh (.str ws.k) (.str "finish") c=.ok (.bl true) c:=λc=>by
   have:=Jy (σ:=c) (x:=.str ws.k) (y:=.str "finish") (b:=(ws.k == "finish")) (by simp[yj,L4.kd,To,Zj]);rw[kF]at this;exact this
  have A:=Ő hq K r T;show ∃ H,(ub Wz (ub Xz (ub Nz (ub tz (ub cA (ub Az iA)))))) [some (.Uf ns),some (.int q),some CC,some (qj K),some (.ref σ0.length),some m.D,x6,x7,x8,x9,some ws.D,none,none,none,none] _=.ok (.rt (.bl true)) H;cases e:ws.new q K m with
  |none=>
   rw[e]at A;have A:∀ c,Ye [m.D,.int q,ws.D,qj K] c=.ok .Rb c:=A;have w:=ç (σ0:=σ0) (g:=g) (K:=K) hq r hT d j h.g h.cl hK (J:=J) U e;have ac:=PK (σ0:=σ0) (q:=q) (g:=g) (K:=K) (Q:=[]) (F:=false) (J:=J) ok;have ma:=λi=>jj (ij σ0 q g K (AV (Aa q m G L)) [] false J) (m:="account") 2 Zb i rfl;have mn:∀ c,Nc [4,5,6,7] "mine" (Aa q m G L).D c=.ok m.D c:=ny ok;have em:∀ c,se m.D m.D c=.ok (.bl true) c:=λc=>Hz (AI 5 m);refine⟨SA σ0 q g K (Aa q m G L) [] false J,?_⟩;unfold SA at *;simp[E,C,A,O,p,R,w,X,ac,ma,mn,em,I]
  |some s=>
   rw[e]at A;have B:=TV (L:=L) hq r hT d j h.g h.cl e;have V:=GF (K:=K) hq r hT d j U B;have gd:=B4 hq r hT d j h.g h.cl U e;have P:=Ò hq V.2 ws;have Z:∀ c,se (.va (ws.wd++[lt q s])) (.va (ws.wd++[lt q s])) c=.ok (.bl true) c:=λc=>Hz (O7 q s ws);have nn:∀ c,Wp (nD (some s)) .Rb c=.ok (.bl false) c:=λc=>rfl;have W:=dX ws;rcases hq with rfl|rfl
   ·have w:=Ez (σ0:=σ0) (g:=g) (K:=K) (Q:=[]) (F:=false) (J:=J) (.inl rfl) r hT d j h.g h.cl U B (nK r V.1 V.2 h.g h.cl hK gd);have z:=t (g+ws.al) (xa 0 m s G L) false [];have f:=λi=>v i (g+ws.al) (xa 0 m s G L) false [];refine⟨SA σ0 0 (g+ws.al) K (xa 0 m s G L) [] false J,?_⟩;unfold SA at *;generalize ws.wd++[lt 0 s]=LL,nD (some s)=ND,S σ0 0 g K (AV (Aa 0 m G L)) [] false J=Y,S σ0 0 (g+ws.al) K (AV (xa 0 m s G L)) [] false J=Y2 at *;cases u:gp ws with
    |true=>
     have w2:=J8 u;rw[u]at W;simp[E,C,A,nn,O,p,R,w,W,w2,P,Z,z,f,I]
    |false=>
     have a0:=uZ u;rw[u]at W;rw[a0,Int.add_zero]at z;simp[E,C,A,nn,O,p,R,w,W,P,Z,z,f,I]
   ·have w:=Ez (σ0:=σ0) (g:=g) (K:=K) (Q:=[]) (F:=false) (J:=J) (.inr rfl) r hT d j h.g h.cl U B (oN r V.1 V.2 h.g h.cl hK (by simp) gd);have z:=t g (Aa 1 m G L) false (Gn [] (.inl 0) (At ws.al s));have f:=λi=>v i g (Aa 1 m G L) false (Gn [] (.inl 0) (At ws.al s));refine⟨SA σ0 1 g K (Aa 1 m G L) (Gn [] (.inl 0) (At ws.al s)) false J,?_⟩;simp[E,C,A,nn,O,p,R,w,P,Z,z,f,I]
end
def CD(u v:Int):D:=.Ga [.int u,.int v]
section
variable{σ0:nb}{q T:Int}(hq:q=0\/q=1)(hT:T<=2000000000000){K:List Int}(hK:K.length<=60){J:nb}(ns:List Int)(CC:D)
include hq hT hK
abbrev ev(a:nb)(q:Int)(K:List Int)(ns:List Int)(CC:D)(m:Sn)(b c d e:Option D):Ev:=[some (.Uf ns),some (.int q),some CC,some (qj K),some (.ref a.length),some m.D,b,c,d,e,none,none,none,none,none]
theorem P9{g:Int}{j:Nat}(V:j<=2){m:Sn}{G:D}{L:List D}(h:Fw q T j m G L)(i:Nat)(U:i<=9)(M N x:Option D):∃ (d:Sn) (o:Int) (e:D) (f:List D) (O P Q:Option D),Fw q T (j+1) d e f/\zE (ev σ0 q K ns CC m (some (.int i)) M N x) (SA σ0 q g K (Aa q m G L) [] false J)=.ok (.nx (ev σ0 q K ns CC d (some (.int i)) O P Q)) (SA σ0 q o K (Aa q d e f) [] false J):=by
 have c:=EB ns (4+i) (by omega);generalize Gs ns (4+(i:Int)).toNat=C at *;have w:=s1 m;obtain⟨p,r⟩:∃ p,p=C % 2:=⟨_,rfl⟩
 have u:p=0\/p=1:=by omega
 have v:=nI u m;by_cases t:ow p m > 0
 ·have k:decide (ow p m > 0)=true:=Ia t;have b:0<min (ow p m) 1000000000000:=by omega
  have H:∀ a,zo (.int (C / 2)) (.int (min (ow p m) 1000000000000)) a=.ok (.int (C / 2 % min (ow p m) 1000000000000)) a:=λa=>KO _ _ b;have R:=cz (C / 2) (show min (ow p m) 1000000000000≠0 by omega);have S:=tw (C / 2) b;have W:∀ a,Oy [.int (ow p m),.int 1000000000000] a=.ok (.int (min (ow p m) 1000000000000)) a:=λa=>by simp
  have I:∀ a,Dt (.int 7) (.int i) a=.ok (.int (7 * i)) a:=λa=>nC (by simp) (by simp);obtain⟨A,y⟩:∃ A,A=1+C / 2 % min (ow p m) 1000000000000:=⟨_,rfl⟩
  have s:(1<=A/\A<=1000000000000)/\A<=ow p m:=by omega
  have F:(⟨p,A,(C / 4+7 * i) % 60,C / 240 % 1000⟩:Ti).Ok:=⟨u,s.1,by dsimp only;omega,by dsimp only;omega⟩
  obtain⟨d,o,e,f,E,B⟩:=uY (σ0:=σ0) (g:=g) hq hT hK (J:=J) (by omega) h F s.2;refine⟨d,o,e,f,some (.int C),some (.int p),some (.int A),E,?_⟩;have z:D.Ga [.int p,.int A,.int ((C / 4+7 * i) % 60),.int (C / 240 % 1000)]=(⟨p,A,(C / 4+7 * i) % 60,C / 240 % 1000⟩:Ti).D:=rfl;rw[r]at *;simp[c,w,v,k,H,I,<-y,z,B]
 ·have k:decide (ow p m > 0)=false:=Da t;refine⟨m,g,G,L,some (.int C),some (.int p),x,⟨h.ok,by have:=h.n;omega,by have:=h.l;omega,h.g,h.cl,by have:=h.ll;omega⟩,?_⟩;rw[r]at *;simp[c,w,v,k]
theorem DU:∀ (a:List Nat) (j:Nat) (m:Sn) (g:Int) (G:D) (L:List D) (f b c d:Option D),(∀ i∈a,i<=9)->j+a.length<=2->Fw q T j m G L->∃ (t:Nat) (k:Sn) (A:Int) (p:D) (r:List D) (O l n o:Option D),t<=3/\Fw q T t k p r/\El (Lf 6) zE (a.map λ(i:Nat)=>.int i) (ev σ0 q K ns CC m f b c d) (SA σ0 q g K (Aa q m G L) [] false J)=.ok (.nx (ev σ0 q K ns CC k O l n o)) (SA σ0 q A K (Aa q k p r) [] false J)
 |[],j,m,g,G,L,f,b,c,d,_,e,h=>⟨j,m,g,G,L,f,b,c,d,by simp at e;omega,h,by simp⟩
 |i::a,j,m,g,G,L,f,b,c,d,s,e,h=>by
  obtain⟨M,B,u,w,l,n,o,F,y⟩:=P9 hq hT hK ns CC (by simp at e;omega) h i (s i Wa) b c d;obtain⟨I,N,C,v,x,P,Q,R,S,E,H,z⟩:=DU a (j+1) M B u w (some (.int i)) l n o (λi h=>s i (Za _ h)) (by simp at e;omega) F;refine⟨I,N,C,v,x,P,Q,R,S,E,H,?_⟩;rw[Ra,Av];simp only[Lc,Mc];rw[y,lg,Ps,z]
end
noncomputable def sI(C:Int):List Nat:=(List.range 60).filter λi=>dg (C / 2 ^ (i:Int).toNat) 1 == 1
def KK(C:Int):List Int:=(sI C).map λ(i:Nat)=>(i:Int)
theorem VZ(C:Int):(KK C).Nodup/\(KK C).length<=60:=by
 constructor
 ·unfold KK sI;exact List.pairwise_map.mpr (sF (λa e=>a (by omega)) (uF _ List.nodup_range))
 ·unfold KK sI;rw[xb];exact Qb (qh ..) (by simp)
theorem X2(r:List Int)(f:nb):∃ n,bq [.Uf r] f=.ok (.bl true) n:=by
 have c:=λ(k:Nat) (n:nb)=>EB r k (by omega) n;have E:∀ n,jb [.Uf r,.int 0] n=.ok (.int (Gs r 0)) n:=c 0;have c1:∀ n,jb [.Uf r,.int 1] n=.ok (.int (Gs r 1)) n:=c 1;have c2:∀ n,jb [.Uf r,.int 2] n=.ok (.int (Gs r 2)) n:=c 2;have c3:∀ n,jb [.Uf r,.int 3] n=.ok (.int (Gs r 3)) n:=c 3;clear c;generalize Gs r 3=p,Gs r 2=C2,Gs r 1=C1,Gs r 0=s at *;obtain⟨q,eq⟩:∃ q,q=s % 2:=⟨_,rfl⟩
 obtain⟨u,eu⟩:∃ u,u=C1 % 1000000000001:=⟨_,rfl⟩
 obtain⟨v,Q⟩:∃ v,v=C2 % 1000000000001:=⟨_,rfl⟩
 have z:q=0\/q=1:=by omega
 have X:0<=u/\u<=1000000000000:=by omega
 have Z:0<=v/\v<=1000000000000:=by omega
 have V:u+v<=2000000000000:=by omega
 obtain⟨kd,H⟩:=VZ p;have pa:=pw;have s1:u1 (Gm [.Uf r] 15) f=.ok (.nx (Gm [.Uf r,.int q] 15)) f:=by unfold u1;rw[eq];simp[Gm,E]
 have s2:u2 (Gm [.Uf r,.int q] 15) f=.ok (.nx (Gm [.Uf r,.int q,CD u v] 15)) f:=by unfold u2 CD;rw[eu,Q];simp[Gm,c1,c2,pa]
 have s3:u3 (Gm [.Uf r,.int q,CD u v] 15) f=.ok (.nx (Gm [.Uf r,.int q,CD u v,qj (KK p)] 15)) f:=by
  have S:Fy (eC (.int 60)) (Gm [.Uf r,.int q,CD u v] 15) f=.ok (.seq ((List.range 60).map λ(i:Nat)=>.int i)) f:=by
   have:uy (.int 60) f=.ok (.seq ((List.range 60).map λ(i:Nat)=>.int i)) f:=by rw[iK (by omega) (by omega)];rfl
   simp[this]
  have l:=qy (ix:=[0]) (xs:=List.range 60) (fi:=eT (ya se (ya NG (ya dF (Xc 2 jb [] (ia (ba 2) (ia (eC (.int 3)) Ha))) (ba 0)) (eC (.int 1))) (eC (.int 1)))) (fe:=ba 0) (λ(i:Nat)=>.int i) (λ(i:Nat)=>.int i) (λi=>dg (p / 2 ^ (i:Int).toNat) 1 == 1) S (λi _=>yc some (Ht (List.range 60) _ i)) (by simp) (λi _ j=>by
   have N:∀ (a b:Int) n,NG (.int a) (.int b) n=.ok (.int (dg a b)) n:=λa b n=>rfl;have sh:∀ n,dF (.int p) (.int i) n=.ok (.int (p / 2 ^ (i:Int).toNat)) n:=λn=>ň _ _ (by omega);have N:=N (p / 2 ^ (i:Int).toNat) 1;generalize p / 2 ^ (i:Int).toNat=SH at *;generalize dg SH 1=B at *;exact⟨by simp[Gm,c3,sh,N],λ_=>by simp⟩) (λ_ _ _=>rfl)
  have l:ki _ _ f=.ok (qj (KK p)) f:=l.trans (by unfold qj KK sI;rw[pd];rfl);unfold u3;generalize CD u v=C,qj (KK p)=KD at *;simp only[Gm]at l ⊢;rw[P1,l];rfl
 have mk:=nW (σ0:=f) z X Z kd H (WD:=qj (KK p)) (.inr rfl);have s4:u4 (Gm [.Uf r,.int q,CD u v,qj (KK p)] 15) f=.ok (.nx (Gm [.Uf r,.int q,CD u v,qj (KK p),.ref f.length] 15)) (SA f q 0 (KK p) (Aa q (cS u v) .Rb []) [] false []):=by
  have i0:∀ n,Ma (CD u v) (.int 0) n=.ok (.int u) n:=λn=>by unfold CD;simp
  have i1:∀ n,Ma (CD u v) (.int 1) n=.ok (.int v) n:=λn=>by unfold CD;simp
  have ml:∀ n,Dt (.int 3) (.int q) n=.ok (.int (3 * q)) n:=λn=>nC (by simp) (by simp);have t5:∀ a b c d e:D,∀ n,iu [a,b,c,d,e] n=.ok (.Ga [a,b,c,d,e]) n:=λ_ _ _ _ _ n=>rfl;have ep:D.Ga [.int 0,.int 3,.int u,.int v,.int 20]=eh u v:=rfl;have ad:∀ (F:Ev->M (List D)) (K:Ev) (n:nb) (l:List D),F K n=.ok l n->Hw [] F K n=.ok (l++[]) n:=λF K n l h=>by
   show Pd (F K) _ n=_;rw[Jr,h,lg];rfl
  have ag:(ia (ya Dt (eC (.int 3)) (ba 1)) (ia (eC (.int 5)) (ia (Nh (ia (ee (ia (eC (.int 0)) (ia (eC (.int 3)) (ia (ya Ma (ba 2) (eC (.int 0))) (ia (ya Ma (ba 2) (eC (.int 1))) (ia (eC (.int 20)) Ha)))))) Ha)) (ia (ba 3) Ha)))) (Gm [.Uf r,.int q,CD u v,qj (KK p)] 15) f=.ok [.int (3 * q),.int 5,.va [eh u v],qj (KK p)] f:=by
   generalize eh u v=PP,CD u v=C,qj (KK p)=KD at *;simp[Gm,i0,i1,ml,t5,ep]
  have:=ad _ _ _ _ ag;simp only[Uh]at this;unfold u4;generalize eh u v=PP,CD u v=C,qj (KK p)=KD,SA f q 0 (KK p) (Aa q (cS u v) .Rb []) [] false []=Y,(Hw [] _:Ev->M (List D))=AD at *;simp only[Gm]at this ⊢;simp[this,mk]
 have s5:∀ Y,u5 (Gm [.Uf r,.int q,CD u v,qj (KK p),.ref f.length] 15) Y=.ok (.nx (Gm [.Uf r,.int q,CD u v,qj (KK p),.ref f.length,(cS u v).D] 15)) Y:=λY=>by
  have e:D.Ga [.int 0,CD u v,.Ga []]=(cS u v).D:=rfl;unfold u5;generalize CD u v=C,qj (KK p)=KD,(cS u v).D=SD at *;simp[Gm,e]
 have f0:Fw q (u+v) 0 (cS u v) .Rb []:=⟨lH z X Z,by simp[cS],by simp[cS],rfl,rfl,by simp⟩
 have hr:0<=s / 2 % 3/\s / 2 % 3<3:=by omega
 obtain⟨j,m,g,G,L,t,w,x,y,W,R,I⟩:=DU (σ0:=f) z V H (J:=[]) r (CD u v) (List.range (s / 2 % 3).toNat) 0 (cS u v) 0 .Rb [] none none none none (λi hi=>by have:=Wy.mp hi;omega) (by simp;omega) f0;have s6:u6 (Gm [.Uf r,.int q,CD u v,qj (KK p),.ref f.length,(cS u v).D] 15) (SA f q 0 (KK p) (Aa q (cS u v) .Rb []) [] false [])=.ok (.nx (ev f q (KK p) r (CD u v) m t w x y)) (SA f q g (KK p) (Aa q m G L) [] false []):=by
  have S:∀ n,uy (.int (s / 2 % 3)) n=.ok (.seq ((List.range (s / 2 % 3).toNat).map λ(i:Nat)=>.int i)) n:=λn=>by rw[iK (by omega) (by omega)];rfl
  have I:El (Lf 6) zE _ (Gm [.Uf r,.int q,CD u v,qj (KK p),.ref f.length,(cS u v).D] 15) _=_:=I;unfold u6;generalize zE=LP,CD u v=C,qj (KK p)=KD,(cS u v).D=SD,(List.range (s / 2 % 3).toNat).map (λ(i:Nat)=>D.int i)=RR,SA f q 0 (KK p) (Aa q (cS u v) .Rb []) [] false []=Y,SA f q g (KK p) (Aa q m G L) [] false []=Y2 at *;simp only[Gm]at I ⊢;simp[E,S,I]
 obtain⟨o,ho,lw⟩:=B9 z r R.ok (SA f q g (KK p) (Aa q m G L) [] false []);have s7:u7 (ev f q (KK p) r (CD u v) m t w x y) (SA f q g (KK p) (Aa q m G L) [] false [])=.ok (.nx [some (.Uf r),some (.int q),some (CD u v),some (qj (KK p)),some (.ref f.length),some m.D,t,w,x,y,some (oW o),none,none,none,none]) (SA f q g (KK p) (Aa q m G L) [] false []):=by
  unfold u7 ev;generalize oW o=OW,m.D=MD,CD u v=C,qj (KK p)=KD,SA f q g (KK p) (Aa q m G L) [] false []=Y at *;simp[lw]
 have A:∃ n,(ub u8 (ub u9 (ub Wz (ub Xz (ub Nz (ub tz (ub cA (ub Az iA)))))))) [some (.Uf r),some (.int q),some (CD u v),some (qj (KK p)),some (.ref f.length),some m.D,t,w,x,y,some (oW o),none,none,none,none] (SA f q g (KK p) (Aa q m G L) [] false [])=.ok (.rt (.bl true)) n:=by
  by_cases T:s / 24 % 8=3
  ·obtain⟨n,mo⟩:=y2 z (SA f q g (KK p) (Aa q m G L) [] false []);have b:(s / 24 % 8 == 3)=true:=by simp[T]
   refine⟨n,?_⟩;have O:u8 [some (.Uf r),some (.int q),some (CD u v),some (qj (KK p)),some (.ref f.length),some m.D,t,w,x,y,some (oW o),none,none,none,none] (SA f q g (KK p) (Aa q m G L) [] false [])=.ok (.rt (.bl true)) n:=by
    unfold u8;generalize oW o=OW,m.D=MD,CD u v=C,qj (KK p)=KD,SA f q g (KK p) (Aa q m G L) [] false []=Y at *;simp[E,b,mo]
   rw[ck,O,lg];rfl
  ·have b:(s / 24 % 8 == 3)=false:=by simp[T]
   have O:u8 [some (.Uf r),some (.int q),some (CD u v),some (qj (KK p)),some (.ref f.length),some m.D,t,w,x,y,some (oW o),none,none,none,none] (SA f q g (KK p) (Aa q m G L) [] false [])=.ok (.nx [some (.Uf r),some (.int q),some (CD u v),some (qj (KK p)),some (.ref f.length),some m.D,t,w,x,y,some (oW o),none,none,none,none]) (SA f q g (KK p) (Aa q m G L) [] false []):=by
    unfold u8;simp[E,b]
   rw[ck,O,lg,Hk];by_cases U:s / 6 % 4=1
   ·obtain⟨n,ha⟩:=S7 (σ0:=f) (g:=g) (J:=[]) z H W R o;have b:(s / 6 % 4 == 1)=true:=by simp[U]
    refine⟨n,?_⟩;have P:u9 [some (.Uf r),some (.int q),some (CD u v),some (qj (KK p)),some (.ref f.length),some m.D,t,w,x,y,some (oW o),none,none,none,none] (SA f q g (KK p) (Aa q m G L) [] false [])=.ok (.rt (.bl true)) n:=by
     simp[E,b,ha]
    rw[ck,P,lg];rfl
   ·have b:(s / 6 % 4 == 1)=false:=by simp[U]
    have P:u9 [some (.Uf r),some (.int q),some (CD u v),some (qj (KK p)),some (.ref f.length),some m.D,t,w,x,y,some (oW o),none,none,none,none] (SA f q g (KK p) (Aa q m G L) [] false [])=.ok (.nx [some (.Uf r),some (.int q),some (CD u v),some (qj (KK p)),some (.ref f.length),some m.D,t,w,x,y,some (oW o),none,none,none,none]) (SA f q g (KK p) (Aa q m G L) [] false []):=by
     simp[E,b]
    rw[ck,P,lg,Hk];exact M9 (σ0:=f) (g:=g) z V H W R r (CD u v) t w x y ho
 obtain⟨n,A⟩:=A;refine⟨n,?_⟩;show kx (ub u1 (ub u2 (ub u3 (ub u4 (ub u5 (ub u6 (ub u7 (ub u8 (ub u9 (ub Wz (ub Xz (ub Nz (ub tz (ub cA (ub Az iA)))))))))))))) (Gm [.Uf r] 15) f)=_;rw[ck,s1,lg,Hk,ck,s2,lg,Hk,ck,s3,lg,Hk,ck,s4,lg,Hk,ck,s5,lg,Hk,ck,s6,lg,Hk,ck,s7,lg,Hk,A,SO]
theorem Vv(a:List Int)(b:a.length<=63):∃ c,bq [.Uf a] []=.ok (.bl true) c:=X2 a []
end K42
end
open PySem PySem.W PyProof.Rows
set_option maxRecDepth 100000 in
set_option maxHeartbeats 0 in
theorem PySem.Challenge.cw_sidebook_k42_wishes_of_one_pot_holds : PySem.Challenge.rw_sidebook_k42_wishes_of_one_pot.Holds := by
 w_on;refine hd ?_
 k_fill
 refine L4.JX (l:=PySem.Challenge.rw_sidebook_k42_wishes_of_one_pot) (k:=16) (x:="_law_script") (fn:=K42.bq) ["least_fate","paper"] rfl rfl ⟨rfl,by decide,by decide⟩ (λw h Y=>km_in_of Y) ?hK ?hrec ?F K42.Vv;case hK=>intro w;kernel_rfl
 case hrec=>kernel_rfl
 case F=>
  intro w mg h KX G TT
  refine' (have q0:nsIn (L2.Ri KX) mainGlobals "NoStand" = some (some (.ref ?C1)):=?p0;have q3:nsIn (L2.Ri KX) mainGlobals "Account" = some (some (.ref ?C4)):=?p3;have q4:nsIn (L2.Ri KX) mainGlobals "Calm" = some (some (.ref ?C5)):=?p4;have q5:nsIn (L2.Ri KX) mainGlobals "Offered" = some (some (.ref ?C6)):=?p5;have q6:nsIn (L2.Ri KX) mainGlobals "Waiting" = some (some (.ref ?C7)):=?p6;have q7:nsIn (L2.Ri KX) mainGlobals "View" = some (some (.ref ?C8)):=?p7;have q8:nsIn (L2.Ri KX) mainGlobals "Keeper" = some (some (.ref ?C9)):=?p8;have q9:findIn (L2.Ri KX) (.ref ?C9) "learn" = some (some (.ref ?C22)):=?p9;have q11:findIn (L2.Ri KX) (.ref ?C9) "hold" = some (some (.ref ?C21)):=?p11;have q13:findIn (L2.Ri KX) (.ref ?C4) "__init__" = some (some (.ref ?C10)):=?p13;?_);(case p0|p3|p4|p5|p6|p7|p8|p9|p11|p13=>dsimp only[L2.Ri];first|k_is|k_exc|rfl)
  refine' (have q15:findIn (L2.Ri KX) (.ref ?C9) "__init__" = some (some (.ref ?C20)):=?p15;have q17:findIn (L2.Ri KX) (.ref ?C9) "holds" = some (some (.ref ?C32)):=?p17;have q19:findIn (L2.Ri KX) (.ref ?C5) "word" = some (some (.ref ?C13)):=?p19;have q21:findIn (L2.Ri KX) (.ref ?C6) "word" = some (some (.ref ?C15)):=?p21;have q23:findIn (L2.Ri KX) (.ref ?C7) "word" = some (some (.ref ?C17)):=?p23;have q25:findIn (L2.Ri KX) (.ref ?C4) "agree_of" = some (some (.ref ?C11)):=?p25;have q27:findIn (L2.Ri KX) (.ref ?C4) "strike_of" = some (some (.ref ?C12)):=?p27;have q29:findIn (L2.Ri KX) (.ref ?C5) "taken" = some (some (.ref ?C14)):=?p29;have q31:findIn (L2.Ri KX) (.ref ?C6) "taken" = some (some (.ref ?C16)):=?p31;have q33:findIn (L2.Ri KX) (.ref ?C7) "taken" = some (some (.ref ?C18)):=?p33;?_);(case p15|p17|p19|p21|p23|p25|p27|p29|p31|p33=>dsimp only[L2.Ri];first|k_is|k_exc|rfl)
  refine' (have q35:findIn (L2.Ri KX) (.ref ?C8) "__init__" = some (some (.ref ?C19)):=?p35;have q37:findIn (L2.Ri KX) (.ref ?C9) "words" = some (some (.ref ?C23)):=?p37;have q39:findIn (L2.Ri KX) (.ref ?C9) "view_by" = some (some (.ref ?C27)):=?p39;have q41:findIn (L2.Ri KX) (.ref ?C9) "view" = some (some (.ref ?C28)):=?p41;have q43:findIn (L2.Ri KX) (.ref ?C9) "worth" = some (some (.ref ?C29)):=?p43;have q45:findIn (L2.Ri KX) (.ref ?C9) "is_good" = some (some (.ref ?C31)):=?p45;have q47:findIn (L2.Ri KX) (.ref ?C9) "wish_for" = some (some (.ref ?C34)):=?p47;have q49:findIn (L2.Ri KX) (.ref ?C9) "wish" = some (some (.ref ?C33)):=?p49;have q51:findIn (L2.Ri KX) (.ref ?C9) "take_ask" = some (some (.ref ?C36)):=?p51;have q53:findIn (L2.Ri KX) (.ref ?C9) "is_as_asked" = some (some (.ref ?C37)):=?p53;?_);(case p35|p37|p39|p41|p43|p45|p47|p49|p51|p53=>dsimp only[L2.Ri];first|k_is|k_exc|rfl)
  refine' (have q55:findIn (L2.Ri KX) (.ref ?C9) "take_step" = some (some (.ref ?C38)):=?p55;have q57:findIn (L2.Ri KX) (.ref ?C9) "take" = some (some (.ref ?C35)):=?p57;have q59:findIn (L2.Ri KX) (.ref ?C9) "account" = some (some (.ref ?C26)):=?p59;have q61:findIn (L2.Ri KX) (.ref ?C9) "given" = some (some (.ref ?C25)):=?p61;?_);(case p55|p57|p59|p61=>dsimp only[L2.Ri];first|k_is|k_exc|rfl);refine⟨λn=>([0,?C1,0,0,?C4,?C5,?C6,?C7,?C8,?C9,?C10,?C11,?C12,?C13,?C14,?C15,?C16,?C17,?C18,?C19,?C20,?C21,?C22,?C23,0,?C25,?C26,?C27,?C28,?C29,0,?C31,?C32,?C33,?C34,?C35,?C36,?C37,?C38]:List Addr).getD n 0,(K42.tx (L2.Ri KX)).mq,K42.Y5 _,K42.é ?_⟩;constructor;all_goals (try dsimp only[L2.Ri,List.getD_cons_succ,List.getD_cons_zero]);all_goals (first
   |(refine' L4.QS KX G (λ_ _ _ _ _ _ us hl=>?z) ?a ?l ?c ?k;(case z=>first|exact bq1 us hl λ_=>rfl|exact bq2 us hl λ_ _=>rfl|exact bq3 us hl λ_ _ _=>rfl|exact bq4 us hl λ_ _ _ _=>rfl|exact bq5 us hl λ_ _ _ _ _=>rfl|exact bq6 us hl λ_ _ _ _ _ _=>rfl|exact bq7 us hl λ_ _ _ _ _ _ _=>rfl);(case a|l|c|k=>k_is))
   |(refine' L4.T4 (λ_ _ _ _ _ _ us hl=>?z) ?l ?c ?k;(case z=>first|exact bq1 us hl λ_=>rfl|exact bq2 us hl λ_ _=>rfl|exact bq3 us hl λ_ _ _=>rfl|exact bq4 us hl λ_ _ _ _=>rfl|exact bq5 us hl λ_ _ _ _ _=>rfl|exact bq6 us hl λ_ _ _ _ _ _=>rfl|exact bq7 us hl λ_ _ _ _ _ _ _=>rfl);(case l|c|k=>k_is))
   |(refine' L4.Θ KX G K42.OX ?a ?l ?c ?k ?d;(case a|l|c|k|d=>k_is))
   |(refine' L4.Y8 K42.ğ ?l ?c ?d;(case l|c|d=>k_is))
   |(refine' L4.zY KX G ?a ?b;(case a=>k_is);(case b=>kernel_rfl))
   |(refine' L4.Ō KX G ?a;(case a=>k_is))
   |(refine' mg_of KX G ?a;(case a=>k_is))
   |(refine' mg_none_of KX G ?a;(case a=>k_is))
   |(refine' ⟨⟨?a,?b,?c,?d⟩,?e,?f,?g,?h⟩;(case a|b|c|d|e|f|g|h=>k_is))
   |(refine' ⟨?a,?b,?c,?d⟩;(case a|b|c|d=>k_is))
   |(refine' ⟨?a,?b,?c⟩;(case a|b|c=>k_is))
   |(refine' ⟨?a,?b⟩;(case a|b=>k_is))
   |exact λt h t' h' _=>(ti.mp h').trans (ti.mp h).symm
   |(refine' L4.l8 KX G (L4.QS KX G (λ_ _ _ _ _ _ us hl=>?z) ?a ?l ?c ?k) TT ?d;(case z=>first|exact bq1 us hl λ_=>rfl|exact bq2 us hl λ_ _=>rfl|exact bq3 us hl λ_ _ _=>rfl|exact bq4 us hl λ_ _ _ _=>rfl|exact bq5 us hl λ_ _ _ _ _=>rfl|exact bq6 us hl λ_ _ _ _ _ _=>rfl|exact bq7 us hl λ_ _ _ _ _ _ _=>rfl);(case a|l|c|k=>k_is);(case d=>decide))
   |(refine' (mg_of KX G ?a).trans (mg_of KX G ?b).symm;(case a|b=>k_is))
   |exact TT
   |exact mg_of KX G TT.bm
   |(refine' L4.tX ?a;(case a=>kernel_rfl))
   |decide
   |k_is
   |k_exc
   |rfl)
