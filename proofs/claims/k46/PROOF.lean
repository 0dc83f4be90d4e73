import PyProof.Rows.All
import OpenK.KLine
import OpenK.KOwn
import KE.KNestM
import KE.KDictOf
import Wide.FinOn
import Lean
import PyProof.EqAt
import PyProof.EqKinds
import PyProof.TupleCall
import PyProof.NeKinds
import PyProof.NsDelKeeps
import KE.KTryMore
import PyProof.WalksMore
import PyProof.Rows.SetFrom
import KE.KEqDict
import PyProof.ToksMono
import PyProof.StrCalls6
import PyProof.StrBlock2
import PyProof.SliceStr2
import PyProof.StrLawsTight
import PyProof.InstStoreFacts
import PyProof.Rows.FStr
import PyProof.FactsAll.set
import KE.KDictLaws
import KE.KIntText
import PyProof.Rows.StrWeight2
import PyProof.StrWalks
import PyProof.StrBlockH
import PyProof.WalksEnum
import PyProof.ZipIter
import PyProof.EnumMake
import PyProof.FitsReplace
import PyProof.StrLawsIn
import PyProof.Rows.SortWalk
import PyProof.DictUpdate
import KE.KDictList
import KE.KDictSum
import KE.KPairComp
import PyProof.FactsAll.dict
import KE.KMinKey
import KE.KLam
import PyProof.DictWalks
import PyProof.DictValues
import PySem.Challenge.RW_sidebook_k46_amid_a_payment
set_option Elab.async false
set_option linter.all false
set_option maxRecDepth 100000
def PySem.W.Fast.tw7927636850669126747:Nat:=0
def PySem.W.Fast.tw4975347689552777529:Nat:=0
def PySem.W.Fast.tw13505361881074083946:Nat:=0
def PySem.W.Fast.tw861502493610598483:Nat:=0
def PySem.W.Fast.tw18124581676290672360:Nat:=0
def PySem.W.Fast.tw329941283463616030:Nat:=0
def PySem.W.Fast.tw4338949390525040424:Nat:=0
def PySem.W.Fast.tw13406242734642179557:Nat:=0
def PySem.W.Fast.tw7774113678449685934:Nat:=0
def PySem.W.Fast.tw8465443722599108693:Nat:=0
def PySem.W.Fast.tw8549567097830819671:Nat:=0
def PySem.W.Fast.tw11736338228926984083:Nat:=0
def PySem.W.Fast.tw16008359073273489704:Nat:=0
def PySem.W.Fast.tw6871868339806680968:Nat:=0
def PySem.W.Fast.tw10784835557568832518:Nat:=0
def PySem.W.Fast.tw10619231889807973815:Nat:=0
def PySem.W.Fast.tw5486008376365147428:Nat:=0
def PySem.W.Fast.tw1968430746851473036:Nat:=0
def PySem.W.Fast.tw16060203290454839817:Nat:=0
def PySem.W.Fast.tw12550775161083096063:Nat:=0
def PySem.W.Fast.tw12717557048674177747:Nat:=0
def PySem.W.Fast.tw2576523973992343609:Nat:=0
def PySem.W.Fast.tw13606521132961772581:Nat:=0
def PySem.W.Fast.tw12894966596032860446:Nat:=0
def PySem.W.Fast.tw10903146660539688938:Nat:=0
def PySem.W.Fast.tw5872530126848033075:Nat:=0
def PySem.W.Fast.tw15743010393045028110:Nat:=0
def PySem.W.Fast.tw12058884036946728934:Nat:=0
def PySem.W.Fast.tw16899829786455025840:Nat:=0
def PySem.W.Fast.tw13160504802963445071:Nat:=0
def PySem.W.Fast.tw591959016527307005:Nat:=0
def PySem.W.Fast.tw977512076041815475:Nat:=0
def PySem.W.Fast.tw12147665669636231765:Nat:=0
def PySem.W.Fast.tw36298284907231195:Nat:=0
def PySem.W.Fast.tw12843764043397292189:Nat:=0
def PySem.W.Fast.tw13462424878891718212:Nat:=0
def PySem.W.Fast.tw11326235942716756430:Nat:=0
def PySem.W.Fast.tw4002271763688809667:Nat:=0
def PySem.W.Fast.tw4684226298888400098:Nat:=0
def PySem.W.Fast.tw4817042036850715440:Nat:=0
def PySem.W.Fast.tw15062127977220616739:Nat:=0
def PySem.W.Fast.tw11843415546741370313:Nat:=0
def PySem.W.Fast.tw13757698761724263525:Nat:=0
def PySem.W.Fast.tw8997383693586321770:Nat:=0
def PySem.W.Fast.tw17862349074038704544:Nat:=0
def PySem.W.Fast.tw10958628066121416707:Nat:=0
def PySem.W.Fast.tw2046362190076281809:Nat:=0
def PySem.W.Fast.tw10539347186207431242:Nat:=0
def PySem.W.Fast.tw3436067635600285980:Nat:=0
def PySem.W.Fast.tw17823556299335049440:Nat:=0
def PySem.W.Fast.tw8865387616306378214:Nat:=0
def PySem.W.Fast.tw6124413428159637790:Nat:=0
def PySem.W.Fast.tw16315454978102356719:Nat:=0
def PySem.W.Fast.tw15621116118777243554:Nat:=0
def PySem.W.Fast.tw8331849164307833061:Nat:=0
def PySem.W.Fast.tw6327569006664949090:Nat:=0
def PySem.W.Fast.tw2358075552688931204:Nat:=0
def PySem.W.Fast.tw7363655315013122544:Nat:=0
def PySem.W.Fast.tw9456574344343218679:Nat:=0
def PySem.W.Fast.tw17155049476370652306:Nat:=0
def PySem.W.Fast.tw5341297951324810720:Nat:=0
def PySem.W.Fast.tw17678831435119133177:Nat:=0
def PySem.W.Fast.tw13032259773685033708:Nat:=0
def PySem.W.Fast.tw12382822922155266910:Nat:=0
def PySem.W.Fast.tw7485256538410118956:Nat:=0
def PySem.W.Fast.tw15504105790966721872:Nat:=0
def PySem.W.Fast.tw6194202620331982285:Nat:=0
def PySem.W.Fast.tw8274446707539698164:Nat:=0
def PySem.W.Fast.tw2466311954974566718:Nat:=0
def PySem.W.Fast.tw10295913840692754127:Nat:=0
def PySem.W.Fast.tw12125097214300078407:Nat:=0
def PySem.W.Fast.tw5832146486336120021:Nat:=0
def PySem.W.Fast.tw2424988045566436242:Nat:=0
def PySem.W.Fast.tw14731159723063609737:Nat:=0
def PySem.W.Fast.tw6472337539984862722:Nat:=0
def PySem.W.Fast.tw2868442198168577507:Nat:=0
def PySem.W.Fast.tw8498532028676091811:Nat:=0
def PySem.W.Fast.tw18248855084332350957:Nat:=0
def PySem.W.Fast.tw14935156969734317764:Nat:=0
def PySem.W.Fast.tw11368310244458860372:Nat:=0
def PySem.W.Fast.tw2768188642542392010:Nat:=0
def PySem.W.Fast.tw9461873434466728008:Nat:=0
def PySem.W.Fast.tw7151132215420815488:Nat:=0
def PySem.W.Fast.tw18328257000508772394:Nat:=0
def PySem.W.Fast.tw3303267245142563540:Nat:=0
def PySem.W.Fast.tw4772062507164038959:Nat:=0
def PySem.W.Fast.tw11267315532378154396:Nat:=0
def PySem.W.Fast.tw18400553757987027518:Nat:=0
def PySem.W.Fast.tw8115137120850386438:Nat:=0
def PySem.W.Fast.tw14398111036562950334:Nat:=0
def PySem.W.Fast.tw15433366417846715934:Nat:=0
def PySem.W.Fast.tw13394580363473044415:Nat:=0
def PySem.W.Fast.tw5467331546851215429:Nat:=0
def PySem.W.Fast.tw15402603294489630176:Nat:=0
def PySem.W.Fast.tw6798380500665416597:Nat:=0
def PySem.W.Fast.tw9972681490609642005:Nat:=0
def PySem.W.Fast.tw6084841979344569690:Nat:=0
def PySem.W.Fast.tw16860917588515726111:Nat:=0
def PySem.W.Fast.tw17883462748017686043:Nat:=0
def PySem.W.Fast.tw15541240446876304647:Nat:=0
def PySem.W.Fast.tw11033627544408312984:Nat:=0
def PySem.W.Fast.tw10519837036962490867:Nat:=0
def PySem.W.Fast.tw18031968618487185184:Nat:=0
def PySem.W.Fast.tw1840220198017710270:Nat:=0
def PySem.W.Fast.tw5289818103960998278:Nat:=0
def PySem.W.Fast.tw7322748291113730364:Nat:=0
def PySem.W.Fast.tw15685335758407661847:Nat:=0
def PySem.W.Fast.tw7212858340449540239:Nat:=0
def PySem.W.Fast.tw11489344026974618541:Nat:=0
def PySem.W.Fast.tw10911716485165742097:Nat:=0
def PySem.W.Fast.tw7592715696027808041:Nat:=0
def PySem.W.Fast.tw14538725608371270373:Nat:=0
def PySem.W.Fast.tw7873786274422454737:Nat:=0
def PySem.W.Fast.tw3592811809046731828:Nat:=0
def PySem.W.Fast.tw13034982811429478159:Nat:=0
def PySem.W.Fast.tw6690350156832105676:Nat:=0
def PySem.W.Fast.tw13385558918117058561:Nat:=0
def PySem.W.Fast.tw12099505692703838030:Nat:=0
def PySem.W.Fast.tw15771247859494662083:Nat:=0
def PySem.W.Fast.tw11824586356888161845:Nat:=0
def PySem.W.Fast.tw17937168697417666835:Nat:=0
def PySem.W.Fast.tw7050804516273991350:Nat:=0
def PySem.W.Fast.tw17163426234232328066:Nat:=0
def PySem.W.Fast.tw211337195705725219:Nat:=0
def PySem.W.Fast.tw7921390202802761869:Nat:=0
def PySem.W.Fast.tw14061609134260724683:Nat:=0
def PySem.W.Fast.tw14172470266813156586:Nat:=0
def PySem.W.Fast.tw3350206127114907401:Nat:=0
def PySem.W.Fast.tw384561282630992784:Nat:=0
def PySem.W.Fast.tw16005714805435085966:Nat:=0
def PySem.W.Fast.tw13343918040275786880:Nat:=0
def PySem.W.Fast.tw16109456028575089023:Nat:=0
def PySem.W.Fast.tw615563214671542189:Nat:=0
section
open PySem PySem.W PyProof.Rows
set_option maxHeartbeats 0
open_top hd for PySem.Challenge.rw_sidebook_k46_amid_a_payment
end
def Yd:=@beq_eq_false_iff_ne
def Wf:=@beq_iff_eq
def nq:=@beq_self_eq_true
def rc:=@congrArg
def xb:=@decide_eq_false
def jd:=@decide_eq_true
def Pd:=@decide_eq_true_eq
def wo:=@decide_eq_true_iff
def ui:=@if_false
def ga:=@if_neg
def da:=@if_pos
def ag:=@if_true
def vm:=@or_false
open Array renaming append_assoc->ck,getElem?_eq_getElem->yh,getElem?_eq_some_iff->Vc,getElem?_extract->Zp,getElem?_push->ur,length_toList->Rg,toArray_toList->Oq
open Bool renaming and_assoc->Sw,and_eq_true->Ba,and_false->Rw,eq_iff_iff->aw,false_eq_true->rh,false_ne_true->Wa,false_or->dk,not_eq_true'->wu,not_true->yp,or_eq_true->Tg
open Classical renaming choose_spec->X7
open Int renaming add_zero->yB,le_refl->Bn
open List renaming all_cons->Qf,all_eq_true->Vb,all_map->lq,any_cons->ue,any_eq_true->Uu,append_nil->Ji,drop_eq_getElem_cons->Ah,drop_eq_nil_of_le->mq,filterMap_cons->dh,filter_cons->ii,filter_eq_self->Xr,find?_cons->ke,foldl_cons->Sf,getD_eq_getElem?_getD->qf,getElem?_append_left->qb,getElem?_append_right->Sd,getElem?_cons_succ->aq,getElem?_cons_zero->ji,getElem?_eq_getElem->Lc,getElem?_eq_none_iff->dc,getElem?_eq_some_iff->na,getElem?_map->Ab,getElem?_of_mem->qr,getElem?_replicate->Yp,getElem?_set->qc,getElem?_set_ne->mj,getElem?_set_self->ti,getElem?_take_of_lt->xp,getElem?_toArray->Mq,getElem_mem->Vu,getElem_of_mem->Vr,length_append->Td,length_cons->Gb,length_drop->Ru,length_map->Ub,length_nil->An,length_set->Zv,length_take->um,lookup_cons->Sa,map_cons->Za,map_map->re,map_nil->jh,mem_append->Qg,mem_append_left->Qa,mem_append_right->Na,mem_cons->La,mem_cons_of_mem->Da,mem_cons_self->Pa,mem_filter->Ii,mem_filterMap->ik,mem_flatMap->Wu,mem_iff_getElem?->wg,mem_map->Cc,mem_of_getElem?->Ma,mem_singleton->Ts,mem_zipIdx_iff_getElem?->Re,nil_append->cw,nodup_cons->Sg,not_mem_nil->Nd,of_mem_zip->yn,range_succ_eq_map->jq,set_append_left->vr,set_cons_succ->eb,set_cons_zero->gb,size_toArray->pa,take_length->wm
open List.Perm renaming cons_inv->f8
open List.cons renaming injEq->sr
open Nat renaming le_of_eq->Jq,le_of_lt->yf,le_refl->za,le_succ->zn,le_trans->Sb,lt_irrefl->pd,lt_of_le_of_lt->tu,lt_of_lt_of_le->Ha,lt_succ_of_lt->Ph,lt_succ_self->Oc,lt_trans->Nq,ne_of_gt->og,ne_of_lt->Ea,not_lt->fJ,one_ne_zero->Uw,zero_le->Sr
open Ne renaming symm->He
open Option renaming bind_eq_some_iff->Oh,bind_some->Us,getD_none->Ss,isNone_iff_eq_none->Tn,isSome_iff_exists->qe,isSome_map->nk,map_eq_some_iff->Lb,map_some->Hf
open Option.some renaming inj->ub,injEq->Ug
open Prod renaming ext->MQ
open PyProof.Rows renaming AllBare->zg,IntsAre->ml,IsTup->Xs,callWith_builtin1->HE,callWith_type1->Ie,iadd_int->GE,slot_tuple_getitem->pc,Subscript_->cy,args_tuple_getitem->ay,boot_list->Ws,boot_sum->bw,boot_tuple->Yh,entry_tuple_getitem->Qw,envOfC->Bg,get?_update_seq->ME,seqObj->Qk,slicePart_none->eJ,subscriptTail->Yr,subscriptTail_builtinR->nu,tupleItemsOf_->OQ
open PyProof.Rows.IsTup renaming new->ku
open PySem renaming Around->Ia,BindsTo->Tf,Builtin->zu,CmpOp->Bp,DictEntry->HB,Drawn->jJ,Env->yg,ExceptHandler->cg,Expr->Ka,FuncData->Qd,GenState->Rq,IsPair->oJ,IsPart->Pk,ItemsOf->r8,Keyword->xj,Model->Lk,NameKind->Pe,Obj->vc,Operator->Nk,OsState->t8,Params->lJ,PassesOwn->Yo,PlainAttrs->jn,Pos->Ke,Program->wa,boot_len->Mb,mem_of_lookup->Ae,Result->jy,Sem->Ap,SetTable->Eg,Shared->aa,Tok->g8,World->Ja,assign->Zh,assignEach->me,atKey->Tq,attributeBase->Zd,backTo->Mc,backToKw->Wn,behindInMarks->Je,behindIsImport->mJ,binaryOp->lf,bindC->dt,bindL->Zs,call_list_seq->dR,call_meetsIn->e8,callerA->Dg,cellsFrom->EB,codeAny_builtin->zh,codeAny_handlers_test->Tu,codeAny_mono->Jh,compareOp->Ib,concat_meets->iu,entryPlaceOf->o8,eval->bc,evalPart_none->PQ,foldedSetIterable->Ag,getAttr->l8,getItem->zi,getMethod->Ys,handleBy->nJ,holding->vf,inplaceOp->BB,intBits_le_64->LQ,isTrue->iy,keywordEach->Ai,leaving->rz,noFill_tuple_add->Vo,noteFrame->vg,operate->m8,plainId_quiet->Ki,rawInt->pe,release->i8,richCompare->dw,seqIndex_neg->mu,seqIndex_of->Yv,seqItems?->JB,seq_tuple_add->Tr,setFlight->Qh,setItem->yu,sliceBounds->lh,slot_list_getitem->mz,standAt->Vn,starEach->ua,storeName->AB,subscripted->Dp,swappedStores->ym,swapsWith->dj,swapsWithSole->xm,sysModules->qg,tupleKind->Xo,tupleKind_room_in1->Wh,typeOf->Sq,unaryOp->j8,valueAt->Yn,wpAny_Call_Name_kw->af,wpAny_Call_method_late->qu,wpAny_Name->Yx,wpAny_assign_Name->iz,wpAny_bind->ba,wpAny_call->Lq,wpAny_callSpecial?_slot->Rs,wpAny_call_entry->Wo,wpAny_comprehension_free->Wr,wpAny_execs_cons->wB,wpAny_execs_nil->Hj,wpAny_field->Ik,wpAny_handleBy_cons->Tw,wpAny_holding->Ad,wpAny_isSame_ref_other->xu,wpAny_isTrue_Compare1->Qu,wpAny_letGo->zp,wpAny_load->Zx,wpAny_loadName_cell->Pw,wpAny_loadName_local->Xv,wpAny_loadPart_at->yi,wpAny_mono->Rb,wpAny_newFunctionEnv->Kk,wpAny_newList->eR,wpAny_newObj_type->Ce,wpAny_passesOwn->wh,wpAny_pure->ra,wpAny_pyIter_enum->nz,wpAny_pyIter_list->Pn,wpAny_pyIter_tuple->fy,wpAny_pyIter_zip->xB,wpAny_seqItems->Pq,wpAny_sequenceKey->jz,wpAny_standAt->Rr,wpAny_truthy_bool->Yc,wpAny_tryCatch->Jf,wpAny_typeOf->ju,wpAny_updateSeq->bq,wp_field_iff->vu,wp_setField_iff->IE
open PySem.Around renaming frames_deeper->iq,under->Cp,under_plainId->cf
open PySem.Bind renaming checkArgs->Ao
open PySem.BindsTo renaming of_defaults->Kg
open PySem.Builtin.Builtins renaming bindParams->ej
open PySem.Builtin.List renaming listExtendWith->OE,listTooLong->Vg
open PySem.Builtin.Range renaming rangeSize->CB
open PySem.Builtin.Slice renaming sliceAdjust->Cg,sliceApplied->ek,sliceFields->GB,slicePartIndex->FB,slicePlaces->Se
open PySem.Builtin.Tuple renaming tupleExact->bf,tupleHashOf->KB,tupleIsExact->IB,tupleItemsOf->fk
open PySem.Calls renaming Name_function_global->On,callWith_builtin->pi,evalArgs_plain->cj
open PySem.CmpOp renaming In->kJ,NotIn->qz
open PySem.Code renaming frames->DB,isFrame->oq
open PySem.DictEntry renaming refKey->k8
open PySem.EntryCells renaming newEntry->Zo
open PySem.F renaming cmp_object->iJ,args_tuple_add_2->xh,entry_min_loop->Xh,entry_tuple_add->Ih,excBase_ValueError->gn,plainAttrs_dict->Lh,plainAttrs_list->ze,plain_list_iadd->xo,plain_min_loop->Uc,slot_dict_items->Kh,slot_dict_setdefault->fm,slot_list_append->zf,slot_tuple_add->Vh,type_dict_items->yo,type_list_append->Af
open PySem.Heap renaming FlyingW->uz,HeldW->zo,SameBut->uf,get?_eq_some->uu,get?_push_of_some->la,get?_push_size->Xa,get?_update_other->xi,get?_update_self->Kq,lt_size->va,size_push->eg
open PySem.Heap.DictOf renaming new->gJ
open PySem.Heap.IsSliceOf renaming new->kz
open PySem.Heap.IsTuple renaming push->JE
open PySem.Heap.SameBut renaming update->ki
open PySem.IsL renaming update->W7
open PySem.Manifest renaming signature?->cq
open PySem.NameKind renaming cell->Fc,free->lb
open PySem.Obj renaming data_mapFields->Jk,mapFields->ai,mapSeq->rf
open PySem.PassesOwn renaming leaving->Y7,looking->Z7
open PySem.Sem renaming wp_bind'->dm,wp_mono->Ur
open PySem.SeqAt renaming EqAt->gd,RcAt->mh,RcNeAt->fh,in_listAt->Su,in_tupleAt->ou
open PySem.SeqAt.EqAt renaming bool_bool->UQ,bool_int->VQ,bool_none->TQ,bool_str->WQ,int_bool->YQ,int_int->ZQ,int_none->XQ,int_str->tp,none_bool->QQ,none_int->RQ,none_str->SQ,same->jk,str_bool->bR,str_int->vp,str_none->aR,str_str->cR
open PySem.SetTable renaming below->zm,fresh->ft,has->Xu,insertAt->Ij
open PySem.SetTable.below renaming go->Zn
open PySem.Str renaming ofString->rg
open PySem.Value renaming bool->kf,bytes->pz,float->Qq,int->xg,isInt->oz,isStrOf->Vw,none->Eb,ref->pb,str->gm,type->zB
open PySem.W renaming OpenLaw->n8
open PySem.W.WData renaming int->NE
open PySem.W.WShape renaming has->tz
open PySem.Walks renaming list->Qn
open PySem.WalksT renaming zip2->gy
open PySem.Within renaming cons->EE
namespace L2
open PySem PySem.Spec PyProof.Rows
noncomputable abbrev Key:=Sum Int Str
noncomputable def Xx:Key->Value->Bool
 | .inl k,v=>oz k v
 | .inr x,v=>Vw x v
noncomputable def y2(w:Ja):Key->Int
 | .inl k=>hashInt k
 | .inr x=>hashStr w x
theorem Bt:∀ {k:Key} {v:Value},Xx k v=true->(∃ i t,k=Sum.inl i/\v=xg i t)\/(∃ x t,k=Sum.inr x/\v=gm x t)
 | .inl i,v,h=>by
  obtain⟨t,e⟩:=Value.isInt_shape (k:=i) (v:=v) h;exact .inl ⟨i,t,rfl,e⟩
 | .inr x,v,h=>by
  obtain⟨t,e⟩:=Value.isStrOf_shape (x:=x) (v:=v) h;exact .inr ⟨x,t,rfl,e⟩
theorem NZ(i:Int)(t:g8):Xx (.inl i) (.int i t)=true:=by simp[Xx,oz]
theorem M1(x:Str)(t:g8):Xx (.inr x) (.str x t)=true:=by simp[Xx,Vw]
theorem XT(a b:Int):decide ((Sum.inl a:Key)=Sum.inl b)=(a == b):=by
 by_cases e:a=b
 ·subst e;simp
 ·have h:¬ (Sum.inl a:Key)=Sum.inl b:=λq=>e (Sum.inl.inj q);rw[xb h];exact(Yd.mpr e).symm
theorem eS(a b:Str):decide ((Sum.inr a:Key)=Sum.inr b)=decide (a=b):=by
 by_cases e:a=b
 ·subst e;simp
 ·have h:¬ (Sum.inr a:Key)=Sum.inr b:=λq=>e (Sum.inr.inj q);rw[xb h,xb e]
theorem T6(a:Int)(b:Str):decide ((Sum.inl a:Key)=Sum.inr b)=false:=xb (λq=>nomatch q)
theorem Z4(a:Str)(b:Int):decide ((Sum.inr a:Key)=Sum.inl b)=false:=xb (λq=>nomatch q)
noncomputable def zl(prog:wa)(w:Ja):PySem.KeyKind prog w Key where
 is:=Xx
 hash:=y2 w
 inj:=λv a b d hb=>by
  rcases Bt d with⟨i,t,rfl,rfl⟩|⟨x,t,rfl,rfl⟩
  ·rcases Bt hb with⟨j,u,rfl,e⟩|⟨y,u,rfl,e⟩
   ·injection e with e1 _;rw[e1]
   ·exact nomatch e
  ·rcases Bt hb with⟨j,u,rfl,e⟩|⟨y,u,rfl,e⟩
   ·exact nomatch e
   ·injection e with e1 _;rw[e1]
 byValue:=λk v h=>by
  rcases Bt h with⟨i,t,rfl,rfl⟩|⟨x,t,rfl,rfl⟩<;>rfl
 pyHash:=λc h=>by
  rcases Bt c with⟨i,t,rfl,rfl⟩|⟨x,t,rfl,rfl⟩
  ·exact wpAny_pyHash_int h
  ·exact wpAny_pyHash_str h
 eqBool:=λf c h=>by
  rcases Bt f with⟨i,t,rfl,rfl⟩|⟨x,t,rfl,rfl⟩
  ·rcases Bt c with⟨j,u,rfl,rfl⟩|⟨y,u,rfl,rfl⟩
   ·rw[XT]at h;exact wpAny_eqBool_int h
   ·rw[T6]at h;exact tp i t y u _ _ _ _ h
  ·rcases Bt c with⟨j,u,rfl,rfl⟩|⟨y,u,rfl,rfl⟩
   ·rw[Z4]at h;exact vp x t j u _ _ _ _ h
   ·rw[eS]at h;exact wpAny_eqBool_str h
 «strs»:=λk x t v h=>by
  rcases Bt h with⟨i,u,rfl,e⟩|⟨y,u,rfl,e⟩
  ·exact nomatch e
  ·injection e with e1 _;subst e1;cases v<;>rfl
theorem WT(prog:wa)(w:Ja)(k:Key)(v:Value):(zl prog w).is k v=Xx k v:=rfl
theorem DU(prog:wa)(w:Ja)(i:Int)(t:g8):(zl prog w).is (.inl i) (.int i t)=true:=NZ i t
theorem ZY(prog:wa)(w:Ja)(x:Str)(t:g8):(zl prog w).is (.inr x) (.str x t)=true:=M1 x t
inductive V where
 |zb|bl (b:Bool)|int (i:Int)|str (x:Str)|KC (b:Array UInt8)|xx (b:UInt64)|ref (a:Addr)|ty (n:String)
 deriving DecidableEq
noncomputable def Zc:V->Value->Prop
 | .zb,u=>u=Eb
 | .bl b,u=>u=kf b
 | .int i,u=>∃ t,u=xg i t
 | .str x,u=>∃ t,u=gm x t
 | .KC b,u=>∃ t,u=pz b t
 | .xx b,u=>∃ t,u=Qq b t
 | .ref a,u=>u=pb a
 | .ty n,u=>u=zB n
noncomputable abbrev Ud:List V->List Value->Prop:=Paired Zc
theorem Ud.length{xs:List V}{us:List Value}(r:Ud xs us):xs.length=us.length:=Paired.length r
theorem Ud.get:∀ {xs:List V} {us:List Value} {i:Nat} {x:V},Ud xs us->xs[i]?=some x->∃ u,us[i]?=some u/\Zc x u
 |_,_,_,_,.nil,e=>by simp at e
 |_,_,0,_,.cons r _,e=>by simp at e;subst e;exact⟨_,rfl,r⟩
 |_,_,i+1,x,.cons _ t,e=>by
  obtain⟨u,h1,a⟩:=Ud.get (i:=i) (x:=x) t (by simpa using e);exact⟨u,by simpa using h1,a⟩
theorem Ud.set{x:V}{u:Value}(r:Zc x u):∀ {xs:List V} {us:List Value} (i:Nat),Ud xs us->Ud (xs.set i x) (us.set i u)
 |_,_,_,.nil=>.nil
 |_,_,0,.cons _ t=>.cons r t
 |_,_,i+1,.cons q t=>.cons q (Ud.set r i t)
theorem Ud.append:∀ {xs ys:List V} {us ws:List Value},Ud xs us->Ud ys ws->Ud (xs++ys) (us++ws)
 |_,_,_,_,.nil,s=>s
 |_,_,_,_,.cons r t,s=>.cons r (Ud.append t s)
theorem Ud.take:∀ {xs:List V} {us:List Value} (n:Nat),Ud xs us->Ud (xs.take n) (us.take n)
 |_,_,0,_=>.nil
 |_,_,_+1,.nil=>.nil
 |_,_,n+1,.cons r t=>.cons r (Ud.take n t)
theorem Ud.drop:∀ {xs:List V} {us:List Value} (n:Nat),Ud xs us->Ud (xs.drop n) (us.drop n)
 |_,_,0,r=>r
 |_,_,_+1,.nil=>.nil
 |_,_,n+1,.cons _ t=>Ud.drop n t
theorem Ud.none_of:∀ {xs:List V} {us:List Value} {i:Nat},Ud xs us->xs[i]?=none->us[i]?=none:=fun {xs us i} r e=>by
 have h1:=r.length;have a:xs.length<=i:=dc.mp e;exact dc.mpr (by omega)
noncomputable def mo:Option V->Option Value->Prop
 |some v,some u=>Zc v u
 |none,none=>True
 |_,_=>False
noncomputable def KV{a:Type}:List (a × V)->List (a × Value)->Prop:=Paired λ(p:a × V) (q:a × Value)=>p.1=q.1/\Zc p.2 q.2
noncomputable def kV:Key->V
 | .inl i=>.int i
 | .inr x=>.str x
inductive HO where
 |lst (xs:List V)
 |tup (xs:List V)
 |dK (kvs:List (Key × V))|dT (kvs:List (List Key × V))
 |set (S:Int->Bool) (n:Nat)
 |ins (C dx:Addr) (fs:List (Str × V))
 |own (x:Addr)
 |xd (fs:List (Str × V))
 |met (f x:Addr)
 |fE (lo hi:Int)
 |db (o:vc) (u:HO)
 |Ol (ps:Array Value)
 |ext (φ:Heap->Prop)
noncomputable abbrev Hp:=Addr->Option HO
noncomputable def upd(H:Hp)(a:Addr)(o:HO):Hp:=λb=>if b=a then some o else H b
theorem Og{H:Hp}{a:Addr}{o:HO}:upd H a o a=some o:=by unfold upd;rw[da rfl]
theorem yd{H:Hp}{a b:Addr}{o:HO}(h:b≠a):upd H a o b=H b:=by unfold upd;rw[ga h]
theorem AI{H:Hp}{a b:Addr}{o u:HO}(h:H a=some o)(h':H b=some u)(d:o≠u):a≠b:=by
 intro e;subst e;rw[h]at h';exact d (ub h')
theorem Ro{H:Hp}{a b:Addr}{o:HO}(h:H a=some o)(h':H b=none):a≠b:=by
 intro e;subst e;rw[h]at h';cases h'
section
variable(P:wa)(w:Ja)
noncomputable def Fi(H:Hp)(h:Heap)(a:Addr):HO->Prop
 | .lst xs=>xs.length<=sizeLine/\∃ (b:List Value) (n:Nat),Ud xs b/\h.get? a=some { cls:=.type "list",data:=.seq b.toArray n }
 | .tup xs=>xs.length<=sizeLine/\∃ b:List Value,Ud xs b/\Xs h a b.toArray
 | .dK c=>c.length<=sizeLine/\(a == qg)=false/\∃ j,KV c j/\h.DictOf (zl P w) a j
 | .dT c=>c.length<=sizeLine/\(a == qg)=false/\∃ xs:List (List Key × Addr × Value),
   Paired (λ(p:List Key × V) (q:List Key × Addr × Value)=>p.1=q.1/\H q.2.1=some (.tup (p.1.map kV))/\Zc p.2 q.2.2) c xs/\
   ∃ o g k,h.get? a=some o/\o.ExactDict/\o.data=.dict g k/\g.toList=xs.map (entryOfKey (Xo (zl P w)))/\(xs.map (·.1)).Nodup
 | .set S n=>h.SetOf (intKind P w) a S n
 | .ins C e fs=>H e=some (.own a)/\fs.length<=1000/\e≠a/\h.get? a=some (W.instObj C e)/\
   ∃ d,h.Ns1 e d/\(∀ f,mo (fs.lookup f) (d f))/\PySem.Within d (fs.map (·.1))
 | .own _=>∃ o,h.get? a=some o
 | .xd fs=>∃ d,h.Ns1 a d/\∀ f,mo (fs.lookup f) (d f)
 | .fE lo l=>∃ t u v,h.get? a=some { cls:=.type "range",data:=.fields #[.int lo t,.int l u,.int 1 v] }
 | .db o u=>h.get? a=some o/\Fi H h a u
 | .Ol m=>h.get? a=some { cls:=.none,data:=.fields m }
 | .met f x=>h.get? a=some (W.methodObj (.ref f) (.ref x))
 | .ext φ=>φ h/\(∃ o,h.get? a=some o)/\∀ h1 i:Heap,φ h1->(∀ o,h1.get? a=some o->i.get? a=some o)->φ i
noncomputable def ci(H:Hp)(h:Heap):Prop:=∀ a o,H a=some o->Fi P w H h a o
end
section
variable{P:wa}{w:Ja}{H H':Hp}{h h':Heap}{a:Addr}{o:HO}
theorem Fi.lt(x:Fi P w H h a o):a<h.objs.size:=by
 cases o with
 |lst xs=>obtain⟨_,_,_,_,e⟩:=x;exact va e
 |tup xs=>obtain⟨_,_,_,p⟩:=x;exact p.lt
 |dK b=>obtain⟨_,_,_,_,o,_,_,e,_⟩:=x;exact va e
 |dT b=>obtain⟨_,_,_,_,o,_,_,e,_⟩:=x;exact va e
 |set S n=>obtain⟨o,_,_,_,e,_⟩:=x;exact va e
 |ins C c fs=>obtain⟨_,_,_,e,_⟩:=x;exact va e
 |own y=>obtain⟨_,e⟩:=x;exact va e
 |xd fs=>obtain⟨_,⟨_,_,_,e,_⟩,_⟩:=x;exact va e
 |fE lo d=>obtain⟨_,_,_,e⟩:=x;exact va e
 |db g u=>obtain⟨e,_⟩:=x;exact va e
 |Ol i=>exact va (show h.get? a=some _ from x)
 |met f y=>exact va (show h.get? a=some _ from x)
 |ext j=>obtain⟨_,⟨_,e⟩,_⟩:=x;exact va e
theorem Paired.Gp{e g:Type}{F G:e->g->Prop}:∀ {c:List e} {d:List g},Paired F c d->(∀ a b,F a b->G a b)->Paired G c d
 |_,_,.nil,_=>.nil
 |_,_,.cons r t,f=>.cons (f _ _ r) (Paired.Gp t f)
theorem Fi.Oj(x:Fi P w H h a o)(k:∀ b u,(b=a\/H b=some (.own a))->h.get? b=some u->h'.get? b=some u)
  (E:∀ b,H b=some (.own a)->H' b=some (.own a)) (F:∀ b xs,H b=some (.tup xs)->H' b=some (.tup xs)):Fi P w H' h' a o:=by
 induction o with
 |lst xs=>obtain⟨z,l,n,r,e⟩:=x;exact⟨z,l,n,r,k _ _ (.inl rfl) e⟩
 |tup xs=>obtain⟨z,l,r,g,e,c⟩:=x;exact⟨z,l,r,g,k _ _ (.inl rfl) e,c⟩
 |dK m=>obtain⟨z,y,I,r,g,j,i,e,c⟩:=x;exact⟨z,y,I,r,g,j,i,k _ _ (.inl rfl) e,c⟩
 |dT m=>
  obtain⟨z,y,xs,r,g,j,i,e,c⟩:=x;exact⟨z,y,xs,Paired.Gp r λp q z=>⟨z.1,F _ _ z.2.1,z.2.2⟩,g,j,i,k _ _ (.inl rfl) e,c⟩
 |set S n=>obtain⟨g,j,i,t,e,c⟩:=x;exact⟨g,j,i,t,k _ _ (.inl rfl) e,c⟩
 |ins C J fs=>
  obtain⟨d,z,ne,e,s,⟨A,j,i,D,c⟩,r⟩:=x;exact⟨E _ d,z,ne,k _ _ (.inl rfl) e,s,⟨A,j,i,k _ _ (.inr d) D,c⟩,r⟩
 |own y=>obtain⟨g,e⟩:=x;exact⟨g,k _ _ (.inl rfl) e⟩
 |xd fs=>obtain⟨s,⟨A,j,i,e,c⟩,r⟩:=x;exact⟨s,⟨A,j,i,k _ _ (.inl rfl) e,c⟩,r⟩
 |fE lo K=>obtain⟨t,u,v,e⟩:=x;exact⟨t,u,v,k _ _ (.inl rfl) e⟩
 |db g u G=>obtain⟨e,q⟩:=x;exact⟨k _ _ (.inl rfl) e,G q⟩
 |Ol B=>
  have e:h.get? a=some { cls:=.none,data:=.fields B }:=x;show h'.get? a=some { cls:=.none,data:=.fields B };exact k a _ (.inl rfl) e
 |met f y=>
  have e:h.get? a=some (W.methodObj (.ref f) (.ref y)):=x;show h'.get? a=some (W.methodObj (.ref f) (.ref y));exact k a _ (.inl rfl) e
 |ext L=>obtain⟨p,⟨o,e⟩,st⟩:=x;exact⟨st _ _ p λo q=>k _ _ (.inl rfl) q,⟨o,k _ _ (.inl rfl) e⟩,st⟩
theorem ci.lt(x:ci P w H h)(e:H a=some o):a<h.objs.size:=(x a o e).lt
theorem ci.fresh(x:ci P w H h)(e:h.objs.size<=a):H a=none:=by
 cases q:H a with
 |none=>rfl
 |some u=>exact absurd (Ha (x.lt q) e) (pd _)
theorem ci.kept(x:ci P w H h)(k:∀ b u,h.get? b=some u->h'.get? b=some u):ci P w H h':=λa o e=>
 (x a o e).Oj (λb u _ q=>k b u q) (λ_ q=>q) λ_ _ q=>q
theorem ci.laid(x:ci P w H h)(k:∀ b u,h.get? b=some u->h'.get? b=some u)(hp:h.objs.size<=a)(d:Fi P w (upd H a o) h' a o):ci P w (upd H a o) h':=λb u e=>by
 have hn:=x.fresh hp;by_cases hb:b=a
 ·subst hb;rw[Og]at e;cases e;exact d
 ·rw[yd hb]at e;exact(x b u e).Oj (λc v _ q=>k c v q) (λc q=>by rw[yd (Ro q hn)];exact q) λc xs q=>by rw[yd (Ro q hn)];exact q
end
noncomputable def Rd(H:Hp)(a:Addr)(u:HO):Prop:=H a=some u\/∃ o,H a=some (.db o u)
theorem Rd.of{H:Hp}{a:Addr}{u:HO}(h:H a=some u):Rd H a u:=.inl h
theorem Rd.ok{P:wa}{w:Ja}{H:Hp}{h:Heap}{a:Addr}{u:HO}(r:Rd H a u)(x:ci P w H h):Fi P w H h a u:=by
 rcases r with r|⟨o,r⟩
 ·exact x a u r
 ·obtain⟨_,q⟩:=x a _ r;exact q
noncomputable def Bz:Option HO->Prop
 |some (.lst _)=>True
 |some (.dK _)=>True
 |some (.dT _)=>True
 |some (.set _ _)=>True
 |some (.ins _ _ _)=>True
 |some (.ext _)=>True
 |_=>False
section
variable{P:wa}{w:Ja}{H:Hp}{h h':Heap}{x e:Addr}{o':HO}
theorem ci.write(ok:ci P w H h)(g:Bz (H x))(l:e=x\/H e=some (.own x))(k:∀ b u,b≠e->h.get? b=some u->h'.get? b=some u)(i:∃ u,h'.get? e=some u)
  (j:Fi P w (upd H x o') h' x o'):ci P w (upd H x o') h':=λb u q=>by
 have d:∀ c y,H c=some (.own y)->c≠x:=λc y r z=>by subst z;rw[r]at g;exact g
 have f:∀ c xs,H c=some (.tup xs)->c≠x:=λc xs r z=>by subst z;rw[r]at g;exact g
 by_cases hb:b=x
 ·subst hb;rw[Og]at q;cases q;exact j
 ·rw[yd hb]at q;by_cases a:b=e
  ·have m:H b=some (.own x):=by
    rcases l with z|z
    ·exact absurd (a.trans z) hb
    ·rw[a];exact z
   rw[q]at m;cases m;obtain⟨v,n⟩:=i;exact⟨v,by rw[a];exact n⟩
  ·refine(ok b u q).Oj (λc v hc r=>k c v ?_ r) (λc r=>by rw[yd (d c b r)];exact r) λc xs r=>by rw[yd (f c xs r)];exact r
   rcases hc with rfl|hc
   ·exact a
   ·rintro rfl;rcases l with z|z
    ·exact d c b hc z
    ·rw[hc]at z;cases z;exact hb rfl
end
structure Un(fs ex:List Addr)(H H':Hp)(h h':Heap):Prop where
 keep:∀ b o,h.get? b=some o->H b=none->b ∉ fs->b ∉ ex->h'.get? b=some o
 slot:∀ b o,h.get? b=some o->H b=none->b∈fs->b ∉ ex->∃ sl,h'.get? b=some { o with slots:=sl }
 free:∀ b o,h.get? b=some o->H b=none->b ∉ ex->H' b=none
 there:∀ b o,h.get? b=some o->b ∉ ex->∃ o',h'.get? b=some o'
 Uh:∀ b xs,H b=some (.tup xs)->H' b=some (.tup xs)
 ah:∀ b o u,H b=some (.db o u)->H' b=some (.db o u)
 Gh:∀ b ps,H b=some (.Ol ps)->∃ more,H' b=some (.Ol (ps++more))
section
variable{fs fs' ex ex':List Addr}{H H1 H2:Hp}{h h1 h2 h':Heap}{a x e:Addr}{o:HO}
theorem Un.any(u:Un fs ex H H1 h h1){b:Addr}{ob:vc}(q:h.get? b=some ob)(n:H b=none)(a:b ∉ ex):∃ c,h1.get? b=some { ob with slots:=c }:=by
 by_cases hb:b∈fs
 ·exact u.slot b ob q n hb a
 ·exact⟨ob.slots,u.keep b ob q n hb a⟩
theorem Un.trans(a:Un fs ex H H1 h h1)(b:Un fs ex H1 H2 h1 h2):Un fs ex H H2 h h2 where
 keep:=λc e q n hc d=>b.keep c e (a.keep c e q n hc d) (a.free c e q n d) hc d
 slot:=λc e q n hc d=>by
  obtain⟨o,f⟩:=a.slot c e q n hc d;obtain⟨j,g⟩:=b.slot c _ f (a.free c e q n d) hc d;exact⟨j,g⟩
 free:=λc e q n d=>by
  obtain⟨i,f⟩:=a.there c e q d;exact b.free c i f (a.free c e q n d) d
 there:=λc e q d=>by
  obtain⟨i,f⟩:=a.there c e q d;exact b.there c i f d
 Uh:=λc xs q=>b.Uh c xs (a.Uh c xs q)
 ah:=λc e xs q=>b.ah c e xs (a.ah c e xs q)
 Gh:=λc m q=>by
  obtain⟨k,f⟩:=a.Gh c m q;obtain⟨l,g⟩:=b.Gh c _ f;exact⟨k++l,by rw[g,ck]⟩
theorem Un.kept(k:∀ b u,h.get? b=some u->h'.get? b=some u):Un fs ex H H h h':=
 ⟨λb a q _ _ _=>k b a q,λb a q _ _ _=>⟨a.slots,k b a q⟩,λ_ _ _ n _=>n,λb a q _=>⟨a,k b a q⟩,λ_ _ q=>q,λ_ _ _ q=>q,λ_ c q=>⟨#[],by rw[q];simp⟩⟩
theorem Un.refl:Un fs ex H H h h:=Un.kept λ_ _ q=>q
theorem Un.laid(k:∀ b u,h.get? b=some u->h'.get? b=some u)(hp:h.objs.size<=a)(hn:H a=none):Un fs ex H (upd H a o) h h' where
 keep:=λb u q _ _ _=>k b u q
 slot:=λb u q _ _ _=>⟨u.slots,k b u q⟩
 free:=λb u q n _=>by rw[yd (Ea (Ha (va q) hp))];exact n
 there:=λb u q _=>⟨u,k b u q⟩
 Uh:=λb xs q=>by rw[yd (Ro q hn)];exact q
 ah:=λb u xs q=>by rw[yd (Ro q hn)];exact q
 Gh:=λb c q=>⟨#[],by rw[yd (Ro q hn),q];simp⟩
theorem Un.write(c:Bz (H x))(g:e=x\/H e=some (.own x))(k:∀ b u,b≠e->h.get? b=some u->h'.get? b=some u)(d:∃ u,h'.get? e=some u):Un fs ex H (upd H x o) h h':=by
 have f:∀ b,H b=none->b≠x:=λb n z=>by subst z;rw[n]at c;exact c
 have hb:∀ b,H b=none->b≠e:=λb n z=>by
  subst z;rcases g with r|r
  ·exact f b n r
  ·rw[n]at r;cases r
 have hm:∀ b u,H b=some u->¬ Bz (some u)->b≠x:=λb u q nm z=>by subst z;rw[q]at c;exact nm c
 refine⟨λb u q n _ _=>k b u (hb b n) q,λb u q n _ _=>⟨u.slots,k b u (hb b n) q⟩,λb u q n _=>by rw[yd (f b n)];exact n,λb u q _=>?_,
  λb xs q=>by rw[yd (hm b _ q λz=>z)];exact q,λb u xs q=>by rw[yd (hm b _ q λz=>z)];exact q,λb i q=>⟨#[],by rw[yd (hm b _ q λz=>z),q];simp⟩⟩
 by_cases a:b=e
 ·subst a;exact d
 ·exact⟨u,k b u a q⟩
theorem Un.mono(u:Un fs ex H H1 h h1)(e:∀ b∈fs,b∈fs')(d:∀ b∈ex,b∈ex'):Un fs' ex' H H1 h h1:=
 ⟨λb c q n hb a=>u.keep b c q n (λz=>hb (e b z)) λz=>a (d b z),λ_ _ q n _ a=>u.any q n λz=>a (d _ z),λb c q n a=>u.free b c q n λz=>a (d b z),λb c q a=>u.there b c q λz=>a (d b z),u.Uh,u.ah,u.Gh⟩
end
noncomputable def QC(h:Heap)(H:Hp):List Addr:=(List.range h.objs.size).filter λa=>(H a).isSome
noncomputable def br(h:Heap)(H:Hp):Heap:=W.hideAll h (QC h H)
theorem rO(h:Heap)(H:Hp):(br h H).objs.size=h.objs.size:=W.hideAll_size _ _
theorem IL{h:Heap}{H:Hp}{b:Addr}{o:vc}(e:h.get? b=some o)(n:H b=none):(br h H).get? b=some o:=
 W.hideAll_get _ e λhm=>by
  have q:(H b).isSome=true:=(Ii.mp hm).2;rw[n]at q;simp at q
theorem vL{h:Heap}{H:Hp}{b:Addr}{o:vc}(e:(br h H).get? b=some o):h.get? b=some o/\H b=none:=by
 have a:h.get? b=some o:=W.of_hideAll (QC h H) e;refine⟨a,?_⟩;cases q:H b with
 |none=>rfl
 |some x=>
  have hm:b∈QC h H:=Ii.mpr ⟨List.mem_range.mpr (va a),by simp[q]⟩;have z:(br h H).get? b=none:=W.hideAll_none (QC h H) hm;rw[z]at e;cases e
noncomputable def F7(g h:Heap)(L:Addr):List (Addr × vc):=(List.range h.objs.size).filterMap λa=>if a=L\/(g.get? a).isSome=true then none else (h.get? a).map λo=>(a,o)
noncomputable def rest(g h:Heap)(L d:Addr):List (Addr × vc):=(F7 g h L).filter λp=>decide (p.1≠d)
structure Mod(K:W.Frag)(mg:Str->Option Value)(base:Heap):Prop where
 qw:K.In base
 glob:base.Ns mainGlobals mg
 blt:∃ mb,base.Ns builtinsNs mb/\∀ x:Str,x ≠ "__name__"->mb x=bootBuiltins x
 nolimit:base.NoLimit
structure Cx where
 prog:wa
 w:Ja
 K:W.Frag
 mg:Str->Option Value
 base:Heap
 A:Ia
 N:List Str
 s₀:aa
 H₀:Hp
 env:yg
 outer:List yg
 stack:List yg
 ex:List Addr
 fn:Str->Bool
 calm:Bool
 pn:List (Addr × vc)
 xe:Value->aa->Prop
noncomputable def Yi(l:List yg):List Addr:=l.filterMap (·.frame)
noncomputable abbrev Cx.fs(X:Cx):List Addr:=Yi X.outer
noncomputable def vC(sc:Scope)(x:Str):Prop:=sc.names.lookup x=some .local\/sc.names.lookup x=some .cell\/sc.names.lookup x=some .free
noncomputable def Loc(sc:Scope)(x:Str):Prop:=sc.names.lookup x=some .local\/sc.names.lookup x=some .cell
noncomputable def n5(env:yg)(h:Heap)(m:Str->Option Value)(x:Str)(u:Value):Prop:=
 (env.kindOf x=some .local/\m x=some u)\/((env.kindOf x=some .cell\/env.kindOf x=some .free)/\∃ c,env.cells.lookup x=some c/\h.IsCell c (some u))
structure Cx.Ok(X:Cx):Prop where
 mod:Mod X.K X.mg X.base
 kind:X.env.scope.kind=.function
 glob:X.env.globals=mainGlobals
 blt:X.env.builtins=builtinsNs
 above:X.s₀.heap.objs.size<=X.env.locals
 inj:∀ x y c,X.env.cells.lookup x=some c->X.env.cells.lookup y=some c->x=y
 has:∀ x,(X.env.kindOf x=some .cell\/X.env.kindOf x=some .free)->∃ c,X.env.cells.lookup x=some c
 tw:∀ x c,X.fn x=true->X.env.cells.lookup x=some c->X.s₀.heap.objs.size<=c
 hd:X.calm=true->X.A.handled=none
 frames:X.A.frames=some X.stack
 Bo:X.stack=X.outer\/(X.stack=X.env::X.outer/\X.env.frame=some X.env.locals)
 wx:∀ b∈X.ex,b≠X.env.locals/\∀ x c,X.env.cells.lookup x=some c->c≠b
 bs:∀ b o,X.base.get? b=some o->X.s₀.heap.get? b=some o/\X.H₀ b=none
 Uq:X.base.objs.size<=X.s₀.heap.objs.size
 Tp:∀ b o,X.base.get? b=some o->b ∉ X.ex
 Lp:∀ b∈X.ex,b ∉ X.fs
 Zi:X.s₀.heap.FunFrames X.base X.outer
 Ft:∀ b∈X.fs,X.H₀ b=none
structure Inv(X:Cx)(pins:List (Addr × vc))(σ:List (Option V))(H:Hp)(s:aa):Prop where
 ok:X.Ok
 os:s.os=X.s₀.os
 bare:zg s.gens
 base:Un X.fs X.ex X.H₀ H X.s₀.heap s.heap
 loc:∃ m,s.heap.Ns X.env.locals m/\∀ (i:Nat) (x:Str) (v:V),X.N[i]?=some x->σ[i]?=some (some v)->vC X.env.scope x->∃ u,Zc v u/\n5 X.env s.heap m x u
 cell:∀ x c,X.env.cells.lookup x=some c->∃ v,s.heap.IsCell c v
 free:H X.env.locals=none
 dg:∀ x c,X.env.cells.lookup x=some c->H c=none
 pin:∀ p∈X.pn++pins,s.heap.get? p.1=some p.2/\H p.1=none/\p.1≠X.env.locals/\p.1 ∉ X.fs/\∀ v,p.2.data≠.cell v
 cc:ci X.prog X.w H s.heap
 len:σ.length=X.N.length
section
variable{X:Cx}{pins:List (Addr × vc)}{σ:List (Option V)}{H H':Hp}{s:aa}{h':Heap}
theorem Cx.Ok.LH(ok:X.Ok){b:Addr}{o:vc}(e:X.base.get? b=some o):b ∉ X.fs:=λhb=>by
 have:=(ok.Zi.mem hb).1;rw[e]at this;cases this
theorem Inv.bs(I:Inv X pins σ H s):∀ b o,X.base.get? b=some o->s.heap.get? b=some o/\H b=none:=λb o e=>
 ⟨I.base.keep b o (I.ok.bs b o e).1 (I.ok.bs b o e).2 (I.ok.LH e) (I.ok.Tp b o e),I.base.free b o (I.ok.bs b o e).1 (I.ok.bs b o e).2 (I.ok.Tp b o e)⟩
theorem Inv.bk(I:Inv X pins σ H s):∀ b o,X.base.get? b=some o->s.heap.get? b=some o:=λb o e=>(I.bs b o e).1
theorem Inv.mod(I:Inv X pins σ H s):Mod X.K X.mg X.base:=I.ok.mod
theorem Inv.Gj(I:Inv X pins σ H s):X.K.In s.heap:=I.ok.mod.qw.keeps I.bk
theorem Inv.nolimit(I:Inv X pins σ H s):s.heap.NoLimit:=I.ok.mod.nolimit.keeps I.bk
theorem Inv.lt(I:Inv X pins σ H s):X.env.locals<s.heap.objs.size:=let ⟨_,hn,_⟩:=I.loc;hn.lt
theorem Inv.sz(I:Inv X pins σ H s):X.s₀.heap.objs.size<=s.heap.objs.size:=Sb I.ok.above (yf I.lt)
theorem Inv.DA(I:Inv X pins σ H s){a:Addr}(h:s.heap.objs.size<=a):a ∉ X.fs:=λhb=>by
 obtain⟨_,o,b,_⟩:=I.ok.Zi.mem hb;exact absurd (Ha (va b) (Sb I.sz h)) (pd _)
theorem Inv.fv(I:Inv X pins σ H s):∀ x c,X.env.cells.lookup x=some c->c≠X.env.locals:=λx c e z=>by
 obtain⟨v,o,d,hd⟩:=I.cell x c e;obtain⟨m,⟨h,g,f,b,a,_⟩,_⟩:=I.loc;rw[z,b]at d;cases d;rw[a]at hd;cases hd
theorem Inv.Zi(I:Inv X pins σ H s):s.heap.FunFrames X.base X.outer:=by
 have all:∀ (l:List yg),(∀ b∈Yi l,b∈X.fs)->X.s₀.heap.FunFrames X.base l->s.heap.FunFrames X.base l:=by
  intro l;induction l with
  |nil=>intro _ _;trivial
  |cons env r j=>
   intro d g;obtain⟨f,⟨L,o,c,hn,h,hd⟩,i⟩:=g;have a:L∈X.fs:=d L (by unfold Yi;rw[dh,c];exact Pa);obtain⟨k,e⟩:=I.base.slot L o h (I.ok.Ft L a) a λz=>I.ok.Lp L z a;exact⟨f,⟨L,_,c,hn,e,hd⟩,j (λb hb=>d b (by unfold Yi;rw[dh,c];exact Da _ hb)) i⟩
 exact all X.outer (λ_ hb=>hb) I.ok.Zi
theorem Inv.stack(I:Inv X pins σ H s):s.heap.FunFrames X.base X.stack:=by
 rcases I.ok.Bo with e|⟨e,a⟩
 ·rw[e];exact I.Zi
 ·rw[e];obtain⟨m,hn,_⟩:=I.loc;refine .cons (by rw[I.ok.kind];decide) a hn ?_ I.Zi;exact Heap.get?_none_of_le (Sb I.ok.Uq I.ok.above)
theorem Inv.wq(I:Inv X pins σ H s):∀ b∈Yi X.stack,b∈X.env.locals::X.fs:=λb hb=>by
 rcases I.ok.Bo with e|⟨e,a⟩
 ·rw[e]at hb;exact Da _ hb
 ·rw[e]at hb;unfold Yi at hb;rw[dh,a]at hb;exact hb
theorem Inv.Yj(I:Inv X pins σ H s):∀ b∈Yi X.stack,H b=none:=λb hb=>by
 rcases La.mp (I.wq b hb)with e|hb
 ·rw[e];exact I.free
 ·obtain⟨_,o,a,_⟩:=I.ok.Zi.mem hb;exact I.base.free b o a (I.ok.Ft b hb) λz=>I.ok.Lp b z hb
theorem Inv.step{g':Array Rq}{t':Nat}{d':jJ}{ch:List Addr}(I:Inv X pins σ H s)
  (g:∀ b∈ch,(b∈X.ex\/X.s₀.heap.objs.size<=b)/\b≠X.env.locals/\(∀ x c,X.env.cells.lookup x=some c->c≠b)/\∀ p∈X.pn++pins,p.1≠b)
  (keep:∀ b o,b≠X.env.locals->b ∉ X.fs->b ∉ ch->s.heap.get? b=some o->H b=none->h'.get? b=some o)
  (slot:∀ b o,b≠X.env.locals->b∈X.fs->b ∉ ch->s.heap.get? b=some o->H b=none->∃ D,h'.get? b=some { o with slots:=D }) (free:∀ b o,b ∉ ch->s.heap.get? b=some o->H b=none->H' b=none)
  (there:∀ b o,b ∉ ch->s.heap.get? b=some o->∃ C,h'.get? b=some C)
  (Uh:∀ b xs,H b=some (.tup xs)->H' b=some (.tup xs)) (ah:∀ b o u,H b=some (.db o u)->H' b=some (.db o u)) (Gh:∀ b ps,H b=some (.Ol ps)->∃ more,H' b=some (.Ol (ps++more)))
  (ns:∀ m,s.heap.Ns X.env.locals m->h'.Ns X.env.locals m) (cc:ci X.prog X.w H' h') (J:zg g') :
  Inv X pins σ H' { s with heap:=h',gens:=g',drawn:=d',toks:=t' }:=by
 have B:∀ b o,X.s₀.heap.get? b=some o->b≠X.env.locals:=λb o e=>Ea (Ha (va e) I.ok.above);have t:∀ b o,X.s₀.heap.get? b=some o->b ∉ X.ex->b ∉ ch:=λb o e a hb=>by
  rcases(g b hb).1 with z|z
  ·exact a z
  ·exact absurd (Ha (va e) z) (pd _)
 have f:∀ x c,X.env.cells.lookup x=some c->∀ v,s.heap.IsCell c v->h'.IsCell c v:=λx c e v ⟨o,y,hd⟩=>by
  have h:c ∉ ch:=λz=>(g c z).2.2.1 x c e rfl;by_cases hc:c∈X.fs
  ·obtain⟨D,q⟩:=slot c o (I.fv x c e) hc h y (I.dg x c e);exact⟨_,q,hd⟩
  ·exact⟨o,keep c o (I.fv x c e) hc h y (I.dg x c e),hd⟩
 refine⟨I.ok,I.os,J,⟨λb o e n hb a=>?_,λb o e n hb a=>?_,λb o e n a=>?_,λb o e a=>?_,λb xs e=>Uh b xs (I.base.Uh b xs e),λb o xs e=>ah b o xs (I.base.ah b o xs e),λb ps e=>?_⟩,?_,λx c e=>?_,?_,λx c e=>?_,λp hp=>?_,cc,I.len⟩
 ·exact keep b o (B b o e) hb (t b o e a) (I.base.keep b o e n hb a) (I.base.free b o e n a)
 ·obtain⟨D,j⟩:=I.base.slot b o e n hb a;obtain⟨E,A⟩:=slot b _ (B b o e) hb (t b o e a) j (I.base.free b o e n a);exact⟨E,A⟩
 ·obtain⟨C,j⟩:=I.base.there b o e a;exact free b C (t b o e a) j (I.base.free b o e n a)
 ·obtain⟨C,j⟩:=I.base.there b o e a;exact there b C (t b o e a) j
 ·obtain⟨L,j⟩:=I.base.Gh b ps e;obtain⟨M,A⟩:=Gh b _ j;exact⟨L++M,by rw[A,ck]⟩
 ·obtain⟨m,hn,K⟩:=I.loc;refine⟨m,ns m hn,λi x v j A G=>?_⟩;obtain⟨u,r,l⟩:=K i x v j A G;refine⟨u,r,?_⟩;rcases l with l|⟨k,c,e,z⟩
  ·exact .inl l
  ·exact .inr ⟨k,c,e,f x c e _ z⟩
 ·obtain⟨v,z⟩:=I.cell x c e;exact⟨v,f x c e v z⟩
 ·obtain⟨m,⟨o,_,_,y,_⟩,_⟩:=I.loc;exact free _ o (λz=>(g _ z).2.1 rfl) y I.free
 ·obtain⟨v,o,y,hd⟩:=I.cell x c e;exact free c o (λz=>(g c z).2.2.1 x c e rfl) y (I.dg x c e)
 ·obtain⟨e,n,ne,F,d⟩:=I.pin p hp;have h:p.1 ∉ ch:=λz=>(g p.1 z).2.2.2 p hp rfl;exact⟨keep p.1 p.2 ne F h e n,free p.1 p.2 h e n,ne,F,d⟩
theorem Inv.un{t':Nat}(I:Inv X pins σ H s)(u:Un X.fs [] H H' s.heap h')(cc:ci X.prog X.w H' h'):Inv X pins σ H' { s with heap:=h',toks:=t' }:=by
 obtain⟨m,⟨o,j,i,f,r⟩,_⟩:=id I.loc;obtain⟨p,g⟩:=u.any f I.free (by simp);exact I.step (g':=s.gens) (d':=s.drawn) (ch:=[]) (λ_ z=>nomatch z) (λb o _ hb _ e n=>u.keep b o e n hb (by simp)) (λb o _ hb _ e n=>u.slot b o e n hb (by simp)) (λb o _ e n=>u.free b o e n (by simp)) (λb o _ e=>u.there b o e (by simp)) u.Uh u.ah u.Gh (λk hm=>by
  obtain⟨l,d,c,a,h⟩:=hm;rw[f]at a;cases a;exact⟨_,d,c,g,h⟩) cc I.bare
theorem Inv.call{g':Array Rq}{t':Nat}{d':jJ}{ch:List Addr}(I:Inv X pins σ H s)(u:Un (Yi X.stack) ch H H' s.heap h')(cc:ci X.prog X.w H' h')(j:zg g')
  (a:∀ b∈ch,(b∈X.ex\/X.s₀.heap.objs.size<=b)/\b≠X.env.locals/\(∀ x c,X.env.cells.lookup x=some c->c≠b)/\∀ p∈X.pn++pins,p.1≠b) :
  Inv X pins σ H' { s with heap:=h',gens:=g',drawn:=d',toks:=t' }:=by
 obtain⟨m,⟨o,q,l,i,r⟩,_⟩:=id I.loc;obtain⟨y,h⟩:=u.any i I.free λz=>(a _ z).2.1 rfl;exact I.step (ch:=ch) a (λb o h hb hc e n=>u.keep b o e n (λz=>(La.mp (I.wq b z)).elim h hb) hc) (λb o _ _ hc e n=>u.any e n hc) (λb o hc e n=>u.free b o e n hc) (λb o hc e=>u.there b o e hc) u.Uh u.ah u.Gh (λt hm=>by
  obtain⟨v,g,f,d,k⟩:=hm;rw[i]at d;cases d;exact⟨_,g,f,h,k⟩) cc j
theorem Inv.turned{t':Nat}{it:Addr}(I:Inv X pins σ H s)(k:∀ b o,b≠it->s.heap.get? b=some o->h'.get? b=some o)(hn:H it=none)(d:it≠X.env.locals)
  (h1:it∈X.ex\/X.s₀.heap.objs.size<=it) (h:∀ x c,X.env.cells.lookup x=some c->c≠it) (h3:∀ p∈X.pn++pins,p.1≠it):Inv X pins σ H { s with heap:=h',toks:=t' }:=by
 have a:∀ b u,H b=some u->b≠it:=λb u e z=>by rw[z,hn]at e;cases e
 refine I.step (g':=s.gens) (d':=s.drawn) (ch:=[it]) (λb hb=>?_) (λb o _ _ hc e _=>k b o (λz=>hc (by simp[z])) e) (λb o _ _ hc e _=>⟨o.slots,k b o (λz=>hc (by simp[z])) e⟩) (λ_ _ _ _ n=>n)
  (λb o hc e=>⟨o,k b o (λz=>hc (by simp[z])) e⟩) (λ_ _ e=>e) (λ_ _ _ e=>e) (λb j e=>⟨#[],by rw[e];simp⟩) (λm hm=>?_) (λb u e=>?_) I.bare
 ·have e:b=it:=by simpa using hb
  subst e;exact⟨h1,d,h,h3⟩
 ·obtain⟨o,g,f,i,r⟩:=hm;exact⟨o,g,f,k _ o (He d) i,r⟩
 ·refine(I.cc b u e).Oj (λc v hc q=>k c v ?_ q) (λ_ q=>q) λ_ _ q=>q;rcases hc with z|z
  ·rw[z];exact a b u e
  ·exact a c _ z
theorem Inv.tok(I:Inv X pins σ H s)(t:Nat):Inv X pins σ H { s with toks:=t }:=I.un (h':=s.heap) (t':=t) Un.refl I.cc
theorem Inv.kept{t':Nat}(I:Inv X pins σ H s)(k:∀ b u,s.heap.get? b=some u->h'.get? b=some u):Inv X pins σ H { s with heap:=h',toks:=t' }:=I.un (Un.kept k) (I.cc.kept k)
theorem Inv.laid{a:Addr}{o:HO}{t':Nat}(I:Inv X pins σ H s)(k:∀ b u,s.heap.get? b=some u->h'.get? b=some u)(hp:s.heap.objs.size<=a)(c:Fi X.prog X.w (upd H a o) h' a o) :
  Inv X pins σ (upd H a o) { s with heap:=h',toks:=t' }:=I.un (Un.laid k hp (I.cc.fresh hp)) (I.cc.laid k hp c)
theorem Inv.write{x e:Addr}{o:HO}{t':Nat}(I:Inv X pins σ H s)(f:Bz (H x))(d:e=x\/H e=some (.own x))(k:∀ b u,b≠e->s.heap.get? b=some u->h'.get? b=some u)(a:∃ u,h'.get? e=some u)
  (c:Fi X.prog X.w (upd H x o) h' x o):Inv X pins σ (upd H x o) { s with heap:=h',toks:=t' }:=I.un (Un.write f d k a) (I.cc.write f d k a c)
theorem Inv.Oi{a:List (Addr × vc)}(I:Inv X pins σ H s)(h:∀ p∈a,s.heap.get? p.1=some p.2/\H p.1=none/\p.1≠X.env.locals/\p.1 ∉ X.fs/\∀ v,p.2.data≠.cell v):Inv X a σ H s:=
 ⟨I.ok,I.os,I.bare,I.base,I.loc,I.cell,I.free,I.dg,λp hp=>(Qg.mp hp).elim (λz=>I.pin p (Qa _ z)) (h p),I.cc,I.len⟩
theorem XH{N:List Str}(hN:N.Nodup){i j:Nat}{x:Str}(a:N[i]?=some x)(b:N[j]?=some x):i=j:=by
 obtain⟨h1,c⟩:=na.mp a;obtain⟨e,d⟩:=na.mp b;exact(List.getElem_inj hN).mp (c.trans d.symm)
theorem KP{M:Lk}{A:Ia}{E:Value->aa->Prop}{i:Nat}{x:Str}{v:V}{u:Value}{Q:Unit->aa->Prop}(I:Inv X pins σ H s)(hN:X.N.Nodup)(P:X.N[i]?=some x)(t:Loc X.env.scope x)(r:Zc v u)
  (h:∀ s',Inv X pins (σ.set i (some v)) H s'->(∃ a,uf a s.heap s'.heap/\(a=X.env.locals\/X.env.cells.lookup x=some a))->Q () s') (hf:X.fn x=true\/X.env.scope.names.lookup x=some .local:=by first|exact .inl rfl|exact .inr rfl|assumption):wpAny M A (AB X.env x u) Q E s:=by
 obtain⟨m,hn,hl⟩:=id I.loc;have O:(X.env.scope.kind == .class || (X.env.scope.kind == .module && X.env.locals != X.env.globals))=false:=by rw[I.ok.kind];rfl
 have D:i<σ.length:=by rw[I.len];exact(na.mp P).1
 have fv:=I.fv;have l:∀ {a:Addr} {h':Heap},(∃ o,s.heap.get? a=some o/\H a=none)->uf a s.heap h'->ci X.prog X.w H h':=fun {a h'} ha f b ob e=>by
  obtain⟨_,_,B⟩:=ha;refine(I.cc b ob e).Oj (λc U hc q=>(f.2 c ?_).trans q) (λ_ q=>q) λ_ _ q=>q;rintro rfl;rcases hc with rfl|hc
  ·rw[B]at e;cases e
  ·rw[B]at hc;cases hc
 rcases t with F|F
 ·refine wpAny_storeName_local F hn (λh' Y f=>?_) O;obtain⟨oL,_,_,Z,_⟩:=id hn;refine h _ ⟨I.ok,I.os,I.bare,⟨λb o e n hb t=>?_,λb o e n hb t=>?_,I.base.free,λb o e t=>?_,I.base.Uh,I.base.ah,I.base.Gh⟩,⟨_,Y,λj y v' g C W=>?_⟩,λy c e=>?_,I.free,I.dg,λp hp=>?_,l ⟨oL,Z,I.free⟩ f,by simpa using I.len⟩ ⟨_,f,.inl rfl⟩
  ·exact(f.2 b (Ea (Ha (va e) I.ok.above))).trans (I.base.keep b o e n hb t)
  ·obtain⟨sl,g⟩:=I.base.slot b o e n hb t;exact⟨sl,(f.2 b (Ea (Ha (va e) I.ok.above))).trans g⟩
  ·obtain⟨o',g⟩:=I.base.there b o e t;exact⟨o',(f.2 b (Ea (Ha (va e) I.ok.above))).trans g⟩
  ·by_cases J:j=i
   ·subst J;rw[P]at g;cases g;rw[ti D]at C;cases C;exact⟨u,r,.inl ⟨F,by simp⟩⟩
   ·rw[mj (He J)]at C;obtain⟨u',r',q⟩:=hl j y v' g C W;refine⟨u',r',?_⟩;rcases q with⟨k,e⟩|⟨k,c,e,z⟩
    ·refine .inl ⟨k,?_⟩;have:y≠x:=λe=>J (XH hN g (e ▸ P));simp[this,e]
    ·exact .inr ⟨k,c,e,z.sameBut f (fv y c e)⟩
  ·obtain⟨U,z⟩:=I.cell y c e;exact⟨U,z.sameBut f (fv y c e)⟩
  ·obtain⟨e,n,ne,nf,d⟩:=I.pin p hp;exact⟨(f.2 p.1 ne).trans e,n,ne,nf,d⟩
 ·have G:X.fn x=true:=by
   rcases hf with z|z
   ·exact z
   ·rw[z]at F;cases F
  obtain⟨c,hc⟩:=I.ok.has x (.inl F);obtain⟨U,z⟩:=I.cell x c hc;refine wpAny_storeName_cell I.ok.kind F hc z (λh' K f=>?_);obtain⟨oc,R,S⟩:=id z;refine h { s with heap:=h' } ⟨I.ok,I.os,I.bare,⟨λb o e n hb t=>?_,λb o e n hb t=>?_,I.base.free,λb o e t=>?_,I.base.Uh,I.base.ah,I.base.Gh⟩,⟨m,hn.sameBut f (He (fv x c hc)),λj y v' g C W=>?_⟩,λy T e=>?_,I.free,I.dg,λp hp=>?_,l ⟨oc,R,I.dg x c hc⟩ f,by simpa using I.len⟩ ⟨c,f,.inr hc⟩
  ·exact(f.2 b (Ea (Ha (va e) (I.ok.tw x c G hc)))).trans (I.base.keep b o e n hb t)
  ·obtain⟨sl,g⟩:=I.base.slot b o e n hb t;exact⟨sl,(f.2 b (Ea (Ha (va e) (I.ok.tw x c G hc)))).trans g⟩
  ·obtain⟨o',g⟩:=I.base.there b o e t;exact⟨o',(f.2 b (Ea (Ha (va e) (I.ok.tw x c G hc)))).trans g⟩
  ·by_cases J:j=i
   ·subst J;rw[P]at g;cases g;rw[ti D]at C;cases C;exact⟨u,r,.inr ⟨.inl F,c,hc,K⟩⟩
   ·rw[mj (He J)]at C;obtain⟨u',r',q⟩:=hl j y v' g C W;refine⟨u',r',?_⟩;rcases q with q|⟨k,T,e,z'⟩
    ·exact .inl q
    ·refine .inr ⟨k,T,e,z'.sameBut f ?_⟩;rintro rfl;exact J (XH hN g (I.ok.inj _ _ _ e hc ▸ P))
  ·by_cases L:T=c
   ·subst L;exact⟨_,K⟩
   ·obtain⟨w2,z2⟩:=I.cell y T e;exact⟨w2,z2.sameBut f L⟩
  ·obtain⟨e,n,ne,nf,d⟩:=I.pin p hp;refine⟨(f.2 p.1 ?_).trans e,n,ne,nf,d⟩;intro q;rw[q,R]at e;have q':oc=p.2:=ub e;exact d U (by rw[<-q'];exact S)
theorem yE{M:Lk}{A:Ia}{E:Value->aa->Prop}{i:Nat}{x:Str}{v:V}{u:Value}{Q:Unit->aa->Prop}(I:Inv X pins σ H s)(hN:X.N.Nodup)(c:X.N[i]?=some x)(d:Loc X.env.scope x)(r:Zc v u)
  (h:∀ s',Inv X pins (σ.set i (some v)) H s'->Q () s') (b:X.fn x=true\/X.env.scope.names.lookup x=some .local:=by first|exact .inl rfl|exact .inr rfl|assumption):wpAny M A (AB X.env x u) Q E s:=
 KP I hN c d r (λs' a _=>h s' a) b
theorem Inv.Wt{s':aa}{ch:List Addr}(I:Inv X pins σ H s)(f:s'.os=s.os)(u:Un (Yi X.stack) ch H H' s.heap s'.heap)(cc:ci X.prog X.w H' s'.heap)(d:zg s'.gens)
  (a:∀ b∈ch,(b∈X.ex\/X.s₀.heap.objs.size<=b)/\b≠X.env.locals/\(∀ x c,X.env.cells.lookup x=some c->c≠b)/\∀ p∈X.pn++pins,p.1≠b):Inv X pins σ H' s':=by
 obtain⟨h',g',d',t',g⟩:=s';have e:g=s.os:=f;subst e;exact I.call (g':=g') (t':=t') (d':=d') u cc d a
end
noncomputable abbrev XK:=Value->Option Addr->Hp->Prop
noncomputable abbrev St:=List (Option V)
noncomputable abbrev VK:=V->Hp->Prop
noncomputable abbrev TE:=St->Hp->VK->Prop
noncomputable abbrev TT:=St->Hp->(Bool->Hp->Prop)->Prop
noncomputable abbrev TA:=St->Hp->(List V->Hp->Prop)->Prop
structure Ends where
 nx:St->Hp->Prop
 rt:VK
 bk:St->Hp->Prop:=λ_ _=>False
 ct:St->Hp->Prop:=λ_ _=>False
noncomputable abbrev TS:=Ends->St->Hp->Prop
noncomputable def EP(X:Cx)(a:List (Addr × vc))(σ:St)(Q:VK)(u:Value)(s':aa):Prop:=∃ v b,Inv X a σ b s'/\Zc v u/\Q v b
noncomputable def TP(X:Cx)(a:List (Addr × vc))(σ:St)(Q:Bool->Hp->Prop)(b:Bool)(s':aa):Prop:=∃ c,Inv X a σ c s'/\Q b c
noncomputable def AP(X:Cx)(a:List (Addr × vc))(σ:St)(Q:List V->Hp->Prop)(us:List Value)(s':aa):Prop:=∃ c b,Inv X a σ b s'/\Ud c us/\Q c b
noncomputable def SP(X:Cx)(b:List (Addr × vc))(D:Ends)(f:Flow)(s':aa):Prop:=
 match f with
 | .next=>∃ a c,Inv X b a c s'/\D.nx a c
 | .brk=>∃ a c,Inv X b a c s'/\D.bk a c
 | .cont=>∃ a c,Inv X b a c s'/\D.ct a c
 | .ret u=>∃ v a c,Inv X b a c s'/\Zc v u/\D.rt v c
noncomputable def PE(X:Cx)(e:Ka)(t:TE):Prop:=
 ∀ (a:List (Addr × vc)) (s:aa) (σ:St) (H:Hp) (Q:VK),Inv X a σ H s->t σ H Q->wpAny (model X.prog X.w) X.A (bc e X.env) (EP X a σ Q) X.xe s
noncomputable def PT(X:Cx)(e:Ka)(t:TT):Prop:=
 ∀ (a:List (Addr × vc)) (s:aa) (σ:St) (H:Hp) (Q:Bool->Hp->Prop),Inv X a σ H s->t σ H Q->wpAny (model X.prog X.w) X.A (iy e X.env (bc e X.env)) (TP X a σ Q) X.xe s
noncomputable def PW(X:Cx)(e:Ka)(t:TT):Prop:=
 ∀ (a:Ap Value) (pins:List (Addr × vc)) (s:aa) (σ:St) (H:Hp) (Q:Bool->Hp->Prop),Inv X pins σ H s->t σ H Q->wpAny (model X.prog X.w) X.A (iy e X.env a) (TP X pins σ Q) X.xe s
theorem PW.pt{X:Cx}{e:Ka}{t:TT}(h:PW X e t):PT X e t:=h _
noncomputable def PA(X:Cx)(b:List Ka)(t:TA):Prop:=
 ∀ (a:Ke) (pins:List (Addr × vc)) (s:aa) (σ:St) (H:Hp) (Q:List V->Hp->Prop),Inv X pins σ H s->t σ H Q->wpAny (model X.prog X.w) X.A (spliced (Mc a (ua b X.env))) (AP X pins σ Q) X.xe s
noncomputable def PS(X:Cx)(st:Stmt)(t:TS):Prop:=
 ∀ (a:List (Addr × vc)) (s:aa) (σ:St) (H:Hp) (D:Ends),Inv X a σ H s->t D σ H->wpAny (model X.prog X.w) X.A (exec st X.env) (SP X a D) X.xe s
noncomputable def mr(X:Cx)(st:List Stmt)(t:TS):Prop:=
 ∀ (a:List (Addr × vc)) (s:aa) (σ:St) (H:Hp) (D:Ends),Inv X a σ H s->t D σ H->wpAny (model X.prog X.w) X.A (execs st X.env) (SP X a D) X.xe s
theorem Od{c:Type}{t:Ap c}{Q b:c->aa->Prop}{M:Lk}{A:Ia}{E:Value->aa->Prop}{s:aa}(h:wpAny M A t Q E s)(d:∀ a s,Q a s->b a s):wpAny M A t b E s:=Rb h d λ_ _ x=>x
section
variable{X:Cx}
theorem bin{a b:Ka}{j tb:TE}(n:PE X a j)(hb:PE X b tb){c:List (Addr × vc)}{s:aa}{σ:St}{H:Hp}{R:V->V->Hp->Prop}(I:Inv X c σ H s)(h:j σ H λx i=>tb σ i λy d=>R x y d)
  {k:Type} {Q:k->aa->Prop} {f:Value->Value->Ap k}
  (o:∀ v u s2 x y d,Inv X c σ d s2->Zc x v->Zc y u->R x y d->wpAny (model X.prog X.w) X.A (f v u) Q X.xe s2) :
  wpAny (model X.prog X.w) X.A (bc a X.env) (λv e=>wpAny (model X.prog X.w) X.A (bc b X.env) (λu g=>wpAny (model X.prog X.w) X.A (f v u) Q X.xe g) X.xe e) X.xe s:=by
 refine Od (n c s σ H _ I h) λv s1 ⟨x,i,l,r,p⟩=>?_;refine Od (hb c s1 σ i _ l p) λu s2 ⟨y,d,m,t,q⟩=>?_;exact o v u s2 x y d m r t q
noncomputable def P4(i:Nat):TE:=λa H Q=>∃ v,a[i]?=some (some v)/\Q v H
noncomputable def tC(v:V):TE:=λ_ H Q=>Q v H
theorem D3{i:Nat}{x:Str}{j:Ke}(hN:X.N[i]?=some x)(n:vC X.env.scope x)(hd:(x == ("__debug__" : Str))=false:=by decide)(g:(x == ("__classdict__" : Str))=false:=by decide):PE X (.Name x j) (P4 i):=by
 intro f s o H Q I h;obtain⟨v,e,h⟩:=h;obtain⟨m,hn,k⟩:=I.loc;obtain⟨u,r,l⟩:=k i x v hN e n;have b:EP X f o Q u s:=⟨v,H,I,r,h⟩
 rcases l with⟨d,hm⟩|⟨d,c,hc,a⟩
 ·exact Yx (Xv I.ok.kind d hn hm b) hd
 ·rcases d with d|d
  ·exact Yx (Pw I.ok.kind d hc a b) hd
  ·exact Yx (wpAny_loadName_free I.ok.kind d hc a b g) hd
theorem N2{i j pos}:PE X (.Constant (.int i) j pos) (tC (.int i)):=λ_ _ _ H _ I h=>wpAny_Constant_int ⟨.int i,H,I.tok _,⟨_,rfl⟩,h⟩
theorem VT{b j pos}:PE X (.Constant (.bool b) j pos) (tC (.bl b)):=λ_ _ _ H _ I h=>Constant_bool ⟨.bl b,H,I,rfl,h⟩
theorem EY{j pos}:PE X (.Constant .none j pos) (tC .zb):=λ_ _ _ H _ I h=>Constant_none ⟨.zb,H,I,rfl,h⟩
theorem KZ{x j pos}:PE X (.Constant (.str x) j pos) (tC (.str x)):=λ_ _ _ H _ I h=>Calls.Constant_str ⟨.str x,H,I.tok _,⟨_,rfl⟩,h⟩
noncomputable def Gl(X:Cx)(x:Str):Prop:=X.env.kindOf x=some .globalImplicit
theorem Ny{E:Value->aa->Prop}{a:List (Addr × vc)}{s:aa}{σ:St}{H:Hp}{x:Str}{u:Value}{b:Ke}{Q:Value->aa->Prop}(I:Inv X a σ H s)(c:Gl X x)(hm:X.mg x=some u)(h:Q u s)
  (hd:(x == ("__debug__" : Str))=false:=by decide):wpAny (model X.prog X.w) X.A (bc (.Name x b) X.env) Q E s:=
 On I.ok.kind c (Calls.loadGlobal_global (by rw[I.ok.glob];exact I.mod.glob.keeps I.bk) hm h) hd
theorem jw{E:Value->aa->Prop}{a:List (Addr × vc)}{s:aa}{σ:St}{H:Hp}{x:Str}{u:Value}{b:Ke}{Q:Value->aa->Prop}(I:Inv X a σ H s)(d:Gl X x)(hm:X.mg x=none)(e:bootBuiltins x=some u)(h:Q u s)
  (hn:x ≠ "__name__":=by decide) (hd:(x == ("__debug__" : Str))=false:=by decide):wpAny (model X.prog X.w) X.A (bc (.Name x b) X.env) Q E s:=by
 obtain⟨mb,h1,c⟩:=I.mod.blt;exact On I.ok.kind d (Calls.loadGlobal_builtin (by rw[I.ok.glob];exact I.mod.glob.keeps I.bk) hm (by rw[I.ok.blt];exact h1.keeps I.bk) ((c x hn).trans e) h) hd
theorem CF{x:Str}{v:V}{u:Value}{a:Ke}(b:Gl X x)(hm:X.mg x=some u)(r:Zc v u)(hd:(x == ("__debug__" : Str))=false:=by decide):PE X (.Name x a) (tC v):=
 λ_ _ _ H _ I h=>Ny I b hm ⟨v,H,I,r,h⟩ hd
theorem t3{x:Str}{v:V}{u:Value}{a:Ke}(b:Gl X x)(hm:X.mg x=none)(c:bootBuiltins x=some u)(r:Zc v u)(hn:x ≠ "__name__":=by decide)(hd:(x == ("__debug__" : Str))=false:=by decide):PE X (.Name x a) (tC v):=
 λ_ _ _ H _ I h=>jw I b hm c ⟨v,H,I,r,h⟩ hn hd
variable{a b:Ka}{ta tb:TE}{pos:Ke}
noncomputable def PC(X:Cx)(f:Bp)(a b:Ka)(t:TE):Prop:=
 ∀ (c:List (Addr × vc)) (s:aa) (σ:St) (H:Hp) (Q:VK),Inv X c σ H s->t σ H Q->
  wpAny (model X.prog X.w) X.A (bc a X.env) (λv d=>wpAny (model X.prog X.w) X.A (bc b X.env) (λu e=>wpAny (model X.prog X.w) X.A (Ib f v u) (EP X c σ Q) X.xe e) X.xe d) X.xe s
theorem vW(b:Ka){a:Bp}(h:a≠.In)(e:a≠.NotIn):Je a b=false:=by
 have c:(a == kJ)=false:=by cases a<;>first|rfl|exact absurd rfl h
 have d:(a == qz)=false:=by cases a<;>first|rfl|exact absurd rfl e
 cases b<;>simp[Je,c,d]
noncomputable def tB(t:TE):TT:=λb H Q=>t b H λx a=>∃ c,x=.bl c/\Q c a
theorem yi8{f:Bp}{t:TE}(h:PC X f a b t)(h1:Je f b=false:=by first|exact vW _ (by decide) (by decide)|rfl):PT X (.Compare a [f] [b] pos) (tB t):=by
 intro e s m H Q I j;refine Qu (Od (h e s m H _ I j) λv s1 h1=>Od h1 λu s2 i=>Od i λc s3 ⟨x,H1,g,l,k⟩=>?_) h1;obtain⟨d,rfl,q⟩:=k;cases l;exact Yc ⟨H1,g,q⟩
theorem OW{e:Ka}{t:TE}(h:PE X e t)(f:∀ a,iy e X.env a=(do let v <-a;Vn e.pos;vf [v] (truthy v)):=by intro _;rfl):PT X e (tB t):=by
 intro b s k H Q I g;refine isTrue_plain (Od (h b s k H _ I g) λv s1 ⟨x,H1,c,j,i⟩=>?_) (f _);obtain⟨d,rfl,q⟩:=i;cases j;exact Yc ⟨H1,c,q⟩
variable{tA tB':TT}{rest:List Ka}
noncomputable def aS(t u:TT):TT:=λb H Q=>t b H λc a=>if c=true then u b a Q else Q false a
noncomputable def uX(t u:TT):TT:=λb H Q=>t b H λc a=>if c=true then Q true a else u b a Q
noncomputable def QZ(t:TT):TT:=λb H Q=>t b H λc a=>Q (!c) a
theorem cY(d:PT X a tA):PW X (.BoolOp .And [a] pos) tA:=by
 intro g b s f H Q I h;refine isTrue_and (Od (d b s f H Q I h) λc s1 e=>?_);cases c with
 |true=>exact isTrue_and_nil e
 |false=>exact e
theorem C0(d:PT X a tA):PW X (.BoolOp .Or [a] pos) tA:=by
 intro g b s f H Q I h;refine isTrue_or (Od (d b s f H Q I h) λc s1 e=>?_);cases c with
 |false=>exact isTrue_or_nil e
 |true=>exact e
theorem sY(i:PT X a tA)(hb:PW X (.BoolOp .And (b::rest) pos) tB'):PW X (.BoolOp .And (a::b::rest) pos) (aS tA tB'):=by
 intro j d s g H Q I h;refine isTrue_and (Od (i d s g H _ I h) λc s1 ⟨H1,e,f⟩=>?_);cases c with
 |true=>exact hb j d s1 g H1 Q e f
 |false=>exact⟨H1,e,f⟩
theorem nT(i:PT X a tA)(hb:PW X (.BoolOp .Or (b::rest) pos) tB'):PW X (.BoolOp .Or (a::b::rest) pos) (uX tA tB'):=by
 intro j d s g H Q I h;refine isTrue_or (Od (i d s g H _ I h) λc s1 ⟨H1,e,f⟩=>?_);cases c with
 |true=>exact⟨H1,e,f⟩
 |false=>exact hb j d s1 g H1 Q e f
theorem AT(e:PT X a tA):PT X (.UnaryOp .Not a pos) (QZ tA):=by
 intro b s f H Q I h;exact isTrue_not (e b s f H (λc d=>Q (!c) d) I h)
noncomputable def j7(ta tb:TE):TE:=λb H Q=>ta b H λx a=>∃ c,x=.bl c/\if c=true then tb b a Q else Q (.bl false) a
noncomputable def y0(ta tb:TE):TE:=λb H Q=>ta b H λx a=>∃ c,x=.bl c/\if c=true then Q (.bl true) a else tb b a Q
noncomputable def k7(ta:TE):TE:=λb H Q=>ta b H λx a=>∃ c,x=.bl c/\Q (.bl (!c)) a
theorem aV{op}{t:TE}(h:PE X a t):PE X (.BoolOp op [a] pos) t:=λb s d H Q I c=>BoolOp_one (h b s d H Q I c)
theorem S5(i:PE X a ta)(hb:PE X (.BoolOp .And (b::rest) pos) tb):PE X (.BoolOp .And (a::b::rest) pos) (j7 ta tb):=by
 intro d s g H Q I h;refine BoolOp_and (Od (i d s g H _ I h) λv s1 ⟨x,H1,f,j,e⟩=>?_);obtain⟨c,rfl,e⟩:=e;cases j;refine Yc ?_;cases c with
 |true=>exact hb d s1 g H1 Q f e
 |false=>exact⟨.bl false,H1,f,rfl,e⟩
theorem O2(i:PE X a ta)(hb:PE X (.BoolOp .Or (b::rest) pos) tb):PE X (.BoolOp .Or (a::b::rest) pos) (y0 ta tb):=by
 intro d s g H Q I h;refine BoolOp_or (Od (i d s g H _ I h) λv s1 ⟨x,H1,f,j,e⟩=>?_);obtain⟨c,rfl,e⟩:=e;cases j;refine Yc ?_;cases c with
 |false=>exact hb d s1 g H1 Q f e
 |true=>exact⟨.bl true,H1,f,rfl,e⟩
theorem X0(f:PE X a ta):PE X (.UnaryOp .Not a pos) (k7 ta):=by
 intro b s i H Q I h;refine UnaryOp_ (Od (f b s i H _ I h) λv s1 ⟨x,H1,e,g,d⟩=>?_);obtain⟨c,rfl,d⟩:=d;cases g;exact not_of (Yc ⟨.bl (!c),H1,e,rfl,d⟩)
noncomputable def HU(t:TT)(ta tb:TE):TE:=λa H Q=>t a H λc b=>if c=true then ta a b Q else tb a b Q
theorem TZ{c:Ka}(hc:PT X c tA)(j:PE X a ta)(hb:PE X b tb):PE X (.IfExp c a b pos) (HU tA ta tb):=by
 intro e s f H Q I h;refine wpAny_IfExp (Od (hc e s f H _ I h) λd s1 ⟨H1,g,i⟩=>?_);cases d with
 |true=>exact j e s1 f H1 Q g i
 |false=>exact hb e s1 f H1 Q g i
end
noncomputable def Qe(K:W.Frag)(H:Hp)(a:Addr)(xs:List V):Prop:=
 Rd H a (.lst xs)\/
  ∃ (o:vc) (b:Array Value) (n:Nat),K.lookup a=some o/\o.cls=.type "list"/\o.dict=none/\o.data=.seq b n/\b.size<=sizeLine/\Ud xs b.toList
noncomputable def ph(K:W.Frag)(H:Hp)(a:Addr)(xs:List V):Prop:=
 Rd H a (.tup xs)\/
  ∃ (o:vc) (b:Array Value) (n:Nat),K.lookup a=some o/\o.cls=.type "tuple"/\o.data=.seq b n/\b.size<=sizeLine/\Ud xs b.toList
noncomputable def cV:Value->Option V
 | .none=>some .zb
 | .bool b=>some (.bl b)
 | .int i _=>some (.int i)
 | .str x _=>some (.str x)
 | .bytes b _=>some (.KC b)
 | .float b _=>some (.xx b)
 | .ref a=>some (.ref a)
 | .type n=>some (.ty n)
 |_=>none
theorem Zc.abs{x:V}{u:Value}(r:Zc x u):cV u=some x:=by
 cases x with
 |zb=>cases r;rfl
 |bl _=>cases r;rfl
 |int _=>obtain⟨t,rfl⟩:=r;rfl
 |str _=>obtain⟨t,rfl⟩:=r;rfl
 |KC _=>obtain⟨t,rfl⟩:=r;rfl
 |xx _=>obtain⟨t,rfl⟩:=r;rfl
 |ref _=>cases r;rfl
 |ty _=>cases r;rfl
theorem Zc.inj{x y:V}{u:Value}(r:Zc x u)(q:Zc y u):x=y:=ub (r.abs.symm.trans q.abs)
theorem Ud.inj:∀ {xs ys:List V} {us:List Value},Ud xs us->Ud ys us->xs=ys
 |_,_,_,.nil,.nil=>rfl
 |_,_,_,.cons r t,.cons a b=>by rw[r.inj a,Ud.inj t b]
section
variable{X:Cx}{pins:List (Addr × vc)}{σ:St}{H:Hp}{s:aa}{a:Addr}{xs ys:List V}
theorem Qe.of{K:W.Frag}(h:H a=some (.lst xs)):Qe K H a xs:=.inl (.inl h)
theorem ph.of{K:W.Frag}(h:H a=some (.tup xs)):ph K H a xs:=.inl (.inl h)
theorem Inv.list(I:Inv X pins σ H s)(h:Qe X.K H a xs):∃ its:List Value,Ud xs its/\PlainL s.heap a its.toArray/\xs.length<=sizeLine:=by
 rcases h with h|⟨o,its,n,b,hc,hd,c,d,r⟩
 ·obtain⟨z,its,n,r,e⟩:=h.ok I.cc;exact⟨its,r,⟨_,n,e,rfl,rfl,rfl⟩,z⟩
 ·refine⟨its.toList,r,⟨o,n,I.Gj a o b,hc,hd,by simpa using c⟩,?_⟩;have e:=r.length;simp only[Rg]at e;omega
theorem Inv.tuple(I:Inv X pins σ H s)(h:ph X.K H a xs):∃ its:List Value,Ud xs its/\Xs s.heap a its.toArray/\xs.length<=sizeLine:=by
 rcases h with h|⟨o,its,n,b,hc,c,d,r⟩
 ·obtain⟨z,its,r,p⟩:=h.ok I.cc;exact⟨its,r,p,z⟩
 ·refine⟨its.toList,r,⟨o,I.Gj a o b,hc,n,by simpa using c⟩,?_⟩;have e:=r.length;simp only[Rg]at e;omega
theorem Inv.Sj(I:Inv X pins σ H s)(h:Qe X.K H a xs)(h':Qe X.K H a ys):xs=ys:=by
 obtain⟨b,r,⟨o,n,e,_,_,d⟩,_⟩:=I.list h;obtain⟨its',g,⟨j,i,f,_,_,c⟩,_⟩:=I.list h';rw[e]at f;cases f;rw[d]at c;injection c with d1 _;have:b=its':=by simpa using rc Array.toList d1
 subst this;exact r.inj g
theorem Inv.Ir(I:Inv X pins σ H s)(h:ph X.K H a xs)(h':ph X.K H a ys):xs=ys:=by
 obtain⟨b,r,⟨o,e,_,n,d⟩,_⟩:=I.tuple h;obtain⟨its',g,⟨j,f,_,i,c⟩,_⟩:=I.tuple h';rw[e]at f;cases f;rw[d]at c;injection c with d1 _;have:b=its':=by simpa using rc Array.toList d1
 subst this;exact r.inj g
end
noncomputable abbrev Cx.ul(X:Cx)(E:Value->aa->Prop):Cx:={ X with xe:=E }
noncomputable abbrev Cx.En(X:Cx):Cx:=X.ul λ_ _=>False
theorem Cx.Ok.ul{X:Cx}(ok:X.Ok)(E:Value->aa->Prop):(X.ul E).Ok:=
 ⟨ok.mod,ok.kind,ok.glob,ok.blt,ok.above,ok.inj,ok.has,ok.tw,ok.hd,ok.frames,ok.Bo,ok.wx,ok.bs,ok.Uq,ok.Tp,ok.Lp,ok.Zi,ok.Ft⟩
theorem Cx.Ok.vh{X:Cx}{E:Value->aa->Prop}(ok:(X.ul E).Ok):X.Ok:=
 ⟨ok.mod,ok.kind,ok.glob,ok.blt,ok.above,ok.inj,ok.has,ok.tw,ok.hd,ok.frames,ok.Bo,ok.wx,ok.bs,ok.Uq,ok.Tp,ok.Lp,ok.Zi,ok.Ft⟩
section
variable{X:Cx}{pins:List (Addr × vc)}{σ:St}{H:Hp}{s:aa}{E:Value->aa->Prop}
theorem Inv.ul(I:Inv X pins σ H s)(E:Value->aa->Prop):Inv (X.ul E) pins σ H s:=⟨I.ok.ul E,I.os,I.bare,I.base,I.loc,I.cell,I.free,I.dg,I.pin,I.cc,I.len⟩
theorem Inv.vh(I:Inv (X.ul E) pins σ H s):Inv X pins σ H s:=⟨I.ok.vh,I.os,I.bare,I.base,I.loc,I.cell,I.free,I.dg,I.pin,I.cc,I.len⟩
theorem SP.vh{D:Ends}{f:Flow}{s':aa}(h:SP (X.ul E) pins D f s'):SP X pins D f s':=by
 cases f with
 |next=>obtain⟨a,b,I,q⟩:=h;exact⟨a,b,I.vh,q⟩
 |brk=>obtain⟨a,b,I,q⟩:=h;exact⟨a,b,I.vh,q⟩
 |cont=>obtain⟨a,b,I,q⟩:=h;exact⟨a,b,I.vh,q⟩
 |ret u=>obtain⟨v,a,b,I,r,q⟩:=h;exact⟨v,a,b,I.vh,r,q⟩
theorem PE.En{e:Ka}{t:TE}(h:PE X.En e t):PE X e t:=λpins s σ H Q I c=>
 Rb (h pins s σ H Q (I.ul _) c) (λ_ _ ⟨v,a,b,r,q⟩=>⟨v,a,b.vh,r,q⟩) λ_ _ z=>False.elim z
theorem PT.En{e:Ka}{t:TT}(h:PT X.En e t):PT X e t:=λpins s σ H Q I c=>
 Rb (h pins s σ H Q (I.ul _) c) (λ_ _ ⟨a,b,q⟩=>⟨a,b.vh,q⟩) λ_ _ z=>False.elim z
theorem mr.En{st:List Stmt}{t:TS}(h:mr X.En st t):mr X st t:=λpins s σ H D I a=>
 Rb (h pins s σ H D (I.ul _) a) (λ_ _ q=>q.vh) λ_ _ z=>False.elim z
end
section
variable{X:Cx}{st:Stmt}{rest:List Stmt}{t u:TS}{e:Ka}{te:TE}{pos:Ke}
noncomputable def HX:TS:=λD a H=>D.nx a H
noncomputable def IY(t u:TS):TS:=λD a H=>t { D with nx:=u D } a H
theorem t7:mr X [] HX:=λ_ _ a H _ I h=>Hj ⟨a,H,I,h⟩
theorem XV(h1:PS X st t)(e:mr X rest u):mr X (st::rest) (IY t u):=by
 intro a s g H D I h;refine wB (Od (h1 a s g H { D with nx:=u D } I h) λf s1 q=>?_);cases f with
 |next=>
  obtain⟨b,c,d,q⟩:=q;exact e a s1 b c D d q
 |ret v=>exact q
 |brk=>exact q
 |cont=>exact q
theorem tV(h1:PS X st t):mr X [st] t:=by
 intro a s b H D I h;refine wB (Od (h1 a s b H D I h) λf s1 q=>?_);cases f with
 |next=>exact Hj q
 |ret v=>exact q
 |brk=>exact q
 |cont=>exact q
theorem Inv.quiet{a:List (Addr × vc)}{σ:St}{H:Hp}{s:aa}(I:Inv X a σ H s):interactive X.env=false:=by simp[interactive,I.ok.kind]
noncomputable def P5(te:TE):TS:=λD a H=>te a H λ_ b=>D.nx a b
theorem n7(d:PE X e te)(f:dj e none pos.line X.env=pure false:=by rfl):PS X (.Expr e pos) (P5 te):=by
 intro a s b H D I h;exact wpAny_Expr_any (Od (d a s b H _ I h) λv s1 ⟨x,H1,c,i,g⟩=>⟨b,H1,c,g⟩) I.quiet f
noncomputable def fY(te:TE):TS:=λD a H=>te a H D.rt
theorem FU(d:PE X e te):PS X (.Return (some e) pos) (fY te):=by
 intro a s b H D I h;exact wpAny_Return_some (Od (d a s b H _ I h) λv s1 ⟨x,H1,c,g,f⟩=>⟨x,b,H1,c,g,f⟩)
noncomputable def Y5(c:TT)(t u:TS):TS:=λD a H=>c a H λb d=>if b=true then t D a d else u D a d
theorem WZ{c:Ka}{a b:List Stmt}{j:TT}(hc:PT X c j)(k:mr X a t)(hb:mr X b u):PS X (.If c a b pos) (Y5 j t u):=by
 intro e s f H D I h;refine wpAny_If (Od (hc e s f H _ I h) λd s1 ⟨H1,g,i⟩=>?_);cases d with
 |true=>exact k e s1 f H1 D g i
 |false=>exact hb e s1 f H1 D g i
end
noncomputable abbrev TG:=V->St->Hp->(St->Hp->Prop)->Prop
noncomputable abbrev Cw:=List V->St->Hp->(St->Hp->Prop)->Prop
noncomputable def PG(X:Cx)(a:Ka)(t:TG):Prop:=
 ∀ (b:List (Addr × vc)) (s:aa) (σ:St) (H:Hp) (v:V) (u:Value) (Q:St->Hp->Prop),Inv X b σ H s->Zc v u->t v σ H Q->
  wpAny (model X.prog X.w) X.A (Zh a X.env u) (λ_ e=>∃ c d,Inv X b c d e/\Q c d) X.xe s
noncomputable def gA(X:Cx)(ts:List Ka)(t:Cw):Prop:=
 ∀ (a:List (Addr × vc)) (s:aa) (σ:St) (H:Hp) (d:List V) (us:List Value) (Q:St->Hp->Prop),Inv X a σ H s->Ud d us->t d σ H Q->
  wpAny (model X.prog X.w) X.A (assignInOrder ((me ts X.env).map (·.2)) us) (λ_ e=>∃ b c,Inv X a b c e/\Q b c) X.xe s
noncomputable abbrev UC:=V->V->V->Hp->(Hp->Prop)->Prop
noncomputable def DF(X:Cx)(t:UC):Prop:=
 ∀ (a:List (Addr × vc)) (s:aa) (σ:St) (H:Hp) (o i v:V) (d c u:Value) (Q:Hp->Prop),Inv X a σ H s->Zc o d->Zc i c->Zc v u->t o i v H Q->
  wpAny (model X.prog X.w) X.A (yu d c u) (λ_ e=>∃ b,Inv X a σ b e/\Q b) X.xe s
noncomputable abbrev RB:=V->V->Hp->VK->Prop
noncomputable def NH(X:Cx)(b:Nk)(t:RB):Prop:=
 ∀ (a:List (Addr × vc)) (s:aa) (σ:St) (H:Hp) (x y:V) (v u:Value) (Q:VK),Inv X a σ H s->Zc x v->Zc y u->t x y H Q->
  wpAny (model X.prog X.w) X.A (BB b v u) (EP X a σ Q) X.xe s
section
variable{X:Cx}{pos:Ke}
noncomputable def aM(i:Nat):TG:=λv a H Q=>Q (a.set i (some v)) H
theorem AX{i:Nat}{x:Str}(hN:X.N.Nodup)(d:X.N[i]?=some x)(e:Loc X.env.scope x)(c:X.fn x=true\/X.env.scope.names.lookup x=some .local:=by first|exact .inl rfl|exact .inr rfl|assumption):PG X (.Name x pos) (aM i):=by
 intro a s g H v u Q I r h;exact iz (yE I hN d e r (λf b=>⟨_,H,b,h⟩) c)
noncomputable def sS:Cw:=λa b H Q=>a=[]/\Q b H
noncomputable def WR(t:TG)(u:Cw):Cw:=λc d H Q=>∃ v r,c=v::r/\t v d H λa b=>u r a b Q
theorem hW:gA X [] sS:=by
 intro a s b H d c Q I r h;obtain⟨e,h⟩:=h;subst e;cases r;exact assignInOrder_nil ⟨b,H,I,h⟩
theorem rZ{e:Ka}{b:List Ka}{t:TG}{u:Cw}(h1:PG X e t)(g:gA X b u)
  (i:(me (e::b) X.env).map (·.2)=Zh e X.env::(me b X.env).map (·.2):=by rfl):gA X (e::b) (WR t u):=by
 intro a s l H o m Q I r h;obtain⟨v,n,f,h⟩:=h;subst f;cases r with
 |cons r k=>
  rw[i];refine assignInOrder_cons (Od (h1 a s l H _ _ _ I r h) λ_ s1 ⟨c,H1,d,j⟩=>?_);exact g a s1 c H1 _ _ Q d k j
noncomputable def dY(K:W.Frag)(n:Nat)(t:Cw):TG:=λv b H Q=>∃ a xs,v=.ref a/\ph K H a xs/\xs.length=n/\t xs b H Q
theorem OT{d:List Ka}{k:Nat}{t:Cw}{n:Nat}(hc:X.calm=true)(h:gA X d t)
  (hn:(me d X.env).length=n:=by rfl) (f:(me d X.env).findIdx? (·.1)=none:=by rfl):PG X (.Tuple d k pos) (dY X.K n t):=by
 intro c s j H v u Q I r g;obtain⟨a,xs,m,hq,q,g⟩:=g;subst m;cases r;obtain⟨y,i,w,z⟩:=I.tuple hq;refine assign_Tuple_tuple (I.ok.hd hc) w (by simp[hn,<-q,i.length]) f λp x=>?_;have l:Inv X c j H { s with heap:=p }:=I.kept (t':=s.toks) λb o e=>x b o (Ea (va e)) e;exact h c _ j H xs _ Q l (by simpa using i) g
noncomputable def n4(to e:TE)(t:UC):TG:=λv a H Q=>to a H λo b=>e a b λi c=>t o i v c λd=>Q a d
theorem cN{o i:Ka}{to e:TE}{t:UC}(p:PE X o to)(n:PE X i e)(q:DF X t)
  (m:∀ v,Zh (.Subscript o i pos) X.env v=(do
   let b <-vf [v] (bc o X.env);let c <-vf [v,b] (bc i X.env)
   Vn pos
   vf [v,b,c] (yu b c v)
   i8 [v,b,c] []):=by intro _;rfl):PG X (.Subscript o i pos) (n4 to e t):=by
 intro a s d H v u Q I r h;rw[m];refine ba (Ad (Od (p a s d H _ I h) λb s1 ⟨x,H1,j,B,w⟩=>?_));refine ba (Ad (Od (n a s1 d H1 _ j w) λc s2 ⟨y,f,k,C,z⟩=>?_));refine ba (Rr (ba (Ad (Od (q a s2 d f x y v b c u _ k B C r z) λ_ s3 ⟨g,l,A⟩=>?_))));exact wpAny_release ⟨d,g,l,A⟩
noncomputable def zN(c:TE)(g:TG):TS:=λD a H=>c a H λx b=>g x a b D.nx
theorem TF{tg e:Ka}{b:TE}{g:TG}(f:PE X e b)(i:PG X tg g)(j:xm [tg] e pos.line X.env=pure false:=by rfl)(k:ym [tg] e X.env=pure none:=by rfl)
  (h1:(me [tg] X.env).map (·.2)=[Zh tg X.env]:=by rfl):PS X (.Assign [tg] e pos) (zN b g):=by
 intro a s c H D I h;refine wpAny_Assign_stores (Od (f a s c H _ I h) λv s1 ⟨x,H1,d,m,l⟩=>?_) j k;rw[h1];exact Od (i a s1 c H1 x v _ d m l) λ_ s2 q=>q
theorem iT{i:Nat}{x:Str}{e:Ka}{c:TE}{a:Ke}(hN:X.N.Nodup)(k:X.N[i]?=some x)(m:Loc X.env.scope x)(g:PE X e c)(l:dj e (some (.Name x a)) pos.line X.env=pure false:=by rfl)(j:X.fn x=true\/X.env.scope.names.lookup x=some .local:=by first|exact .inl rfl|exact .inr rfl|assumption) :
  PS X (.Assign [.Name x a] e pos) (zN c (aM i)):=by
 intro b s p H D I h;refine wpAny_Assign_Name (Od (g b s p H _ I h) λv s1 ⟨y,H1,d,o,n⟩=>?_) l;exact yE d hN k m o (λs2 f=>⟨_,H1,f,n⟩) j
noncomputable def FZ(i:Nat)(d:TE)(e:RB):TS:=λD a H=>∃ x,a[i]?=some (some x)/\d a H λy b=>e x y b λz c=>D.nx (a.set i (some z)) c
theorem K0{i:Nat}{x:Str}{e:Ka}{q:TE}{o:Nk}{t:RB}{f:Ke}(hN:X.N.Nodup)(p:X.N[i]?=some x)(n:Loc X.env.scope x)(K:PE X e q)(O:NH X o t)(L:X.fn x=true\/X.env.scope.names.lookup x=some .local:=by first|exact .inl rfl|exact .inr rfl|assumption) :
  PS X (.AugAssign (.Name x f) o e pos) (FZ i q t):=by
 intro a s B H D I h;obtain⟨v,J,h⟩:=h;obtain⟨m,hn,M⟩:=I.loc;have wD:vC X.env.scope x:=by rcases n with k|k;exact .inl k;exact .inr (.inl k)
 obtain⟨u,r,l⟩:=M i x v p J wD;refine wpAny_AugAssign_Name ?_;have go:wpAny (model X.prog X.w) X.A (bc e X.env) (λw g=>wpAny (model X.prog X.w) X.A (BB o u w) (λr j=>wpAny (model X.prog X.w) X.A (AB X.env x r) (λ_=>SP X a D .next) X.xe j) X.xe g) X.xe s:=by
  refine Od (K a s B H _ I h) λw s1 ⟨y,H1,E,R,P⟩=>?_;refine Od (O a s1 B H1 v y u w _ E r R P) λz s2 ⟨U,C,F,S,Q⟩=>?_;exact yE F hN p n S (λT G=>⟨_,C,G,Q⟩) L
 rcases l with⟨b,hm⟩|⟨b,c,hc,d⟩
 ·exact Xv I.ok.kind b hn hm go
 ·rcases b with b|b
  ·exact Pw I.ok.kind b hc d go
  ·rcases n with k|k
   ·have:X.env.scope.names.lookup x=some .free:=b;rw[k]at this;cases this
   ·have:X.env.scope.names.lookup x=some .free:=b;rw[k]at this;cases this
noncomputable def yN(f:Int->Int->Int):RB:=λx y H Q=>∃ i j,x=.int i/\y=.int j/\Q (.int (f i j)) H
theorem rJ:NH X .Add (yN λi j=>i+j):=by
 intro a s g H x y v u Q I d e h;obtain⟨i,j,b,c,q⟩:=h;subst b;subst c;obtain⟨t,rfl⟩:=d;obtain⟨f,rfl⟩:=e;exact iadd_int ⟨.int _,H,I.tok _,⟨_,rfl⟩,q⟩
end
section
variable{X:Cx}{pos:Ke}
end
structure It where
 go:Nat->Hp->Prop
 vy:Nat->Hp->V->Hp->Prop
 stop:Nat->Hp->Prop
noncomputable def Vl(X:Cx)(a:List (Addr × vc))(H:Hp)(b:Addr):Prop:=
 H b=none/\b≠X.env.locals/\b ∉ X.fs/\(b∈X.ex\/X.s₀.heap.objs.size<=b)/\(∀ x c,X.env.cells.lookup x=some c->c≠b)/\∀ p∈X.pn++a,p.1≠b
theorem Inv.Qp{X:Cx}{a:List (Addr × vc)}{σ:St}{H d:Hp}{s:aa}{b:Addr}(I:Inv X a σ H s)(hb:s.heap.objs.size<=b)(hn:d b=none):Vl X a d b:=by
 refine⟨hn,og (Ha I.lt hb),I.DA hb,.inr (Sb I.sz hb),λx c e z=>?_,λp hp z=>?_⟩
 ·obtain⟨v,q⟩:=I.cell x c e;exact absurd (Ha q.lt (by rw[z];exact hb)) (pd _)
 ·exact absurd (Ha (va (I.pin p hp).1) (by rw[z];exact hb)) (pd _)
structure Turn(P:wa)(w:Ja)(K:W.Frag)(tg:Ka)(J:It)(fp:List Addr)(it:Addr)(tn:Nat->Heap->Prop):Prop where
 mem:it∈fp
 obj:∀ i h,tn i h->∀ b∈fp,∃ o,h.get? b=some o/\∀ v,o.data≠.cell v
 keep:∀ i h h',tn i h->(∀ b∈fp,∀ o,h.get? b=some o->h'.get? b=some o)->tn i h'
 item:∀ (X:Cx),X.prog=P->X.w=w->X.K=K->X.calm=true->∀ (i:Nat) (pins:List (Addr × vc)) (s:aa) (σ:St) (H:Hp) (E:Value->aa->Prop),Inv X pins σ H s->(∀ b∈fp,Vl X pins H b)->tn i s.heap->J.go i H->
  wpAny (model P w) X.A (pyNext (.ref it)) (λr s1=>∃ u,r=some u/\
   wpAny (model P w) X.A (letOwnedTupleGo tg (.ref it) u) (λ_ s2=>∃ x H',Inv X pins σ H' s2/\Zc x u/\J.vy i H x H'/\tn (i+1) s2.heap/\∀ b∈fp,H' b=none) E s1) E s
 done:∀ (X:Cx),X.prog=P->X.w=w->X.K=K->X.calm=true->∀ (i:Nat) (pins:List (Addr × vc)) (s:aa) (σ:St) (H:Hp) (E:Value->aa->Prop),Inv X pins σ H s->(∀ b∈fp,Vl X pins H b)->tn i s.heap->J.stop i H->
  wpAny (model P w) X.A (pyNext (.ref it)) (λr s1=>r=none/\Inv X pins σ H s1) E s
 self:∀ (A:Ia) (i:Nat) (s:aa) (Q:Value->aa->Prop) (E:Value->aa->Prop),tn i s.heap->Q (.ref it) s->wpAny (model P w) A (pyIter (.ref it)) Q E s
noncomputable abbrev TI:=St->Hp->(It->Hp->Prop)->Prop
noncomputable def IN(X:Cx)(a:List (Addr × vc))(σ:St)(tg:Ka)(R:It->Hp->Prop)(d:Value)(s2:aa):Prop:=
 ∃ (f:Addr) (e:List Addr) (g:Nat->Heap->Prop) (J:It) (c:Hp),d=.ref f/\Inv X a σ c s2/\Turn X.prog X.w X.K tg J e f g/\g 0 s2.heap/\(∀ b∈e,Vl X a c b)/\R J c
noncomputable def PI(X:Cx)(tg b:Ka)(c:TI):Prop:=
 ∀ (a:List (Addr × vc)) (s:aa) (σ:St) (H:Hp) (R:It->Hp->Prop),Inv X a σ H s->c σ H R->
  wpAny (model X.prog X.w) X.A (bc b X.env) (λv s1=>wpAny (model X.prog X.w) X.A (pyIter v) (IN X a σ tg R) X.xe s1) X.xe s
theorem rG {M : Lk} {A : Ia} {E : Value -> aa -> Prop} {s : aa} {tg : Ka} {it : Addr} {u : Value} {o : vc} {n : String} {vs : Array Value} {Q : Unit -> aa -> Prop} (b : s.heap.get? it = some o) (hc : o.cls = .type n) (hd : o.data = .fields vs)
    (hn : ["enumerate", "zip", "dict_itemiterator", "dict_reverseitemiterator", "odict_iterator", "itertools.zip_longest", "itertools.pairwise"].contains n = false) (a : Q () s) : wpAny M A (letOwnedTupleGo tg (.ref it) u) Q E s := by
  unfold letOwnedTupleGo;cases tg <;> first
    | exact ra a
    | (cases u <;> first
        | exact ra a
        | (refine ba (Zx b ?_)
           rw [hc, hd];show wpAny M A (if (["enumerate", "zip", "dict_itemiterator", "dict_reverseitemiterator", "odict_iterator", "itertools.zip_longest", "itertools.pairwise"].contains n && vs[0]? == some (pe _)) = true then _ else _) Q E s;rw [ga (by intro h; rw [hn, Bool.false_and] at h; cases h)];exact ra a))
noncomputable def mI(K:W.Frag)(a:Addr):It:=
 ⟨λi H=>∃ xs x,Qe K H a xs/\xs[i]?=some x,λi H x b=>b=H/\∀ xs,Qe K H a xs->xs[i]?=some x,λi H=>∃ xs,Qe K H a xs/\xs.length<=i⟩
noncomputable def QH(K:W.Frag)(a:Addr):It:=
 ⟨λi H=>∃ xs x,ph K H a xs/\xs[i]?=some x,λi H x b=>b=H/\∀ xs,ph K H a xs->xs[i]?=some x,λi H=>∃ xs,ph K H a xs/\xs.length<=i⟩
noncomputable def cJ(b:Int)(n:Nat):It:=⟨λi _=>i<n,λi H x a=>a=H/\x=.int (b+i),λi _=>n<=i⟩
theorem vX{P:wa}{w:Ja}{K:W.Frag}{tg:Ka}(a it:Addr):Turn P w K tg (mI K a) [it] it (λi h=>h.IsListIter it a i) where
 mem:=by simp
 obj:=λi h st b hb=>by
  have e:b=it:=by simpa using hb
  subst e;obtain⟨o,e,c,d⟩:=st;exact⟨o,e,λv z=>by rw[d]at z;cases z⟩
 keep:=λi h j st k=>st.at λo e=>k it (by simp) o e
 item:=by
  intro X A C y hc i f s J H E I l st B;subst A C y;obtain⟨xs,x,hq,D⟩:=B;obtain⟨F,G,p,Q⟩:=I.list hq;obtain⟨u,O,R⟩:=G.get D;obtain⟨m,n,N,q,r,t⟩:=l it (by simp);refine wpAny_pyNext_list_item st p.isList (x:=u) (by simpa using O) λj g S=>?_;have L:Inv X f J H { s with heap:=j }:=I.turned (t':=s.toks) (λb o hb e=>(S.2 b hb).trans e) m n q r t;obtain⟨o,e,c,d⟩:=id g;exact⟨u,rfl,rG (s:={ s with heap:=j }) e c d (by decide) ⟨x,H,L,R,⟨rfl,λU hy=>by rw[I.Sj hy hq];exact D⟩,g,λb hb=>(l b hb).1⟩⟩
 done:=by
  intro X A C y hc i f s J H E I l st B;subst A C y;obtain⟨xs,hq,D⟩:=B;obtain⟨F,G,p,Q⟩:=I.list hq;obtain⟨m,n,N,q,r,t⟩:=l it (by simp);have T:=G.length;exact wpAny_pyNext_list_end (I.ok.hd hc) st p.isList (by simp;omega) λj M=>⟨rfl,I.turned (t':=s.toks) (λb o hb e=>M b o hb e) m n q r t⟩
 self:=λ_ _ _ _ _ st h=>wpAny_pyIter_listiter st h
theorem G2{P:wa}{w:Ja}{K:W.Frag}{tg:Ka}(a it:Addr):Turn P w K tg (QH K a) [it] it (λi h=>h.IsTupleIter it a i) where
 mem:=by simp
 obj:=λi h st b hb=>by
  have e:b=it:=by simpa using hb
  subst e;obtain⟨o,e,c,d⟩:=st;exact⟨o,e,λv z=>by rw[d]at z;cases z⟩
 keep:=λi h l st k=>st.at λo e=>k it (by simp) o e
 item:=by
  intro X B D A hc i f s J H E I m st C;subst B D A;obtain⟨xs,x,hq,F⟩:=C;obtain⟨g,G,p,Q⟩:=I.tuple hq;obtain⟨u,O,R⟩:=G.get F;obtain⟨n,q,N,r,t,y⟩:=m it (by simp);refine wpAny_pyNext_tuple_item st (show s.heap.IsTuple a g.toArray from p) (x:=u) (by simpa using O) λl j S=>?_;have L:Inv X f J H { s with heap:=l }:=I.turned (t':=s.toks) (λb o hb e=>(S.2 b hb).trans e) n q r t y;obtain⟨o,e,c,d⟩:=id j;exact⟨u,rfl,rG (s:={ s with heap:=l }) e c d (by decide) ⟨x,H,L,R,⟨rfl,λU hy=>by rw[I.Ir hy hq];exact F⟩,j,λb hb=>(m b hb).1⟩⟩
 done:=by
  intro X B D A hc i f s J H E I m st C;subst B D A;obtain⟨xs,hq,F⟩:=C;obtain⟨g,G,p,Q⟩:=I.tuple hq;obtain⟨n,q,N,r,t,y⟩:=m it (by simp);have T:=G.length;exact wpAny_pyNext_tuple_end (I.ok.hd hc) st (show s.heap.IsTuple a g.toArray from p) (by simp;omega) λl M=>⟨rfl,I.turned (t':=s.toks) (λb o hb e=>M b o hb e) n q r t y⟩
 self:=λ_ _ _ _ _ st h=>wpAny_pyIter_tupleiter st h
theorem FY{P:wa}{w:Ja}{K:PySem.W.Frag}{tg:Ka}(it:Addr)(g:Int)(n:Nat):Turn P w K tg (cJ g n) [it] it (λi h=>IsRangeIter h it (g+(i:Nat) * 1) ((n:Int) - (i:Nat)) 1) where
 mem:=by simp
 obj:=λi h st b hb=>by
  have e:b=it:=by simpa using hb
  subst e;exact⟨_,st,λv z=>by
   have L:Data.fields _=Data.cell v:=z;cases L⟩
 keep:=λi h d st k=>k it (by simp) _ st
 item:=by
  intro X u y r hc i a s B H E I f st x;subst u y r;obtain⟨j,l,F,m,p,q⟩:=f it (by simp);have W:=Walks.range (prog:=X.prog) (w:=X.w) (I.ok.hd hc) it g 1 n;refine W.item i s _ _ x st λv d A G c J=>?_;obtain⟨t,rfl⟩:=G;have C:Inv X a B H { s with heap:=d,toks:=A }:=I.turned (λb o hb e=>J b o (by simpa using hb) e) j l m p q;refine⟨_,rfl,rG (s:={ s with heap:=d,toks:=A }) (n:="range_iterator") c rfl rfl (by decide) ⟨.int (g+i),H,C,⟨t,?_⟩,⟨rfl,rfl⟩,c,λb hb=>(f b hb).1⟩⟩;rw[Int.mul_one]
 done:=by
  intro X u y r hc i a s B H E I f st x;subst u y r;obtain⟨j,l,F,m,p,q⟩:=f it (by simp);exact wpAny_pyNext_range_end (I.ok.hd hc) st (by have:n<=i:=x;omega) λd D=>⟨rfl,I.turned (t':=s.toks) (λb o hb e=>D b o hb e) j l m p q⟩
 self:=λ_ _ _ _ _ st h=>wpAny_pyIter_rangeiter st h
section
variable{X:Cx}{tg:Ka}
theorem zZ{c:List (Addr × vc)}{σ:St}{H:Hp}{s:aa}{R:It->Hp->Prop}{E:Value->aa->Prop}{lo a:Int}{t u v:g8}{tk:Nat}(I:Inv X c σ H s)(h1:-(2 ^ 62)<=lo)(h:lo<2 ^ 62)(h3:-(2 ^ 62)<=a)(h4:a<2 ^ 62)
  (q:R (cJ lo (a - lo).toNat) H):wpAny (model X.prog X.w) X.A (pyIter (.ref s.heap.objs.size)) (IN X c σ tg R) E { s with heap:=s.heap.push { cls:=.type "range",data:=.fields #[.int lo t,.int a u,.int 1 v] },toks:=tk }:=by
 refine wpAny_pyIter_range (IsRange.new ..) (small_one h1 h h3 h4) ?_;have d:Inv X c σ H { s with heap:=s.heap.push { cls:=.type "range",data:=.fields #[.int lo t,.int a u,.int 1 v] },toks:=tk }:=I.kept λb o e=>la _ e;refine⟨(s.heap.push { cls:=.type "range",data:=.fields #[.int lo t,.int a u,.int 1 v] }).objs.size,[(s.heap.push { cls:=.type "range",data:=.fields #[.int lo t,.int a u,.int 1 v] }).objs.size],_,_,H,rfl,
  d.kept (t':=tk) λb o e=>la _ e,FY _ lo (a - lo).toNat,?_,λb hb=>?_,q⟩
 ·have f:lo+((0:Nat):Int) * 1=lo:=by simp
  have g:(((a - lo).toNat:Nat):Int) - ((0:Nat):Int)=CB lo a 1:=by rw[rangeSize_one];split<;>omega
  show IsRangeIter _ _ (lo+((0:Nat):Int) * 1) ((((a - lo).toNat:Nat):Int) - ((0:Nat):Int)) 1;rw[f,g];exact Xa _ rfl
 ·have e:b=(s.heap.push { cls:=.type "range",data:=.fields #[.int lo t,.int a u,.int 1 v] }).objs.size:=by simpa using hb
  subst e;exact d.Qp (za _) (d.cc.fresh (za _))
noncomputable def iS(b:TA):TI:=λd H R=>b d H λc a=>∃ j:Int,c=[.int j]/\-(2 ^ 62)<=j/\j<2 ^ 62/\R (cJ 0 j.toNat) a
theorem e5{a:Ka}{f:TA}{p c:Ke}(k:Gl X "range")(hm:X.mg "range" = none)(i:PA X [a] f)(l:ua [a] X.env=[(false,bc a X.env)]:=by rfl):PI X tg (.Call (.Name "range" p) [a] [] c) (iS f):=by
 intro b s u H R I h;refine Call_ (jw I k hm boot_range (Ie (Od (i c b s u H _ I h) λus s1 ⟨v,H1,g,n,d⟩=>?_) l rfl));obtain⟨j,e,d,m,q⟩:=d;subst e;cases n with
 |cons r o=>
  cases o;obtain⟨t,rfl⟩:=r;exact call_range_1 (zZ g (by omega) (by omega) d m (by simpa using q))
noncomputable def LX(j:TI)(g:TG)(tb:TS):TS:=λD a H=>j a H λJ f=>∃ W:Nat->Nat->St->Hp->Prop,(∃ m,W 0 m a f)/\∀ i m a H,W i m a H->
 (J.stop i H/\D.nx a H)\/(J.go i H/\∃ N:St->Hp->Prop,(∀ c b,N c b->∃ e,e<m/\W (i+1) e c b)/\∀ x b,J.vy i H x b->g x a b λd h=>tb { D with nx:=N,ct:=N,bk:=D.nx } d h)
noncomputable def iA(a:List Addr)(h:Heap):List (Addr × vc):=a.filterMap λb=>(h.get? b).map λo=>(b,o)
theorem xE{a:List Addr}{h:Heap}{b:Addr}{o:vc}(hb:b∈a)(e:h.get? b=some o):(b,o)∈iA a h:=ik.mpr ⟨b,hb,by rw[e];rfl⟩
theorem rW{a:List Addr}{h:Heap}{p:Addr × vc}(hp:p∈iA a h):p.1∈a/\h.get? p.1=some p.2:=by
 obtain⟨b,hb,e⟩:=ik.mp hp;cases q:h.get? b with
 |none=>rw[q]at e;cases e
 |some o=>
  rw[q]at e;have c:(b,o)=p:=ub e;subst c;exact⟨hb,q⟩
theorem Inv.pinned{a:List (Addr × vc)}{σ:St}{H:Hp}{s:aa}{c:List Addr}(I:Inv X a σ H s)(j:∀ b∈c,Vl X a H b)(k:∀ b∈c,∃ o,s.heap.get? b=some o/\∀ v,o.data≠.cell v):Inv X (a++iA c s.heap) σ H s:=
 I.Oi λp hp=>(Qg.mp hp).elim (λz=>I.pin p (Na _ z)) λz=>by
  obtain⟨hb,e⟩:=rW z;obtain⟨g,h,i,_⟩:=j p.1 hb;obtain⟨o,f,d⟩:=k p.1 hb;rw[e]at f;cases f;exact⟨e,g,h,i,d⟩
theorem Inv.Qj{a pl:List (Addr × vc)}{σ:St}{H:Hp}{s:aa}(I:Inv X (a++pl) σ H s):Inv X a σ H s:=I.Oi λp hp=>I.pin p (Na _ (Qa _ hp))
theorem sK{p:Ka}{body:List Stmt}{wi:TI}{g:TG}{tb:TS}{Q:Ke}(hp:Yo (model X.prog X.w) X.A X.env X.xe)(hc:X.calm=true)(hi:PI X tg p wi)(hg:PG X tg g)(hb:mr X body tb)
  (hs:∀ x,Ag p X.env x=pure x:=by intro _;rfl):PS X (.For tg p body [] Q) (LX wi g tb):=by
 intro a s σ H D I h;refine wpAny_For (Od (hi a s σ H _ I h) λv s1 h1=>Od h1 λa0 s2 h2=>?_) hs;obtain⟨it,C,tn,J,H2,e,I2,T,S,Z,W,⟨m0,w0⟩,K⟩:=h2;subst e;have q:∀ {H':Hp},(∀ b∈C,H' b=none)->∀ b∈C,Vl X a H' b:=λhn b hb=>⟨hn b hb,(Z b hb).2⟩
 refine codeAny_forLoop_any (λn s'=>∃ i t H',Inv X a t H' s'/\tn i s'.heap/\(∀ b∈C,H' b=none)/\W i n t H') ?_ m0 ⟨0,σ,H2,I2,S,λb hb=>(Z b hb).1,w0⟩;rintro n s3 ⟨i,y,L,Y,G,E,w3⟩;rcases K i n y L w3 with⟨stop,qn⟩|⟨go,N,hN,step⟩
 ·refine wh hp (Od (T.done X rfl rfl rfl hc i a s3 y L X.xe Y (q E) G stop) λr s4 ⟨P,I4⟩=>?_);subst P;exact Hj ⟨y,L,I4,qn⟩
 ·refine wh hp (Od (T.item X rfl rfl rfl hc i a s3 y L X.xe Y (q E) G go) λr s4 ⟨u,P,h4⟩=>?_);subst P;refine wh hp (Od h4 λ_ s5 ⟨x,V,I5,r5,y5,B,O⟩=>?_);have M:=I5.pinned (q O) (T.obj _ _ B);refine wh hp (Od (hg _ s5 y V x u _ M r5 (step x V y5)) λ_ s6 ⟨U,H6,I6,q6⟩=>?_);refine wh hp (Od (hb _ s6 U H6 _ I6 q6) λf R z=>?_);have l:∀ {c:St} {j:Hp},Inv X (a++iA C s5.heap) c j R->N c j->∃ m,m<n/\∃ i t H',Inv X a t H' R/\tn i R.heap/\(∀ b∈C,H' b=none)/\W i m t H':=fun {c j} k F=>by
   obtain⟨m',hm,w7⟩:=hN c j F;refine⟨m',hm,i+1,c,j,k.Qj,T.keep _ _ _ B λb hb o e=>(k.pin (b,o) (Na _ (Na _ (xE hb e)))).1,λb hb=>?_,w7⟩;obtain⟨o,e,d⟩:=T.obj _ _ B b hb;exact(k.pin (b,o) (Na _ (Na _ (xE hb e)))).2.1
  cases f with
  |next=>obtain⟨c,j,k,F⟩:=z;exact l k F
  |cont=>obtain⟨c,j,k,F⟩:=z;exact l k F
  |brk=>obtain⟨c,j,k,z⟩:=z;exact⟨c,j,k.Qj,z⟩
  |ret v=>obtain⟨x7,c,j,k,r7,z⟩:=z;exact⟨x7,c,j,k.Qj,r7,z⟩
end
noncomputable abbrev R2:=V->V->Hp->VK->Prop
noncomputable def Nh(X:Cx)(f:Value->Value->Ap Value)(r:R2):Prop:=
 ∀ (a:List (Addr × vc)) (s:aa) (σ:St) (H:Hp) (x y:V) (v u:Value) (Q:VK),Inv X a σ H s->Zc x v->Zc y u->r x y H Q->
  wpAny (model X.prog X.w) X.A (f v u) (EP X a σ Q) X.xe s
noncomputable def FC(X:Cx)(f:Value->Ap Value)(r:V->Hp->VK->Prop):Prop:=
 ∀ (a:List (Addr × vc)) (s:aa) (σ:St) (H:Hp) (x:V) (v:Value) (Q:VK),Inv X a σ H s->Zc x v->r x H Q->
  wpAny (model X.prog X.w) X.A (f v) (EP X a σ Q) X.xe s
noncomputable def kn(X:Cx)(f:Value)(r:List V->Hp->VK->Prop):Prop:=
 ∀ (a:List (Addr × vc)) (s:aa) (σ:St) (H:Hp) (xs:List V) (us:List Value) (Q:VK),Inv X a σ H s->Ud xs us->r xs H Q->
  wpAny (model X.prog X.w) X.A (call f us) (EP X a σ Q) X.xe s
noncomputable def Qy(r:R2)(d tb:TE):TE:=λa H Q=>d a H λx b=>tb a b λy c=>r x y c Q
noncomputable def S6(r:V->Hp->VK->Prop)(b:TE):TE:=λc H Q=>b c H λx a=>r x a Q
noncomputable def rI(C:Int->Int->Prop)(g:Int->Int->V):R2:=λx y H Q=>∃ i j,x=.int i/\y=.int j/\C i j/\Q (g i j) H
noncomputable def Aq(g:Int->Int->V):R2:=λx y H Q=>∃ i j,x=.int i/\y=.int j/\Q (g i j) H
noncomputable def rU(g:Int->V):V->Hp->VK->Prop:=λx H Q=>∃ i,x=.int i/\Q (g i) H
section
variable{X:Cx}{a b c:Ka}{ta tb tc:TE}{pos:Ke}
theorem WG(l:PE X a ta)(hb:PE X b tb){c:List (Addr × vc)}{s:aa}{σ:St}{H:Hp}{R:V->V->Hp->Prop}(I:Inv X c σ H s)
  (h:ta σ H λx i=>tb σ i λy d=>R x y d) {Q:Value->aa->Prop} {f:Value->Value->Ap Value}
  (m:∀ v u s2 x y d,Inv X c σ d s2->Zc x v->Zc y u->R x y d->wpAny (model X.prog X.w) X.A (f v u) Q X.xe s2) :
  wpAny (model X.prog X.w) X.A (bc a X.env) (λv e=>wpAny (model X.prog X.w) X.A (bc b X.env) (λu g=>wpAny (model X.prog X.w) X.A (f v u) Q X.xe g) X.xe e) X.xe s:=by
 refine Od (l c s σ H _ I h) λv s1 ⟨x,i,j,p,n⟩=>?_;refine Od (hb c s1 σ i _ j n) λu s2 ⟨y,d,k,q,o⟩=>?_;exact m v u s2 x y d k p q o
theorem i6{d:Nk}{r:R2}(i:Nh X (lf d) r)(g:PE X a ta)(hb:PE X b tb):PE X (.BinOp a d b pos) (Qy r ta tb):=by
 intro c s l H Q I h;exact wpAny_BinOp (WG g hb I h λv u s2 x y e f j k q=>i c s2 l e x y v u Q f j k q)
theorem DW{c:UnaryOp}{r:V->Hp->VK->Prop}(g:FC X (j8 c) r)(f:PE X a ta):PE X (.UnaryOp c a pos) (S6 r ta):=by
 intro b s d H Q I h;exact UnaryOp_ (Od (f b s d H _ I h) λv s1 ⟨x,H1,e,j,i⟩=>g b s1 d H1 x v Q e j i)
theorem JF{f:Value->Value->Ap Value}{C:Int->Int->Prop}{g:Int->Int->Int}
  (a:∀ (i j:Int) (t u:g8) (s:aa) (Q:Value->aa->Prop) (E:Value->aa->Prop),C i j->Q (.int (g i j) s.toks) { s with toks:=s.toks+1 }->wpAny (model X.prog X.w) X.A (f (.int i t) (.int j u)) Q E s) :
  Nh X f (rI C λi j=>.int (g i j)):=by
 intro b s k H x y v u Q I c d h;obtain⟨i,j,rfl,rfl,hc,q⟩:=h;obtain⟨t,rfl⟩:=c;obtain⟨e,rfl⟩:=d;exact a i j t e s _ _ hc ⟨.int (g i j),H,I.tok _,⟨_,rfl⟩,q⟩
theorem vO{f:Value->Value->Ap Value}{g:Int->Int->Int}
  (a:∀ (i j:Int) (t u:g8) (s:aa) (Q:Value->aa->Prop) (E:Value->aa->Prop),Q (.int (g i j) s.toks) { s with toks:=s.toks+1 }->wpAny (model X.prog X.w) X.A (f (.int i t) (.int j u)) Q E s) :
  Nh X f (Aq λi j=>.int (g i j)):=by
 intro b s k H x y v u Q I c d h;obtain⟨i,j,rfl,rfl,q⟩:=h;obtain⟨t,rfl⟩:=c;obtain⟨e,rfl⟩:=d;exact a i j t e s _ _ ⟨.int (g i j),H,I.tok _,⟨_,rfl⟩,q⟩
theorem tD{f:Value->Value->Ap Value}{g:Int->Int->Bool}
  (a:∀ (i j:Int) (t u:g8) (s:aa) (Q:Value->aa->Prop) (E:Value->aa->Prop),Q (.bool (g i j)) s->wpAny (model X.prog X.w) X.A (f (.int i t) (.int j u)) Q E s) :
  Nh X f (Aq λi j=>.bl (g i j)):=by
 intro b s k H x y v u Q I c d h;obtain⟨i,j,rfl,rfl,q⟩:=h;obtain⟨t,rfl⟩:=c;obtain⟨e,rfl⟩:=d;exact a i j t e s _ _ ⟨.bl (g i j),H,I,rfl,q⟩
noncomputable def uN(i j:Int):Prop:=0<j/\j<1073741824
noncomputable def OJ(i j:Int):Prop:=0<=j/\j<=1000000/\i.natAbs<2 ^ 64
noncomputable def OL(i j:Int):Prop:=(-(2 ^ 64)<i/\i<2 ^ 64)\/(-(2 ^ 64)<j/\j<2 ^ 64)
theorem OL.ok{i j:Int}(h:OL i j):IntMulOk i j:=by
 rcases h with⟨h1,a⟩|⟨h1,a⟩
 ·exact .of_left (LQ h1 a)
 ·exact .of_right (LQ h1 a)
theorem qU:Nh X (lf .Add) (Aq λi j=>.int (i+j)):=vO λ_ _ _ _ _ _ _ q=>add_int q
theorem Fv:Nh X (lf .Sub) (Aq λi j=>.int (i - j)):=vO λ_ _ _ _ _ _ _ q=>sub_int q
theorem Kx:Nh X (lf .FloorDiv) (rI uN λi j=>.int (i / j)):=JF λi j _ _ _ _ _ hc q=>by
 have h1:(0:Int)<j:=hc.1;have a:j<1073741824:=hc.2;exact floordiv_int (by omega) (by rw[Int.fdiv_eq_ediv_of_nonneg i (by omega)];exact q) (.inl (PyProof.noPylong_small (by omega)))
theorem rq:Nh X (lf .Mod) (rI (λ_ j=>0<j) λi j=>.int (i % j)):=JF λi j _ _ _ _ _ hc q=>by
 have h1:(0:Int)<j:=hc;exact mod_int' (by omega) (by rw[Int.fmod_eq_emod_of_nonneg i (by omega)];exact q)
theorem kN:Nh X (lf .Pow) (rI OJ λi j=>.int (i ^ j.toNat)):=JF λ_ _ _ _ _ _ _ hc q=>pow_int_small hc.1 hc.2.1 hc.2.2 q
theorem L5{f:Value->Ap Value}{g:Int->Int}
  (a:∀ (i:Int) (t:g8) (s:aa) (Q:Value->aa->Prop) (E:Value->aa->Prop),Q (.int (g i) s.toks) { s with toks:=s.toks+1 }->wpAny (model X.prog X.w) X.A (f (.int i t)) Q E s) :
  FC X f (rU λi=>.int (g i)):=by
 intro b s d H x v Q I c h;obtain⟨i,rfl,q⟩:=h;obtain⟨t,rfl⟩:=c;exact a i t s _ _ ⟨.int (g i),H,I.tok _,⟨_,rfl⟩,q⟩
theorem Tz:FC X (j8 .USub) (rU λi=>.int (-i)):=L5 λ_ _ _ _ _ q=>neg_int q
end
section
variable{X:Cx}{a b c:Ka}{ta tb tc:TE}{pos:Ke}
theorem tO{a:List (Addr × vc)}{σ:St}{H:Hp}{s:aa}{Q:VK}{k b:Bool}(I:Inv X a σ H s)(q:Q (.bl k) H)(e:k=b):EP X a σ Q (.bool b) s:=by
 subst e;exact⟨.bl k,H,I,rfl,q⟩
theorem qy:Nh X (Ib .Lt) (Aq λi j=>.bl (decide (i<j))):=tD λ_ _ _ _ _ _ _ q=>lt_int q
theorem jH:Nh X (Ib .LtE) (Aq λi j=>.bl (decide (i<=j))):=tD λ_ _ _ _ _ _ _ q=>le_int q
theorem BE:Nh X (Ib .Gt) (Aq λi j=>.bl (decide (j<i))):=tD λ_ _ _ _ _ _ _ q=>gt_int q
theorem xH:Nh X (Ib .GtE) (Aq λi j=>.bl (decide (j<=i))):=tD λ_ _ _ _ _ _ _ q=>ge_int q
theorem bD:Nh X (Ib .Is) (λx y H Q=>y=.zb/\Q (.bl (decide (x=.zb))) H):=by
 intro a s d H x y v u Q I b c h;obtain⟨rfl,q⟩:=h;cases c;refine is_none_gen (tO I q ?_);cases x<;>first
  |(cases b;rfl)
  |(obtain⟨t,rfl⟩:=b;rfl)
theorem IR:Nh X (Ib .IsNot) (λx y H Q=>y=.zb/\Q (.bl (!decide (x=.zb))) H):=by
 intro a s d H x y v u Q I b c h;obtain⟨rfl,q⟩:=h;cases c;refine isnot_none_gen (tO I q ?_);cases x<;>first
  |(cases b;rfl)
  |(obtain⟨t,rfl⟩:=b;rfl)
theorem Nh.or{f:Value->Value->Ap Value}{r b:R2}(h:Nh X f r)(h':Nh X f b):Nh X f (λx y H Q=>r x y H Q\/b x y H Q):=by
 intro a s e H x y v u Q I c d q;rcases q with q|q
 ·exact h a s e H x y v u Q I c d q
 ·exact h' a s e H x y v u Q I c d q
theorem se(b:Ka){a:Bp}(h:a≠.In:=by decide)(e:a≠.NotIn:=by decide):Je a b=false:=by
 have c:(a == kJ)=false:=by cases a<;>first|rfl|exact absurd rfl h
 have d:(a == qz)=false:=by cases a<;>first|rfl|exact absurd rfl e
 cases b<;>simp[Je,c,d]
theorem KW{d:Bp}{r:R2}(i:Nh X (Ib d) r)(g:PE X a ta)(hb:PE X b tb)(hm:Je d b=false):PE X (.Compare a [d] [b] pos) (Qy r ta tb):=by
 intro c s l H Q I h;exact wpAny_Compare1 (WG g hb I h λv u s2 x y e f j k q=>i c s2 l e x y v u Q f j k q) hm
noncomputable def z7(t:TE):TT:=λb H Q=>t b H λx a=>∃ k,x=.bl k/\Q k a
theorem KL{f:Bp}{r:R2}(p:Nh X (Ib f) r)(o:PE X a ta)(hb:PE X b tb)(hm:Je f b=false):PT X (.Compare a [f] [b] pos) (z7 (Qy r ta tb)):=by
 intro d s g H Q I h;refine Qu (Od (o d s g H _ I h) λv s1 ⟨x,H1,l,A,q⟩=>Od (hb d s1 g H1 _ l q) λu s2 ⟨y,i,m,B,t⟩=>
  Od (p d s2 g i x y v u _ m A B t) λc s3 ⟨z,j,n,C,k,e,w⟩=>?_) hm
 subst e;cases C;exact Yc ⟨j,n,w⟩
noncomputable def M5(r f:R2)(ta tb tc:TE):TE:=λa H Q=>ta a H λx c=>tb a c λy d=>r x y d λz b=>∃ k,z=.bl k/\
 (if k=true then tc a b λg e=>f y g e Q else Q (.bl false) b)
theorem KU{l g:Bp}{r p:R2}(E:Nh X (Ib l) r)(j:Nh X (Ib g) p)(D:PE X a ta)(hb:PE X b tb)(hc:PE X c tc)
  (hm:lastMarks [l,g] [b,c]=false:=by with_unfolding_all rfl):PE X (.Compare a [l,g] [b,c] pos) (M5 r p ta tb tc):=by
 intro f s i H Q I h;refine Compare_chain (Od (D f s i H _ I h) λv s1 ⟨x,H1,A,K,F⟩=>chain_link (Od (hb f s1 i H1 _ A F) λu s2 ⟨y,t,B,q,G⟩=>
  Od (E f s2 i t x y v u _ B K q G) λd s3 ⟨z,m,n,L,k,e,o⟩=>?_)) hm
 subst e;cases L;refine Yc ?_;cases k with
 |false=>exact ite_ff ⟨.bl false,m,n,rfl,o⟩
 |true=>exact ite_tt (chain_last (Od (hc f s3 i m _ n o) λN s4 ⟨O,w,C,M,J⟩=>j f s4 i w y O u N Q C q M J))
theorem DC:(sizeLine:Nat)<2 ^ 63:=by rw[sizeLine_eq];decide
theorem jY:Nh X (lf .Add) (λx y H Q=>∃ i j,x=.str i/\y=.str j/\i.length+j.length<=sizeLine/\Q (.str (i++j)) H):=by
 intro a s g H x y v u Q I c d h;obtain⟨i,j,rfl,rfl,b,q⟩:=h;obtain⟨t,rfl⟩:=c;obtain⟨e,rfl⟩:=d;exact add_str (λe f=>⟨.str (i++j),H,I.tok _,⟨_,rfl⟩,q⟩) b
theorem js{x:V}{us:List Value}(r:Ud [x] us):∃ u,us=[u]/\Zc x u:=by
 cases r with
 |cons a b=>cases b;exact⟨_,rfl,a⟩
theorem QO{x y:V}{us:List Value}(r:Ud [x,y] us):∃ u w',us=[u,w']/\Zc x u/\Zc y w':=by
 cases r with
 |cons a b=>
  cases b with
  |cons c d=>cases d;exact⟨_,_,rfl,a,c⟩
theorem A2(hc:X.calm=true):kn X (.builtin "max") (λxs H Q=>∃ i j,xs=[.int i,.int j]/\Q (.int (if j > i then j else i)) H):=by
 intro b s l H xs f Q I r h;obtain⟨i,j,rfl,q⟩:=h;obtain⟨u,g,rfl,⟨t,rfl⟩,⟨d,rfl⟩⟩:=QO r;refine max_two_ints (I.ok.hd hc) λc e k=>⟨_,H,I.kept k,?_,q⟩
 by_cases a:j > i
 ·rw[da a,da a];exact⟨_,rfl⟩
 ·rw[ga a,ga a];exact⟨_,rfl⟩
theorem X2:kn X (.type "int") (λxs H Q=>(∃ i,xs=[.int i]/\Q (.int i) H)\/∃ k,xs=[.bl k]/\Q (.int (if k then 1 else 0)) H):=by
 intro a s d H xs c Q I r h;rcases h with⟨i,rfl,q⟩|⟨k,rfl,q⟩
 ·obtain⟨u,rfl,t,rfl⟩:=js r;exact call_int_int ⟨.int i,H,I,⟨_,rfl⟩,q⟩
 ·obtain⟨u,rfl,b⟩:=js r;cases b;exact call_int_bool ⟨.int (if k then 1 else 0),H,I.tok _,⟨_,rfl⟩,q⟩
end
structure tq(h:Heap)(x dx C:Addr)(mA:Str->Option Value):Prop where
 obj:h.get? x=some (W.instObj C dx)
 ns:h.Ns1 dx mA
 ne:dx≠x
theorem L0{h:Heap}{c:Addr}{f:Str->Option Value}(n:h.Ns1 c f):∃ od,h.get? c=some od/\∀ name,W.lookIn name od=some (f name):=by
 obtain⟨o,d,k,j,hd,i,_,hm⟩:=n;refine⟨o,j,λname=>?_⟩;have e:=hm name;unfold nsFind findBy at e;rw[<-Array.find?_toList]at e;unfold W.lookIn;rw[hd];dsimp only;split
 ·rename_i y q
  rw[q]at e;exact rc some e
 ·rename_i q
  rw[q]at e;have a:d.toList.any (·.refKey)=false:=by
   rw[List.any_eq_false];intro y hy;obtain⟨z,t,b⟩:=i y (Array.mem_toList_iff.mp hy);simp[k8,b]
  have g:¬ d.toList.any (·.refKey)=true:=by rw[a];exact Wa
  rw[ga g];exact rc some e
theorem tq.look{h:Heap}{x a C:Addr}{b:Str->Option Value}(I:tq h x a C b):∃ od,W.InstAt h x (W.instObj C a) C (some od)/\∀ name,W.lookIn name od=some (b name):=
 let ⟨od,d,c⟩:=L0 I.ns
 ⟨od,⟨I.obj,rfl,rfl,d⟩,c⟩
section
variable{prog:wa}{w:Ja}{A:Ia}{E:Value->aa->Prop}{s:aa}{K:W.Frag}{x dx C f:Addr}{mA:Str->Option Value}{name:Str}{v:Value}
theorem xW{a:Bool}{Q:Value->aa->Prop}(X:K.In s.heap)(I:tq s.heap x dx C mA)(d:W.plainGet K C name=true)(e:W.hasDictIn K C=true)
  (c:W.findIn K (.ref C) name=some none) (g:mA name=some v) (b:W.handedIn v=true) (h:Q v { s with toks:=s.toks+1 }) :
  wpAny (model prog w) A (l8 (.ref x) name a) Q E s:=by
 obtain⟨i,J,f⟩:=I.look;exact W.get_value X J (W.plainGet_of d).1 (W.findObj_own e c rfl (by rw[f,g])) b h
theorem yY{pl:Ap Bool}{Q:Value × List Value->aa->Prop}(X:K.In s.heap)(I:tq s.heap x dx C mA)(a:W.plainGet K C name=true)
  (b:W.findIn K (.ref C) name=some (some (.ref f))) (d:W.isFn K (.ref f)=true) (e:mA name=none) (h:Q (.ref f,[.ref x]) s) :
  wpAny (model prog w) A (Ys (.ref x) name pl) Q E s:=by
 obtain⟨g,J,c⟩:=I.look;exact W.method_fn X J (W.plainGet_of a).1 (W.plainGet_of a).2 b (Wf.mp d) (by show (W.lookIn name g).map (·.isSome)=some false;rw[c,e];rfl) h
theorem kZ{ns:List Str}{Q:Unit->aa->Prop}(X:K.In s.heap)(I:tq s.heap x dx C mA)
  (m:W.findIn K (.ref C) "__setattr__" = some (some (.builtin "object.__setattr__"))) (hp:W.plainOver K C=true) (n:W.takerIn K C name=some none) (l:W.hasDictIn K C=true)
  (o:PySem.Within mA ns) (hsz:ns.length<=sizeLine)
  (h:∀ h',tq h' x dx C (λy=>if y=name then some v else mA y)->uf dx s.heap h'->Q () { s with heap:=h',toks:=s.toks+2 }) :
  wpAny (model prog w) A (setAttr (.ref x) name v) Q E s:=by
 obtain⟨u,J,t⟩:=I.look;refine W.set_plain X J m (W.osa_open (s:={ s with toks:=s.toks+1 }) (r:=none) X J hp n λb=>?_);obtain⟨q,hc,f⟩:=W.any_some l;have p:s.heap.get? x=some ⟨.ref C,some dx,.plain,#[]⟩:=I.obj;refine ba (ra (ba (ba (wpAny_loadPart p (ba (W.Looks.here (s:={ s with toks:=s.toks+1 }) (W.looks_clsIn X hc) ?_))))));rw[f];refine ra (a:=some dx) (ba (ra (ba ?_)));refine wpAny_nsSet1 (s:={ s with toks:=s.toks+1 }) I.ns λh' c d=>?_;obtain⟨oD,k,j,i,g,e⟩:=c.count (EE name v o);refine ba (wpAny_lookBehind i (by rw[g];exact pastItsLine_dict (Sb e (by rw[Gb];omega))) ?_);exact ra (h _ ⟨(d.2 _ (He I.ne)).trans I.obj,c,I.ne⟩ d)
theorem VV{R:jy->aa->Prop}{vs:List Value}{a:List (Str × Value)}(X:K.In s.heap)(hm:W.makesIn K C=true)
  (c:W.findIn K (.ref C) "__init__" = some (some (.ref f))) (b:W.typeIn K (.ref f)=some (.type "function"))
  (h:codeAny (model prog w) (A.under (.builtin "type.__call__" ⟨.ref C::vs,a⟩)) (.call (.ref f) ⟨.ref (s.heap.objs.size+1)::vs,a⟩) (W.InitBack (s.heap.objs.size+1) R)
   { s with heap:=(s.heap.push W.emptyDict).push (W.instObj C s.heap.objs.size) }) :
  codeAny (model prog w) A (.call (.ref C) ⟨vs,a⟩) R s:=by
 obtain⟨e,g,d,t,os⟩:=s;exact W.make_core (W.makes_of X hm) (W.looks_findIn X c) (λself=>W.bind_fn X self b) (.inl rfl) h
end
noncomputable def Sm(f:Str)(v:V):List (Str × V)->List (Str × V)
 |[]=>[(f,v)]
 |(g,x)::r=>if g=f then (g,v)::r else (g,x)::Sm f v r
theorem wN(f g:Str)(v:V):∀ fs:List (Str × V),(Sm f v fs).lookup g=if g=f then some v else fs.lookup g
 |[]=>by
  show List.lookup g [(f,v)]=_;by_cases h:g=f
  ·have hb:(g == f)=true:=Wf.mpr h;simp only[List.lookup,hb,da h]
  ·have hb:(g == f)=false:=Yd.mpr h;simp only[List.lookup,hb,ga h]
 |(k,x)::r=>by
  have b:=wN f g v r;rw[show Sm f v ((k,x)::r)=(if k=f then (k,v)::r else (k,x)::Sm f v r)from rfl];by_cases a:k=f
  ·rw[da a];by_cases h:g=k
   ·have hb:(g == k)=true:=Wf.mpr h;simp only[List.lookup,hb,da (h.trans a)]
   ·have hb:(g == k)=false:=Yd.mpr h;simp only[List.lookup,hb,ga (λe:g=f=>h (e.trans a.symm))]
  ·rw[ga a];by_cases h:g=k
   ·have hb:(g == k)=true:=Wf.mpr h;simp only[List.lookup,hb,ga (λe:g=f=>a (h.symm.trans e))]
   ·have hb:(g == k)=false:=Yd.mpr h;simp only[List.lookup,hb];exact b
theorem UG(f:Str)(v:V):∀ fs:List (Str × V),f∈(Sm f v fs).map (·.1)/\∀ g,g∈fs.map (·.1)->g∈(Sm f v fs).map (·.1)
 |[]=>⟨by simp[Sm],λg h=>by simp at h⟩
 |(k,x)::r=>by
  obtain⟨b,c⟩:=UG f v r;rw[show Sm f v ((k,x)::r)=(if k=f then (k,v)::r else (k,x)::Sm f v r)from rfl];by_cases a:k=f
  ·rw[da a];subst a;exact⟨by simp,λg h=>by simpa using h⟩
  ·rw[ga a];refine⟨?_,λg h=>?_⟩
   ·rw[Za];exact Da _ b
   ·rw[Za]at h ⊢;rcases La.mp h with e|e
    ·exact La.mpr (.inl e)
    ·exact Da _ (c g e)
theorem uO(f:Str)(v:V):∀ fs:List (Str × V),(Sm f v fs).length<=fs.length+1
 |[]=>by simp[Sm]
 |(k,x)::r=>by
  have b:=uO f v r;rw[show Sm f v ((k,x)::r)=(if k=f then (k,v)::r else (k,x)::Sm f v r)from rfl];by_cases a:k=f
  ·rw[da a,Gb,Gb];omega
  ·rw[ga a,Gb,Gb];omega
theorem mo.some_of{v:V}{o:Option Value}(r:mo (some v) o):∃ u,o=some u/\Zc v u:=by
 cases o with
 |none=>exact(show False from r).elim
 |some u=>exact⟨u,rfl,r⟩
theorem mo.none_of{o:Option Value}(r:mo none o):o=none:=by
 cases o with
 |none=>rfl
 |some u=>exact(show False from r).elim
theorem JR{v:V}{u:Value}(r:Zc v u):W.handedIn u=true:=by
 cases v with
 |zb=>cases (show u=Eb from r);rfl
 |bl b=>cases (show u=kf b from r);rfl
 |int i=>obtain⟨t,e⟩:=(show ∃ t,u=xg i t from r);cases e;rfl
 |str x=>obtain⟨t,e⟩:=(show ∃ t,u=gm x t from r);cases e;rfl
 |KC b=>obtain⟨t,e⟩:=(show ∃ t,u=pz b t from r);cases e;rfl
 |xx b=>obtain⟨t,e⟩:=(show ∃ t,u=Qq b t from r);cases e;rfl
 |ref a=>cases (show u=pb a from r);rfl
 |ty n=>cases (show u=zB n from r);rfl
section
variable{P:wa}{w:Ja}{H H':Hp}{h h':Heap}{a C dx:Addr}{fs fs':List (Str × V)}
theorem ID(cc:ci P w H h)(e:H a=some (.ins C dx fs)):∃ b,tq h a dx C b/\(∀ f,mo (fs.lookup f) (b f))/\PySem.Within b (fs.map (·.1))/\fs.length<=1000/\H dx=some (.own a):=by
 obtain⟨d,z,ne,c,b,n,r,q⟩:=(show Fi P w H h a (.ins C dx fs)from cc a _ e)
 exact⟨b,⟨c,n,ne⟩,r,q,z,d⟩
end
structure jo(K:W.Frag)(C:Addr):Prop where
 pg:W.plainGet K C Str.empty=true
 hd:W.hasDictIn K C=true
 po:W.plainOver K C=true
 sa:W.findIn K (.ref C) "__setattr__" = some (some (.builtin "object.__setattr__"))
theorem jo.get{K:W.Frag}{C:Addr}(c:jo K C)(f:Str):W.plainGet K C f=true:=c.pg
noncomputable def bh(K:W.Frag)(C:Addr)(f:Str):Prop:=W.findIn K (.ref C) f=some none
theorem bh.OA{K:W.Frag}{C:Addr}{f:Str}(n:bh K C f):W.takerIn K C f=some none:=by
 unfold W.takerIn;rw[show W.findIn K (.ref C) f=some none from n];rfl
structure Con(K:W.Frag)(C:Addr)(f:Str)(v:V)(u:Value):Prop where
 at_:W.findIn K (.ref C) f=some (some u)
 rel:Zc v u
 get:W.specialIn K u "__get__" = some none
 cp:W.copiedNames.contains f=false
structure wf(K:W.Frag)(C:Addr)(m:Str)(f:Addr):Prop where
 at_:W.findIn K (.ref C) m=some (some (.ref f))
 fn:W.isFn K (.ref f)=true
 kp:W.keepIn K (.ref f)=true
section
variable{X:Cx}{pins:List (Addr × vc)}{σ:St}{H:Hp}{s:aa}{a C dx:Addr}{fs:List (Str × V)}{f:Str}{v:V}{A:Ia}{E:Value->aa->Prop}
theorem MM{b:Bool}{Q:Value->aa->Prop}(I:Inv X pins σ H s)(e:H a=some (.ins C dx fs))(c:jo X.K C)(n:bh X.K C f)(l:fs.lookup f=some v)
  (h:∀ u s',Inv X pins σ H s'->Zc v u->Q u s'):wpAny (model X.prog X.w) A (l8 (.ref a) f b) Q E s:=by
 obtain⟨i,O,r,_,_,_⟩:=ID I.cc e;obtain⟨u,g,d⟩:=mo.some_of (v:=v) (o:=i f) (by rw[<-l];exact r f);exact xW I.Gj O (c.get f) c.hd n g (JR d) (h u _ (I.tok _) d)
theorem UO{m:Str}{g:Addr}{pl:Ap Bool}{Q:Value × List Value->aa->Prop}(I:Inv X pins σ H s)(e:H a=some (.ins C dx fs))(c:jo X.K C)(k:wf X.K C m g)(l:fs.lookup m=none)
  (h:Q (.ref g,[.ref a]) s):wpAny (model X.prog X.w) A (Ys (.ref a) m pl) Q E s:=by
 obtain⟨b,O,r,_,_,_⟩:=ID I.cc e;have hn:b m=none:=mo.none_of (by rw[<-l];exact r m);exact yY I.Gj O (c.get m) k.at_ k.fn hn h
theorem FQ{y:V}{u:Value}{Q:Unit->aa->Prop}(I:Inv X pins σ H s)(e:H a=some (.ins C dx fs))(c:jo X.K C)(n:bh X.K C f)(D:fs.length<1000)(v:Zc y u)
  (h:∀ s',Inv X pins σ (upd H a (.ins C dx (Sm f y fs))) s'->Q () s'):wpAny (model X.prog X.w) A (setAttr (.ref a) f u) Q E s:=by
 obtain⟨j,O,r,k,_,i⟩:=ID I.cc e;have t:(fs.map (·.1)).length<=sizeLine:=by rw[Ub,sizeLine_eq];omega
 refine kZ I.Gj O c.sa c.po n.OA c.hd k t λm d B=>h _ ?_;have hd:∃ o,m.get? dx=some o:=let ⟨o,_,_,l,_⟩:=d.ns;⟨o,l⟩;refine I.write (x:=a) (e:=dx) (by rw[e];exact True.intro) (.inr i) (λb q hb z=>(B.2 b hb).trans z) hd ?_;refine⟨by rw[yd O.ne];exact i,?_,O.ne,d.obj,_,d.ns,λg=>?_,λg p=>?_⟩
 ·have:=uO f y fs;omega
 ·show mo ((Sm f y fs).lookup g) (if g=f then some u else j g);rw[wN];by_cases q:g=f
  ·rw[da q,da q];exact v
  ·rw[ga q,ga q];exact r g
 ·by_cases q:g=f
  ·rw[q];exact(UG f y fs).1
  ·refine(UG f y fs).2 g (k g λz=>p ?_);show (if g=f then some u else j g)=none;rw[ga q];exact z
theorem Inv.made(I:Inv X pins σ H s):Inv X pins σ (upd (upd H s.heap.objs.size (.own (s.heap.objs.size+1))) (s.heap.objs.size+1) (.ins C s.heap.objs.size []))
  { s with heap:=(s.heap.push W.emptyDict).push (W.instObj C s.heap.objs.size) }:=by
 have c:(s.heap.push W.emptyDict).get? s.heap.objs.size=some W.emptyDict:=Xa s.heap rfl;have f:((s.heap.push W.emptyDict).push (W.instObj C s.heap.objs.size)).get? (s.heap.objs.size+1)=some (W.instObj C s.heap.objs.size):=by
  have:=Xa (s.heap.push W.emptyDict) (o:=W.instObj C s.heap.objs.size) rfl
  rwa [eg]at this
 have g:(s.heap.push W.emptyDict).Ns s.heap.objs.size (λ_=>none):=⟨W.emptyDict,#[],_,c,rfl,(λe h=>absurd h (by simp)),λ_=>rfl⟩
 have d:=I.laid (a:=s.heap.objs.size) (o:=.own (s.heap.objs.size+1)) (h':=s.heap.push W.emptyDict) (t':=s.toks) (λb u q=>la _ q) (za _) ⟨_,c⟩;refine d.laid (a:=s.heap.objs.size+1) (o:=.ins C s.heap.objs.size []) (t':=s.toks) (λb u q=>la _ q) (Jq (eg _ _)) ?_;have ne:s.heap.objs.size≠s.heap.objs.size+1:=Ea (Oc _);refine⟨by rw[yd ne,Og],Sr _,ne,f,λ_=>none,(Heap.Ns1.of_empty g).at λo q=>la _ q,λ_=>True.intro,λy hy=>absurd rfl hy⟩
theorem oU{prog:wa}{w:Ja}{env:yg}{e:Ka}{f:Str}{b:Ke}{s:aa}{Q:Value->aa->Prop}(hb:Zd e f env (bc e env)=bc e env)
  (h:wpAny (model prog w) A (bc e env) (λo a=>wpAny (model prog w) A (l8 o f true) Q E a) E s):wpAny (model prog w) A (bc (.Attribute e f b) env) Q E s:=
 Attribute_any_ h (by rw[arm_eval_Attribute,hb])
end
noncomputable def T4(K:W.Frag)(d:TE)(f:Str):TE:=λe H Q=>d e H λx b=>∃ a C c fs v,x=.ref a/\b a=some (.ins C c fs)/\jo K C/\bh K C f/\fs.lookup f=some v/\Q v b
noncomputable def e7(K:W.Frag)(g h:TE)(f:Str):TS:=λD b H=>h b H λy e=>g b e λx c=>∃ a C d fs,x=.ref a/\c a=some (.ins C d fs)/\jo K C/\bh K C f/\fs.length<1000/\
 D.nx b (upd c a (.ins C d (Sm f y fs)))
noncomputable def QK(X:Cx)(b:Nk)(rd:V->V->Hp->VK->Prop):Prop:=
 ∀ (a:List (Addr × vc)) (s:aa) (σ:St) (H:Hp) (x y:V) (u v:Value) (Q:VK),Inv X a σ H s->Zc x u->Zc y v->rd x y H Q->wpAny (model X.prog X.w) X.A (BB b u v) (EP X a σ Q) X.xe s
noncomputable def K5(K:W.Frag)(j k:TE)(rd:V->V->Hp->VK->Prop)(f:Str):TS:=λD d H=>j d H λx e=>∃ a C i fs v,x=.ref a/\e a=some (.ins C i fs)/\jo K C/\bh K C f/\fs.lookup f=some v/\
 k d e λy h=>rd v y h λz g=>∃ c b,g a=some (.ins C c b)/\b.length<1000/\D.nx d (upd g a (.ins C c (Sm f z b)))
section
variable{X:Cx}{o e value:Ka}{f:Str}{pos pos' tpos:Ke}{ta tv:TE}
theorem EZ(j:PE X e ta)(hb:Zd e f X.env (bc e X.env)=bc e X.env):PE X (.Attribute e f pos) (T4 X.K ta f):=by
 intro b s o H Q I h;refine oU hb (Od (j b s o H _ I h) λu s1 ⟨x,H1,d,m,a,C,p,fs,v,ex,i,c,n,l,q⟩=>?_);subst ex;obtain rfl:u=pb a:=m;exact MM d i c n l λr s2 g k=>⟨v,H1,g,k,q⟩
theorem T1(k:PE X o ta)(p:PE X value tv)(m:dj value (some (.Attribute o f pos')) pos.line X.env=pure false):PS X (.Assign [.Attribute o f pos'] value pos) (e7 X.K ta tv f):=by
 intro b s d H D I h;refine plainObj_wpAny_Assign_Attribute (Od (p b s d H _ I h) λu s1 ⟨y,H1,e,w,q⟩=>Od (k b s1 d H1 _ e q) λr s2 ⟨x,z,g,v,a,C,A,fs,ex,j,c,n,l,t⟩=>?_) m;subst ex;obtain rfl:r=pb a:=v;exact FQ g j c n l w λB i=>⟨d,_,i,t⟩
theorem uW{i:Nk}{rd:V->V->Hp->VK->Prop}(E:PE X o ta)(F:PE X value tv)(g:QK X i rd):PS X (.AugAssign (.Attribute o f tpos) i value pos) (K5 X.K ta tv rd f):=by
 intro b s d H D I h;refine wpAny_AugAssign_AttributeAny (Od (E b s d H _ I h) λJ s1 ⟨x,H1,k,O,a,C,T,fs,v,ex,A,c,n,l,q⟩=>?_);subst ex;obtain rfl:J=pb a:=O;refine MM k A c n l λu s2 m N=>Od (F b s2 d H1 _ m q) λR s3 ⟨y,j,p,P,L⟩=>Od (g b s3 d j v y u R _ p N P L) λW s4 ⟨z,S,r,Q,w,B,e,G,M⟩=>?_;exact FQ r e c n G Q λU t=>⟨d,_,t,M⟩
noncomputable def FV:V->V->Hp->VK->Prop:=λx y H Q=>∃ i j,x=.int i/\y=.int j/\Q (.int (i+j)) H
theorem cW:QK X .Add FV:=by
 rintro a s e H x y u v Q I c d ⟨i,j,rfl,rfl,q⟩;obtain⟨t,rfl⟩:=(show ∃ t,u=xg i t from c)
 obtain⟨b,rfl⟩:=(show ∃ b,v=xg j b from d)
 exact GE ⟨.int (i+j),H,I.tok _,⟨_,rfl⟩,q⟩
end
section
variable{X:Cx}{pins:List (Addr × vc)}{σ:St}{H:Hp}{s:aa}{A:Ia}{E:Value->aa->Prop}{Q:Value->aa->Prop}{c:Value}{b:Bool}
inductive zk(K:W.Frag)(H:Hp):V->Value->Prop where
 |zb:zk K H .zb (.type "NoneType")
 |bl (x:Bool):zk K H (.bl x) (.type "bool")
 |int (i:Int):zk K H (.int i) (.type "int")
 |str (x:Str):zk K H (.str x) (.type "str")
 |xx (x:UInt64):zk K H (.xx x) (.type "float")
 |lst {a:Addr} {xs:List V} (e:H a=some (.lst xs)):zk K H (.ref a) (.type "list")
 |db {a:Addr} {o:vc} {xs:List V} (e:H a=some (.db o (.lst xs))):zk K H (.ref a) (.type "list")
 |tup {a:Addr} {xs:List V} (e:H a=some (.tup xs)):zk K H (.ref a) (.type "tuple")
 |dK {a:Addr} {kvs:List (Key × V)} (e:H a=some (.dK kvs)):zk K H (.ref a) (.type "dict")
 |dT {a:Addr} {kvs:List (List Key × V)} (e:H a=some (.dT kvs)):zk K H (.ref a) (.type "dict")
 |ins {a C dx:Addr} {fs:List (Str × V)} (e:H a=some (.ins C dx fs)) (cl:jo K C) (ha:W.findIn K (.ref C) "__class__" = some (some (.builtin "object.__class__")))
   (hn:W.specialIn K (.builtin "object.__class__") "__get__" = some (some (.builtin "getset_descriptor.__get__"))) (htk:W.takesIn K (.builtin "object.__class__")=some true)
   (hm:W.mroIn K C (.type "object")=some true):zk K H (.ref a) (.ref C)
theorem uZ{x:V}{u t:Value}(I:Inv X pins σ H s)(f:Zc x u)(ty:zk X.K H x t)(e:W.kitOne X.K t c=some b)(h:∀ tk,Q (.bool b) { s with toks:=tk }) :
  wpAny (model X.prog X.w) A (call (.builtin "isinstance") [u,c]) Q E s:=by
 cases ty with
 |zb=>cases (show u=Eb from f);exact W.kia_one W.kitx_none I.Gj True.intro e (λz=>nomatch z) h
 |bl y=>cases (show u=kf y from f);exact W.kia_one W.kitx_bool I.Gj True.intro e (λz=>nomatch z) h
 |int i=>obtain⟨t,q⟩:=(show ∃ t,u=xg i t from f);cases q;exact W.kia_one W.kitx_int I.Gj True.intro e (λz=>nomatch z) h
 |str y=>obtain⟨t,q⟩:=(show ∃ t,u=gm y t from f);cases q;exact W.kia_one W.kitx_str I.Gj True.intro e (λz=>nomatch z) h
 |xx y=>obtain⟨t,q⟩:=(show ∃ t,u=Qq y t from f);cases q;exact W.kia_one W.kitx_float I.Gj True.intro e (λz=>nomatch z) h
 |@lst a xs d=>
  cases (show u=pb a from f);obtain⟨_,_,n,_,h1⟩:=(show Fi X.prog X.w H s.heap a (.lst xs)from I.cc a _ d)
  exact W.kia_one W.kitx_list I.Gj ⟨_,h1,rfl⟩ e (λz=>nomatch z) h
 |@db a v xs d=>
  cases (show u=pb a from f);obtain⟨_,_,_,n,_,h1⟩:=(show Fi X.prog X.w H s.heap a (.db v (.lst xs))from I.cc a _ d)
  exact W.kia_one W.kitx_list I.Gj ⟨_,h1,rfl⟩ e (λz=>nomatch z) h
 |@tup a xs d=>
  cases (show u=pb a from f);obtain⟨_,_,_,p⟩:=(show Fi X.prog X.w H s.heap a (.tup xs)from I.cc a _ d)
  obtain⟨o,h1,j,_⟩:=p;exact W.kia_one W.kitx_tuple I.Gj ⟨o,h1,j⟩ e (λz=>nomatch z) h
 |@dK a g d=>
  cases (show u=pb a from f);obtain⟨_,_,G,_,p⟩:=(show Fi X.prog X.w H s.heap a (.dK g)from I.cc a _ d)
  obtain⟨o,m,l,h1,j,_⟩:=p;exact W.kia_one W.kitx_dict I.Gj ⟨o,h1,j.1⟩ e (λz=>nomatch z) h
 |@dT a g d=>
  cases (show u=pb a from f);obtain⟨_,_,xs,_,o,m,l,h1,j,_⟩:=(show Fi X.prog X.w H s.heap a (.dT g)from I.cc a _ d)
  exact W.kia_one W.kitx_dict I.Gj ⟨o,h1,j.1⟩ e (λz=>nomatch z) h
 |@ins a C B fs d cl r hn k hm=>
  cases (show u=pb a from f);obtain⟨D,O,_⟩:=ID I.cc d;obtain⟨F,J,_⟩:=O.look;exact W.kia_one (W.kitx_own (cl.get _) cl.hd r hn k hm) I.Gj J e (λz=>nomatch z) h
end
structure Ld(k:Nat)(A:Ia):Prop where
 hd:A.handled=none
 dp:A.depth+3 * k+5<recursionLimit
 un:A.units+16 * k+200<cLine
theorem Ld.mono{j k:Nat}{A:Ia}(r:Ld k A)(h:j<=k):Ld j A:=⟨r.hd,by have:=r.dp;omega,by have:=r.un;omega⟩
theorem Ld.deeper{k:Nat}{A:Ia}(r:Ld (k+1) A)(env:yg):Ld k (A.deeper env):=
 ⟨r.hd,by have:=r.dp;show A.depth+1+3 * k+5<_;omega,by have:=r.un;show A.units+3+16 * k+200<_;omega⟩
theorem Ld.in1{k:Nat}{A:Ia}(r:Ld (k+1) A):Ld k A.in1:=
 ⟨r.hd,by have:=r.dp;show A.depth+3 * k+5<_;omega,by have:=r.un;show A.units+1+16 * k+200<_;omega⟩
theorem wZ{A:Ia}{C:Addr}{us:List Value}{a:List (Str × Value)}:(A.under (.builtin "type.__call__" ⟨.ref C::us,a⟩)).depth=A.depth+1:=by
 first|rfl|simp[Cp,Code.weight,Code.isCreation,Code.isGuard,Code.isCaller,DB,oq,guardIds]
theorem X5{A:Ia}{C:Addr}{us:List Value}{a:List (Str × Value)}:(A.under (.builtin "type.__call__" ⟨.ref C::us,a⟩)).units=A.units+1:=by
 first|rfl|simp[Cp,Code.cUnits,DB,oq]
theorem Ld.make{k:Nat}{A:Ia}(r:Ld (k+1) A)(C:Addr)(us:List Value)(a:List (Str × Value)):Ld k (A.under (.builtin "type.__call__" ⟨.ref C::us,a⟩)):=
 ⟨r.hd,by have:=r.dp;rw[wZ];omega,by have:=r.un;rw[X5];omega⟩
theorem Ld.depth{k:Nat}{A:Ia}(r:Ld k A):A.depth<recursionLimit:=by have:=r.dp;omega
theorem Ld.units{k:Nat}{A:Ia}(r:Ld k A):A.units+64<cLine:=by have:=r.un;omega
noncomputable def VR:TA:=λ_ H Q=>Q [] H
noncomputable def zR(d:TE)(e:TA):TA:=λa H Q=>d a H λx b=>e a b λxs c=>Q (x::xs) c
section
variable{X:Cx}{e:Ka}{es:List Ka}{te:TE}{t:TA}{pos:Ke}
theorem Ux:PA X [] VR:=λ_ _ _ _ H Q I h=>Calls.spliced_nil ⟨[],H,I,.nil,h⟩
theorem Av(g:PE X e te)(i:PA X es t)(j:ua (e::es) X.env=(false,bc e X.env)::ua es X.env:=by rfl):PA X (e::es) (zR te t):=by
 intro pos a s b H Q I h;rw[j];show wpAny _ _ (spliced ((false,bc e X.env)::Mc pos (ua es X.env))) _ _ s;refine Calls.spliced_cons (Od (g a s b H _ I h) λu s1 ⟨x,H1,d,m,k⟩=>?_);exact Od (i pos a s1 b H1 _ d k) λus s2 ⟨xs,c,f,n,l⟩=>⟨x::xs,c,f,.cons m n,l⟩
noncomputable def QU(t:TA):TE:=λb H Q=>t b H λxs a=>xs.length<=sizeLine/\∀ p,a p=none->Q (.ref p) (upd a p (.tup xs))
noncomputable def vZ(t:TA):TE:=λb H Q=>t b H λxs a=>xs.length<=sizeLine/\∀ p,a p=none->Q (.ref p) (upd a p (.lst xs))
theorem pT{x1}(h:PA X es t):PE X (.Tuple es x1 pos) (QU t):=by
 intro a s f H Q I hq;refine wpAny_Tuple_spliced (Od (h pos a s f H _ I hq) λus s1 ⟨xs,H1,c,r,z,q⟩=>⟨by rw[<-r.length];exact z,?_⟩);have d:H1 s1.heap.objs.size=none:=c.cc.fresh (za _);refine⟨.ref s1.heap.objs.size,upd H1 s1.heap.objs.size (.tup xs),c.laid (t':=s1.toks) (λb u e=>la _ e) (za _) ?_,rfl,q _ d⟩;exact⟨z,us,r,⟨_,Xa _ rfl,rfl,_,rfl⟩⟩
theorem xL(h:PA X es t):PE X (.List es pos) (vZ t):=by
 intro a s f H Q I hq;refine wpAny_List_spliced (Od (h pos a s f H _ I hq) λus s1 ⟨xs,H1,c,r,z,q⟩=>⟨by rw[<-r.length];exact z,?_⟩);have d:H1 s1.heap.objs.size=none:=c.cc.fresh (za _);refine⟨.ref s1.heap.objs.size,upd H1 s1.heap.objs.size (.lst xs),c.laid (t':=s1.toks) (λb u e=>la _ e) (za _) ?_,rfl,q _ d⟩;exact⟨z,us,0,r,Xa _ rfl⟩
end
noncomputable abbrev Sp:=List V->Hp->VK->XK->Prop
noncomputable abbrev Dr:=List yg->Hp->aa->XK->Value->aa->Prop
structure nl(P:wa)(w:Ja)(K:W.Frag)(mg:Str->Option Value)(base:Heap)(A:Ia)(outer:List yg)(s:aa)(H:Hp):Prop where
 frames:A.frames=some outer
 mod:Mod K mg base
 bs:∀ b o,base.get? b=some o->s.heap.get? b=some o/\H b=none
 Uq:base.objs.size<=s.heap.objs.size
 Zi:s.heap.FunFrames base outer
 Ft:∀ b∈Yi outer,H b=none
 cc:ci P w H s.heap
 bare:zg s.gens
noncomputable def CE(outer:List yg)(P:wa)(w:Ja)(H:Hp)(s:aa)(Q:VK)(u:Value)(s':aa):Prop:=
 ∃ v a,s'.os=s.os/\zg s'.gens/\Un (Yi outer) [] H a s.heap s'.heap/\ci P w a s'.heap/\Zc v u/\Q v a
noncomputable def CR(a:Dr)(outer:List yg)(P:wa)(w:Ja)(H:Hp)(s:aa)(Q:VK)(E:XK)(r:jy)(s':aa):Prop:=
 match r with
 | .ok (.ret u)=>CE outer P w H s Q u s'
 | .ok _=>False
 | .error e=>a outer H s E e s'
structure Xg(P:wa)(w:Ja)(K:W.Frag)(mg:Str->Option Value)(base:Heap)(CX:Dr)(k:Nat)(f:Addr)(fd:Qd)(ps:List Str)(sp:Sp):Prop where
 len:∀ vs H Q E,sp vs H Q E->vs.length=ps.length
 run:∀ (A:Ia) (outer:List yg) (s:aa) (H:Hp) (args:Args) (us:List Value) (vs:List V) (Q:VK) (E:XK),Ld k A->nl P w K mg base A outer s H->Tf s fd args (ps.zip us)->Ud vs us->sp vs H Q E->
  codeAny (model P w) A (.call (.ref f) args) (CR CX outer P w H s Q E) s
theorem Xg.mono{P:wa}{w:Ja}{K:W.Frag}{mg:Str->Option Value}{base:Heap}{b:Dr}{j k:Nat}{f:Addr}{c:Qd}{ps:List Str}{sp:Sp}(F:Xg P w K mg base b j f c ps sp)(h:j<=k) :
  Xg P w K mg base b k f c ps sp:=⟨F.len,λA outer s H a e g Q E d=>F.run A outer s H a e g Q E (d.mono h)⟩
theorem Xg.imp{P:wa}{w:Ja}{K:W.Frag}{mg:Str->Option Value}{base:Heap}{b:Dr}{k:Nat}{f:Addr}{c:Qd}{ps:List Str}{sp sp':Sp}(F:Xg P w K mg base b k f c ps sp)
  (h:∀ vs H Q E,sp' vs H Q E->sp vs H Q E):Xg P w K mg base b k f c ps sp':=
 ⟨λvs H Q E q=>F.len vs H Q E (h _ _ _ _ q),λA outer s H a j vs Q E e d hb i g=>F.run A outer s H a j vs Q E e d hb i (h _ _ _ _ g)⟩
theorem nl.make{P:wa}{w:Ja}{K:W.Frag}{mg:Str->Option Value}{base:Heap}{A:Ia}{outer:List yg}{s:aa}{H:Hp}(e:nl P w K mg base A outer s H)(C:Addr)(us:List Value)(a:List (Str × Value)) :
  nl P w K mg base (A.under (.builtin "type.__call__" ⟨.ref C::us,a⟩)) outer s H:=⟨by first|exact e.frames|(simpa [Cp,Code.envs,oq,pushEnvs]using e.frames),e.mod,e.bs,e.Uq,e.Zi,e.Ft,e.cc,e.bare⟩
theorem nl.in1{P:wa}{w:Ja}{K:W.Frag}{mg:Str->Option Value}{base:Heap}{A:Ia}{outer:List yg}{s:aa}{H:Hp}(e:nl P w K mg base A outer s H) :
  nl P w K mg base A.in1 outer s H:=⟨e.frames,e.mod,e.bs,e.Uq,e.Zi,e.Ft,e.cc,e.bare⟩
section
variable{X:Cx}{pins:List (Addr × vc)}{σ:St}{H:Hp}{s s':aa}
theorem Inv.CA(I:Inv X pins σ H s):nl X.prog X.w X.K X.mg X.base X.A X.stack s H:=
 ⟨I.ok.frames,I.ok.mod,I.bs,Sb I.ok.Uq I.sz,I.stack,I.Yj,I.cc,I.bare⟩
theorem Inv.after{Q:VK}{u:Value}(I:Inv X pins σ H s)(h:CE X.stack X.prog X.w H s Q u s'):EP X pins σ Q u s':=by
 obtain⟨v,c,os,bare,un,cc,r,q⟩:=h;obtain⟨e,g,d,t,a⟩:=s';obtain rfl:a=s.os:=os;exact⟨v,c,I.call (h':=e) (g':=g) (d':=d) (t':=t) (ch:=[]) un cc bare (λb z=>absurd z (by simp)),r,q⟩
end
noncomputable def Iq(K:W.Frag)(a:Qd)(ps:List Str)(ds:List Value):Prop:=
 ∀ (s:aa) (us:List Value),K.In s.heap->(us++ds).length=ps.length->Tf s a ⟨us,[]⟩ (ps.zip (us++ds))
theorem Iq.all{K:W.Frag}{a:Qd}{ps:List Str}(h:∀ us:List Value,us.length=ps.length->bindArgs a ⟨us,[]⟩=pure (ps.zip us)):Iq K a ps []:=λs us _ b=>by
 rw[Ji]at b ⊢;exact .of_eq (h us b)
section
variable{X:Cx}{CX:Dr}{k:Nat}{f C:Addr}{fd:Qd}{ps:List Str}{sp:Sp}{dvs:List V}{ds:List Value}{E:XK}{x m:Str}{p pos apos:Ke}{e o:Ka}{es:List Ka}{ta:TE}{t:TA}
structure Mk(K:W.Frag)(C f:Addr):Prop where
 makes:W.makesIn K C=true
 init:W.findIn K (.ref C) "__init__" = some (some (.ref f))
 fn:W.isFn K (.ref f)=true
 kp:W.keepIn K (.ref C)=true
end
section
variable{X:Cx}{CX:Dr}{k:Nat}{f C:Addr}{fd:Qd}{ps ks:List Str}{sp:Sp}{E:XK}{x m:Str}{p pos apos kpos:Ke}{e o:Ka}{es:List Ka}{kws:List xj}{te ta:TE}{t tk:TA}{nm:Option Str}
structure LG(K:W.Frag)(fd:Qd)(ps ks:List Str)(g:List Value->List Value->List Value)(gV:List V->List V->List V):Prop where
 to:∀ (s:aa) (us ws:List Value),K.In s.heap->(g us ws).length=ps.length->Tf s fd ⟨us,ks.zip ws⟩ (ps.zip (g us ws))
 rel:∀ {vs:List V} {us:List Value} {zs:List V} {ws:List Value},Ud vs us->Ud zs ws->Ud (gV vs zs) (g us ws)
variable{g:List Value->List Value->List Value}{gV:List V->List V->List V}
end
structure Aa(N P:List Str)(sc:Scope):Prop where
 kind:sc.kind=.function
 co:sc.isCoroutine=false
 gen:sc.isGenerator=false
 nd:N.Nodup
 pre:N.take P.length=P
 par:∀ x∈P,sc.names.lookup x=some .local\/sc.names.lookup x=some .cell
 Xw:∀ y∈sc.names,y.2≠.free
theorem QP{a:Str->Option Pe}{x:Str}:∀ {binds:List (Str × Value)} {m:Str->Option Value},(∀ v,(x,v) ∉ binds)->Zs a binds m x=m x
 |[],_,_=>rfl
 |(n,v)::r,m,h=>by
  unfold Zs;rw[QP λw b=>h w (Da _ b)];split
  ·have:x≠n:=by rintro rfl;exact h v Pa
   simp[this]
  ·rfl
theorem jK{a:Str->Option Pe}{x:Str}:∀ {binds:List (Str × Value)} {m:Str->Option Value},(∀ v,(x,v) ∉ binds)->dt a binds m x=m x
 |[],_,_=>rfl
 |(n,v)::r,m,h=>by
  unfold dt;rw[jK λw b=>h w (Da _ b)];split
  ·rfl
  ·have:x≠n:=by rintro rfl;exact h v Pa
   simp[this]
theorem zM{a:Str->Option Pe}{x:Str}{v:Value}:∀ {P:List Str} {vs:List Value} {i:Nat} {m:Str->Option Value},P.Nodup->P[i]?=some x->vs[i]?=some v->a x=some .local->
  Zs a (P.zip vs) m x=some v
 |[],_,_,_,_,h,_,_=>by simp at h
 |_::_,[],_,_,_,_,h,_=>by simp at h
 |p::P,w::vs,0,m,nd,h1,b,c=>by
  simp at h1 b;subst h1;subst b;show Zs a ((p,w)::P.zip vs) m p=_;unfold Zs;rw[QP λv d=>(Sg.mp nd).1 (yn d).1,da c];simp
 |p::P,w::vs,i+1,m,nd,h1,b,c=>by
  show Zs a ((p,w)::P.zip vs) m x=_;unfold Zs;exact zM (i:=i) (Sg.mp nd).2 (by simpa using h1) (by simpa using b) c
theorem TL{a:Str->Option Pe}{x:Str}{v:Value}:∀ {P:List Str} {vs:List Value} {i:Nat} {m:Str->Option Value},P.Nodup->P[i]?=some x->vs[i]?=some v->a x≠some .local->
  dt a (P.zip vs) m x=some v
 |[],_,_,_,_,h,_,_=>by simp at h
 |_::_,[],_,_,_,_,h,_=>by simp at h
 |p::P,w::vs,0,m,nd,h1,b,c=>by
  simp at h1 b;subst h1;subst b;show dt a ((p,w)::P.zip vs) m p=_;unfold dt;rw[jK λv d=>(Sg.mp nd).1 (yn d).1,ga c];simp
 |p::P,w::vs,i+1,m,nd,h1,b,c=>by
  show dt a ((p,w)::P.zip vs) m x=_;unfold dt;exact TL (i:=i) (Sg.mp nd).2 (by simpa using h1) (by simpa using b) c
noncomputable def Ut(N:List Str)(vs:List V):St:=vs.map some++List.replicate (N.length - vs.length) none
noncomputable def Ip(b:Dr)(P:wa)(w:Ja)(K:W.Frag)(mg:Str->Option Value)(base:Heap)(N:List Str)(qual:Str)(scope:Scope)(f:Addr)(cd:Value)(A:Ia)(outer:List yg)(s:aa)(H:Hp)(E:XK):Cx where
 prog:=P
 w:=w
 K:=K
 mg:=mg
 base:=base
 A:=A.deeper (Bg qual scope s.heap.objs.size f cd)
 N:=N
 s₀:=s
 H₀:=H
 env:=Bg qual scope s.heap.objs.size f cd
 outer:=outer
 stack:=Bg qual scope s.heap.objs.size f cd::outer
 ex:=[]
 calm:=true
 fn:=λ_=>true
 pn:=[]
 xe:=λe d=>wpAny (model P w) (A.deeper (Bg qual scope s.heap.objs.size f cd)) (rz (Bg qual scope s.heap.objs.size f cd) e) (λ_ a=>b outer H s E e a) (λc a=>b outer H s E c a) d
theorem CQ{sc:Scope}{n:Nat}{x:Str}(h:sc.names.lookup x=some .cell):∃ c,(EB n sc.names []).lookup x=some c:=by
 have q:=W.cellsFrom_some sc.names n [] (.inl h);exact qe.mp q
theorem nR{o:Dr}{P:wa}{w:Ja}{K:W.Frag}{mg:Str->Option Value}{base:Heap}{N ps:List Str}{qual:Str}{scope:Scope}{f:Addr}{cd:Value}{A:Ia}{outer:List yg}{s s1:aa}{H:Hp}{E:XK}{us:List Value}{vs:List V}
  (S:Aa N ps scope) (hd:A.handled=none) (g:nl P w K mg base A outer s H) (G:vs.length=ps.length) (r:Ud vs us)
  (x:InCallC s s.heap.objs.size (Zs (Bg qual scope s.heap.objs.size f cd).kindOf (ps.zip us) λ_=>none) (EB (s.heap.objs.size+1) scope.names []) (dt (Bg qual scope s.heap.objs.size f cd).kindOf (ps.zip us) λ_=>none) s1) :
  Inv (Ip o P w K mg base N qual scope f cd A outer s H E) [] (Ut N vs) H s1:=by
 have D:ps.length<=N.length:=by have:=rc List.length S.pre;rw[um]at this;omega
 obtain⟨h1,I,rfl,t⟩:=x.done;have j:∀ b:Addr,b ∉ (Ip o P w K mg base N qual scope f cd A outer s H E).ex:=λb z=>absurd (show b∈([]:List Addr)from z) (by simp);refine⟨⟨g.mod,S.kind,rfl,rfl,za _,λy z c h1 d=>?_,λy hy=>?_,λy c _ h=>?_,λ_=>hd,iq g.frames,.inr ⟨rfl,rfl⟩,λb z=>absurd z (j b),g.bs,g.Uq,λb _ _=>j b,λb z=>absurd z (j b),g.Zi,g.Ft⟩,
  rfl,g.bare,Un.kept t,⟨_,x.toInCall.ns,λi y v h1 d h3=>?_⟩,λy c h=>⟨_,x.cell y c h⟩,g.cc.fresh (za _),λy c h=>?_,λp hp=>absurd (show p∈([]:List (Addr × vc))from hp) (by simp),g.cc.kept t,?_⟩
 ·exact name_of_addr x.apart (Ae h1) (Ae d)
 ·have hy:scope.names.lookup y=some .cell\/scope.names.lookup y=some .free:=hy;rcases hy with hy|hy
  ·exact CQ hy
  ·exact absurd rfl (S.Xw _ (Ae hy))
 ·exact yf (x.above y c (Ae h))
 ·have m:i<vs.length:=by
   unfold Ut at d;by_cases m:i<vs.length
   ·exact m
   ·rw[Sd (by simpa using m)]at d;rw[Yp]at d;split at d<;>cases d
  have C:vs[i]?=some v:=by
   unfold Ut at d;rw[qb (by simpa using m),Ab]at d;cases e:vs[i]? with
   |none=>rw[e]at d;cases d
   |some a=>rw[e]at d;cases d;rfl
  obtain⟨u,B,F⟩:=r.get C;have hp:ps[i]?=some y:=by
   rw[<-S.pre,xp (by omega)];exact h1
  have l:ps.Nodup:=by rw[<-S.pre];exact S.nd.sublist (List.take_sublist _ _)
  refine⟨u,F,?_⟩;rcases S.par y (Ma hp)with k|k
  ·exact .inl ⟨k,zM l hp B k⟩
  ·obtain⟨c,e⟩:=CQ (n:=s.heap.objs.size+1) k;refine .inr ⟨.inl k,c,e,?_⟩;have q:=x.cell y c e;rw[TL l hp B (by show scope.names.lookup y≠_;rw[k];decide)]at q;exact q
 ·exact g.cc.fresh (yf (x.above y c (Ae h)))
 ·unfold Ut;show _=N.length;rw[Td,Ub,List.length_replicate];omega
theorem eN{B:Dr}{P:wa}{w:Ja}{K:W.Frag}{mg:Str->Option Value}{base:Heap}{k:Nat}{f:Addr}{name qual:Str}{c:Arguments}{body:List Stmt}{scope:Scope}{T kV l U a ct oc:Value}{O od:Option Addr}
  {G:Array (Option Value)} {N ps:List Str} {sp:Sp} (lk:K.lookup f=some ⟨oc,od,.func (W.fnOf name qual c body scope T kV l U O a ct),G⟩) (C:W.codeIn K a qual=true) (S:Aa N ps scope)
  (len:∀ vs H Q E,sp vs H Q E->vs.length=ps.length)
  (h:∀ (A:Ia) (outer:List yg) (s:aa) (H:Hp) (vs:List V) (Q:VK) (E:XK),Ld k (A.deeper (Bg qual scope s.heap.objs.size f a))->sp vs H Q E->
   ∃ t,mr (Ip B P w K mg base N qual scope f a A outer s H E) body t/\t { nx:=λ_ g=>Q .zb g,rt:=Q } (Ut N vs) H) :
  Xg P w K mg base B (k+1) f (W.fnOf name qual c body scope T kV l U O a ct) ps sp:=by
 refine⟨len,λA outer s H R us vs Q E D m hb r z=>?_⟩;have Z:=len _ _ _ _ z;have M:K.In s.heap:=m.mod.qw.keeps λb o e=>(m.bs b o e).1;have F:s.heap.NoLimit:=m.mod.nolimit.keeps λb o e=>(m.bs b o e).1;have i:∀ y∈ps.zip us,scope.names.lookup y.1=some .local\/(scope.names.lookup y.1=some .cell/\((EB (s.heap.objs.size+1) scope.names []).lookup y.1).isSome=true):=λ⟨n,v⟩ hy=>by
  rcases S.par n (yn hy).1 with q|q
  ·exact .inl q
  ·exact .inr ⟨q,W.cellsFrom_some _ _ _ (.inl q)⟩
 refine codeAny_call_function D.depth (M _ _ lk) rfl S.co S.gen rfl (W.codeRec_of M C) (hb _ _ _ _ ?_);refine wpAny_newFunctionEnv_cells S.kind i λenv Y s1 x=>?_;subst Y;refine⟨F.keeps x.toInCall.keep,codeAny_func ?_⟩;obtain⟨t,ht,hq⟩:=h A outer s H vs Q E (D.deeper _) z;have I:Inv (Ip B P w K mg base N qual scope f a A outer s H E) [] (Ut N vs) H s1:=nR S D.hd m Z r x;refine Rb (ht [] s1 (Ut N vs) H _ I hq) (λX s' j=>?_) λe s' j=>j;have p:∀ {d:St} {g:Hp} {v:V} {u:Value},Inv (Ip B P w K mg base N qual scope f a A outer s H E) [] d g s'->Zc v u->Q v g->CE outer P w H s Q u s':=
  fun {d g v u} J L q=>⟨v,g,J.os,J.bare,J.base,J.cc,L,q⟩
 cases X with
 |ret u=>
  obtain⟨v,d,g,J,L,q⟩:=j;exact p J L q
 |next=>
  obtain⟨d,g,J,q⟩:=j;exact p (v:=V.zb) (u:=Eb) J rfl q
 |brk=>
  obtain⟨_,_,_,q⟩:=j;exact False.elim q
 |cont=>
  obtain⟨_,_,_,q⟩:=j;exact False.elim q
section
variable{X:Cx}{x:Str}{p pos:Ke}{e:Ka}{es:List Ka}{t:TA}{id T:String}{r:List V->Hp->VK->Prop}
noncomputable def lF(r:List V->Hp->VK->Prop)(t:TA):TE:=λc H Q=>t c H λb a=>r b a Q
theorem yG(hc:kn X (.builtin id) r)(j:Gl X x)(hm:X.mg x=none)(k:bootBuiltins x=some (.builtin id))(g:PA X (e::es) t)(hn:x ≠ "__name__":=by decide)(b:(x == ("__debug__" : Str))=false:=by decide)
  (i:ua (e::es) X.env=(false,bc e X.env)::ua es X.env:=by rfl) (c:(Mc pos (ua es X.env)).any (·.1)=false:=by rfl):PE X (.Call (.Name x p) (e::es) [] pos) (lF r t):=by
 intro a s d H Q I h;refine af (jw I j hm k ?_ hn b);exact HE (Od (g pos a s d H _ I h) λus s1 ⟨n,H1,f,m,l⟩=>hc a s1 d H1 n us Q f m l) i c
theorem fP(hc:kn X (.type T) r)(j:Gl X x)(hm:X.mg x=none)(k:bootBuiltins x=some (.type T))(g:PA X (e::es) t)(hn:x ≠ "__name__":=by decide)(b:(x == ("__debug__" : Str))=false:=by decide)
  (i:ua (e::es) X.env=(false,bc e X.env)::ua es X.env:=by rfl) (c:(Mc pos (ua es X.env)).any (·.1)=false:=by rfl):PE X (.Call (.Name x p) (e::es) [] pos) (lF r t):=by
 intro a s d H Q I h;refine af (jw I j hm k ?_ hn b);exact Ie (Od (g pos a s d H _ I h) λus s1 ⟨n,H1,f,m,l⟩=>hc a s1 d H1 n us Q f m l) i c
end
end L2
namespace HT
open PySem PyProof.Rows
section
open PySem.SeqAt
open PySem.AutoSeq1 (wpAny_loadPart')
open PySem.MeetsSeq PySem.MeetsSeq2 PySem.MeetsSeq3
end
section
variable{prog:wa}{w:Ja}{A:Ia}{E:Value->aa->Prop}{s:aa}
theorem Ov{t b:Addr}{vs a:List Value}{Q:Value->aa->Prop}(u:Xs s.heap t vs.toArray)(hb:Xs s.heap b a.toArray)(o:vs≠[])
  (h1:a=[]->Q (.ref t) s) (r:a≠[]->Q (.ref s.heap.objs.size) { s with heap:=s.heap.push { cls:=.type "tuple",data:=.seq (vs++a).toArray } })
  (hsz:vs.length+a.length<=sizeLine):wpAny (model prog w) A (lf .Add (.ref t) (.ref b)) Q E s:=by
 obtain⟨⟨cls,m,data,q⟩,i,hc,n,hd⟩:=id u;obtain⟨⟨l,d,k,h⟩,c,f,p,g⟩:=id hb;simp only at hc hd f g;subst hc hd f g;have e:vs.toArray++a.toArray=(vs++a).toArray:=by simp
 by_cases j:a=[]
 ·exact iu ⟨_,i,rfl⟩ ⟨_,c,rfl⟩ Vo Tr Vh Ih (xh _ _)
   (tuple_addW1 t b vs.toArray a.toArray n p m d q h (by simpa using o) (by simp[j])) ⟨i,c,h1 j⟩
 ·refine iu ⟨_,i,rfl⟩ ⟨_,c,rfl⟩ Vo Tr Vh Ih (xh _ _)
   (tuple_addW2 t b vs.toArray a.toArray n p m d q h (by simpa using o) (by simpa using j) (by rw[pa,pa];exact hsz)) ⟨i,c,?_⟩
  rw[e];exact r j
noncomputable def pf(n d:Nat):Option Int->Nat
 |none=>d
 |some v=>if v<0 then (v+(n:Int)).toNat else min v.toNat n
theorem w5(n d:Nat)(hd:d<=n)(o:Option Int):pf n d o<=n:=by
 cases o with
 |none=>exact hd
 |some v=>
  show (if v<0 then (v+(n:Int)).toNat else min v.toNat n)<=n;by_cases a:v<0
  ·rw[da a];omega
  ·rw[ga a];exact Nat.min_le_right _ _
theorem AL(v:Int)(n d:Nat):(if v<0 then max (v+(n:Int)) 0 else min v (n:Int))=((pf n d (some v):Nat):Int):=by
 show (if v<0 then max (v+(n:Int)) 0 else min v (n:Int))=(((if v<0 then (v+(n:Int)).toNat else min v.toNat n):Nat):Int);by_cases a:v<0
 ·simp only[da a];omega
 ·simp only[ga a];omega
theorem V7(b a:Option Int)(n:Nat):Cg b a 1 (n:Int)=(((pf n 0 b:Nat):Int),((pf n n a:Nat):Int)):=by
 have h1:¬ ((1:Int)<0):=by omega
 unfold Cg;simp only[h1,ui];refine MQ ?_ ?_
 ·cases b with
  |none=>rfl
  |some v=>exact AL v n 0
 ·cases a with
  |none=>rfl
  |some v=>exact AL v n n
theorem cT(i j:Nat):Se (i:Int) (j:Int) 1=j - i:=by
 unfold Se;have h1:(1:Int) > 0:=by omega
 simp only[h1,ag,Int.ediv_one];split<;>omega
theorem xJ{v:Value}{o:Option Int}{Q:Option Int->aa->Prop}(p:Pk v o)(h:Q o s):wpAny (model prog w) A (FB v) Q E s:=by
 cases p with
 |none=>exact eJ h
 |int i t=>exact slicePart_int h
theorem jM{g:Addr}{e f:Value}{a c:Option Int}{n:Nat}{Q:Int × Int × Nat->aa->Prop}(j:s.heap.IsSliceOf g e f .none)(pl:Pk e a)(k:Pk f c)
  (h:Q (((pf n 0 a:Nat):Int),1,pf n n c - pf n 0 a) s):wpAny (model prog w) A (ek (.ref g) (pure (n:Int))) Q E s:=by
 obtain⟨os,d,i,b⟩:=id j;unfold ek GB;refine ba (ba (Ik d b (x:=e) rfl (ba (Ik d b (x:=f) rfl (ba (Ik d b (x:=.none) rfl (ra ?_)))))));refine ba (eJ ?_);show wpAny _ _ (if ((1:Int) == 0)=true then _ else _) _ _ s;rw[ga (by decide)];refine ba (xJ pl (ba (xJ k (ba (ra ?_)))));show wpAny _ _ (match Cg a c 1 (n:Int)with|(a,c)=>pure (a,(1:Int),Se a c 1)) _ _ s;rw[V7 a c n];show wpAny _ _ (pure (((pf n 0 a:Nat):Int),(1:Int),Se ((pf n 0 a:Nat):Int) ((pf n n c:Nat):Int) 1)) _ _ s;rw[cT];exact ra h
theorem N1(xs:Array Value)(i k:Nat):((List.range k).filterMap λ(m:Nat)=>xs[((i:Int)+(m:Int) * 1).toNat]?).toArray=((xs.toList.drop i).take k).toArray:=by
 have e:(λ(m:Nat)=>xs[((i:Int)+(m:Int) * 1).toNat]?)=λm=>xs[i+m]?:=by
  funext m;have:((i:Int)+(m:Int) * 1).toNat=i+m:=by omega
  rw[this]
 rw[e];have:=pick_run xs i k;rw[List.filterMap_map]at this;have a:((λx=>xs[x]?) ∘ λx=>i+x)=λm=>xs[i+m]?:=rfl;rw[a]at this;rw[this]
theorem Pj{t k:Addr}{a:Array Value}{n o:Value}{c d:Option Int}{Q:Value->aa->Prop}(e:Xs s.heap t a)(l:s.heap.IsSliceOf k n o .none)(pl:Pk n c)(u:Pk o d)
  (r:¬ (pf a.size 0 c=0/\pf a.size a.size d=a.size))
  (h:Q (.ref s.heap.objs.size) { s with heap:=s.heap.push { cls:=.type "tuple",data:=.seq ((a.toList.drop (pf a.size 0 c)).take (pf a.size a.size d - pf a.size 0 c)).toArray } })
  (hsz:a.size<=sizeLine):wpAny (model prog w) A (zi (.ref t) (.ref k)) Q E s:=by
 have b:sizeOk (.seq ((a.toList.drop (pf a.size 0 c)).take (pf a.size a.size d - pf a.size 0 c)).toArray):=by
  show ((a.toList.drop (pf a.size 0 c)).take (pf a.size a.size d - pf a.size 0 c)).toArray.size<=sizeLine;rw[pa,um,Ru,Rg];omega
 have v:pf a.size a.size d<=a.size:=w5 _ _ (za _) d;obtain⟨os,j,g,p⟩:=id l;have f:s.TypeIs (.ref k) "slice":=⟨os,j,g⟩
 unfold zi;try with_reducible refine Ad ?_
 first|refine ba (ra ?_)|skip
 refine ba (jz e.typeIs (by decide) ?_);refine ba (Rs (name:=rg "__getitem__") e.typeIs pc
  (Wo pc e.typeIs Qw ?_ (ay _ _)))
 show wpAny _ _ (fk (.ref t) >>= _) _ _ s;refine ba (OQ e ?_);refine ba (ju f ?_);rw[da (by decide)];refine ba (jM l pl u ?_);have i:¬ ((((pf a.size 0 c:Nat):Int) == 0 && (1:Int) == 1 && (pf a.size a.size d - pf a.size 0 c) == a.size)=true):=by
  intro q;rw[Ba,Ba]at q;have x:((pf a.size 0 c:Nat):Int)=0:=eq_of_beq q.1.1;have y:pf a.size a.size d - pf a.size 0 c=a.size:=eq_of_beq q.2;exact r ⟨by omega,by omega⟩
 show wpAny _ _ (if (((pf a.size 0 c:Nat):Int) == 0 && (1:Int) == 1 && (pf a.size a.size d - pf a.size 0 c) == a.size)=true then _ else _) _ _ s;rw[ga i,N1];first
  |exact ba (m:=bf _) (Ce (ra ⟨_,rfl,ra h⟩) b)
  |exact ba (m:=bf _) (Ce (ba (ra (ra ⟨_,rfl,ra h⟩))) b)
  |exact ba (ba (m:=bf _) (Ce (ra (ra ⟨_,rfl,ra h⟩)) b))
  |exact ba (ba (m:=bf _) (Ce (ra ⟨_,rfl,ra h⟩) b))
end
end HT
namespace L2
open PySem PySem.Spec PyProof.Rows
noncomputable abbrev TO:=St->Hp->(Option Int->Hp->Prop)->Prop
noncomputable def PO(X:Cx)(e:Option Ka)(t:TO):Prop:=
 ∀ (a:List (Addr × vc)) (s:aa) (σ:St) (H:Hp) (Q:Option Int->Hp->Prop),Inv X a σ H s->t σ H Q->
  wpAny (model X.prog X.w) X.A (evalPart e X.env) (λu c=>∃ o b,Inv X a σ b c/\Pk u o/\Q o b) X.xe s
noncomputable def xY:TO:=λ_ H Q=>Q none H
noncomputable def U7(t:TE):TO:=λb H Q=>t b H λx a=>∃ i,x=.int i/\Q (some i) a
theorem NO{ns:List Int}:∀ {us:List Value},Ud (ns.map V.int) us->ml us ns:=by
 induction ns with
 |nil=>intro us r;rw[jh]at r;cases r;exact .nil
 |cons n ns a=>
  intro us r;rw[Za]at r;cases r with
  |cons b c=>
   obtain⟨t,e⟩:=b;subst e;exact .cons n t (a c)
section
variable{X:Cx}{e:Ka}{te:TE}{lo hi:Option Ka}{tl th:TO}{pos p2:Ke}
theorem MR:PO X none xY:=by
 intro a s b H Q I h;rw[PQ];exact ra ⟨none,H,I,.none,h⟩
theorem zT(h:PE X e te):PO X (some e) (U7 te):=by
 intro a s g H Q I c;rw[evalPart_some];refine Od (h a s g H _ I c) λu s1 ⟨x,H1,b,f,d⟩=>?_;obtain⟨i,rfl,q⟩:=d;obtain⟨t,rfl⟩:=f;exact⟨some i,H1,b,.int i t,q⟩
noncomputable def Mu(X:Cx)(r:V->Option Int->Option Int->Hp->VK->Prop):Prop:=
 ∀ (a:List (Addr × vc)) (s:aa) (σ:St) (H:Hp) (x:V) (v c d:Value) (lo hi:Option Int) (b:Addr) (Q:VK),Inv X a σ H s->Zc x v->s.heap.IsSliceOf b c d .none->Pk c lo->Pk d hi->r x lo hi H Q->
  ∃ T e,typeLookup (.type T) "__getitem__" = pure (some (.builtin e))/\s.TypeIs v T/\wpAny (model X.prog X.w) X.A (zi v (.ref b)) (EP X a σ Q) X.xe s
theorem Mu.or{r d:V->Option Int->Option Int->Hp->VK->Prop}(h:Mu X r)(h':Mu X d):Mu X (λx lo hi H Q=>r x lo hi H Q\/d x lo hi H Q):=by
 intro a s j H x v g i lo hi f Q I e b pl c q;rcases q with q|q
 ·exact h a s j H x v g i lo hi f Q I e b pl c q
 ·exact h' a s j H x v g i lo hi f Q I e b pl c q
noncomputable def M2(r:V->Option Int->Option Int->Hp->VK->Prop)(te:TE)(tl th:TO):TE:=λa H Q=>te a H λx b=>tl a b λl c=>th a c λu d=>r x l u d Q
theorem j6{r:V->Option Int->Option Int->Hp->VK->Prop}(z:Mu X r)(p:PE X e te)(y:PO X lo tl)(C:PO X hi th):PE X (.Subscript e (.Slice lo hi none p2) pos) (M2 r te tl th):=by
 intro a s c H Q I h;refine cy (Od (p a s c H _ I h) λv s1 ⟨x,H1,j,G,D⟩=>?_);refine wpAny_Slice (Od (y a s1 c H1 _ j D) λd s2 ⟨l,i,k,pl,E⟩=>Od (C a s2 c i _ k E) λf s3 ⟨u,g,m,pu,F⟩=>?_);rw[PQ];refine ra ?_;have n:Inv X a c g { s3 with heap:=s3.heap.push { cls:=.type "slice",data:=.fields #[d,f,.none] } }:=m.kept (t':=s3.toks) λb K q=>la _ q;obtain⟨T,J,o,B,t⟩:=z a { s3 with heap:=s3.heap.push { cls:=.type "slice",data:=.fields #[d,f,.none] } } c g x v d f l u s3.heap.objs.size Q n G (kz ..) pl pu F;show wpAny (model X.prog X.w) X.A (Yr e (.Slice lo hi none p2) v (.ref s3.heap.objs.size)) (EP X a c Q) X.xe { s3 with heap:=s3.heap.push { cls:=.type "slice",data:=.fields #[d,f,.none] } };exact tail_any (ops:=[.ref s3.heap.objs.size,v]) B o t (by with_unfolding_all rfl)
noncomputable def lw(xs:List V)(lo hi:Option Int):List V:=(xs.drop (HT.pf xs.length 0 lo)).take (HT.pf xs.length xs.length hi - HT.pf xs.length 0 lo)
theorem uL(xs:List V)(lo hi:Option Int):(lw xs lo hi).length<=xs.length:=by
 unfold lw;rw[um,Ru];omega
noncomputable def gK(K:W.Frag):V->Option Int->Option Int->Hp->VK->Prop:=λx lo hi H Q=>∃ a xs,x=.ref a/\ph K H a xs/\
 ¬ (HT.pf xs.length 0 lo=0/\HT.pf xs.length xs.length hi=xs.length)/\∀ p,H p=none->Q (.ref p) (upd H p (.tup (lw xs lo hi)))
theorem RT:Mu X (gK X.K):=by
 intro g s w H x v t u lo hi p Q I m i pl l h;obtain⟨a,xs,rfl,k,j,q⟩:=h;cases m;obtain⟨d,r,e,f⟩:=I.tuple k;have c:d.toArray.size=xs.length:=by rw[pa];exact r.length.symm
 refine⟨"tuple",_,pc.lookup,e.typeIs,?_⟩;refine HT.Pj e i pl l (by rw[c];exact j) ?_ (by rw[c];exact f);rw[c];refine⟨.ref s.heap.objs.size,_,I.laid (t':=s.toks) (o:=.tup (lw xs lo hi)) (λb n q=>la _ q) (za _) ?_,rfl,q _ (I.cc.fresh (za _))⟩;exact⟨Sb (uL xs lo hi) f,_,(r.drop (HT.pf xs.length 0 lo)).take (HT.pf xs.length xs.length hi - HT.pf xs.length 0 lo),ku _ _⟩
noncomputable def T7(K:W.Frag):R2:=λx y H Q=>∃ a b xs c,x=.ref a/\y=.ref b/\ph K H a xs/\ph K H b c/\xs≠[]/\xs.length+c.length<=sizeLine/\
 (c=[]->Q (.ref a) H)/\(c≠[]->∀ p,H p=none->Q (.ref p) (upd H p (.tup (xs++c))))
theorem Ud.Eo{xs:List V}{us:List Value}(r:Ud xs us):us=[] ↔ xs=[]:=by
 cases r with
 |nil=>simp
 |cons _ _=>simp
theorem rT:Nh X (lf .Add) (T7 X.K):=by
 intro g s B H x y v u Q I p r h;obtain⟨a,b,xs,t,rfl,rfl,i,hb,j,e,m,n⟩:=h;cases p;cases r;obtain⟨k,d,l,_⟩:=I.tuple i;obtain⟨f,c,p2,_⟩:=I.tuple hb;refine HT.Ov l p2 (λz=>j (d.Eo.mp z)) (λz=>⟨.ref a,H,I,rfl,m (c.Eo.mp z)⟩) (λz=>?_) (by rw[<-d.length,<-c.length];exact e);refine⟨.ref s.heap.objs.size,_,I.laid (t':=s.toks) (o:=.tup (xs++t)) (λb A q=>la _ q) (za _) ?_,rfl,n (λw=>z (c.Eo.mpr w)) _ (I.cc.fresh (za _))⟩;exact⟨by rw[Td];exact e,_,d.append c,ku _ _⟩
end
noncomputable def Yq(n:Nat)(i:Int):Option Nat:=if 0<=i then (if i<n then some i.toNat else none)else if -(n:Int)<=i then some (i+n).toNat else none
noncomputable def Ek{α:Type}(xs:List α)(i:Int):Option α:=(Yq xs.length i).bind λj=>xs[j]?
theorem TJ{n:Nat}{i:Int}{j:Nat}(h:Yq n i=some j):seqIndex? i n=some j/\j<n/\-(n:Int)<=i/\i<n:=by
 unfold Yq at h;by_cases h0:0<=i
 ·rw[da h0]at h;by_cases h1:i<n
  ·rw[da h1]at h;have e:i.toNat=j:=ub h;exact⟨by rw[Yv h0 h1,e],by omega,by omega,h1⟩
  ·rw[ga h1]at h;cases h
 ·rw[ga h0]at h;by_cases h1:-(n:Int)<=i
  ·rw[da h1]at h;have e:(i+n).toNat=j:=ub h;exact⟨by rw[mu (by omega) h1,e],by omega,h1,by omega⟩
  ·rw[ga h1]at h;cases h
theorem PK{a:Type}{xs:List a}{i:Int}{v:a}(h:Ek xs i=some v):∃ j,seqIndex? i xs.length=some j/\xs[j]?=some v/\j<xs.length/\-(xs.length:Int)<=i/\i<xs.length:=by
 unfold Ek at h;cases e:Yq xs.length i with
 |none=>rw[e]at h;cases h
 |some j=>
  rw[e]at h;obtain⟨h1,b,h3,h4⟩:=TJ e;exact⟨j,h1,h,b,h3,h4⟩
theorem Dq{a:Type}{xs:List a}{j:Nat}{v:a}(h:xs[j]?=some v):Ek xs (j:Int)=some v:=by
 have b:j<xs.length:=(na.mp h).1;have e:Yq xs.length (j:Int)=some j:=by
  unfold Yq;rw[da (by omega),da (by omega)];simp
 unfold Ek;rw[e];exact h
noncomputable def zL(b:Ka):Prop:=∀ o i,Dp b false o i=m8 [o,i] (zi o i)
noncomputable def pv(X:Cx)(r:R2):Prop:=
 ∀ (b a:Ka) (pins:List (Addr × vc)) (s:aa) (σ:St) (H:Hp) (x y:V) (v u:Value) (Q:VK),Inv X pins σ H s->Zc x v->Zc y u->r x y H Q->
  Dp a false v u=m8 [v,u] (zi v u)->wpAny (model X.prog X.w) X.A (Yr b a v u) (EP X pins σ Q) X.xe s
noncomputable def Vt(X:Cx)(b:String)(r:V->List V->Hp->VK->Prop):Prop:=
 ∀ (a:List (Addr × vc)) (s:aa) (σ:St) (H:Hp) (x:V) (xs:List V) (v:Value) (us:List Value) (Q:VK),Inv X a σ H s->Zc x v->Ud xs us->r x xs H Q->
  wpAny (model X.prog X.w) X.A (call (.builtin b) (v::us)) (EP X a σ Q) X.xe s
section
variable{X:Cx}{a b:Ka}{ta tb:TE}{pos:Ke}
theorem pv.or{r e:R2}(h:pv X r)(h':pv X e):pv X (λx y H Q=>r x y H Q\/e x y H Q):=by
 intro b a c s i H x y v u Q I f g q d;rcases q with q|q
 ·exact h b a c s i H x y v u Q I f g q d
 ·exact h' b a c s i H x y v u Q I f g q d
theorem Vt.or{b:String}{r c:V->List V->Hp->VK->Prop}(h:Vt X b r)(h':Vt X b c):Vt X b (λx xs H Q=>r x xs H Q\/c x xs H Q):=by
 intro a s g H x xs v f Q I e d q;rcases q with q|q
 ·exact h a s g H x xs v f Q I e d q
 ·exact h' a s g H x xs v f Q I e d q
theorem zX{r:R2}(g:pv X r)(f:PE X a ta)(hb:PE X b tb)(i:zL b):PE X (.Subscript a b pos) (Qy r ta tb):=by
 intro c s l H Q I h;exact cy (WG f hb I h λv u s2 x y d e j k q=>g a b c s2 l d x y v u Q e j k q (i _ _))
noncomputable def YG(K:W.Frag):R2:=λx y H Q=>∃ p xs i v,x=.ref p/\y=.int i/\Qe K H p xs/\Ek xs i=some v/\Q v H
noncomputable def kI(K:W.Frag):R2:=λx y H Q=>∃ p xs i v,x=.ref p/\y=.int i/\ph K H p xs/\Ek xs i=some v/\Q v H
theorem YZ:pv X (YG X.K):=by
 intro g f a s m H x y v u Q I C D h l;obtain⟨p,xs,i,z,rfl,rfl,hq,A,q⟩:=h;cases C;obtain⟨t,rfl⟩:=D;obtain⟨d,r,pl,F⟩:=I.list hq;obtain⟨j,h1,n,h3,h4,o⟩:=PK A;obtain⟨w,k,e⟩:=r.get n;have B:=r.length;have hn:=DC;have b:EP X a m Q w s:=⟨z,H,I,e,q⟩
 by_cases h0:0<=i
 ·have c:i.toNat=j:=by
   rw[Yv h0 o]at h1;exact ub h1
  exact item_listR pl.isList h0 (by omega) (by rw[c];simpa using k) b l
 ·have c:(i+(d.toArray.size:Int)).toNat=j:=by
   rw[mu (by omega) h4]at h1;rw[pa,<-B];exact ub h1
  exact nu (x:=w) pl.isList.typeIs mz.lookup
   (wpAny_getItem_list_neg (Q:=λr E=>r=w/\EP X a m Q r E) pl.isList (by omega) (by rw[pa]<;>omega) (by omega) (by rw[c];simpa using k) ⟨rfl,b⟩) l
theorem O5:pv X (kI X.K):=by
 intro e d a s f H x y v u Q I A B h n;obtain⟨p,xs,i,z,rfl,rfl,hq,l,q⟩:=h;cases A;obtain⟨t,rfl⟩:=B;obtain⟨o,r,pl,E⟩:=I.tuple hq;obtain⟨j,h1,k,h3,h4,D⟩:=PK l;obtain⟨w,g,c⟩:=r.get k;have m:=r.length;have hn:=DC;have b:EP X a f Q w s:=⟨z,H,I,c,q⟩
 exact nu (x:=w) pl.typeIs slot_tuple_getitem.lookup
  (getItem_tuple (j:=j) (Q:=λr C=>r=w/\EP X a f Q r C) pl (by omega) (by omega) (by rw[pa,<-m];exact h1) (by simpa using g) ⟨rfl,b⟩) n
theorem pR(its:List Value)(n j:Nat)(u:Value):rf (·.setIfInBounds j u) { cls:=.type "list",data:=.seq its.toArray n }={ cls:=.type "list",data:=.seq (its.set j u).toArray n }:=by
 simp[rf]
theorem Inv.lst{a:List (Addr × vc)}{σ:St}{H:Hp}{s:aa}{p:Addr}{xs:List V}(I:Inv X a σ H s)(h:H p=some (.lst xs)) :
  ∃ (its:List Value) (n:Nat),Ud xs its/\s.heap.get? p=some { cls:=.type "list",data:=.seq its.toArray n }/\xs.length<=sizeLine:=by
 obtain⟨z,its,n,r,e⟩:=I.cc p _ h;exact⟨its,n,r,e,z⟩
theorem Inv.qx{a:List (Addr × vc)}{σ:St}{H:Hp}{s:aa}{p:Addr}{xs ys:List V}{its its':List Value}{n c:Nat}{f:vc->vc}(I:Inv X a σ H s)(h:H p=some (.lst xs))
  (g:s.heap.get? p=some { cls:=.type "list",data:=.seq its.toArray n }) (d:f { cls:=.type "list",data:=.seq its.toArray n }={ cls:=.type "list",data:=.seq its'.toArray c }) (r:Ud ys its') (i:ys.length<=sizeLine) (t:Nat) :
  Inv X a σ (upd H p (.lst ys)) { s with heap:=s.heap.update p f,toks:=t }:=by
 have e:(s.heap.update p f).get? p=some { cls:=.type "list",data:=.seq its'.toArray c }:=by
  rw[Kq f g (by rw[d]<;>rfl),d]
 refine I.write (x:=p) (e:=p) (by rw[h];trivial) (.inl rfl) (λb u hb q=>(xi _ _ (He hb)).trans q) ⟨_,e⟩ ?_;exact⟨i,its',c,r,e⟩
noncomputable def ET:V->V->V->Hp->(Hp->Prop)->Prop:=λo i v H Q=>∃ p xs k j,o=.ref p/\i=.int k/\H p=some (.lst xs)/\Yq xs.length k=some j/\Q (upd H p (.lst (xs.set j v)))
theorem nX:DF X ET:=by
 intro b s y H o i v B A u Q I w m x h;obtain⟨p,xs,k,j,rfl,rfl,hp,g,q⟩:=h;cases w;obtain⟨t,rfl⟩:=m;obtain⟨a,n,r,e,l⟩:=I.lst hp;obtain⟨h1,z,h3,h4⟩:=TJ g;have d:=r.length;have hn:=DC;have f:Inv X b y (upd H p (.lst (xs.set j v))) { s with heap:=s.heap.update p (rf (·.setIfInBounds j u)) }:=
  I.qx hp e (pR a n j u) (r.set x j) (by rw[Zv];exact l) s.toks
 by_cases h0:0<=k
 ·have c:k.toNat=j:=by
   rw[Yv h0 h4]at h1;exact ub h1
  exact W.ki_setAt e h0 (by omega) (by rw[pa,<-d];exact h4) (by rw[c];exact⟨_,f,q⟩)
 ·have c:(k+(a.toArray.size:Int)).toNat=j:=by
   rw[mu (by omega) h3]at h1;rw[pa,<-d];exact ub h1
  exact W.ki_setBack e (by omega) (by rw[pa,<-d];exact h3) (by omega) (by rw[c];exact⟨_,f,q⟩)
theorem hU(b a:Option Int)(n:Nat):(lh b a none n).1=((HT.pf n 0 b:Nat):Int)/\(lh b a none n).2.1=((HT.pf n n a:Nat):Int)/\(lh b a none n).2.2=1:=by
 refine⟨?_,?_,rfl⟩
 ·cases b with
  |none=>simp[lh,HT.pf]
  |some i=>
   simp only[lh,HT.pf,Ss,show (1:Int) > 0 by decide,ag];by_cases h:i<0
   ·simp only[h,ag]<;>omega
   ·simp only[h,ui]<;>omega
 ·cases a with
  |none=>simp[lh,HT.pf]
  |some i=>
   simp only[lh,HT.pf,Ss,show (1:Int) > 0 by decide,ag];by_cases h:i<0
   ·simp only[h,ag]<;>omega
   ·simp only[h,ui]<;>omega
theorem mX(its:List Value)(a b:Option Int):slicePick its.toArray a b none=((its.drop (HT.pf its.length 0 a)).take (HT.pf its.length its.length b - HT.pf its.length 0 a)).toArray:=by
 obtain⟨h1,c,h3⟩:=hU a b its.toArray.size;unfold slicePick;rw[h1,c,h3];simp only[sliceRange_one,pick_run,pa]<;>rfl
noncomputable def zK(K:W.Frag):V->Option Int->Option Int->Hp->VK->Prop:=λx c b H Q=>∃ a xs,x=.ref a/\Qe K H a xs/\∀ p,H p=none->Q (.ref p) (upd H p (.lst (lw xs c b)))
theorem X4:Mu X (zK X.K):=by
 intro g s y H x v u w d e t Q I n i pl m h;obtain⟨a,xs,rfl,j,q⟩:=h;cases n;obtain⟨l,r,f,k⟩:=I.list j;have c:=r.length;refine⟨"list",_,mz.lookup,f.isList.typeIs,?_⟩;refine wpAny_getItem_list_slice f.isList i pl m .none (by simp) ?_ (by rw[pa]<;>omega);rw[mX,<-c];refine⟨.ref s.heap.objs.size,_,I.laid (t':=s.toks) (o:=.lst (lw xs d e)) (λb p q=>la _ q) (za _) ?_,rfl,q _ (I.cc.fresh (za _))⟩;exact⟨Sb (uL xs d e) k,_,0,(r.drop (HT.pf xs.length 0 d)).take (HT.pf xs.length xs.length e - HT.pf xs.length 0 d),Xa _ rfl⟩
noncomputable def qi:V->Bool
 | .zb=>true
 | .bl _=>true
 | .int _=>true
 | .str _=>true
 |_=>false
noncomputable def Kj:V->V->Bool
 | .zb,.zb=>true
 | .bl a,.bl b=>a == b
 | .bl a,.int b=>(if a then 1 else 0) == b
 | .int a,.bl b=>a == (if b then 1 else 0)
 | .int a,.int b=>a == b
 | .str a,.str b=>a == b
 |_,_=>false
theorem oG{A:Ia}{s:aa}{y x:V}{u v:Value}(f:Zc y u)(c:Zc x v)(g:qi y=true)(e:qi x=true):gd A s u v (Kj y x):=by
 cases y with
 |zb=>
  cases f;cases x with
  |zb=>cases c;exact jk _
  |bl b=>cases c;exact QQ b
  |int b=>obtain⟨t,rfl⟩:=c;exact RQ b t
  |str b=>obtain⟨t,rfl⟩:=c;exact SQ b t
  |_=>exact absurd (show false=true from e) Wa
 |bl a=>
  cases f;cases x with
  |zb=>cases c;exact TQ a
  |bl b=>cases c;exact UQ a b
  |int b=>obtain⟨t,rfl⟩:=c;exact VQ a b t
  |str b=>obtain⟨t,rfl⟩:=c;exact WQ a b t
  |_=>exact absurd (show false=true from e) Wa
 |int a=>
  obtain⟨d,rfl⟩:=f;cases x with
  |zb=>cases c;exact XQ a d
  |bl b=>cases c;exact YQ a d b
  |int b=>obtain⟨t,rfl⟩:=c;exact ZQ a d b t
  |str b=>obtain⟨t,rfl⟩:=c;exact tp a d b t
  |_=>exact absurd (show false=true from e) Wa
 |str a=>
  obtain⟨d,rfl⟩:=f;cases x with
  |zb=>cases c;exact aR a d
  |bl b=>cases c;exact bR a d b
  |int b=>obtain⟨t,rfl⟩:=c;exact vp a d b t
  |str b=>obtain⟨t,rfl⟩:=c;exact cR a d b t
  |_=>exact absurd (show false=true from e) Wa
 |_=>exact absurd (show false=true from g) Wa
noncomputable def Vv(x:V)(u:Value):Bool:=match u with
 | .none=>Kj .zb x
 | .bool b=>Kj (.bl b) x
 | .int i _=>Kj (.int i) x
 | .str z _=>Kj (.str z) x
 |_=>false
theorem YM{x y:V}{u:Value}(r:Zc y u)(f:qi y=true):Vv x u=Kj y x:=by
 cases y with
 |zb=>cases r;rfl
 |bl b=>cases r;rfl
 |int i=>obtain⟨t,rfl⟩:=r;rfl
 |str z=>obtain⟨t,rfl⟩:=r;rfl
 |_=>exact absurd (show false=true from f) Wa
theorem sF{x:V}:∀ {xs:List V} {us:List Value},Ud xs us->xs.all qi=true->us.any (Vv x)=xs.any λy=>Kj y x
 |_,_,.nil,_=>rfl
 |y::xs,u::us,.cons r t,f=>by
  rw[Qf,Ba]at f;rw[ue,ue,YM r f.1,sF t f.2]
theorem HF{A:Ia}{s:aa}{x:V}{v:Value}(c:Zc x v)(b:qi x=true):∀ {xs:List V} {us:List Value},Ud xs us->xs.all qi=true->∀ u∈us,gd A s u v (Vv x u)
 |_,_,.nil,_=>λu a=>by cases a
 |y::xs,u::us,.cons r t,f=>λd a=>by
  rw[Qf,Ba]at f;rcases La.mp a with rfl|a
  ·rw[YM r f.1];exact oG r c f.1 b
  ·exact HF c b t f.2 d a
noncomputable def wy(x:V)(xs:List V):Bool:=xs.any λy=>Kj y x
noncomputable def pE(K:W.Frag)(a:Bool):R2:=λx y H Q=>∃ p xs,y=.ref p/\(Qe K H p xs\/ph K H p xs)/\qi x=true/\xs.all qi=true/\Q (.bl (if a then !wy x xs else wy x xs)) H
theorem iN:Nh X (Ib .In) (pE X.K false):=by
 intro d s i H x y v u Q I e g h;obtain⟨p,xs,rfl,hq,c,fs,q⟩:=h;cases g;rcases hq with hq|hq
 ·obtain⟨a,r,pl,f⟩:=I.list hq;refine Su (Vv x) pl.isList (λw b=>HF e c r fs w (by simpa using b)) ⟨.bl _,H,I,rfl,?_⟩;rw[show a.toArray.any (Vv x)=a.any (Vv x) by simp,sF r fs];exact q
 ·obtain⟨a,r,pl,f⟩:=I.tuple hq;refine ou (Vv x) pl (λw b=>HF e c r fs w (by simpa using b)) ⟨.bl _,H,I,rfl,?_⟩;rw[show a.toArray.any (Vv x)=a.any (Vv x) by simp,sF r fs];exact q
theorem Cq:kn X (.builtin "len") (λxs H Q=>∃ p ys,xs=[.ref p]/\(Qe X.K H p ys\/ph X.K H p ys)/\Q (.int ys.length) H):=by
 intro d s i H xs g Q I r h;obtain⟨p,ys,rfl,hq,q⟩:=h;obtain⟨u,rfl,f⟩:=js r;cases f;have hn:=DC;rcases hq with hq|hq
 ·obtain⟨b,c,pl,e⟩:=I.list hq;have a:=c.length;exact Calls.call_len_list pl.isList (by simp only[pa]<;>omega) ⟨.int ys.length,H,I.tok _,⟨s.toks+1,by rw[pa,a]⟩,q⟩
 ·obtain⟨b,c,pl,e⟩:=I.tuple hq;have a:=c.length;exact len_tuple pl (by simp only[pa]<;>omega) ⟨.int ys.length,H,I.tok _,⟨s.toks+1,by rw[pa,a]⟩,q⟩
theorem kn.or{f:Value}{r b:List V->Hp->VK->Prop}(h:kn X f r)(h':kn X f b):kn X f (λxs H Q=>r xs H Q\/b xs H Q):=by
 intro a s e H xs d Q I c q;rcases q with q|q
 ·exact h a s e H xs d Q I c q
 ·exact h' a s e H xs d Q I c q
theorem sD:kn X (.type "list") (λxs H Q=>∃ p ys,xs=[.ref p]/\(Qe X.K H p ys\/ph X.K H p ys)/\∀ l,H l=none->Q (.ref l) (upd H l (.lst ys))):=by
 intro k s x H xs y Q I r h;obtain⟨p,ys,rfl,hq,q⟩:=h;obtain⟨u,rfl,v⟩:=js r;cases v;have g:∀ (a:List Value),Ud ys a->ys.length<=sizeLine->∀ (c:Heap) (d:Nat),(∀ b t,s.heap.get? b=some t->c.get? b=some t)->
   c.get? s.heap.objs.size=some { cls:=.type "list",dict:=none,data:=.seq a.toArray d,slots:=#[] }->EP X k x Q (.ref s.heap.objs.size) { s with heap:=c }:=λa f j c d kp e=>
  ⟨.ref s.heap.objs.size,_,I.laid (t':=s.toks) kp (za _) (show Fi X.prog X.w _ c _ (.lst ys)from⟨j,a,d,f,e⟩),rfl,q _ (I.cc.fresh (za _))⟩
 rcases hq with hq|hq
 ·obtain⟨a,f,pl,j⟩:=I.list hq;have i:=f.length;obtain⟨o,m,hc,n,hd⟩:=pl.isList;exact dR p (.inl rfl) m hc hd (λc d kp e=>g a f j c d kp e) (by simp only[pa]<;>omega)
 ·obtain⟨a,f,pl,j⟩:=I.tuple hq;have i:=f.length;obtain⟨o,m,hc,n,hd⟩:=pl;exact dR p (.inr rfl) m hc hd (λc d kp e=>g a f j c d kp e) (by simp only[pa]<;>omega)
theorem G7:kn X (.type "tuple") (λxs H Q=>∃ p ys,xs=[.ref p]/\((Qe X.K H p ys/\∀ l,H l=none->Q (.ref l) (upd H l (.tup ys)))\/(ph X.K H p ys/\Q (.ref p) H))):=by
 intro a s k H xs t Q I r h;obtain⟨p,ys,rfl,h⟩:=h;obtain⟨u,rfl,n⟩:=js r;cases n;rcases h with⟨hq,q⟩|⟨hq,q⟩
 ·obtain⟨c,f,pl,j⟩:=I.list hq;have i:=f.length;refine call_tuple_list pl.isList (λd kp=>?_) (by simp only[pa]<;>omega);have g:Inv X a k H { s with heap:=d }:=I.kept (t':=s.toks) kp;have m:Inv X a k (upd H d.objs.size (.tup ys)) { s with heap:=d.push { cls:=.type "tuple",data:=.seq c.toArray } }:=
   g.laid (t':=s.toks) (λb o e=>la _ e) (za _) (show Fi X.prog X.w _ _ _ (.tup ys)from⟨j,c,f,ku _ _⟩)
  exact⟨.ref d.objs.size,_,m,rfl,q _ (g.cc.fresh (za _))⟩
 ·obtain⟨c,f,pl,j⟩:=I.tuple hq;exact call_tuple_same pl ⟨.ref p,H,I,rfl,q⟩
noncomputable def JK(K:W.Frag)(T:String)(x:V)(H:Hp):Prop:=match x with
 | .str _=>T = "str"
 | .int _=>T = "int"
 | .ref p=>(T = "list"/\∃ xs,Qe K H p xs)\/(T = "tuple"/\∃ o,K.lookup p=some o/\o.cls=.type "tuple"/\o.dict=none)\/
   (T = "dict"/\((∃ a,H p=some (.dK a))\/∃ a,H p=some (.dT a)))\/(T = "set"/\∃ S n,H p=some (.set S n))
 |_=>False
theorem ZW{d:List (Addr × vc)}{σ:St}{H:Hp}{s:aa}{T:String}{x:V}{v:Value}(I:Inv X d σ H s)(r:Zc x v)(ty:JK X.K T x H) :
  s.TypeIs v T/\∀ a,v=.ref a->∃ ob,s.heap.get? a=some ob/\ob.dict=none:=by
 cases x with
 |str z=>
  obtain⟨t,rfl⟩:=r;cases (show T = "str" from ty);exact⟨typeIs_str s z t,λ_ e=>nomatch e⟩
 |int i=>
  obtain⟨t,rfl⟩:=r;cases (show T = "int" from ty);exact⟨typeIs_int s i t,λ_ e=>nomatch e⟩
 |ref p=>
  cases r;rcases ty with⟨rfl,xs,hq⟩|⟨rfl,o,b,hc,hd⟩|⟨rfl,b⟩|⟨rfl,S,n,b⟩
  ·obtain⟨h,_,pl,_⟩:=I.list hq;refine⟨pl.isList.typeIs,λa e=>?_⟩;cases e;obtain⟨o,n,e,c,hd,_⟩:=pl;exact⟨o,e,hd⟩
  ·refine⟨⟨o,I.Gj p o b,hc⟩,λa e=>?_⟩;cases e;exact⟨o,I.Gj _ o b,hd⟩
  ·have z:∃ o,s.heap.get? p=some o/\o.ExactDict:=by
    rcases b with⟨g,b⟩|⟨g,b⟩
    ·obtain⟨_,_,_,_,o,_,_,e,ex,_⟩:=I.cc p _ b;exact⟨o,e,ex⟩
    ·obtain⟨_,_,_,_,o,_,_,e,ex,_⟩:=I.cc p _ b;exact⟨o,e,ex⟩
   obtain⟨o,e,ex⟩:=z;refine⟨⟨o,e,ex.1⟩,λa f=>?_⟩;cases f;exact⟨o,e,ex.2.1⟩
  ·obtain⟨o,_,_,_,e,ex,_⟩:=I.cc p _ b;refine⟨⟨o,e,ex.1⟩,λa f=>?_⟩;cases f;exact⟨o,e,ex.2.1⟩
 |_=>exact False.elim ty
noncomputable def Z3(K:W.Frag)(T:String)(r:V->List V->Hp->VK->Prop)(to:TE)(t:TA):TE:=λb H Q=>to b H λx a=>JK K T x a/\t b a λxs c=>r x xs c Q
variable{o e:Ka}{es:List Ka}{to:TE}{t:TA}{name:Str}{apos cpos:Ke}{T id:String}{r:V->List V->Hp->VK->Prop}
theorem rV(y:jn T)(slot:Slot T name id)(g:Sq (.builtin id)=pure (.type "method_descriptor"))(hm:Vt X id r)(u:PE X o to)(q:PA X (e::es) t)
  (c:Zd o name X.env (bc o X.env)=bc o X.env:=by rfl)
  (f:((Mc cpos (ua (e::es) X.env)).all (λx=>!x.1) && (Wn cpos (Ai [] X.env)).all (λx=>x.1.isSome)
   && decide ((e::es).length+([]:List xj).length+(if ([]:List xj).isEmpty then 0 else 1)<30))=true:=by rfl)
  (d:(apos.endLine == cpos.line)=true:=by rfl) (w:ua (e::es) X.env=(false,bc e X.env)::ua es X.env:=by rfl) (b:(Mc cpos (ua es X.env)).any (·.1)=false:=by rfl) :
  PE X (.Call (.Attribute o name apos) (e::es) [] cpos) (Z3 X.K T r to t):=by
 intro a s i H Q I h;refine qu c f d rfl (Od (u a s i H _ I h) λv s1 ⟨x,H1,j,l,ty,z⟩=>?_);obtain⟨h1,p⟩:=ZW j l ty;refine⟨T,id,y,slot,g,h1,p,?_⟩;have k:=q cpos a s1 i H1 _ j z;rw[w]at k ⊢;refine pi (by show (false || (Mc cpos (ua es X.env)).any (·.1))=false;rw[b]<;>rfl) (cj ?_);exact Od k λus s2 ⟨C,m,n,B,A⟩=>hm a s2 i m x C v us Q n l B A
end
noncomputable def WL(X:Cx)(b:String)(r:V->List V->Hp->VK->Prop):Prop:=
 ∀ (a:List (Addr × vc)) (s:aa) (σ:St) (H:Hp) (x:V) (xs:List V) (v:Value) (us:List Value) (Q:VK),Inv X a σ H s->Zc x v->Ud xs us->r x xs H Q->
  wpAny (model X.prog X.w) X.A (call (.builtin b) (v::us)) (EP X a σ Q) X.xe s
theorem Ud.one:∀ {x:V} {us:List Value},Ud [x] us->∃ u,us=[u]/\Zc x u
 |_,_,.cons r .nil=>⟨_,rfl,r⟩
theorem Ud.two:∀ {x y:V} {us:List Value},Ud [x,y] us->∃ u v,us=[u,v]/\Zc x u/\Zc y v
 |_,_,_,.cons r (.cons q .nil)=>⟨_,_,rfl,r,q⟩
theorem Ud.zero:∀ {us:List Value},Ud [] us->us=[]
 |_,.nil=>rfl
section
variable{X:Cx}{pins:List (Addr × vc)}{σ:St}{H:Hp}{s:aa}{l b:Addr}{xs ys zs:List V}
theorem Inv.xz{its its':List Value}{n:Nat}{f:Array Value->Array Value}{t':Nat}(I:Inv X pins σ H s)(a:H l=some (.lst xs))
  (e:s.heap.get? l=some { cls:=.type "list",data:=.seq its.toArray n }) (b:f its.toArray=its'.toArray) (d:Ud ys its') (g:ys.length<=sizeLine) :
  Inv X pins σ (upd H l (.lst ys)) { s with heap:=s.heap.update l (rf f),toks:=t' }:=by
 have q:=W7 e f;rw[b]at q;refine I.write (x:=l) (e:=l) (by rw[a];exact trivial) (.inl rfl) (λh u hb c=>(xi s.heap (rf f) (He hb)).trans c) ⟨_,q⟩ ?_;exact⟨g,its',_,d,q⟩
theorem Inv.vx{its:List Value}{t':Nat}(I:Inv X pins σ H s)(a:Ud ys its)(b:ys.length<=sizeLine) :
  Inv X pins σ (upd H s.heap.objs.size (.lst ys)) { s with heap:=s.heap.push { cls:=.type "list",data:=.seq its.toArray },toks:=t' }:=
 I.laid (λ_ _ q=>la _ q) (za _) ⟨b,its,0,a,Xa _ rfl⟩
theorem Inv.fresh(I:Inv X pins σ H s):H s.heap.objs.size=none:=I.cc.fresh (za _)
theorem Inv.au(I:Inv X pins σ H s)(a:H l=some (.lst xs)):xs.length<=sizeLine/\∃ (its:List Value) (n:Nat),Ud xs its/\xs.length=its.length/\s.heap.get? l=some { cls:=.type "list",data:=.seq its.toArray n }:=by
 obtain⟨z,its,n,r,e⟩:=I.cc l _ a;exact⟨z,its,n,r,r.length,e⟩
theorem g7{n:Nat}(h:n<=sizeLine):Vg n=false:=by
 unfold Vg;exact xb (by omega)
end
section
variable{X:Cx}
noncomputable def dJ:V->List V->Hp->VK->Prop:=λx a H Q=>∃ l xs y,x=.ref l/\a=[y]/\H l=some (.lst xs)/\xs.length<sizeLine/\Q .zb (upd H l (.lst (xs++[y])))
theorem nB:WL X "list.append" dJ:=by
 intro c s o H x m v k Q I g f h;obtain⟨l,xs,y,rfl,rfl,b,j,q⟩:=h;cases g;obtain⟨u,rfl,d⟩:=f.one;obtain⟨z,a,n,r,i,e⟩:=I.au b;refine call_meets F.slot_list_append ⟨_,e,rfl⟩ F.entry_list_append (F.args_list_append_2 _ _) (PySem.list_append l a.toArray n u (by rw[pa];omega)) ⟨e,?_⟩;refine⟨.zb,_,I.xz (its':=a++[u]) b e (by simp) (r.append (.cons d .nil)) ?_,rfl,q⟩;rw[Td,List.length_singleton];omega
noncomputable def wO:V->List V->Hp->VK->Prop:=λx c H Q=>∃ l b xs a,x=.ref l/\c=[.ref b]/\H l=some (.lst xs)/\H b=some (.lst a)/\xs.length+a.length<=sizeLine/\Q .zb (upd H l (.lst (xs++a)))
theorem AR:WL X "list.extend" wO:=by
 intro i s J H x D v C Q I y w h;obtain⟨l,b,xs,G,rfl,rfl,g,k,B,q⟩:=h;cases y;obtain⟨u,rfl,t⟩:=w.one;cases t;obtain⟨z,c,n,r,A,e⟩:=I.au g;obtain⟨E,a,o,p,m,j⟩:=I.au k;have f:c.toArray.size+a.toArray.size<=sizeLine:=by rw[pa,pa];omega
 have d:¬ (!c.toArray.isEmpty && Vg (c.toArray.size+a.toArray.size))=true:=by
  rw[g7 f,Rw];exact Wa
 refine call_meets F.slot_list_extend ⟨_,e,rfl⟩ F.entry_list_extend (F.args_list_extend_2 _ _)
  (AutoSeq1.list_extend_list_list_0 l c.toArray n b a.toArray o d (by rw[pa];omega) (by omega)) ⟨e,j,?_⟩
 refine⟨.zb,_,I.xz (its':=c++a) g e (by simp) (r.append p) ?_,rfl,q⟩;rw[Td];omega
noncomputable def DT:R2:=λx y H Q=>∃ l b xs a,x=.ref l/\y=.ref b/\H l=some (.lst xs)/\H b=some (.lst a)/\xs.length+a.length<=sizeLine/\∀ p,H p=none->Q (.ref p) (upd H p (.lst (xs++a)))
theorem X1:Nh X (lf .Add) DT:=by
 intro d s D H x y v u Q I o p h;obtain⟨l,b,xs,C,rfl,rfl,j,i,w,q⟩:=h;cases o;cases p;obtain⟨z,c,n,r,t,e⟩:=I.au j;obtain⟨B,a,A,m,k,f⟩:=I.au i;refine PySem.P.add_list e f ?_ (by rw[pa,pa];omega);have g:c.toArray++a.toArray=(c++a).toArray:=by simp
 rw[g];exact⟨.ref _,_,I.vx (t':=s.toks) (r.append m) (by rw[Td];omega),rfl,q _ I.fresh⟩
end
section
variable{prog:wa}{w:Ja}{A:Ia}{E:Value->aa->Prop}{s:aa}
set_option maxRecDepth 100000 in
end
section
variable{X:Cx}
end
end L2
namespace Att
open PySem PySem.W PySem.Calls PyProof.Rows
theorem VX{P:lJ}{h:Heap}:∀ (ns:List Int) (vs:List Value),WellAll P h vs (ns.map NE)->ml vs ns:=by
 intro ns;induction ns with
 |nil=>
  intro vs w;rw[jh]at w;cases w;exact .nil
 |cons n ns c=>
  intro vs w;rw[Za]at w;cases w with
  |cons a b=>
   cases a;exact .cons _ _ (c _ b)
theorem mV{l:n8}{n:Nat}(hn:l.most=some n){P:lJ}{h:Heap}{args:List WData}{c:List Value}
  (b:l.row.toRowW.claim.pre args=true) (j:WellAll P h c args) :
  ∃ a vs ns,c=[pb a]/\args=[WData.list (ns.map NE)]/\h.get? a=some { cls:=.type "list",data:=.seq vs.toArray }/\ml vs ns/\ns.length<=n:=by
 have i:WShape.hasAll [] args [.list .int]=true:=(pre_splitW b).1;have hc:l.pre.holds [] { args:=args }=true:=(pre_splitW b).2;obtain⟨d,r,rfl,h1,k⟩:=hasAllW_cons i;obtain rfl:=hasAllW_nil k;obtain⟨xs,rfl,h3⟩:=hasW_list h1;obtain⟨ns,rfl⟩:=items_int h3;have f:ns.length<=n:=by
  unfold OpenLaw.pre at hc;have h4:(WTm.not (.lt (.lit (.int (n:Int))) (.len (.arg 0)))).holds [] { args:=[.list (ns.map .int)] }=true:=by
   have h4:=(holds_andW hc).1;rw[hn]at h4;exact h4
  have g:=condW_of h4 (w_not (w_lt w_lit (w_len_list (w_arg rfl))));rw[Ub]at g;refine Nat.le_of_not_lt λq=>?_;have o:(n:Int)<((ns.length:Nat):Int):=by omega
  first
   |(rw[jd o]at g;exact absurd g (by decide))
   |(simp at g;omega)
 cases j with
 |cons p s=>
  cases s;cases p with
  |list m e=>exact⟨_,_,ns,rfl,rfl,m,VX ns _ e,f⟩
theorem y1(l:n8)(args:List WData):l.row.toRowW.claim.post args (.bool true) args=true:=
 postW_of (r:=l.row.toRowW) (X:=(true == true))
  (show tz [] (.bool true) .bool=true by first|rfl|decide|simp[tz,WShape.arms,WShape.armsAll])
  (show (WTm.eq .res (.lit (.bool true))).value [] { args:=args,res:=some (.bool true),after:=args }=some (.bool (true == true))from w_eq_bool (w_res rfl) w_lit) rfl
theorem kl{l:n8}{n:Nat}{q:wa}{c:List Str}{x:(Str->Option Value)->Heap->Prop}{y:Ja->Heap->Prop}{d:DefRec}
  (hn:l.most=some n) (s:d.params.defaults=[])
  (call:∀ (w:Ja) (s₀ b:aa) (mg mb:Str->Option Value) (h:Addr) (o:vc) (v cd e:Value) (a:Addr) (vs:List Value) (ns:List Int),
   Ground q c [] x w s₀ mg mb b.heap->y w b.heap->
   b.heap.get? h=some o->o.data=.func (docDef d.name d.params d.body d.scope v cd e)->b.heap.CodeRec cd d.name->mg d.name=some (.ref h)->
   b.heap.get? a=some { cls:=.type "list",data:=.seq vs.toArray }->ml vs ns->ns.length<=n->b.gens=#[]->
   codeAny (model l.prog w) Dg (.call (.ref h) ⟨[.ref a],[]⟩) (λr m=>r=.ok (.ret (.bool true))/\OldK b.heap m.heap/\m.os=b.os/\zg m.gens) b) :
  WalkO q c x y l.row.toRowW d [] (λf vs=>PySem.call f vs):=by
 intro w s₀ b mg mb G Y h o v cd e D kV I hd p A t F z C K k B J u H;obtain rfl:D=.none:=Dflts.none A s;obtain rfl:kV=.none:=Dflts.noKw A;obtain⟨a,vs,ns,rfl,rfl,j,g,i⟩:=mV hn k u;refine enter_call (Jh (call w s₀ b mg mb h o v cd e a vs ns G Y I (fd_plain hd) p t j g i F) λr m hq=>?_);obtain⟨rfl,E,h3,h4⟩:=hq;exact⟨.inl ⟨.bool true,.bool true,[],rfl,λ_=>rfl,.bool true,y1 l _,λ_=>⟨List.Pairwise.nil,λ_ hm=>(nomatch hm)⟩⟩,E,h3,h4⟩
section
variable{prog:wa}{w:Ja}{A:Ia}{E:Value->aa->Prop}{s:aa}{K:Frag}
noncomputable def A8(h:Heap)(L d:Addr):List (Addr × vc):=(List.range h.objs.size).filterMap λa=>if a=L\/a=d then none else (h.get? a).map λo=>(a,o)
end
end Att
namespace L2
open PySem PySem.Spec PyProof.Rows
theorem Az:∀ {vs:List Value} {ns:List Int},ml vs ns->Ud (ns.map V.int) vs
 |_,_,.nil=>.nil
 |_,_,.cons n t h=>.cons ⟨t,rfl⟩ (Az h)
noncomputable def WI(H:Hp):Prop:=∀ b,H b=none\/∃ o xs,H b=some (.db o (.lst xs))
theorem mS{P:wa}{w:Ja}{K:W.Frag}{mg mb:Str->Option Value}{N:Dr}{k:Nat}{E a:Addr}{R:Qd}{x:Str}{sp:Sp}{s₁:aa}{vs:List Value}{ns:List Int}
  (O:K.In s₁.heap) (t:s₁.heap.Ns mainGlobals mg) (hb:s₁.heap.Ns builtinsNs mb) (I:∀ x:Str,x ≠ "__name__"->mb x=bootBuiltins x) (p:s₁.heap.NoLimit) (hg:s₁.gens=#[])
  (C:s₁.heap.get? a=some { cls:=.type "list",data:=.seq vs.toArray }) (U:ml vs ns) (X:ns.length<=sizeLine) (hr:Ld k Dg)
  (F:∀ base:Heap,K.In base->base.Ns mainGlobals mg->Xg P w K mg base N k E R [x] sp) (i:∀ (s:aa) (u:Value),Tf s R ⟨[u],[]⟩ [(x,u)])
  (L:∀ H:Hp,WI H->Qe K H a (ns.map V.int)->sp [.ref a] H (λv _=>v=.bl true) λ_ _ _=>False)
  (G:∀ H e s',N [] H s₁ (λ_ _ _=>False) e s'->False) :
  codeAny (model P w) Dg (.call (.ref E) ⟨[.ref a],[]⟩) (λr s'=>r=.ok (.ret (.bool true))/\OldK s₁.heap s'.heap/\s'.os=s₁.os/\zg s'.gens) s₁:=by
 have Y:=Az U;have A:=U.length;have g:∀ H:Hp,WI H->Qe K H a (ns.map V.int)->ci P w H s₁.heap->(∀ b,H b≠none->b=a)->(H a≠none->K.lookup a=none)->
   codeAny (model P w) Dg (.call (.ref E) ⟨[.ref a],[]⟩) (λr s'=>r=.ok (.ret (.bool true))/\OldK s₁.heap s'.heap/\s'.os=s₁.os/\zg s'.gens) s₁:=by
  intro H T hS cc S hK;have c:∀ {b:Addr} {o:vc},s₁.heap.get? b=some o->H b=none->(br s₁.heap H).get? b=some o:=λe n=>IL e n;have M:∀ {b:Addr} {o:vc} {j:Array HB} {ep:Nat},s₁.heap.get? b=some o->o.data=.dict j ep->H b=none:=fun {b o j ep} e d=>by
   cases q:H b with
   |none=>rfl
   |some u=>
    have D:b=a:=S b (by rw[q];simp);subst D;rw[C]at e;cases e;have Z:Data.seq vs.toArray _=Data.dict j ep:=d;cases Z
  have f:∀ {b:Addr} {m:Str->Option Value},s₁.heap.Ns b m->(br s₁.heap H).Ns b m:=fun {b m} ⟨o,j,ep,e,d,r⟩=>⟨o,j,ep,c e (M e d),d,r⟩
  have l:K.In (br s₁.heap H):=λb o e=>c (O b o e) (by
   cases q:H b with
   |none=>rfl
   |some u=>
    have D:b=a:=S b (by rw[q];simp);subst D;rw[hK (by rw[q];simp)]at e;cases e)
  have hM:Mod K mg (br s₁.heap H):=⟨l,f t,⟨mb,f hb,I⟩,let ⟨mc,h1,h2⟩:=p;⟨mc,f h1,h2⟩⟩
  have e0:nl P w K mg (br s₁.heap H) Dg [] s₁ H:=⟨rfl,hM,λb o e=>vL e,Jq (rO _ _),trivial,λb hb=>absurd (show b∈([]:List Addr)from hb) (by simp),cc,.of_eq hg⟩
  refine Jh ((F _ l (f t)).run Dg [] s₁ H ⟨[.ref a],[]⟩ [.ref a] [.ref a] _ _ hr e0 (i s₁ (.ref a)) (.cons rfl .nil) (L H T hS)) λr s' h=>?_;cases r with
  |error e=>exact(G H e s' h).elim
  |ok fl=>
   cases fl with
   |next=>exact False.elim h
   |brk=>exact False.elim h
   |cont=>exact False.elim h
   |ret u=>
    obtain⟨v,H',os,bare,un,y,r',q⟩:=h;have q':v=.bl true:=q;subst q';obtain rfl:u=kf true:=r';refine⟨rfl,OldK.of_keep λb o e=>?_,os,bare⟩;cases q:H b with
    |none=>exact un.keep b o e q (by intro z;exact absurd (show b∈([]:List Addr)from z) (by simp)) (by simp)
    |some u=>
     rcases T b with z|⟨ob,xs,z⟩
     ·rw[q]at z;cases z
     ·have z2:=un.ah b ob _ z;obtain⟨Q,_⟩:=cc b _ z;obtain⟨e2,_⟩:=y b _ z2;rw[e]at Q;cases Q;exact e2
 cases J:K.lookup a with
 |some o=>
  have e:=O a o J;rw[C]at e;cases e;refine g (λ_=>none) (λ_=>.inl rfl) (.inr ⟨_,vs.toArray,_,J,rfl,rfl,rfl,by rw[pa,A];exact X,by simpa using Y⟩) (λb u z=>by have B:(none:Option HO)=some u:=z;cases B) (λb z=>absurd rfl z) λz=>absurd rfl z
 |none=>
  refine g (λb=>if b=a then some (.db { cls:=.type "list",data:=.seq vs.toArray } (.lst (ns.map V.int)))else none) (λb=>?_) (.inl (.inr ⟨{ cls:=.type "list",data:=.seq vs.toArray },da rfl⟩)) (λb u z=>?_) (λb z=>?_) λ_=>J
  ·by_cases hb:b=a
   ·exact .inr ⟨_,_,da hb⟩
   ·exact .inl (ga hb)
  ·by_cases hb:b=a
   ·have B:=(da hb).symm.trans z;cases B;subst hb;exact⟨C,by rw[Ub];exact X,vs,_,Y,C⟩
   ·have B:=(ga hb).symm.trans z;cases B
  ·by_cases hb:b=a
   ·exact hb
   ·exact absurd (ga hb) z
noncomputable abbrev Mh{K:W.Frag}{h:Heap}(_:K.In h):W.Frag:=K
theorem Q8{l:W.OpenLaw}{n k:Nat}{q:wa}{j:List Str}{L:(Str->Option Value)->Heap->Prop}{I:Ja->Heap->Prop}{d:DefRec}{K:lJ->W.Frag}{D:Ja->Dr}{sp:Ja->Sp}{x:Str}
  (hn:l.most=some n) (B:n<=sizeLine) (z:d.params.defaults=[]) (U:Ld k Dg)
  (Q:∀ (w:Ja) (h:Heap),I w h->(K w.params).In h)
  (F:∀ (w:Ja) (mg:Str->Option Value) (r:Addr) (h:Heap),(K w.params).In h->h.Ns mainGlobals mg->mg d.name=some (.ref r)->
   ∃ t:Qd,(∀ (s:aa) (u:Value),Tf s t ⟨[u],[]⟩ [(x,u)])/\
    ∀ base:Heap,(K w.params).In base->base.Ns mainGlobals mg->Xg l.prog w (K w.params) mg base (D w) k r t [x] (sp w))
  (C:∀ (w:Ja) (H:Hp) (a:Addr) (ns:List Int),ns.length<=n->WI H->Qe (K w.params) H a (ns.map V.int)->sp w [.ref a] H (λv _=>v=.bl true) λ_ _ _=>False)
  (y:∀ (w:Ja) (H:Hp) (s:aa) (e:Value) (s':aa),D w [] H s (λ_ _ _=>False) e s'->False) :
  W.WalkO q j L I l.row.toRowW d [] (λf J=>PySem.call f J):=by
 refine Att.kl hn z λw s₀ p mg mb r o pm X M a J ns G Y Z hd R A m i c S=>?_;have E:=Q w _ Y;obtain⟨t,hb,N⟩:=F w mg r _ E G.T.g A;exact mS E G.T.g G.T.b G.T.builtins G.T.nolimit S m i (Sb c B) U N hb (λH O P=>C w H a ns c O P) λH e s'=>y w H p e s'
noncomputable def Gn(s:Stmt):Arguments:=match s with
 | .FunctionDef _ a _ _ _ _ _ _ _ _=>a
 |_=>{ posonlyargs:=[],args:=[],vararg:=none,kwonlyargs:=[],kw_defaults:=[],kwarg:=none,defaults:=[] }
noncomputable def pj(s:Stmt):List Stmt:=match s with
 | .FunctionDef _ _ b _ _ _ _ _ _ _=>b
 |_=>[]
noncomputable def Kc(s:Stmt):Scope:=match s with
 | .FunctionDef _ _ _ _ _ _ sc _ _ _=>sc
 |_=>{ kind:=.function,names:=[],isGenerator:=false,isCoroutine:=false }
noncomputable abbrev IM:Dr:=λ_ _ _ _ _ _=>False
noncomputable abbrev E0:XK:=λ_ _ _=>False
structure gw(K:W.Frag)(x qual:Str)(st:Stmt)(f:Addr)(fd:Qd):Prop where
 ex:∃ (oc:Value) (od:Option Addr) (kV doc pm:Value) (an:Option Addr) (cdv ct:Value) (osl:Array (Option Value)),
  fd=W.fnOf x qual (Gn st) (pj st) (Kc st) .none kV doc pm an cdv ct/\K.lookup f=some ⟨oc,od,.func fd,osl⟩/\W.codeIn K cdv qual=true
 kp:W.keepIn K (.ref f)=true
section
variable{P:wa}{w:Ja}{K:W.Frag}{mg:Str->Option Value}{base:Heap}
theorem gw.ok{x qual:Str}{st:Stmt}{f:Addr}{e:Qd}{N ps:List Str}{k:Nat}{sp:Sp}(F:gw K x qual st f e)(S:Aa N ps (Kc st))(len:∀ vs H Q E,sp vs H Q E->vs.length=ps.length)
  (b:∀ (a:Value) (A:Ia) (outer:List yg) (s:aa) (H:Hp) (vs:List V) (Q:VK) (E:XK),Ld k (A.deeper (Bg qual (Kc st) s.heap.objs.size f a))->sp vs H Q E->
   ∃ t,mr (Ip IM P w K mg base N qual (Kc st) f a A outer s H E).En (pj st) t/\t { nx:=λ_ g=>Q .zb g,rt:=Q } (Ut N vs) H):Xg P w K mg base IM (k+1) f e ps sp:=by
 obtain⟨n,o,kV,i,p,m,a,ct,l,rfl,lk,c⟩:=F.ex;refine eN lk c S len λA outer s H vs Q E j d=>?_;obtain⟨t,h,q⟩:=b a A outer s H vs Q E j d;exact⟨t,h.En,q⟩
theorem gw.binds{x qual:Str}{st:Stmt}{f:Addr}{e:Qd}{ps:List Str}(F:gw K x qual st f e)
  (h:∀ (kV b d:Value) (c:Option Addr) (a ct:Value) (us:List Value),us.length=ps.length->bindArgs (W.fnOf x qual (Gn st) (pj st) (Kc st) .none kV b d c a ct) ⟨us,[]⟩=pure (ps.zip us)):Iq K e ps []:=by
 obtain⟨j,k,kV,b,d,c,a,ct,i,rfl,lk,g⟩:=F.ex;exact .all (h kV b d c a ct)
theorem nK{x qual:Str}{st:Stmt}{f:Addr}{h:Value}{od e:Option Addr}{d:Array (Option Value)}{kV b g a ct:Value}(l:K.lookup f=some ⟨h,od,.func (W.fnOf x qual (Gn st) (pj st) (Kc st) .none kV b g e a ct),d⟩)
  (c:W.codeIn K a qual=true) (k:W.keepIn K (.ref f)=true):gw K x qual st f (W.fnOf x qual (Gn st) (pj st) (Kc st) .none kV b g e a ct):=⟨⟨h,od,kV,b,g,e,a,ct,d,rfl,l,c⟩,k⟩
end
theorem zJ{n:Nat}(h:n<=1000):n<sizeLine:=tu h (by decide)
section
variable{X:Cx}
end
noncomputable def Ku(H a:Hp):Prop:=∀ b o,H b=some o->a b=some o
theorem Ku.refl(H:Hp):Ku H H:=λ_ _ h=>h
theorem Ku.trans{H d H2:Hp}(a:Ku H d)(b:Ku d H2):Ku H H2:=λc o h=>b c o (a c o h)
theorem Ku.free{H a:Hp}(e:Ku H a){l:Addr}(h:a l=Option.none):H l=Option.none:=by
 cases q:H l with
 |none=>rfl
 |some o=>
  rw[e l o q]at h;cases h
theorem Ku.seq{K:W.Frag}{H b:Hp}{a:Addr}{xs:List V}(e:Ku H b)(h:Qe K H a xs):Qe K b a xs:=by
 rcases h with(h|⟨o,h⟩)|h
 ·exact .inl (.inl (e _ _ h))
 ·exact .inl (.inr ⟨o,e _ _ h⟩)
 ·exact .inr h
end L2
namespace L4
open PySem PySem.Spec PyProof.Rows L2
theorem ON{c:Type}(a:c):∃ b,b=a:=⟨a,rfl⟩
noncomputable def hide{b:Type}(a:b):b:=Classical.choose (ON a)
@[simp] theorem Gs{b:Type}(a:b):hide a=a:=X7 (ON a)
inductive D where
 |zb|bl (b:Bool)|int (i:Int)|str (x:Str)|tup (xs:List D)|ae (ns:List Int)|ref (n:Nat)
 |lst (xs:List D)|Db (ks:List Key) (xs:List D)|obj (c:Nat) (ns:List Str) (xs:List D)|Kr (c:Nat)|gt (ss:List Str)
inductive Ob where
 |lst (xs:List D)
 |Db (kvs:List (Key × D))
 |ins (c:Nat) (fs:List (Str × D))
 |Cf (kvs:List (Key × D))
 |yk (ks:List (List Key))
noncomputable abbrev Ya:=List Ob
noncomputable abbrev St:=L2.St
noncomputable abbrev Ev:=List (Option D)
structure Xn where
 cls:Nat
inductive Out(α:Type) where
 |ok (a:α) (σ:Ya)
 |ex (x:Xn) (σ:Ya)
 |bad
noncomputable abbrev M(a:Type):=Ya->Out a
noncomputable def ret{α:Type}(a:α):M α:=λb=>.ok a b
noncomputable def bad{α:Type}:M α:=λ_=>.bad
noncomputable def Out.bind{c β:Type}(o:Out c)(k:c->M β):Out β:=match o with
 | .ok a b=>k a b
 | .ex x b=>.ex x b
 | .bad=>.bad
noncomputable def Xc{a β:Type}(m:M a)(k:a->M β):M β:=λb=>(m b).bind k
inductive Fl where
 |nx (ρ:Ev)|rt (d:D)|bk (ρ:Ev)|ct (ρ:Ev)|xc (ρ:Ev) (x:Xn)
structure Tab where
 P:Addr
 line:Int
 col:Int
 qual:Str
structure Tx where
 qm:List Tab
 bm:Addr
structure Tb where
 K:W.Frag
 ca:Nat->Addr
 tx:Tx
noncomputable def Ks(q:Str)(c:Addr):Heap->Prop:=λh=>∃ o a t,h.get? c=some o/\o.data=.fields a/\a[1]?=some (.str q t)
noncomputable def SC(bm:Addr):Heap->Prop:=λh=>∃ o,h.get? bm=some o/\o.cls=.type "module"/\o.dict=some builtinsNs/\o.data=.plain
noncomputable def Vq(T:Tb)(μ:List Addr)(H:Hp):Prop:=∀ t∈T.tx.qm,(T.tx.bm ∉ μ/\∃ b,H T.tx.bm=some (.db b (.ext (SC T.tx.bm))))/\t.P ∉ μ/\∃ a,H t.P=some (.Ol a)/\(a=#[]\/∃ c,a=#[pe t.line,pe t.col,.ref c]/\c ∉ μ/\H c=some (.ext (Ks t.qual c)))
theorem Vq.grow{T:Tb}{μ:List Addr}{H H':Hp}(h:Vq T μ H)(k:∀ b u,H b=some u->H' b=some u):Vq T μ H':=λt j=>by
 obtain⟨⟨a,l,d⟩,f,m,g,i⟩:=h t j;exact⟨⟨a,l,k _ _ d⟩,f,m,k _ _ g,i.imp id λ⟨c,e,n,z⟩=>⟨c,e,n,k _ _ z⟩⟩
theorem Vq.sub{T:Tb}{μ μ':List Addr}{H:Hp}(h:Vq T μ' H)(k:∀ b∈μ,b∈μ'):Vq T μ H:=λt j=>by
 obtain⟨⟨a,d⟩,f,l,g,i⟩:=h t j;exact⟨⟨λz=>a (k _ z),d⟩,λz=>f (k _ z),l,g,i.imp id λ⟨c,e,n,z⟩=>⟨c,e,λy=>n (k _ y),z⟩⟩
theorem Vq.more{T:Tb}{μ:List Addr}{H:Hp}{p:Addr}(h:Vq T μ H)(hp:H p=none):Vq T (μ++[p]) H:=λt j=>by
 obtain⟨⟨f,k,a⟩,g,l,d,i⟩:=h t j;have ne:∀ {b:Addr} {u:HO},H b=some u->b ∉ μ->b ∉ μ++[p]:=fun {b u} e n z=>(Qg.mp z).elim n λy=>by
  have m:b=p:=by simpa using y
  subst m;rw[hp]at e;cases e
 exact⟨⟨ne a f,k,a⟩,ne d g,l,d,i.imp id λ⟨c,e,n,z⟩=>⟨c,e,ne z n,z⟩⟩
theorem Vq.out{T:Tb}{μ:List Addr}{H H':Hp}{a:Addr}(h:Vq T μ H)(m:∀ b,b≠a->H' b=H b)(l:a∈μ\/∃ kvs,H a=some (.dK kvs)):Vq T μ H':=λt o=>by
 obtain⟨⟨f,p,i⟩,g,q,j,k⟩:=h t o;have ne:∀ {b:Addr} {u:HO},H b=some u->b ∉ μ->(∀ kvs,u≠.dK kvs)->H' b=some u:=fun {b u} e n d=>by
  rw[m b (λz=>by
   subst z;rcases l with y|⟨kvs,y⟩
   ·exact n y
   ·rw[e]at y;cases y;exact d kvs rfl)]
  exact e
 exact⟨⟨f,p,ne i f (λ_ z=>by cases z)⟩,g,q,ne j g (λ_ z=>by cases z),k.imp id λ⟨c,e,n,z⟩=>⟨c,e,n,ne z n (λ_ y=>by cases y)⟩⟩
noncomputable def Tb.cv(T:Tb)(x:Xn):Value:=.ref (T.ca x.cls)
noncomputable def Ry(c:Nat):Option Nat:=if c<100 then none else some (c / 100 - 1)
noncomputable def TU(C a:Addr):Heap->Prop:=λh=>∃ o,h.get? a=some o/\o.cls=.ref C
noncomputable def sw(C:Addr)(dd:Option Addr)(a:Addr):Heap->Prop:=λh=>∃ o,h.get? a=some o/\o.cls=.ref C/\∀ b,dd=some b->o.dict=some b/\∃ c,o.data=.fields c
noncomputable def Oz(b:Addr)(n:Nat):Heap->Prop:=λh=>∃ o,h.get? b=some o/\∃ a c t,o.data=.dict a c/\StrKeys a/\nsFind a "pot" = some (.int n t)
noncomputable def kE(K:W.Frag)(H:Hp)(a:Addr)(ns:List Int):Prop:=
 (∃ o,H a=some (.db o (.lst (ns.map V.int))))\/
  ∃ (o:vc) (b:Array Value) (n:Nat),K.lookup a=some o/\o.cls=.type "list"/\o.dict=none/\o.data=.seq b n/\b.size<=sizeLine/\Ud (ns.map V.int) b.toList
theorem kE.seq{K:W.Frag}{H:Hp}{a:Addr}{ns:List Int}(h:kE K H a ns):Qe K H a (ns.map V.int):=by
 rcases h with⟨o,h⟩|h
 ·exact .inl (.inr ⟨o,h⟩)
 ·exact .inr h
noncomputable def Vy(K:W.Frag)(a:Addr)(ss:List Str):Prop:=∃ (o:vc) (b:Array Value) (n:Nat),K.lookup a=some o/\o.cls=.type "tuple"/\o.data=.seq b n/\b.size<=sizeLine/\Ud (ss.map V.str) b.toList
mutual
noncomputable def Rep(T:Tb)(μ:List Addr)(H:Hp):D->V->Prop
 | .zb,v=>v=.zb
 | .bl b,v=>v=.bl b
 | .int i,v=>v=.int i
 | .str x,v=>v=.str x
 | .tup ds,v=>∃ p e,v=.ref p/\H p=some (.tup e)/\Ua T μ H ds e
 | .ae ns,v=>∃ a,v=.ref a/\kE T.K H a ns
 | .ref n,v=>∃ a,v=.ref a/\μ[n]?=some a
 | .lst ds,v=>∃ a e,v=.ref a/\a ∉ μ/\H a=some (.lst e)/\Ua T μ H ds e
 | .Db j ds,v=>∃ a d,v=.ref a/\a ∉ μ/\Rd H a (.dK d)/\d.map (·.1)=j/\Ua T μ H ds (d.map (·.2))
 | .obj c ns ds,v=>∃ a h fs,v=.ref a/\a ∉ μ/\H a=some (.ins (T.ca c) h fs)/\fs.map (·.1)=ns/\Ua T μ H ds (fs.map (·.2))
 | .Kr c,v=>∃ a g,v=.ref a/\a ∉ μ/\H a=some (.ext (sw (T.ca c) g a))/\∀ n,Ry c=some n->∃ f,g=some f/\f ∉ μ/\H f=some (.ext (Oz f n))
 | .gt ss,v=>∃ a,v=.ref a/\Vy T.K a ss
noncomputable def Ua(T:Tb)(μ:List Addr)(H:Hp):List D->List V->Prop
 |[],a=>a=[]
 |d::ds,a=>∃ v r,a=v::r/\Rep T μ H d v/\Ua T μ H ds r
end
noncomputable def Kp(o b:HO):Prop:=b=o\/(∃ d a,o=.dK a/\b=.db d (.dK a))\/∃ e c,o=.Ol e/\b=.Ol c
theorem Kp.trans{a b c:HO}(x:Kp a b)(y:Kp b c):Kp a c:=by
 rcases x with rfl|⟨h,d,rfl,rfl⟩|⟨g,e,rfl,rfl⟩
 ·exact y
 ·rcases y with rfl|⟨_,_,z,_⟩|⟨_,_,z,_⟩
  ·exact .inr (.inl ⟨h,d,rfl,rfl⟩)
  ·cases z
  ·cases z
 ·rcases y with rfl|⟨_,_,z,_⟩|⟨_,f,_,rfl⟩
  ·exact .inr (.inr ⟨g,e,rfl,rfl⟩)
  ·cases z
  ·exact .inr (.inr ⟨g,f,rfl,rfl⟩)
structure Ext(μ:List Addr)(H:Hp)(μ':List Addr)(H':Hp):Prop where
 pre:∃ r,μ'=μ++r
 tup:∀ p xs,H p=some (.tup xs)->H' p=some (.tup xs)
 db:∀ p o u,H p=some (.db o u)->H' p=some (.db o u)
 keep:∀ p o,H p=some o->p ∉ μ->(∃ o',H' p=some o'/\Kp o o')/\p ∉ μ'
theorem Ext.refl(μ:List Addr)(H:Hp):Ext μ H μ H:=⟨⟨[],by simp⟩,λ_ _ h=>h,λ_ _ _ h=>h,λ_ _ h n=>⟨⟨_,h,.inl rfl⟩,n⟩⟩
theorem Ext.trans{μ c d:List Addr}{H e H2:Hp}(a:Ext μ H c e)(b:Ext c e d H2):Ext μ H d H2:=by
 obtain⟨⟨r,rfl⟩,x,i,l⟩:=a;obtain⟨⟨w,rfl⟩,y,j,m⟩:=b;exact⟨⟨r++w,by simp⟩,λp xs h=>y p xs (x p xs h),λp o u h=>j p o u (i p o u h),λp o h n=>let ⟨⟨t,h1,f⟩,q⟩:=l p o h n;let ⟨⟨v,k,g⟩,s⟩:=m p t h1 q;⟨⟨v,k,f.trans g⟩,s⟩⟩
theorem Ext.bi{μ μ':List Addr}{H a:Hp}(e:Ext μ H μ' a)(p:Addr)(o:HO)(h:H p=some o)(n:p ∉ μ)(hd:(∀ kvs,o≠.dK kvs)/\∀ ps,o≠.Ol ps:=by exact⟨(λ_ z=>by cases z),(λ_ z=>by cases z)⟩):a p=some o/\p ∉ μ':=by
 obtain⟨⟨d,h1,c⟩,b⟩:=e.keep p o h n;rcases c with rfl|⟨_,kvs,z,_⟩|⟨ps,_,z,_⟩
 ·exact⟨h1,b⟩
 ·exact absurd z (hd.1 kvs)
 ·exact absurd z (hd.2 ps)
theorem Ext.rd{μ μ':List Addr}{H b:Hp}(e:Ext μ H μ' b)(p:Addr)(kvs:List (Key × V))(h:Rd H p (.dK kvs))(n:p ∉ μ):Rd b p (.dK kvs)/\p ∉ μ':=by
 rcases h with h|⟨a,h⟩
 ·obtain⟨⟨g,h1,c⟩,f⟩:=e.keep p _ h n;rcases c with rfl|⟨a,d,z,rfl⟩|⟨_,_,z,_⟩
  ·exact⟨.inl h1,f⟩
  ·cases z;exact⟨.inr ⟨a,h1⟩,f⟩
  ·cases z
 ·exact⟨.inr ⟨a,e.db _ _ _ h⟩,(e.keep p _ h n).2⟩
theorem Ext.get{μ μ':List Addr}{H b:Hp}(e:Ext μ H μ' b){n:Nat}{a:Addr}(h:μ[n]?=some a):μ'[n]?=some a:=by
 obtain⟨⟨r,rfl⟩,_,_⟩:=e;rw[qb (na.mp h).1];exact h
mutual
theorem Rep.mono{T:Tb}{μ μ':List Addr}{H k:Hp}(e:Ext μ H μ' k):∀ (d:D) (v:V),Rep T μ H d v->Rep T μ' k d v
 | .zb,v,h=>by simpa [Rep]using h
 | .bl b,v,h=>by simpa [Rep]using h
 | .int i,v,h=>by simpa [Rep]using h
 | .str x,v,h=>by simpa [Rep]using h
 | .tup ds,v,h=>by
  rw[Rep]at h ⊢;obtain⟨p,g,h1,f,h3⟩:=h;exact⟨p,g,h1,e.tup _ _ f,Ua.mono e ds g h3⟩
 | .ae ns,v,h=>by
  rw[Rep]at h ⊢;obtain⟨a,h1,f⟩:=h;refine⟨a,h1,?_⟩;rcases f with⟨o,f⟩|f
  ·exact .inl ⟨o,e.db _ _ _ f⟩
  ·exact .inr f
 | .ref n,v,h=>by
  rw[Rep]at h ⊢;obtain⟨a,h1,f⟩:=h;exact⟨a,h1,e.get f⟩
 | .lst ds,v,h=>by
  rw[Rep]at h ⊢;obtain⟨a,g,h1,f,h3,h4⟩:=h;exact⟨a,g,h1,(e.bi _ _ h3 f).2,(e.bi _ _ h3 f).1,Ua.mono e ds g h4⟩
 | .Db w ds,v,h=>by
  rw[Rep]at h ⊢;obtain⟨a,g,h1,f,h3,j,h4⟩:=h;exact⟨a,g,h1,(e.rd _ _ h3 f).2,(e.rd _ _ h3 f).1,j,Ua.mono e ds _ h4⟩
 | .obj c ns ds,v,h=>by
  rw[Rep]at h ⊢;obtain⟨a,t,g,h1,f,h3,j,h4⟩:=h;exact⟨a,t,g,h1,(e.bi _ _ h3 f).2,(e.bi _ _ h3 f).1,j,Ua.mono e ds _ h4⟩
 | .Kr c,v,h=>by
  rw[Rep]at h ⊢;obtain⟨a,s,h1,f,h3,h4⟩:=h;exact⟨a,s,h1,(e.bi _ _ h3 f).2,(e.bi _ _ h3 f).1,λn q=>let ⟨r,u,l,m⟩:=h4 n q;⟨r,u,(e.bi _ _ m l).2,(e.bi _ _ m l).1⟩⟩
 | .gt ss,v,h=>by rw[Rep]at h ⊢;exact h
theorem Ua.mono{T:Tb}{μ μ':List Addr}{H a:Hp}(e:Ext μ H μ' a):∀ (ds:List D) (vs:List V),Ua T μ H ds vs->Ua T μ' a ds vs
 |[],vs,h=>by simpa [Ua]using h
 |d::ds,vs,h=>by
  rw[Ua]at h ⊢;obtain⟨v,r,h1,b,h3⟩:=h;exact⟨v,r,h1,Rep.mono e d v b,Ua.mono e ds r h3⟩
end
theorem Ua.nil{T:Tb}{μ:List Addr}{H:Hp}:Ua T μ H [] []:=by rw[Ua]
theorem Ua.cons{T:Tb}{μ:List Addr}{H:Hp}{d:D}{v:V}{ds:List D}{vs:List V}(h1:Rep T μ H d v)(a:Ua T μ H ds vs):Ua T μ H (d::ds) (v::vs):=by
 rw[Ua];exact⟨v,vs,rfl,h1,a⟩
theorem Ua.length{T:Tb}{μ:List Addr}{H:Hp}:∀ {ds:List D} {vs:List V},Ua T μ H ds vs->ds.length=vs.length
 |[],vs,h=>by rw[Ua]at h;subst h;rfl
 |d::ds,vs,h=>by
  rw[Ua]at h;obtain⟨v,r,rfl,_,h3⟩:=h;simp[Ua.length h3]
theorem Ua.get{T:Tb}{μ:List Addr}{H:Hp}:∀ {ds:List D} {vs:List V} {i:Nat} {d:D},Ua T μ H ds vs->ds[i]?=some d->∃ v,vs[i]?=some v/\Rep T μ H d v
 |[],vs,i,d,h,e=>by simp at e
 |d::ds,vs,0,x,h,e=>by
  rw[Ua]at h;obtain⟨v,r,rfl,a,h3⟩:=h;simp at e;subst e;exact⟨v,rfl,a⟩
 |d::ds,vs,i+1,x,h,e=>by
  rw[Ua]at h;obtain⟨v,r,rfl,a,h3⟩:=h;simpa using Ua.get (i:=i) h3 (by simpa using e)
theorem Ua.append{T:Tb}{μ:List Addr}{H:Hp}:∀ {ds a:List D} {vs us:List V},Ua T μ H ds vs->Ua T μ H a us->Ua T μ H (ds++a) (vs++us)
 |[],a,vs,us,h,b=>by rw[Ua]at h;subst h;simpa using b
 |d::ds,a,vs,us,h,b=>by
  rw[Ua]at h;obtain⟨v,r,rfl,c,h3⟩:=h;exact Ua.cons c (Ua.append h3 b)
theorem Ua.set{T:Tb}{μ:List Addr}{H:Hp}{d:D}{v:V}(hd:Rep T μ H d v):∀ {ds:List D} {vs:List V} (i:Nat),Ua T μ H ds vs->Ua T μ H (ds.set i d) (vs.set i v)
 |[],vs,i,h=>by rw[Ua]at h;subst h;simpa using Ua.nil
 |x::ds,vs,0,h=>by
  rw[Ua]at h;obtain⟨w,r,rfl,a,h3⟩:=h;exact Ua.cons hd h3
 |x::ds,vs,i+1,h=>by
  rw[Ua]at h;obtain⟨w,r,rfl,a,h3⟩:=h;exact Ua.cons a (Ua.set hd i h3)
theorem Ua.drop{T:Tb}{μ:List Addr}{H:Hp}:∀ {ds:List D} {vs:List V} (n:Nat),Ua T μ H ds vs->Ua T μ H (ds.drop n) (vs.drop n)
 |ds,vs,0,h=>by simpa using h
 |[],vs,n+1,h=>by rw[Ua]at h;subst h;simpa using Ua.nil
 |x::ds,vs,n+1,h=>by
  rw[Ua]at h;obtain⟨w,r,rfl,a,h3⟩:=h;simpa using Ua.drop n h3
theorem Ua.take{T:Tb}{μ:List Addr}{H:Hp}:∀ {ds:List D} {vs:List V} (n:Nat),Ua T μ H ds vs->Ua T μ H (ds.take n) (vs.take n)
 |ds,vs,0,h=>by simpa using Ua.nil
 |[],vs,n+1,h=>by rw[Ua]at h;subst h;simpa using Ua.nil
 |x::ds,vs,n+1,h=>by
  rw[Ua]at h;obtain⟨w,r,rfl,a,h3⟩:=h;exact Ua.cons a (Ua.take n h3)
noncomputable def Cr(T:Tb)(μ:List Addr)(H:Hp):List (Str × D)->List (Str × V)->Prop:=Paired λp q=>p.1=q.1/\Rep T μ H p.2 q.2
noncomputable def yj(T:Tb)(μ:List Addr)(H:Hp):List (Key × D)->List (Key × V)->Prop:=Paired λp q=>p.1=q.1/\Rep T μ H p.2 q.2
noncomputable def Go(T:Tb)(μ:List Addr)(H:Hp)(a:Addr):Ob->Prop
 | .lst ds=>∃ b,H a=some (.lst b)/\Ua T μ H ds b
 | .Db d=>∃ b,H a=some (.dK b)/\yj T μ H d b
 | .ins c fs=>∃ e b,H a=some (.ins (T.ca c) e b)/\Cr T μ H fs b
 | .Cf d=>∃ g b,H a=some (.db g (.dK b))/\yj T μ H d b
 | .yk f=>∃ b,H a=some (.dT b)/\b.map (·.1)=f
structure Rel(T:Tb)(μ:List Addr)(H:Hp)(σ:Ya):Prop where
 len:μ.length=σ.length
 nd:μ.Nodup
 obs:∀ (n:Nat) (o:Ob),σ[n]?=some o->∃ a,μ[n]?=some a/\Go T μ H a o
 tb:Vq T μ H
noncomputable def gh(T:Tb)(μ:List Addr)(H:Hp)(ρ:Ev)(st:St):Prop:=ρ.length=st.length/\∀ (i:Nat) (d:D),ρ[i]?=some (some d)->∃ v,st[i]?=some (some v)/\Rep T μ H d v
theorem gh.mono{T:Tb}{μ μ':List Addr}{H a:Hp}{ρ:Ev}{st:St}(e:Ext μ H μ' a)(h:gh T μ H ρ st):gh T μ' a ρ st:=
 ⟨h.1,λi d q=>let ⟨v,h1,b⟩:=h.2 i d q;⟨v,h1,Rep.mono e d v b⟩⟩
theorem gh.set{T:Tb}{μ:List Addr}{H:Hp}{ρ:Ev}{st:St}{d:D}{v:V}(h:gh T μ H ρ st)(i:Nat)(r:Rep T μ H d v):gh T μ H (ρ.set i (some d)) (st.set i (some v)):=by
 refine⟨by simpa using h.1,λj x q=>?_⟩;rw[qc]at q;by_cases a:i=j
 ·subst a;rw[da rfl]at q;split at q
  ·rename_i c
   cases q;exact⟨v,by rw[qc,da rfl,da (by rw[<-h.1];exact c)],r⟩
  ·cases q
 ·rw[ga a]at q;obtain⟨w,h1,b⟩:=h.2 j x q;exact⟨w,by rw[qc,ga a];exact h1,b⟩
noncomputable def N7(e:Addr)(cls a0:Value)(h:Heap):Prop:=∃ b a,h.get? e=some b/\b.cls=cls/\b.data=.fields a/\1<a.size/\a[0]?=some a0/\a[1]?=some .none
noncomputable def Xp(B:Heap)(l:List yg)(e:Addr)(cls a0:Value)(h:Heap):Prop:=B.StaysIn h/\B.get? e=none/\h.FunFrames B l/\((∃ a,h.TracedAtW B e cls a0 a)\/N7 e cls a0 h)
noncomputable def jT(o:vc)(n:Nat):Prop:=∃ a b t,o.data=.dict a b/\StrKeys a/\nsFind a "pot" = some (.int n t)
noncomputable def jB(d:Option Nat)(e:Addr)(B h h0:Heap)(c:Hp):Prop:=∀ n,d=some n->∃ a oD b,h.get? e=some b/\b.dict=some a/\B.get? a=some oD/\jT oD n/\c a=none/\h0.get? a=none
structure Yw(P:wa)(w:Ja)(outer:List yg)(H:Hp)(s:aa)(cls:Value)(fd:Option Nat)(H':Hp)(e:Value)(s':aa):Prop where
 ex:∃ (ea:Addr) (a0:Value) (B:Heap),e=.ref ea/\Xp B outer ea cls a0 s'.heap/\H' ea=none/\s.heap.get? ea=none/\
  (∀ b o,H' b=some o->∃ ob,B.get? b=some ob)/\(∀ b o,s.heap.get? b=some o->H b=none->b ∉ Yi outer->B.get? b=some o)/\(∀ b o,s.heap.get? b=some o->b ∉ Yi outer->∃ o',B.get? b=some o')/\jB fd ea B s'.heap s.heap H'
 os:s'.os=s.os
 bare:zg s'.gens
 un:Un (Yi outer) [] H H' s.heap s'.heap
 cc:ci P w H' s'.heap
noncomputable def Al(P:wa)(w:Ja):Dr:=λouter H s E e c=>∃ cls b a,Yw P w outer H s cls b a e c/\E cls b a
structure ez(X:Cx)(st:St)(cls:Value)(fd:Option Nat)(H':Hp):Prop where
 UB:∀ (pins:List (Addr × vc)) (H:Hp) (s:aa) (e:Value) (s':aa),Inv X pins st H s->Yw X.prog X.w X.stack H s cls fd H' e s'->X.xe e s'
noncomputable abbrev XE(X:Cx)(st:St):XK:=λcls b a=>ez X st cls b a
noncomputable def Kb{d e:Type}(T:Tb)(E:XK)(R:List Addr->Hp->d->e->Prop)(μ:List Addr)(H:Hp)(o:Out d)(Q:e->Hp->Prop):Prop:=match o with
 | .ok a σ=>∀ b g c,Ext μ H b c->Rel T b c σ->R b c a g->Q g c
 | .ex x σ=>∀ b c,Ext μ H b c->Rel T b c σ->E (T.cv x) (Ry x.cls) c
 | .bad=>False
theorem Kb.mono{j k:Type}{T:Tb}{E:XK}{R:List Addr->Hp->j->k->Prop}{μ c:List Addr}{H i:Hp}{o:Out j}{Q:k->Hp->Prop}(e:Ext μ H c i)(h:Kb T E R μ H o Q):Kb T E R c i o Q:=by
 cases o with
 |ok a σ=>exact λb g d f r q=>h b g d (e.trans f) r q
 |ex x σ=>exact λb d f r=>h b d (e.trans f) r
 |bad=>exact h
theorem Kb.imp{d e:Type}{T:Tb}{E:XK}{R:List Addr->Hp->d->e->Prop}{μ:List Addr}{H:Hp}{o:Out d}{Q Q':e->Hp->Prop}(h:Kb T E R μ H o Q)(k:∀ g b,Q g b->Q' g b):Kb T E R μ H o Q':=by
 cases o with
 |ok a σ=>exact λc g b f r q=>k _ _ (h c g b f r q)
 |ex x σ=>exact h
 |bad=>exact h
theorem Kb.bind{i o p s:Type}{T:Tb}{E:XK}{R:List Addr->Hp->i->p->Prop}{l:List Addr->Hp->o->s->Prop}{μ:List Addr}{H:Hp}{m:M i}{k:i->M o}{σ:Ya}{Q:s->Hp->Prop}{Q1:p->Hp->Prop}
  (h:Kb T E l μ H (Xc m k σ) Q) (f:∀ a b c g d,m σ=.ok a b->Ext μ H c d->Rel T c d b->R c d a g->Kb T E l c d (k a b) Q->Q1 g d):Kb T E R μ H (m σ) Q1:=by
 unfold Xc at h;cases e:m σ with
 |ok a b=>
  rw[e]at h;exact λj g t n r q=>f a b j g t e n r q (h.mono n)
 |ex x b=>rw[e]at h;exact h
 |bad=>rw[e]at h;exact h
theorem Kb.here{T:Tb}{E:XK}{b a:Type}{R:List Addr->Hp->b->a->Prop}{μ:List Addr}{H:Hp}{d:b}{σ:Ya}{g:a}{Q:a->Hp->Prop}(h:Kb T E R μ H (.ok d σ) Q)(r:Rel T μ H σ)(p:R μ H d g):Q g H:=h μ g H (Ext.refl _ _) r p
section
variable(T:Tb)(X:Cx)
noncomputable def tF(f:Ev->M D):TE:=λst H Q=>∃ a b c,gh T a H b st/\Rel T a H c/\Kb T (XE X st) (Rep T) a H (f b c) Q
noncomputable def eF:List Addr->Hp->Bool->Bool->Prop:=λ_ _ a b=>b=a
noncomputable def tT(f:Ev->M Bool):TT:=λst H Q=>∃ a b c,gh T a H b st/\Rel T a H c/\Kb T (XE X st) eF a H (f b c) Q
noncomputable def tL(f:Ev->M (List D)):TA:=λst H Q=>∃ a b c,gh T a H b st/\Rel T a H c/\Kb T (XE X st) (Ua T) a H (f b c) Q
inductive Hl where
 |nx (st:St)|rt (v:V)|bk (st:St)|ct (st:St)|xc (st:St) (cls:Value) (fd:Option Nat)
noncomputable def Rk(T:Tb)(μ:List Addr)(H:Hp):Fl->Hl->Prop
 | .nx a,.nx st=>gh T μ H a st
 | .rt d,.rt v=>Rep T μ H d v
 | .bk a,.bk st=>gh T μ H a st
 | .ct a,.ct st=>gh T μ H a st
 | .xc a x,.xc st cls fd=>gh T μ H a st/\cls=T.cv x/\fd=Ry x.cls
 |_,_=>False
noncomputable def Jj(X:Cx)(D:Ends):Hl->Hp->Prop
 | .nx st,H=>D.nx st H
 | .rt v,H=>D.rt v H
 | .bk st,H=>D.bk st H
 | .ct st,H=>D.ct st H
 | .xc st cls fd,H=>ez X st cls fd H
noncomputable abbrev EN:XK:=λ_ _ _=>False
noncomputable def tS(g:Ev->M Fl):TS:=λD st H=>∃ a b c,gh T a H b st/\Rel T a H c/\Kb T EN (Rk T) a H (g b c) (Jj X D)
end
noncomputable def xs{c:Type}(ρ:Ev)(m:M c)(k:c->M Fl):M Fl:=λd=>match m d with
 | .ok a b=>k a b
 | .ex x b=>.ok (.xc ρ x) b
 | .bad=>.bad
theorem Kb.xs{n o:Type}{T:Tb}{X:Cx}{D:Ends}{R:List Addr->Hp->n->o->Prop}{μ:List Addr}{H:Hp}{ρ:Ev}{st:St}{m:M n}{k:n->M Fl}{σ:Ya}{Q1:o->Hp->Prop}(p:gh T μ H ρ st)
  (h:Kb T EN (Rk T) μ H (L4.xs ρ m k σ) (Jj X D)) (f:∀ a b c g i,m σ=.ok a b->Ext μ H c i->Rel T c i b->R c i a g->Kb T EN (Rk T) c i (k a b) (Jj X D)->Q1 g i):Kb T (XE X st) R μ H (m σ) Q1:=by
 unfold L4.xs at h;cases e:m σ with
 |ok a b=>
  rw[e]at h;exact λd g l j r q=>f a b d g l e j r q (h.mono j)
 |ex x b=>
  rw[e]at h;intro d l j r;exact h d (.xc st (T.cv x) (Ry x.cls)) l j r ⟨p.mono j,rfl,rfl⟩
 |bad=>rw[e]at h;exact h
noncomputable abbrev FE(T:Tb)(X:Cx)(e:Ka)(f:Ev->M D):Prop:=PE X e (tF T X f)
noncomputable abbrev FT(T:Tb)(X:Cx)(e:Ka)(f:Ev->M Bool):Prop:=PT X e (tT T X f)
noncomputable abbrev FW(T:Tb)(X:Cx)(e:Ka)(f:Ev->M Bool):Prop:=PW X e (tT T X f)
noncomputable abbrev FA(T:Tb)(X:Cx)(a:List Ka)(f:Ev->M (List D)):Prop:=PA X a (tL T X f)
noncomputable abbrev FS(T:Tb)(X:Cx)(st:Stmt)(g:Ev->M Fl):Prop:=PS X st (tS T X g)
noncomputable abbrev Do(T:Tb)(X:Cx)(st:List Stmt)(g:Ev->M Fl):Prop:=mr X st (tS T X g)
end L4
namespace L4
open PySem PySem.Spec PyProof.Rows L2
noncomputable def Rh:Nat:=1000
theorem bx{n:Nat}(h:n<=Rh):n<=sizeLine:=yf (zJ h)
theorem RN{n:Nat}(h:n<Rh):n<sizeLine:=zJ (yf h)
theorem UI{f:Type}{l:List f}(h:l.Nodup){i j:Nat}{a:f}(g:l[i]?=some a)(k:l[j]?=some a):i=j:=by
 obtain⟨b,c⟩:=na.mp g;obtain⟨d,e⟩:=na.mp k;have hp:=List.pairwise_iff_getElem.mp h;rcases Nat.lt_trichotomy i j with z|z|z
 ·exact absurd (c.trans e.symm) (hp i j b d z)
 ·exact z
 ·exact absurd (e.trans c.symm) (hp j i d b z)
section
variable{T:Tb}{μ μ':List Addr}{H H':Hp}{σ:Ya}
theorem jG{a:Type}(e:Ext μ H μ' H'){xs:List (a × D)}{ys:List (a × V)}(h:Paired (λ(p:a × D) (q:a × V)=>p.1=q.1/\Rep T μ H p.2 q.2) xs ys) :
  Paired (λ(p:a × D) (q:a × V)=>p.1=q.1/\Rep T μ' H' p.2 q.2) xs ys:=L2.Paired.Gp h λp q z=>⟨z.1,Rep.mono e _ _ z.2⟩
theorem Go.mono(e:Ext μ H μ' H'){a:Addr}(d:H' a=H a):∀ {o:Ob},Go T μ H a o->Go T μ' H' a o
 | .lst ds,⟨b,h,r⟩=>⟨b,d.trans h,Ua.mono e _ _ r⟩
 | .Db f,⟨b,h,r⟩=>⟨b,d.trans h,jG e r⟩
 | .ins c fs,⟨g,b,h,r⟩=>⟨g,b,d.trans h,jG e r⟩
 | .Cf f,⟨i,b,h,r⟩=>⟨i,b,d.trans h,jG e r⟩
 | .yk j,⟨b,h,r⟩=>⟨b,d.trans h,r⟩
theorem Go.some{a:Addr}:∀ {o:Ob},Go T μ H a o->∃ u,H a=Option.some u/\(∀ xs,u≠.tup xs)
 | .lst ds,⟨b,h,r⟩=>⟨_,h,(λ_ z=>by cases z)⟩
 | .Db d,⟨b,h,r⟩=>⟨_,h,(λ_ z=>by cases z)⟩
 | .ins c fs,⟨e,b,h,r⟩=>⟨_,h,(λ_ z=>by cases z)⟩
 | .Cf d,⟨g,b,h,r⟩=>⟨_,h,(λ_ z=>by cases z)⟩
 | .yk f,⟨b,h,r⟩=>⟨_,h,(λ_ z=>by cases z)⟩
theorem Go.LA{a:Addr}:∀ {o:Ob},(∀ kvs,o≠.Cf kvs)->Go T μ H a o->∃ u,H a=Option.some u/\(∀ xs,u≠.tup xs)/\(∀ ob w,u≠.db ob w)
 | .lst ds,_,⟨b,h,r⟩=>⟨_,h,(λ_ z=>by cases z),(λ_ _ z=>by cases z)⟩
 | .Db kvs,_,⟨b,h,r⟩=>⟨_,h,(λ_ z=>by cases z),(λ_ _ z=>by cases z)⟩
 | .ins c fs,_,⟨d,b,h,r⟩=>⟨_,h,(λ_ z=>by cases z),(λ_ _ z=>by cases z)⟩
 | .Cf kvs,n,_=>absurd rfl (n kvs)
 | .yk e,_,⟨b,h,r⟩=>⟨_,h,(λ_ z=>by cases z),(λ_ _ z=>by cases z)⟩
theorem Rel.keep(r:Rel T μ H σ)(e:Ext μ H μ H')(k:∀ a∈μ,H' a=H a)(t:Vq T μ H'):Rel T μ H' σ:=
 ⟨r.len,r.nd,λn o h=>let ⟨a,h1,b⟩:=r.obs n o h;⟨a,h1,b.mono e (k a (Ma h1))⟩,t⟩
theorem Rel.mem(r:Rel T μ H σ){a:Addr}(h:a∈μ):∃ u,H a=some u/\(∀ xs,u≠.tup xs):=by
 obtain⟨n,hn⟩:=qr h;have c:n<σ.length:=by rw[<-r.len];exact(na.mp hn).1
 obtain⟨d,h1,b⟩:=r.obs n σ[n] (by simp[c]);rw[hn]at h1;cases h1;exact b.some
theorem Sk{p:Addr}{o:HO}(hp:H p=none):Ext μ H μ (upd H p o):=
 ⟨⟨[],by simp⟩,λq xs h=>by rw[yd (Ro h hp)];exact h,λq a u h=>by rw[yd (Ro h hp)];exact h,λq a h n=>⟨⟨a,by rw[yd (Ro h hp)];exact h,.inl rfl⟩,n⟩⟩
theorem Rel.fresh(r:Rel T μ H σ){p:Addr}{o:HO}(hp:H p=none):Rel T μ (upd H p o) σ:=
 r.keep (Sk hp) (λa c=>by obtain⟨u,h,_⟩:=r.mem c;rw[yd (Ro h hp)]) (r.tb.grow λb u h=>by rw[yd (Ro h hp)];exact h)
theorem Hv{p:Addr}{o:HO}(hp:H p=none):Ext μ H (μ++[p]) (upd H p o):=
 ⟨⟨[p],rfl⟩,(Sk (μ:=μ) hp).tup,(Sk (μ:=μ) hp).db,λq a h n=>⟨((Sk (μ:=μ) hp).keep q a h n).1,λz=>(Qg.mp z).elim n λz=>Ro h hp (by simpa using z)⟩⟩
theorem Rel.push(r:Rel T μ H σ){p:Addr}{o:HO}{ob:Ob}(hp:H p=none)(j:Go T (μ++[p]) (upd H p o) p ob):Rel T (μ++[p]) (upd H p o) (σ++[ob]):=by
 refine⟨by simp[r.len],?_,λn x h=>?_,(r.tb.more hp).grow λb u h=>by rw[yd (Ro h hp)];exact h⟩
 ·rw[List.nodup_append];refine⟨r.nd,by simp,λa i b hb e=>?_⟩;have f:b=p:=by simpa using hb
  subst f;subst e;obtain⟨u,h,_⟩:=r.mem i;rw[hp]at h;cases h
 ·by_cases hn:n<σ.length
  ·rw[qb hn]at h;obtain⟨a,h1,c⟩:=r.obs n x h;obtain⟨u,k,_⟩:=c.some;exact⟨a,by rw[qb (by rw[r.len];exact hn)];exact h1,c.mono (Hv hp) (yd (Ro k hp))⟩
  ·rw[Sd (by omega)]at h;have d:n - σ.length=0:=by
    have:=(na.mp h).1;simp at this;omega
   rw[d]at h;simp at h;subst h;have g:n=μ.length:=by rw[r.len];omega
   subst g;exact⟨p,by simp,j⟩
theorem iB{p:Addr}{o:HO}(r:Rel T μ H σ):Rep T (μ++[p]) (upd H p o) (.ref σ.length) (.ref p):=by
 rw[Rep];exact⟨p,rfl,by rw[<-r.len];simp⟩
theorem Iv{a:Addr}{u o:HO}(hm:a∈μ)(b:H a=some u)(h1:∀ xs,u≠.tup xs)(c:∀ ob w,u≠.db ob w):Ext μ H μ (upd H a o):=
 ⟨⟨[],by simp⟩,λq xs h=>by rw[yd (AI h b (λz=>h1 xs z.symm))];exact h,λq ob w h=>by rw[yd (AI h b (λz=>c ob w z.symm))];exact h,λq ob h n=>⟨⟨ob,by rw[yd (λz=>n (by rw[z];exact hm))];exact h,.inl rfl⟩,n⟩⟩
theorem Rel.write(r:Rel T μ H σ){n:Nat}{a:Addr}{o:HO}{ob:Ob}(hn:μ[n]?=some a)(f:Go T μ (upd H a o) a ob)(i:∀ kvs,σ[n]?≠some (.Cf kvs):=by intro kvs z;simp_all [Wg]):Ext μ H μ (upd H a o)/\Rel T μ (upd H a o) (σ.set n ob):=by
 obtain⟨u,g,h1,c⟩:∃ u,H a=some u/\(∀ xs,u≠.tup xs)/\(∀ ob w,u≠.db ob w):=by
  have d:n<σ.length:=by rw[<-r.len];exact(na.mp hn).1
  obtain⟨j,h1,c⟩:=r.obs n σ[n] (by simp[d]);rw[hn]at h1;cases h1;exact c.LA λkvs z=>i kvs (by rw[Lc d,z])
 have e:Ext μ H μ (upd H a o):=Iv (Ma hn) g h1 c;refine⟨e,by simp[r.len],r.nd,λm x h=>?_,r.tb.out (λb hb=>yd hb) (.inl (Ma hn))⟩;rw[qc]at h;by_cases hm:n=m
 ·subst hm;rw[da rfl]at h;split at h
  ·cases h;exact⟨a,hn,f⟩
  ·cases h
 ·rw[ga hm]at h;obtain⟨b,h3,h4⟩:=r.obs m x h;refine⟨b,h3,h4.mono e (yd λz=>hm ?_)⟩;subst z;exact UI r.nd hn h3
theorem Rel.at(r:Rel T μ H σ){n:Nat}{v:V}{o:Ob}(h:Rep T μ H (.ref n) v)(e:σ[n]?=some o):∃ a,v=.ref a/\μ[n]?=some a/\Go T μ H a o:=by
 rw[Rep]at h;obtain⟨a,rfl,b⟩:=h;obtain⟨d,h1,c⟩:=r.obs n o e;rw[b]at h1;cases h1;exact⟨a,rfl,b,c⟩
end
noncomputable def ia(i:Nat):Ev->M D:=λa b=>match a[i]? with
 |some (some d)=>.ok d b
 |_=>.bad
noncomputable def eC(d:D):Ev->M D:=λ_=>ret d
noncomputable def AG(o:D->D->M D)(m:M D)(x:D):M D:=Xc m (o x)
noncomputable def Fa(o:D->D->M D)(a b:Ev->M D):Ev->M D:=λc=>Xc (a c) (AG o (b c))
noncomputable def Wc(o:D->M D)(a:Ev->M D):Ev->M D:=λb=>Xc (a b) o
noncomputable def Ky(d:D):M Bool:=match d with
 | .bl b=>ret b
 |_=>bad
noncomputable def Ej{α:Type}(p q:M α)(c:Bool):M α:=if c=true then p else q
noncomputable def aH(c:Bool):M Bool:=ret (!c)
noncomputable def uw{α:Type}(k:Bool->M α)(d:D):M α:=Xc (Ky d) k
noncomputable def eT(f:Ev->M D):Ev->M Bool:=λa=>Xc (f a) Ky
noncomputable def Mw(a b:Ev->M Bool):Ev->M Bool:=λc=>Xc (a c) (Ej (b c) (ret false))
noncomputable def Ko(a b:Ev->M Bool):Ev->M Bool:=λc=>Xc (a c) (Ej (ret true) (b c))
noncomputable def Vk(a:Ev->M Bool):Ev->M Bool:=λb=>Xc (a b) aH
noncomputable def Ci(a b:Ev->M D):Ev->M D:=λc=>Xc (a c) (uw (Ej (b c) (ret (.bl false))))
noncomputable def QG(a b:Ev->M D):Ev->M D:=λc=>Xc (a c) (uw (Ej (ret (.bl true)) (b c)))
noncomputable def wF(c:Bool):M D:=ret (.bl (!c))
noncomputable def lC(a:Ev->M D):Ev->M D:=λb=>Xc (a b) (uw wF)
noncomputable def Eu(t:Ev->M Bool)(a b:Ev->M D):Ev->M D:=λc=>Xc (t c) (Ej (a c) (b c))
noncomputable def Oa:Ev->M (List D):=λ_=>ret []
noncomputable def hG(x:D)(xs:List D):M (List D):=ret (x::xs)
noncomputable def SI(m:M (List D))(x:D):M (List D):=Xc m (hG x)
noncomputable def qa(e:Ev->M D)(r:Ev->M (List D)):Ev->M (List D):=λa=>Xc (e a) (SI (r a))
noncomputable def Cv(ds:List D):M D:=if ds.length<=Rh then ret (.tup ds)else bad
noncomputable def Zf(a:Ev->M (List D)):Ev->M D:=λb=>Xc (a b) Cv
noncomputable def bA(ds:List D):M D:=λa=>.ok (.ref a.length) (a++[.lst ds])
noncomputable def BA(ds:List D):M D:=if ds.length<=Rh then bA ds else bad
noncomputable def vw(a:Ev->M (List D)):Ev->M D:=λb=>Xc (a b) BA
noncomputable def fw(ds:List D):M D:=if ds.length<=Rh then ret (.lst ds)else bad
noncomputable def ij(a:Ev->M (List D)):Ev->M D:=λb=>Xc (a b) fw
noncomputable def al(T:Tb)(r:R2)(o:D->D->M D):Prop:=∀ (E:XK) a H b x y v u Q,Rel T a H b->Rep T a H x v->Rep T a H y u->Kb T E (Rep T) a H (o x y b) Q->r v u H Q
noncomputable def uM(T:Tb)(r:V->Hp->VK->Prop)(o:D->M D):Prop:=∀ (E:XK) a H b x v Q,Rel T a H b->Rep T a H x v->Kb T E (Rep T) a H (o x b) Q->r v H Q
noncomputable def Bq(T:Tb)(r:List V->Hp->VK->Prop)(o:List D->M D):Prop:=∀ (E:XK) a H c xs b Q,Rel T a H c->Ua T a H xs b->Kb T E (Rep T) a H (o xs c) Q->r b H Q
section
variable{T:Tb}{X:Cx}{a b c:Ka}{fa fb:Ev->M D}{ta tb:Ev->M Bool}{pos:Ke}
theorem ka(i:Nat){x:Str}(hN:X.N[i]?=some x:=by rfl)(j:vC X.env.scope x:=by first|exact Or.inl rfl|exact Or.inr (Or.inl rfl)|exact Or.inr (Or.inr rfl))(hd:(x == ("__debug__" : Str))=false:=by decide)
  (b:(x == ("__classdict__" : Str))=false:=by decide):FE T X (.Name x pos) (ia i):=by
 intro a s st H Q I h;obtain⟨l,k,m,f,g,hp⟩:=h;refine D3 hN j hd b a s st H Q I ?_;unfold ia at hp;cases e:k[i]? with
 |none=>rw[e]at hp;exact hp.elim
 |some o=>
  cases o with
  |none=>rw[e]at hp;exact hp.elim
  |some d=>
   rw[e]at hp;obtain⟨v,h1,c⟩:=f.2 i d e;exact⟨v,h1,hp.here g c⟩
theorem My{e:Ka}{v:V}{d:D}(h:PE X e (tC v))(r:∀ μ H,Rep T μ H d v):FE T X e (eC d):=by
 intro a s st H Q I hq;obtain⟨μ,f,g,c,b,hp⟩:=hq;exact h a s st H Q I (Kb.here hp b (r _ _))
theorem Ra{i:Int}{j}:FE T X (.Constant (.int i) j pos) (eC (.int i)):=My N2 λ_ _=>by rw[Rep]
theorem jt{i:Bool}{j}:FE T X (.Constant (.bool i) j pos) (eC (.bl i)):=My VT λ_ _=>by rw[Rep]
theorem yt{j}:FE T X (.Constant .none j pos) (eC .zb):=My EY λ_ _=>by rw[Rep]
theorem Rf{i:Str}{j}:FE T X (.Constant (.str i) j pos) (eC (.str i)):=My KZ λ_ _=>by rw[Rep]
theorem av{x:Str}{u:Value}{i:Int}(a:Gl X x)(hm:X.mg x=some u)(r:Zc (.int i) u)(hd:(x == ("__debug__" : Str))=false:=by decide):FE T X (.Name x pos) (eC (.int i)):=My (CF a hm r hd) λ_ _=>by rw[Rep]
theorem two{r:R2}{o:D->D->M D}(l:al T r o){st:St}{H:Hp}{Q:VK}(h:tF T X (Fa o fa fb) st H Q):Qy r (tF T X fa) (tF T X fb) st H Q:=by
 obtain⟨w,f,z,e,k,hp⟩:=h;exact⟨w,f,z,e,k,hp.bind λx c a v A _ i s m p=>⟨a,f,c,e.mono i,s,p.bind λy d b u g _ j t n q=>l _ b g d x y v u Q t (Rep.mono j _ _ m) n q⟩⟩
theorem Df{d:Nk}{r:R2}{o:D->D->M D}(f:Nh X (lf d) r)(g:al T r o)(e:FE T X a fa)(hb:FE T X b fb):FE T X (.BinOp a d b pos) (Fa o fa fb):=
 λc s st H Q I h=>i6 f e hb c s st H Q I (two g h)
theorem gk{d:Bp}{r:R2}{o:D->D->M D}(f:Nh X (Ib d) r)(g:al T r o)(e:FE T X a fa)(hb:FE T X b fb)(hm:Je d b=false):FE T X (.Compare a [d] [b] pos) (Fa o fa fb):=
 λc s st H Q I h=>KW f e hb hm c s st H Q I (two g h)
theorem gc{r:R2}{o:D->D->M D}(e:pv X r)(f:al T r o)(d:FE T X a fa)(hb:FE T X b fb)(hp:zL b):FE T X (.Subscript a b pos) (Fa o fa fb):=
 λc s st H Q I h=>zX e d hb hp c s st H Q I (two f h)
theorem Ez{e:UnaryOp}{r:V->Hp->VK->Prop}{o:D->M D}(j:FC X (j8 e) r)(l:uM T r o)(g:FE T X a fa):FE T X (.UnaryOp e a pos) (Wc o fa):=by
 intro b s st H Q I h;refine DW j g b s st H Q I ?_;obtain⟨q,t,u,i,k,hp⟩:=h;exact⟨q,t,u,i,k,hp.bind λx d c v f _ w p m n=>l _ c f d x v Q p m n⟩
theorem cE{E:XK}{d:D}{σ:Ya}{μ:List Addr}{H:Hp}{v:V}{b e:Type}{a:List Addr->Hp->b->e->Prop}{k:Bool->M b}{Q:e->Hp->Prop}(r:Rep T μ H d v)(h:Kb T E a μ H (Xc (Ky d) k σ) Q):∃ c,d=.bl c/\v=.bl c/\Kb T E a μ H (k c σ) Q:=by
 cases d with
 |bl c=>rw[Rep]at r;exact⟨c,rfl,r,h⟩
 |_=>exact h.elim
theorem NI{E:XK}{d:D}{σ:Ya}{μ:List Addr}{H:Hp}{v:V}{Q:Bool->Hp->Prop}(r:Rep T μ H d v)(h:Kb T E eF μ H (Ky d σ) Q):∃ c,v=.bl c/\Kb T E eF μ H (.ok c σ) Q:=by
 cases d with
 |bl c=>rw[Rep]at r;exact⟨c,r,h⟩
 |_=>exact h.elim
theorem Ef{e:Bp}{r:R2}{o:D->D->M D}(j:Nh X (Ib e) r)(m:al T r o)(g:FE T X a fa)(hb:FE T X b fb)(hm:Je e b=false):FT T X (.Compare a [e] [b] pos) (eT (Fa o fa fb)):=by
 intro c s st H Q I h;refine KL j g hb hm c s st H Q I ?_;refine two (o:=o) m ?_;obtain⟨u,x,y,i,l,hp⟩:=h;refine⟨u,x,y,i,l,hp.bind λd z w v A _ B t n p=>?_⟩;obtain⟨k,f,q⟩:=NI n p;exact⟨k,f,q.here t rfl⟩
theorem Fj{e:Ka}{f:Ev->M D}(h:FE T X e f)(i:∀ a,iy e X.env a=(do let v <-a;Vn e.pos;vf [v] (truthy v)):=by intro _;rfl):FT T X e (eT f):=by
 intro b s st H Q I l;refine OW h i b s st H Q I ?_;obtain⟨p,t,u,g,j,hp⟩:=l;refine⟨p,t,u,g,j,hp.bind λd w r v x _ y o m n=>?_⟩;obtain⟨k,c,q⟩:=NI m n;exact⟨k,c,q.here o rfl⟩
theorem im(h:FT T X a ta):FT T X (.UnaryOp .Not a pos) (Vk ta):=by
 intro b s st H Q I f;refine AT h b s st H Q I ?_;obtain⟨k,m,n,d,e,hp⟩:=f;exact⟨k,m,n,d,e,hp.bind λc o l v p _ q j g i=>by cases g;exact i.here j rfl⟩
variable{rest:List Ka}
theorem WH(h:FT T X a ta):FW T X (.BoolOp .And [a] pos) ta:=cY h
theorem zr(h:FT T X a ta):FW T X (.BoolOp .Or [a] pos) ta:=C0 h
theorem Wy(h:FT T X a ta)(hb:FW T X (.BoolOp .And (b::rest) pos) tb):FW T X (.BoolOp .And (a::b::rest) pos) (Mw ta tb):=by
 intro p e s st H Q I n;refine sY h hb p e s st H Q I ?_;obtain⟨q,k,r,i,m,hp⟩:=n;refine⟨q,k,r,i,m,hp.bind λc g f v t _ l j o d=>?_⟩;cases o;cases c with
 |true=>unfold Ej at d;rw[da rfl]at d ⊢;exact⟨f,k,g,i.mono l,j,d⟩
 |false=>unfold Ej at d;rw[ga Wa]at d ⊢;exact d.here j rfl
theorem Np(h:FT T X a ta)(hb:FW T X (.BoolOp .Or (b::rest) pos) tb):FW T X (.BoolOp .Or (a::b::rest) pos) (Ko ta tb):=by
 intro p e s st H Q I n;refine nT h hb p e s st H Q I ?_;obtain⟨q,k,r,i,m,hp⟩:=n;refine⟨q,k,r,i,m,hp.bind λc g f v t _ l j o d=>?_⟩;cases o;cases c with
 |true=>unfold Ej at d;rw[da rfl]at d ⊢;exact d.here j rfl
 |false=>unfold Ej at d;rw[ga Wa]at d ⊢;exact⟨f,k,g,i.mono l,j,d⟩
theorem on{op}(h:FE T X a fa):FE T X (.BoolOp op [a] pos) fa:=aV h
theorem Xi(h:FE T X a fa)(hb:FE T X (.BoolOp .And (b::rest) pos) fb):FE T X (.BoolOp .And (a::b::rest) pos) (Ci fa fb):=by
 intro e s st H Q I o;refine S5 h hb e s st H Q I ?_;obtain⟨t,k,u,i,n,hp⟩:=o;refine⟨t,k,u,i,n,hp.bind λd g f v w _ l j p r=>?_⟩;obtain⟨c,rfl,m,q⟩:=cE p r;refine⟨c,m,?_⟩;cases c with
 |true=>unfold Ej at q;rw[da rfl]at q ⊢;exact⟨f,k,g,i.mono l,j,q⟩
 |false=>unfold Ej at q;rw[ga Wa]at q ⊢;exact Kb.here q j (by rw[Rep])
theorem F1(h:FE T X a fa)(hb:FE T X (.BoolOp .Or (b::rest) pos) fb):FE T X (.BoolOp .Or (a::b::rest) pos) (QG fa fb):=by
 intro e s st H Q I o;refine O2 h hb e s st H Q I ?_;obtain⟨t,k,u,i,n,hp⟩:=o;refine⟨t,k,u,i,n,hp.bind λd g f v w _ l j p r=>?_⟩;obtain⟨c,rfl,m,q⟩:=cE p r;refine⟨c,m,?_⟩;cases c with
 |true=>unfold Ej at q;rw[da rfl]at q ⊢;exact Kb.here q j (by rw[Rep])
 |false=>unfold Ej at q;rw[ga Wa]at q ⊢;exact⟨f,k,g,i.mono l,j,q⟩
theorem xN(h:FE T X a fa):FE T X (.UnaryOp .Not a pos) (lC fa):=by
 intro b s st H Q I i;refine X0 h b s st H Q I ?_;obtain⟨m,o,p,f,g,hp⟩:=i;refine⟨m,o,p,f,g,hp.bind λd r n v t _ u l j k=>?_⟩;obtain⟨c,rfl,e,q⟩:=cE j k;exact⟨c,e,Kb.here q l (by rw[Rep])⟩
theorem Sx(hc:FT T X c ta)(m:FE T X a fa)(hb:FE T X b fb):FE T X (.IfExp c a b pos) (Eu ta fa fb):=by
 intro f s st H Q I o;refine TZ hc m hb f s st H Q I ?_;obtain⟨q,j,r,i,n,hp⟩:=o;refine⟨q,j,r,i,n,hp.bind λd h g v t _ k l p e=>?_⟩;cases p;cases d with
 |true=>unfold Ej at e;rw[da rfl]at e ⊢;exact⟨g,j,h,i.mono k,l,e⟩
 |false=>unfold Ej at e;rw[ga Wa]at e ⊢;exact⟨g,j,h,i.mono k,l,e⟩
variable{e:Ka}{es:List Ka}{fe:Ev->M D}{fs:Ev->M (List D)}
theorem Va:FA T X [] Oa:=by
 intro pos a s st H Q I c;refine Ux pos a s st H Q I ?_;obtain⟨e,f,g,d,b,hp⟩:=c;exact Kb.here hp b Ua.nil
theorem ya(k:FE T X e fe)(b:FA T X es fs)(l:ua (e::es) X.env=(false,bc e X.env)::ua es X.env:=by rfl):FA T X (e::es) (qa fe fs):=by
 intro pos a s st H Q I m;refine Av k b l pos a s st H Q I ?_;obtain⟨u,h,x,g,b,hp⟩:=m;exact⟨u,h,x,g,b,hp.bind λd f c v z _ i r n p=>⟨c,h,f,g.mono i,r,p.bind λB y w C A _ j t o q=>Kb.here q t (Ua.cons (Rep.mono j _ _ n) o)⟩⟩
theorem Dy{E:XK}{μ:List Addr}{H:Hp}{σ:Ya}{ds:List D}{vs:List V}{Q:VK}{p:Addr}(h:Kb T E (Rep T) μ H (.ok (.tup ds) σ) Q)(r:Rel T μ H σ)(q:Ua T μ H ds vs)(hp:H p=none):Q (.ref p) (upd H p (.tup vs)):=
 h μ (.ref p) _ (Sk hp) (r.fresh hp) (by rw[Rep];exact⟨p,vs,rfl,Og,Ua.mono (Sk hp) _ _ q⟩)
theorem qE{E:XK}{μ:List Addr}{H:Hp}{σ:Ya}{ds:List D}{vs:List V}{Q:VK}{p:Addr}(h:Kb T E (Rep T) μ H (bA ds σ) Q)(r:Rel T μ H σ)(q:Ua T μ H ds vs)(hp:H p=none):Q (.ref p) (upd H p (.lst vs)):=
 h (μ++[p]) (.ref p) _ (Hv hp) (r.push hp ⟨vs,Og,Ua.mono (Hv hp) _ _ q⟩) (iB r)
theorem ug{x1}(h:FA T X es fs):FE T X (.Tuple es x1 pos) (Zf fs):=by
 intro a s st H Q I i;refine pT h a s st H Q I ?_;obtain⟨k,m,n,f,g,hp⟩:=i;refine⟨k,m,n,f,g,hp.bind λe o l t q _ r j d b=>?_⟩;unfold Cv at b;by_cases c:e.length<=Rh
 ·rw[da c]at b;exact⟨by rw[<-d.length];exact bx c,λp hp=>Dy b j d hp⟩
 ·rw[ga c]at b;exact b.elim
theorem xy(h:FA T X es fs):FE T X (.List es pos) (vw fs):=by
 intro a s st H Q I i;refine xL h a s st H Q I ?_;obtain⟨k,m,n,f,g,hp⟩:=i;refine⟨k,m,n,f,g,hp.bind λe o l t q _ r j d b=>?_⟩;unfold BA at b;by_cases c:e.length<=Rh
 ·rw[da c]at b;exact⟨by rw[<-d.length];exact bx c,λp hp=>qE b j d hp⟩
 ·rw[ga c]at b;exact b.elim
theorem nE{E:XK}{μ:List Addr}{H:Hp}{σ:Ya}{ds:List D}{vs:List V}{Q:VK}{p:Addr}(h:Kb T E (Rep T) μ H (.ok (.lst ds) σ) Q)(r:Rel T μ H σ)(q:Ua T μ H ds vs)(hp:H p=none):Q (.ref p) (upd H p (.lst vs)):=
 h μ (.ref p) _ (Sk hp) (r.fresh hp) (by rw[Rep];exact⟨p,vs,rfl,λhm=>(by obtain⟨u,a,_⟩:=r.mem hm;rw[hp]at a;cases a),Og,Ua.mono (Sk hp) _ _ q⟩)
theorem rk(h:FA T X es fs):FE T X (.List es pos) (ij fs):=by
 intro a s st H Q I i;refine xL h a s st H Q I ?_;obtain⟨k,m,n,f,g,hp⟩:=i;refine⟨k,m,n,f,g,hp.bind λe o l t q _ r j d b=>?_⟩;unfold fw at b;by_cases c:e.length<=Rh
 ·rw[da c]at b;exact⟨by rw[<-d.length];exact bx c,λp hp=>nE b j d hp⟩
 ·rw[ga c]at b;exact b.elim
end
noncomputable def oI(g:Int->Int->Int):D->D->M D
 | .int i,.int j=>ret (.int (g i j))
 |_,_=>bad
noncomputable def oB(g:Int->Int->Bool):D->D->M D
 | .int i,.int j=>ret (.bl (g i j))
 |_,_=>bad
noncomputable def Nx(C:Int->Int->Bool)(g:Int->Int->Int):D->D->M D
 | .int i,.int j=>if C i j=true then ret (.int (g i j))else bad
 |_,_=>bad
noncomputable def TH(_ j:Int):Bool:=hide (decide (0<j) && decide (j<1073741824))
noncomputable def zF(_ j:Int):Bool:=hide (decide (0<j))
noncomputable def Lw(i j:Int):Bool:=hide (decide (0<=j) && decide (j<=1000000) && decide (i.natAbs<2 ^ 64))
noncomputable abbrev Ju:=oI (λi j=>i - j)
noncomputable abbrev Sv:=Nx TH (λi j=>i / j)
noncomputable abbrev io:=Nx zF (λi j=>i % j)
noncomputable abbrev zv:=Nx Lw (λi j=>i ^ j.toNat)
noncomputable abbrev oLt:=oB (λi j=>decide (i<j))
noncomputable abbrev oLe:=oB (λi j=>decide (i<=j))
noncomputable abbrev Fz:=oB (λi j=>decide (j<i))
noncomputable abbrev jD:=oB (λi j=>decide (j<=i))
noncomputable def Bx:D->M D
 | .int i=>ret (.int (-i))
 |_=>bad
noncomputable def rD(T:Tb)(o:D->D->M D):R2:=λv u H Q=>∃ (E:XK) (a:List Addr) (σ:Ya) (x y:D),Rel T a H σ/\Rep T a H x v/\Rep T a H y u/\Kb T E (Rep T) a H (o x y σ) Q
theorem Fd{T:Tb}{o:D->D->M D}:al T (rD T o) o:=λE a H b x y v u Q r p q h=>⟨E,a,b,x,y,r,p,q,h⟩
section
variable{T:Tb}{X:Cx}
theorem Fp{μ:List Addr}{H:Hp}{i:Int}{v:V}(h:Rep T μ H (.int i) v):v=.int i:=by simpa [Rep]using h
theorem UZ{g:Int->Int->Int}:al T (Aq λi j=>.int (g i j)) (oI g):=by
 intro E a H b x y v u Q r p q h;cases x with
 |int i=>
  cases y with
  |int j=>exact⟨i,j,Fp p,Fp q,Kb.here h r (by rw[Rep])⟩
  |_=>exact h.elim
 |_=>exact h.elim
theorem bE{g:Int->Int->Bool}:al T (Aq λi j=>.bl (g i j)) (oB g):=by
 intro E a H b x y v u Q r p q h;cases x with
 |int i=>
  cases y with
  |int j=>exact⟨i,j,Fp p,Fp q,Kb.here h r (by rw[Rep])⟩
  |_=>exact h.elim
 |_=>exact h.elim
theorem vF{C:Int->Int->Bool}{a:Int->Int->Prop}{g:Int->Int->Int}(c:∀ i j,C i j=true->a i j):al T (rI a λi j=>.int (g i j)) (Nx C g):=by
 intro E d H f x y v u Q r p q h;cases x with
 |int i=>
  cases y with
  |int j=>
   by_cases hc:C i j=true
   ·have b:Kb T E (Rep T) d H (ret (.int (g i j)) f) Q:=by
     have e:Nx C g (.int i) (.int j)=ret (.int (g i j)):=by show (if C i j=true then _ else _)=_;rw[da hc]
     rw[e]at h;exact h
    exact⟨i,j,Fp p,Fp q,c i j hc,Kb.here b r (by rw[Rep])⟩
   ·have e:Nx C g (.int i) (.int j)=bad:=by show (if C i j=true then _ else _)=_;rw[ga hc]
    rw[e]at h;exact h.elim
  |_=>exact h.elim
 |_=>exact h.elim
theorem Yu:al T (Aq λi j=>.int (i - j)) Ju:=UZ
theorem Wx:al T (rI uN λi j=>.int (i / j)) Sv:=vF λi j h=>by
 simp only[TH,Gs,Ba,Pd]at h;exact h
theorem Hq:al T (rI (λ_ j=>0<j) λi j=>.int (i % j)) io:=vF λi j h=>by
 simp only[zF,Gs,Pd]at h;exact h
theorem HJ:al T (rI OJ λi j=>.int (i ^ j.toNat)) zv:=vF λi j h=>by
 simp only[Lw,Gs,Ba,Pd]at h;exact⟨h.1.1,h.1.2,h.2⟩
theorem Iy:al T (Aq λi j=>.bl (decide (i<j))) oLt:=bE
theorem gF:al T (Aq λi j=>.bl (decide (i<=j))) oLe:=bE
theorem YC:al T (Aq λi j=>.bl (decide (j<i))) Fz:=bE
theorem UH:al T (Aq λi j=>.bl (decide (j<=i))) jD:=bE
theorem XA:uM T (rU λi=>.int (-i)) Bx:=by
 intro E a H b x v Q r p h;cases x with
 |int i=>exact⟨i,Fp p,Kb.here h r (by rw[Rep])⟩
 |_=>exact h.elim
end
noncomputable def sc:D->Option V
 | .zb=>some .zb
 | .bl b=>some (.bl b)
 | .int i=>some (.int i)
 | .str x=>some (.str x)
 |_=>none
noncomputable def Wg(σ:Ya)(n:Nat):Option (List D):=match σ[n]? with
 |some (.lst xs)=>some xs
 |_=>none
theorem ZK{σ:Ya}{n:Nat}{xs:List D}(h:Wg σ n=some xs):σ[n]?=some (.lst xs):=by
 unfold Wg at h;cases e:σ[n]? with
 |none=>rw[e]at h;cases h
 |some o=>rw[e]at h;cases o<;>simp at h;subst h;rfl
inductive Kd where
 |s (v:V)|t (xs:List D)|l (xs:List D)|o
noncomputable def kd(σ:Ya):D->Kd
 | .zb=>.s .zb
 | .bl b=>.s (.bl b)
 | .int i=>.s (.int i)
 | .str x=>.s (.str x)
 | .tup xs=>.t xs
 | .lst xs=>.l xs
 | .ref n=>match Wg σ n with
  |some xs=>.l xs
  |none=>.o
 |_=>.o
noncomputable def wn(f:D->D->Option Bool):List D->List D->Option Bool
 |[],[]=>some true
 |[],_::_=>some false
 |_::_,[]=>some false
 |x::xs,y::a=>match f x y,wn f xs a with
  |some b,some c=>some (b && c)
  |_,_=>none
noncomputable def Dn(f:D->D->Option Bool):Kd->Kd->Option Bool
 | .s a,.s b=>some (Kj a b)
 | .t xs,.t c=>wn f xs c
 | .l xs,.l c=>wn f xs c
 | .s _,.t _=>some false
 | .t _,.s _=>some false
 | .s _,.l _=>some false
 | .l _,.s _=>some false
 | .t _,.l _=>some false
 | .l _,.t _=>some false
 |_,_=>none
noncomputable def jj(σ:Ya):Nat->D->D->Option Bool
 |0,x,y=>Dn (λ_ _=>none) (kd σ x) (kd σ y)
 |n+1,x,y=>Dn (jj σ n) (kd σ x) (kd σ y)
noncomputable def Jr(f:D->D->Option Bool)(xs ys:List D)(j:Nat):Bool:=match xs[j]?,ys[j]? with
 |some a,some b=>(f a b).getD false
 |_,_=>false
theorem XN(f:D->D->Option Bool):∀ (xs ys:List D) (b:Bool),wn f xs ys=some b->
  (∀ (j:Nat) (a c:D),xs[j]?=some a->ys[j]?=some c->∃ k,f a c=some k)/\b=((List.range (min xs.length ys.length)).all (Jr f xs ys) && xs.length == ys.length)
 |[],[],b,h=>by simp[wn]at h;subst h;simp
 |[],y::ys,b,h=>by simp[wn]at h;subst h;simp
 |x::xs,[],b,h=>by simp[wn]at h;subst h;simp
 |x::xs,y::ys,b,h=>by
  unfold wn at h;cases d:f x y with
  |none=>rw[d]at h;cases h
  |some b1=>
   cases e:wn f xs ys with
   |none=>rw[d,e]at h;cases h
   |some i=>
    rw[d,e]at h;cases h;obtain⟨h1,q⟩:=XN f xs ys i e;refine⟨λj a c g hc=>?_,?_⟩
    ·cases j with
     |zero=>simp at g hc;subst g;subst hc;exact⟨b1,d⟩
     |succ j=>exact h1 j a c (by simpa using g) (by simpa using hc)
    ·have l:min (x::xs).length (y::ys).length=min xs.length ys.length+1:=by simp[Nat.succ_min_succ]
     have m:∀ j,Jr f (x::xs) (y::ys) (j+1)=Jr f xs ys j:=λj=>by simp[Jr]
     have n:Jr f (x::xs) (y::ys) 0=b1:=by simp[Jr,d]
     rw[l,jq,Qf,lq,n,q];have o:(Jr f (x::xs) (y::ys) ∘ Nat.succ)=Jr f xs ys:=funext λj=>m j;have p:((x::xs).length == (y::ys).length)=(xs.length == ys.length):=by simp
     rw[o,p,Sw]
section
variable{T:Tb}{μ:List Addr}{H:Hp}{σ:Ya}
theorem Rel.lst(r:Rel T μ H σ){n:Nat}{v:V}{xs:List D}(h:Rep T μ H (.ref n) v)(e:Wg σ n=some xs):∃ a vs,v=.ref a/\μ[n]?=some a/\H a=some (.lst vs)/\Ua T μ H xs vs:=by
 obtain⟨a,rfl,h1,vs,b,h3⟩:=r.at h (ZK e);exact⟨a,vs,rfl,h1,b,h3⟩
theorem OB{d:D}{v a:V}(h:Rep T μ H d v)(e:sc d=some a):v=a:=by
 cases d<;>simp[sc]at e<;>subst e<;>simpa [Rep]using h
theorem SN{d:D}{a:V}(e:sc d=some a):qi a=true:=by
 cases d<;>simp[sc]at e<;>subst e<;>rfl
theorem l5{a:V}(h:qi a=true):Kj a a=true:=by cases a<;>simp[qi,Kj]at h ⊢
theorem Aw(r:Rel T μ H σ){d:D}{v:V}(h:Rep T μ H d v):match kd σ d with
  | .s a=>v=a/\qi a=true
  | .t xs=>∃ p c,v=.ref p/\H p=some (.tup c)/\Ua T μ H xs c
  | .l xs=>∃ p c,v=.ref p/\H p=some (.lst c)/\Ua T μ H xs c
  | .o=>True:=by
 cases d with
 |zb=>exact⟨by simpa [Rep]using h,rfl⟩
 |bl b=>exact⟨by simpa [Rep]using h,rfl⟩
 |int b=>exact⟨by simpa [Rep]using h,rfl⟩
 |str b=>exact⟨by simpa [Rep]using h,rfl⟩
 |tup xs=>rw[Rep]at h;exact h
 |lst xs=>rw[Rep]at h;obtain⟨a,c,h1,_,f,h3⟩:=h;exact⟨a,c,h1,f,h3⟩
 |ref n=>
  unfold kd;dsimp only;cases e:Wg σ n with
  |none=>trivial
  |some xs=>obtain⟨a,c,h1,_,f,h3⟩:=r.lst h e;exact⟨a,c,h1,f,h3⟩
 |_=>trivial
theorem II{f:D->D->Option Bool}(g:∀ (x y:D) (v:V) (b:Bool),Rep T μ H x v->Rep T μ H y v->f x y=some b->b=true):∀ (xs ys:List D) (vs:List V) (b:Bool),Ua T μ H xs vs->Ua T μ H ys vs->wn f xs ys=some b->b=true
 |[],ys,vs,b,c,a,h=>by
  rw[Ua]at c;subst c;cases ys with
  |nil=>simp[wn]at h;exact h
  |cons y ys=>rw[Ua]at a;obtain⟨_,_,z,_⟩:=a;cases z
 |x::xs,ys,vs,b,c,a,h=>by
  rw[Ua]at c;obtain⟨v,r,rfl,k,m⟩:=c;cases ys with
  |nil=>rw[Ua]at a;cases a
  |cons y ys=>
   rw[Ua]at a;obtain⟨p,o,z,l,n⟩:=a;cases z;unfold wn at h;cases d:f x y with
   |none=>rw[d]at h;cases h
   |some i=>
    cases e:wn f xs ys with
    |none=>rw[d,e]at h;cases h
    |some j=>
     rw[d,e]at h;cases h;rw[g x y v i k l d,II g xs ys r j m n e];rfl
theorem NG(r:Rel T μ H σ){f:D->D->Option Bool}(A:∀ (x y:D) (v:V) (b:Bool),Rep T μ H x v->Rep T μ H y v->f x y=some b->b=true){x y:D}{v:V}{b:Bool}(B:Rep T μ H x v)(hy:Rep T μ H y v)(h:Dn f (kd σ x) (kd σ y)=some b):b=true:=by
 have n:=Aw r B;have g:=Aw r hy;generalize kd σ x=C at h n;generalize kd σ y=u at h g;cases C with
 |s a=>
  obtain⟨rfl,i⟩:=n;cases u with
  |s c=>obtain⟨rfl,_⟩:=g;cases h;exact l5 i
  |t xs=>obtain⟨p,k,rfl,_⟩:=g;simp[qi]at i
  |l xs=>obtain⟨p,k,rfl,_⟩:=g;simp[qi]at i
  |o=>cases h
 |t xs=>
  obtain⟨p,k,rfl,h1,w⟩:=n;cases u with
  |s c=>obtain⟨e,i⟩:=g;rw[<-e]at i;simp[qi]at i
  |t m=>
   obtain⟨q,z,e,d,j⟩:=g;cases e;rw[h1]at d;cases d;exact II A xs m k b w j h
  |l m=>obtain⟨q,z,e,d,j⟩:=g;cases e;rw[h1]at d;cases d
  |o=>cases h
 |l xs=>
  obtain⟨p,k,rfl,h1,w⟩:=n;cases u with
  |s c=>obtain⟨e,i⟩:=g;rw[<-e]at i;simp[qi]at i
  |t m=>obtain⟨q,z,e,d,j⟩:=g;cases e;rw[h1]at d;cases d
  |l m=>
   obtain⟨q,z,e,d,j⟩:=g;cases e;rw[h1]at d;cases d;exact II A xs m k b w j h
  |o=>cases h
 |o=>cases h
theorem UL(r:Rel T μ H σ):∀ (n:Nat) (x y:D) (v:V) (b:Bool),Rep T μ H x v->Rep T μ H y v->jj σ n x y=some b->b=true
 |0,x,y,v,b,a,hy,h=>NG r (λ_ _ _ _ _ _ z=>by cases z) a hy h
 |n+1,x,y,v,b,a,hy,h=>NG r (λx y v b c d e=>UL r n x y v b c d e) a hy h
end
section
variable{T:Tb}{X:Cx}{pins:List (Addr × vc)}{st:St}{μ:List Addr}{H:Hp}{s:aa}{σ:Ya}
theorem hD{A:Ia}{a:V}{u:Value}{p:Addr}{its:Array Value}(d:qi a=true)(r:Zc a u)(hp:s.heap.IsTuple p its)(c:A.units<cLine):gd A s u (.ref p) false/\gd A s (.ref p) u false/\mh A s u (.ref p) false/\mh A s (.ref p) u false/\fh A s u (.ref p) true/\fh A s (.ref p) u true:=by
 cases a with
 |zb=>cases r;exact⟨.none_tuple hp c,.tuple_none hp c,.none_tuple hp c,.tuple_none hp c,.none_tuple hp c,.tuple_none hp c⟩
 |bl b=>cases r;exact⟨.bool_tuple b hp c,.tuple_bool b hp c,.bool_tuple b hp c,.tuple_bool b hp c,.bool_tuple b hp c,.tuple_bool b hp c⟩
 |int b=>obtain⟨t,rfl⟩:=r;exact⟨.int_tuple b t hp c,.tuple_int b t hp c,.int_tuple b t hp c,.tuple_int b t hp c,.int_tuple b t hp c,.tuple_int b t hp c⟩
 |str b=>obtain⟨t,rfl⟩:=r;exact⟨.str_tuple b t hp c,.tuple_str b t hp c,.str_tuple b t hp c,.tuple_str b t hp c,.str_tuple b t hp c,.tuple_str b t hp c⟩
 |_=>simp[qi]at d
theorem GP{A:Ia}{a:V}{u:Value}{p:Addr}{its:Array Value}(d:qi a=true)(r:Zc a u)(hp:s.heap.IsList p its)(c:A.units<cLine):mh A s u (.ref p) false/\mh A s (.ref p) u false/\fh A s u (.ref p) true/\fh A s (.ref p) u true:=by
 cases a with
 |zb=>cases r;exact⟨.none_list hp c,.list_none hp c,.none_list hp c,.list_none hp c⟩
 |bl b=>cases r;exact⟨.bool_list b hp c,.list_bool b hp c,.bool_list b hp c,.list_bool b hp c⟩
 |int b=>obtain⟨t,rfl⟩:=r;exact⟨.int_list b t hp c,.list_int b t hp c,.int_list b t hp c,.list_int b t hp c⟩
 |str b=>obtain⟨t,rfl⟩:=r;exact⟨.str_list b t hp c,.list_str b t hp c,.str_list b t hp c,.list_str b t hp c⟩
 |_=>simp[qi]at d
theorem bV{A:Ia}{a:V}{u:Value}{p:Addr}{its:Array Value}(d:qi a=true)(r:Zc a u)(hp:s.heap.IsList p its)(c:A.units<cLine):gd A s u (.ref p) false:=by
 cases a with
 |zb=>cases r;exact .none_list hp c
 |bl b=>cases r;exact .bool_list b hp c
 |int b=>obtain⟨t,rfl⟩:=r;exact .int_list b t hp c
 |str b=>obtain⟨t,rfl⟩:=r;exact .str_list b t hp c
 |_=>simp[qi]at d
theorem gY{A:Ia}{a:V}{u:Value}{p:Addr}{its:Array Value}(d:qi a=true)(r:Zc a u)(hp:s.heap.IsList p its)(c:A.units<cLine):gd A s (.ref p) u false:=by
 cases a with
 |zb=>cases r;exact .list_none hp c
 |bl b=>cases r;exact .list_bool b hp c
 |int b=>obtain⟨t,rfl⟩:=r;exact .list_int b t hp c
 |str b=>obtain⟨t,rfl⟩:=r;exact .list_str b t hp c
 |_=>simp[qi]at d
theorem AZ{A:Ia}{a b:V}{u w:Value}(e:Zc a u)(rb:Zc b w)(f:qi a=true)(d:qi b=true):mh A s u w (Kj a b)/\fh A s u w (!Kj a b):=by
 cases a with
 |zb=>
  cases e;cases b with
  |zb=>cases rb;exact⟨.none_none,.none_none⟩
  |bl y=>cases rb;exact⟨.none_bool y,.none_bool y⟩
  |int y=>obtain⟨t,rfl⟩:=rb;exact⟨.none_int y t,.none_int y t⟩
  |str y=>obtain⟨t,rfl⟩:=rb;exact⟨.none_str y t,.none_str y t⟩
  |_=>simp[qi]at d
 |bl x=>
  cases e;cases b with
  |zb=>cases rb;exact⟨.bool_none x,.bool_none x⟩
  |bl y=>cases rb;exact⟨.bool_bool x y,.bool_bool x y⟩
  |int y=>obtain⟨t,rfl⟩:=rb;exact⟨.bool_int x y t,.bool_int x y t⟩
  |str y=>obtain⟨t,rfl⟩:=rb;exact⟨.bool_str x y t,.bool_str x y t⟩
  |_=>simp[qi]at d
 |int x=>
  obtain⟨c,rfl⟩:=e;cases b with
  |zb=>cases rb;exact⟨.int_none x c,.int_none x c⟩
  |bl y=>cases rb;exact⟨.int_bool x c y,.int_bool x c y⟩
  |int y=>obtain⟨t,rfl⟩:=rb;exact⟨.int_int x c y t,.int_int x c y t⟩
  |str y=>obtain⟨t,rfl⟩:=rb;exact⟨.int_str x c y t,.int_str x c y t⟩
  |_=>simp[qi]at d
 |str x=>
  obtain⟨c,rfl⟩:=e;cases b with
  |zb=>cases rb;exact⟨.str_none x c,.str_none x c⟩
  |bl y=>cases rb;exact⟨.str_bool x c y,.str_bool x c y⟩
  |int y=>obtain⟨t,rfl⟩:=rb;exact⟨.str_int x c y t,.str_int x c y t⟩
  |str y=>obtain⟨t,rfl⟩:=rb;exact⟨.str_str x c y t,.str_str x c y t⟩
  |_=>simp[qi]at d
 |_=>simp[qi]at f
theorem fD{xs:List V}{us:List Value}{i:Nat}{u:Value}(r:Ud xs us)(h:us[i]?=some u):∃ x,xs[i]?=some x/\Zc x u:=by
 have c:=r.length;have b:=(na.mp h).1;obtain⟨d,h1,a⟩:=r.get (i:=i) (x:=xs[i]'(by omega)) (by simp);rw[h]at h1;cases h1;exact⟨_,by simp,a⟩
theorem IH{ds:List D}{vs:List V}{i:Nat}{v:V}(r:Ua T μ H ds vs)(h:vs[i]?=some v):∃ d,ds[i]?=some d/\Rep T μ H d v:=by
 have c:=r.length;have b:=(na.mp h).1;obtain⟨e,h1,a⟩:=r.get (i:=i) (d:=ds[i]'(by omega)) (by simp);rw[h]at h1;cases h1;exact⟨_,by simp,a⟩
theorem ZE{A:Ia}{f:D->D->Option Bool}(C:∀ (x y:D) (v w:V) (p q:Value) (b:Bool),Rep T μ H x v->Rep T μ H y w->Zc v p->Zc w q->f x y=some b->gd A s p q b)
  {xs ys:List D} {vs r:List V} {us zs:List Value} {b:Bool} (n:Ua T μ H xs vs) (o:Ua T μ H ys r) (l:Ud vs us) (m:Ud r zs) (h:wn f xs ys=some b) :
  (∀ j (h1:j<us.toArray.size) (g:j<zs.toArray.size),gd A s us.toArray[j] zs.toArray[j] (Jr f xs ys j))/\b=((List.range (min us.toArray.size zs.toArray.size)).all (Jr f xs ys) && us.toArray.size == zs.toArray.size):=by
 obtain⟨h1,g⟩:=XN f xs ys b h;have l1:=n.length;have l2:=o.length;have E:=l.length;have F:=m.length;refine⟨λj J g2=>?_,?_⟩
 ·obtain⟨v,t,I⟩:=fD (i:=j) (u:=us.toArray[j]) l (by simp);obtain⟨w,z,a⟩:=fD (i:=j) (u:=zs.toArray[j]) m (by simp);obtain⟨x,c,G⟩:=IH n t;obtain⟨y,d,p4⟩:=IH o z;obtain⟨k,e⟩:=h1 j x y c d;have B:Jr f xs ys j=k:=by simp[Jr,c,d,e]
  rw[B];exact C x y v w _ _ k G p4 I a e
 ·simp only[pa];rw[g,l1,l2,E,F]
noncomputable abbrev dP(A:Ia)(s:aa)(v w:Value)(b:Bool):Prop:=mh A s v w b/\fh A s v w (!b)
theorem aI{A:Ia}(I:Inv X pins st H s)(r:Rel T μ H σ)(hu:A.units+1<cLine){f:D->D->Option Bool}
  (Z:∀ (x y:D) (v w:V) (N O:Value) (b:Bool),Rep T μ H x v->Rep T μ H y w->Zc v N->Zc w O->f x y=some b->gd A.in1 s N O b)
  {x y:D} {v w:V} {N O:Value} {b:Bool} (hx:Rep T μ H x v) (hy:Rep T μ H y w) (M:Zc v N) (d:Zc w O) (h:Dn f (kd σ x) (kd σ y)=some b):dP A s N O b:=by
 have g:A.units<cLine:=by omega
 have Q:=Aw r hx;have m:=Aw r hy;generalize kd σ x=k1 at h Q;generalize kd σ y=S at h m;cases k1 with
 |o=>cases h
 |s a=>
  obtain⟨rfl,R⟩:=Q;cases S with
  |o=>cases h
  |s c=>obtain⟨rfl,J⟩:=m;cases h;exact AZ M d R J
  |t B=>
   obtain⟨q,P,rfl,j,u⟩:=m;cases h;cases d;obtain⟨k,_,hq,_⟩:=L2.Inv.tuple I (ph.of (K:=X.K) j);obtain⟨_,_,C,E,F,G⟩:=hD R M hq g;exact⟨C,F⟩
  |l B=>
   obtain⟨q,P,rfl,j,u⟩:=m;cases h;cases d;obtain⟨k,_,pl,_⟩:=L2.Inv.list I (Qe.of (K:=X.K) j);obtain⟨C,E,F,G⟩:=GP R M pl.isList g;exact⟨C,F⟩
 |t xs=>
  obtain⟨p,vs,rfl,h1,Y⟩:=Q;cases M;obtain⟨k,U,hp,_⟩:=L2.Inv.tuple I (ph.of (K:=X.K) h1);cases S with
  |o=>cases h
  |s c=>
   obtain⟨rfl,J⟩:=m;cases h;obtain⟨_,_,C,E,F,G⟩:=hD J d hp g;exact⟨E,G⟩
  |t B=>
   obtain⟨q,P,rfl,j,u⟩:=m;cases d;obtain⟨i,W,hq,_⟩:=L2.Inv.tuple I (ph.of (K:=X.K) j);obtain⟨L,g2⟩:=ZE (A:=A.in1) Z Y u U W h;rw[g2];exact⟨.tuples hp hq (by omega) L,.tuples hp hq (by omega) L⟩
  |l B=>
   obtain⟨q,P,rfl,j,u⟩:=m;cases h;cases d;obtain⟨i,_,pl,_⟩:=L2.Inv.list I (Qe.of (K:=X.K) j);exact⟨.tuple_list hp pl.isList g,.tuple_list hp pl.isList g⟩
 |l xs=>
  obtain⟨p,vs,rfl,h1,Y⟩:=Q;cases M;obtain⟨k,U,pl,_⟩:=L2.Inv.list I (Qe.of (K:=X.K) h1);cases S with
  |o=>cases h
  |s c=>
   obtain⟨rfl,J⟩:=m;cases h;obtain⟨C,E,F,G⟩:=GP J d pl.isList g;exact⟨E,G⟩
  |t B=>
   obtain⟨q,P,rfl,j,u⟩:=m;cases h;cases d;obtain⟨i,_,hq,_⟩:=L2.Inv.tuple I (ph.of (K:=X.K) j);exact⟨.list_tuple pl.isList hq g,.list_tuple pl.isList hq g⟩
  |l B=>
   obtain⟨q,P,rfl,j,u⟩:=m;cases d;obtain⟨i,W,n,_⟩:=L2.Inv.list I (Qe.of (K:=X.K) j);obtain⟨L,g2⟩:=ZE (A:=A.in1) Z Y u U W h;by_cases z:k.toArray.size=i.toArray.size
   ·have e:b=(List.range k.toArray.size).all (Jr f xs B):=by rw[g2,<-z];simp
    rw[e];exact⟨.lists pl.isList n.isList z (by omega) L,.lists pl.isList n.isList z (by omega) L⟩
   ·have e:b=false:=by rw[g2,Yd.mpr z,Rw]
    rw[e];exact⟨.lists_lengths pl.isList n.isList (by simpa using z) (by omega),.lists_lengths pl.isList n.isList (by simpa using z) (by omega)⟩
theorem SK{A:Ia}(I:Inv X pins st H s)(r:Rel T μ H σ)(R:A.units+1<cLine){f:D->D->Option Bool}
  (P:∀ (x y:D) (v w:V) (F G:Value) (b:Bool),Rep T μ H x v->Rep T μ H y w->Zc v F->Zc w G->f x y=some b->gd A.in1 s F G b)
  (Q:∀ (x y:D) (v:V) (b:Bool),Rep T μ H x v->Rep T μ H y v->f x y=some b->b=true)
  {x y:D} {v w:V} {F G:Value} {b:Bool} (J:Rep T μ H x v) (hy:Rep T μ H y w) (n:Zc v F) (d:Zc w G) (h:Dn f (kd σ x) (kd σ y)=some b):gd A s F G b:=by
 have k:A.units<cLine:=by omega
 have L:=(aI I r R P J hy n d h).1;by_cases i:v=w
 ·subst i;have hb:=NG r Q J hy h;have m:=Aw r J;have g:=Aw r hy;generalize kd σ x=N at h m;generalize kd σ y=E at h g;cases N with
  |o=>cases h
  |s a=>
   obtain⟨rfl,j⟩:=m;cases E with
   |o=>cases h
   |s c=>obtain⟨rfl,u⟩:=g;cases h;exact oG n d j u
   |t C=>obtain⟨q,B,e,_⟩:=g;rw[e]at j;simp[qi]at j
   |l C=>obtain⟨q,B,e,_⟩:=g;rw[e]at j;simp[qi]at j
  |t xs=>
   obtain⟨p,O,rfl,_⟩:=m;cases n;cases d;rw[hb];exact jk _
  |l xs=>
   obtain⟨p,O,rfl,_⟩:=m;cases n;cases d;rw[hb];exact jk _
 ·have m:=Aw r J;have g:=Aw r hy;generalize kd σ x=N at h m;generalize kd σ y=E at h g;cases N with
  |o=>cases h
  |s a=>
   obtain⟨rfl,j⟩:=m;cases E with
   |o=>cases h
   |s c=>obtain⟨rfl,u⟩:=g;cases h;exact oG n d j u
   |t C=>
    obtain⟨q,B,rfl,M,U⟩:=g;cases h;cases d;obtain⟨z,_,hq,_⟩:=L2.Inv.tuple I (ph.of (K:=X.K) M);exact(hD j n hq k).1
   |l C=>
    obtain⟨q,B,rfl,M,U⟩:=g;cases h;cases d;obtain⟨z,_,pl,_⟩:=L2.Inv.list I (Qe.of (K:=X.K) M);exact bV j n pl.isList k
  |t xs=>
   obtain⟨p,O,rfl,h1,S⟩:=m;cases n;cases E with
   |o=>cases h
   |s c=>
    obtain⟨rfl,u⟩:=g;cases h;obtain⟨z,_,hp,_⟩:=L2.Inv.tuple I (ph.of (K:=X.K) h1);exact(hD u d hp k).2.1
   |t C=>obtain⟨q,B,rfl,_⟩:=g;cases d;exact .of_refs (λe=>i (by rw[e])) L
   |l C=>obtain⟨q,B,rfl,_⟩:=g;cases d;exact .of_refs (λe=>i (by rw[e])) L
  |l xs=>
   obtain⟨p,O,rfl,h1,S⟩:=m;cases n;cases E with
   |o=>cases h
   |s c=>
    obtain⟨rfl,u⟩:=g;cases h;obtain⟨z,_,pl,_⟩:=L2.Inv.list I (Qe.of (K:=X.K) h1);exact gY u d pl.isList k
   |t C=>obtain⟨q,B,rfl,_⟩:=g;cases d;exact .of_refs (λe=>i (by rw[e])) L
   |l C=>obtain⟨q,B,rfl,_⟩:=g;cases d;exact .of_refs (λe=>i (by rw[e])) L
theorem UD(I:Inv X pins st H s)(r:Rel T μ H σ):∀ (n:Nat) (A:Ia) (x y:D) (v w:V) (c d:Value) (b:Bool),A.units+n+1<cLine->Rep T μ H x v->Rep T μ H y w->Zc v c->Zc w d->jj σ n x y=some b->gd A s c d b
 |0,A,x,y,v,w,c,d,b,m,i,hy,j,a,h=>SK I r (by omega) (λ_ _ _ _ _ _ _ _ _ _ _ z=>by cases z) (λ_ _ _ _ _ _ z=>by cases z) i hy j a h
 |n+1,A,x,y,v,w,c,d,b,m,i,hy,j,a,h=>SK I r (by omega) (λx y v w c d b e f g k l=>UD I r n A.in1 x y v w c d b (by show A.units+1+n+1<cLine;omega) e f g k l) (λx y v b e f g=>UL r n x y v b e f g) i hy j a h
theorem aL{A:Ia}(I:Inv X pins st H s)(r:Rel T μ H σ)(n:Nat)(m:A.units+n+1<cLine){x y:D}{v w:V}{c d:Value}{b:Bool}(e:Rep T μ H x v)(hy:Rep T μ H y w)(f:Zc v c)(a:Zc w d)(h:jj σ n x y=some b):dP A s c d b:=by
 cases n with
 |zero=>exact aI I r (by omega) (λ_ _ _ _ _ _ _ _ _ _ _ z=>by cases z) e hy f a h
 |succ n=>exact aI I r (by omega) (λx y v w c d b g i j k l=>UD I r n A.in1 x y v w c d b (by show A.units+1+n+1<cLine;omega) g i j k l) e hy f a h
end
section
variable{T:Tb}{X:Cx}{pins:List (Addr × vc)}{st:St}{μ:List Addr}{H:Hp}{s:aa}{σ:Ya}
noncomputable def oEq(x y:D):M D:=λσ=>match jj σ 8 x y with
 |some b=>.ok (.bl b) σ
 |none=>.bad
noncomputable def Hi(x y:D):M D:=λσ=>match jj σ 8 x y with
 |some b=>.ok (.bl (!b)) σ
 |none=>.bad
theorem Jg(f:X.A.units+9<cLine):Nh X (Ib .Eq) (rD T oEq):=by
 intro pins s st H v u i g Q I d c h;obtain⟨E,μ,σ,x,y,r,a,hy,hp⟩:=h;unfold oEq at hp;cases e:jj σ 8 x y with
 |none=>rw[e]at hp;exact hp.elim
 |some b=>
  rw[e]at hp;have:=(aL I r 8 (by omega) a hy d c e).1 X.prog X.w X.xe (EP X pins st Q) ⟨.bl b,H,I,rfl,Kb.here hp r (by rw[Rep])⟩;exact this
theorem ir(f:X.A.units+9<cLine):Nh X (Ib .NotEq) (rD T Hi):=by
 intro pins s st H v u i g Q I d c h;obtain⟨E,μ,σ,x,y,r,a,hy,hp⟩:=h;unfold Hi at hp;cases e:jj σ 8 x y with
 |none=>rw[e]at hp;exact hp.elim
 |some b=>
  rw[e]at hp;have:=(aL I r 8 (by omega) a hy d c e).2 X.prog X.w X.xe (EP X pins st Q) ⟨.bl (!b),H,I,rfl,Kb.here hp r (by rw[Rep])⟩;exact this
noncomputable def ms(x y:D):M D:=λσ=>match y with
 | .zb=>(match x with
  | .zb=>.ok (.bl true) σ
  |_=>.ok (.bl false) σ)
 |_=>.bad
noncomputable def xC(x y:D):M D:=λσ=>match y with
 | .zb=>(match x with
  | .zb=>.ok (.bl false) σ
  |_=>.ok (.bl true) σ)
 |_=>.bad
theorem cP{x:D}{v:V}(h:Rep T μ H x v):decide (v=.zb)=(match x with | .zb=>true|_=>false):=by
 cases x with
 |zb=>rw[Rep]at h;subst h;rfl
 |tup ds=>rw[Rep]at h;obtain⟨p,_,rfl,_⟩:=h;simp
 |ae ds=>rw[Rep]at h;obtain⟨p,rfl,_⟩:=h;simp
 |ref ds=>rw[Rep]at h;obtain⟨p,rfl,_⟩:=h;simp
 |lst ds=>rw[Rep]at h;obtain⟨p,_,rfl,_⟩:=h;simp
 |Db a ds=>rw[Rep]at h;obtain⟨p,_,rfl,_⟩:=h;simp
 |obj c a ds=>rw[Rep]at h;obtain⟨p,_,_,rfl,_⟩:=h;simp
 |Kr c=>rw[Rep]at h;obtain⟨p,_,rfl,_⟩:=h;simp
 |gt ds=>rw[Rep]at h;obtain⟨p,rfl,_⟩:=h;simp
 |_=>rw[Rep]at h;subst h;simp
theorem mE:al T (λx y H Q=>y=.zb/\Q (.bl (decide (x=.zb))) H) ms:=by
 intro E μ H σ x y v u Q r p q h;cases y with
 |zb=>
  refine⟨by rw[Rep]at q;exact q,?_⟩;rw[cP p];cases x<;>exact Kb.here h r (by rw[Rep])
 |_=>exact h.elim
theorem LU:al T (λx y H Q=>y=.zb/\Q (.bl (!decide (x=.zb))) H) xC:=by
 intro E μ H σ x y v u Q r p q h;cases y with
 |zb=>
  refine⟨by rw[Rep]at q;exact q,?_⟩;rw[cP p];cases x<;>exact Kb.here h r (by rw[Rep]<;>rfl)
 |_=>exact h.elim
theorem pW{ds:List D}{vs:List V}{k:Int}{d:D}(r:Ua T μ H ds vs)(h:Ek ds k=some d):∃ v,Ek vs k=some v/\Rep T μ H d v:=by
 unfold Ek at h ⊢;rw[<-r.length];cases e:Yq ds.length k with
 |none=>rw[e]at h;cases h
 |some j=>rw[e]at h;exact r.get h
theorem HA:∀ (ns:List Int),Ua T μ H (ns.map D.int) (ns.map V.int)
 |[]=>Ua.nil
 |n::ns=>Ua.cons (by rw[Rep]) (HA ns)
noncomputable def vj(σ:Ya):D->Option (List D)
 | .tup xs=>some xs
 | .ae ns=>some (ns.map D.int)
 | .ref n=>Wg σ n
 | .lst xs=>some xs
 | .gt ss=>some (ss.map D.str)
 |_=>none
noncomputable def Ta(x i:D):M D:=λσ=>match i with
 | .int k=>(match vj σ x with
  |some xs=>(match Ek xs k with
   |some d=>.ok d σ
   |none=>.bad)
  |none=>.bad)
 |_=>.bad
theorem iD:∀ (ss:List Str),Ua T μ H (ss.map D.str) (ss.map V.str)
 |[]=>Ua.nil
 |n::ns=>Ua.cons (by rw[Rep]) (iD ns)
theorem px(r:Rel T μ H σ){x:D}{v:V}{xs:List D}(h:Rep T μ H x v)(e:vj σ x=some xs):∃ p vs,v=.ref p/\Ua T μ H xs vs/\(Qe T.K H p vs\/ph T.K H p vs):=by
 cases x with
 |tup ds=>cases e;rw[Rep]at h;obtain⟨p,vs,rfl,h1,b⟩:=h;exact⟨p,vs,rfl,b,.inr (ph.of h1)⟩
 |ae ns=>cases e;rw[Rep]at h;obtain⟨p,rfl,h1⟩:=h;exact⟨p,_,rfl,HA ns,.inl h1.seq⟩
 |ref n=>obtain⟨a,vs,rfl,_,h1,b⟩:=r.lst h e;exact⟨a,vs,rfl,b,.inl (Qe.of h1)⟩
 |lst ds=>cases e;rw[Rep]at h;obtain⟨p,vs,rfl,_,h1,b⟩:=h;exact⟨p,vs,rfl,b,.inl (Qe.of h1)⟩
 |gt ss=>cases e;rw[Rep]at h;obtain⟨p,rfl,h1⟩:=h;exact⟨p,_,rfl,iD ss,.inr (.inr h1)⟩
 |_=>cases e
theorem ic(g:T.K=X.K):al T (λx y H Q=>YG X.K x y H Q\/kI X.K x y H Q) Ta:=by
 intro E μ H σ x y v u Q r p q h;cases y with
 |int k=>
  unfold Ta at h;cases e:vj σ x with
  |none=>simp only[e]at h;exact h.elim
  |some xs=>
   simp only[e]at h;cases c:Ek xs k with
   |none=>rw[c]at h;exact h.elim
   |some d=>
    rw[c]at h;obtain⟨a,f,rfl,h1,b⟩:=px r p e;obtain⟨w,h3,h4⟩:=pW h1 c;rw[g]at b;rcases b with b|b
    ·exact .inl ⟨a,f,k,w,rfl,Fp q,b,h3,Kb.here h r h4⟩
    ·exact .inr ⟨a,f,k,w,rfl,Fp q,b,h3,Kb.here h r h4⟩
 |_=>exact h.elim
theorem ec:pv X (λx y H Q=>YG X.K x y H Q\/kI X.K x y H Q):=YZ.or O5
noncomputable def nw(d:D):Bool:=(sc d).isSome
noncomputable def mw(x y:D):Bool:=match sc x,sc y with
 |some a,some b=>Kj a b
 |_,_=>false
noncomputable def Sy(a:Bool)(x y:D):M D:=λσ=>match vj σ y with
 |some xs=>if (nw x && xs.all nw)=true then .ok (.bl (if a then !(xs.any λz=>mw z x)else xs.any λz=>mw z x)) σ else .bad
 |none=>.bad
theorem YJ:∀ {ds:List D} {vs:List V},Ua T μ H ds vs->ds.all nw=true->vs.all qi=true
 |[],vs,h,_=>by rw[Ua]at h;subst h;rfl
 |d::ds,vs,h,e=>by
  rw[Ua]at h;obtain⟨v,r,rfl,h1,c⟩:=h;rw[Qf,Ba]at e ⊢;obtain⟨a,b⟩:=qe.mp e.1;exact⟨by rw[OB h1 b];exact SN b,YJ c e.2⟩
theorem WN{x:D}{a:V}(ex:sc x=some a):∀ {ds:List D} {vs:List V},Ua T μ H ds vs->ds.all nw=true->(ds.any λz=>mw z x)=vs.any λy=>Kj y a
 |[],vs,h,_=>by rw[Ua]at h;subst h;rfl
 |d::ds,vs,h,e=>by
  rw[Ua]at h;obtain⟨v,r,rfl,h1,f⟩:=h;rw[Qf,Ba]at e;obtain⟨c,b⟩:=qe.mp e.1;rw[ue,ue,WN ex f e.2];have:mw d x=Kj v a:=by unfold mw;rw[b,ex,OB h1 b]
  rw[this]
theorem lS(j:T.K=X.K)(c:Bool):al T (pE X.K c) (Sy c):=by
 intro E μ H σ x y v u Q r p q h;unfold Sy at h;cases e:vj σ y with
 |none=>rw[e]at h;exact h.elim
 |some xs=>
  rw[e]at h;by_cases hc:(nw x && xs.all nw)=true
  ·simp only[hc,ag]at h;rw[Ba]at hc;obtain⟨a,d⟩:=qe.mp hc.1;obtain⟨b,g,rfl,h1,f⟩:=px r q e;rw[j]at f;refine⟨b,g,rfl,f,by rw[OB p d];exact SN d,YJ h1 hc.2,?_⟩;have i:wy v g=xs.any λz=>mw z x:=by unfold wy;rw[WN d h1 hc.2,OB p d]
   rw[i];exact Kb.here h r (by rw[Rep])
  ·simp only[hc]at h;exact h.elim
noncomputable def qk(xs:List D):M D:=λσ=>match xs with
 |[x]=>(match vj σ x with
  |some a=>.ok (.int a.length) σ
  |none=>.bad)
 |_=>.bad
theorem Gq(f:T.K=X.K):Bq T (λxs H Q=>∃ p ys,xs=[.ref p]/\(Qe X.K H p ys\/ph X.K H p ys)/\Q (.int ys.length) H) qk:=by
 intro E μ H σ xs d Q r p h
 match xs with
 |[]=>exact h.elim
 |[x]=>
  rw[Ua]at p;obtain⟨v,w,rfl,g,c⟩:=p;rw[Ua]at c;subst c;unfold qk at h;cases e:vj σ x with
  |none=>simp only[e]at h;exact h.elim
  |some ys=>
   simp only[e]at h;obtain⟨b,d,rfl,h1,a⟩:=px r g e;rw[f]at a;exact⟨b,d,rfl,a,by rw[<-h1.length];exact Kb.here h r (by rw[Rep])⟩
 |_::_::_=>exact h.elim
noncomputable def cr(xs:List D):M D:=λσ=>match xs with
 |[x]=>(match vj σ x with
  |some a=>bA a σ
  |none=>.bad)
 |_=>.bad
theorem WB(f:T.K=X.K):Bq T (λxs H Q=>∃ p ys,xs=[.ref p]/\(Qe X.K H p ys\/ph X.K H p ys)/\∀ l,H l=none->Q (.ref l) (upd H l (.lst ys))) cr:=by
 intro E μ H σ xs d Q r p h
 match xs with
 |[]=>exact h.elim
 |[x]=>
  rw[Ua]at p;obtain⟨v,w,rfl,i,c⟩:=p;rw[Ua]at c;subst c;unfold cr at h;cases e:vj σ x with
  |none=>simp only[e]at h;exact h.elim
  |some ys=>
   simp only[e]at h;obtain⟨b,d,rfl,h1,a⟩:=px r i e;rw[f]at a;exact⟨b,d,rfl,a,λl g=>qE h r h1 g⟩
 |_::_::_=>exact h.elim
noncomputable def VH:D->Bool
 | .gt _=>true
 |_=>false
noncomputable def EC(xs:List D):M D:=λσ=>match xs with
 |[x]=>(match vj σ x with
  |some a=>if VH x=true then .bad else .ok (.tup a) σ
  |none=>.bad)
 |_=>.bad
theorem eX(j:T.K=X.K):Bq T (λxs H Q=>∃ p ys,xs=[.ref p]/\((Qe X.K H p ys/\∀ l,H l=none->Q (.ref l) (upd H l (.tup ys)))\/(ph X.K H p ys/\Q (.ref p) H))) EC:=by
 intro E μ H σ xs d Q r p h
 match xs with
 |[]=>exact h.elim
 |[x]=>
  rw[Ua]at p;obtain⟨v,w,rfl,c,i⟩:=p;rw[Ua]at i;subst i;have h:Kb T E (Rep T) μ H (match vj σ x with|some ys=>if VH x=true then .bad else .ok (.tup ys) σ|none=>.bad) Q:=h;cases e:vj σ x with
  |none=>simp only[e]at h;exact h.elim
  |some ys=>
   simp only[e]at h;cases x with
   |gt ss=>exact h.elim
   |tup ds=>
    cases e;have k:=c;rw[Rep]at c;obtain⟨b,d,rfl,h1,g⟩:=c;exact⟨b,d,rfl,.inr ⟨ph.of h1,Kb.here h r k⟩⟩
   |ae ns=>
    cases e;rw[Rep]at c;obtain⟨b,rfl,h1⟩:=c;exact⟨b,_,rfl,.inl ⟨by rw[<-j];exact h1.seq,λl f=>Dy h r (HA ns) f⟩⟩
   |ref n=>
    obtain⟨a,d,rfl,_,h1,g⟩:=r.lst c e;exact⟨a,d,rfl,.inl ⟨Qe.of h1,λl f=>Dy h r g f⟩⟩
   |lst ds=>
    cases e;rw[Rep]at c;obtain⟨b,d,rfl,_,h1,g⟩:=c;exact⟨b,d,rfl,.inl ⟨Qe.of h1,λl f=>Dy h r g f⟩⟩
   |_=>cases e
 |_::_::_=>exact h.elim
end
noncomputable def Bh(o:List D->M D)(fs:Ev->M (List D)):Ev->M D:=λa=>Xc (fs a) o
section
variable{T:Tb}{X:Cx}{x:Str}{p pos:Ke}{e:Ka}{es:List Ka}{fs:Ev->M (List D)}{id ty:String}{r:List V->Hp->VK->Prop}{o:List D->M D}
theorem oM(g:Bq T r o){st:St}{H:Hp}{Q:VK}(h:tF T X (Bh o fs) st H Q):lF r (tL T X fs) st H Q:=by
 obtain⟨m,n,p,e,f,hp⟩:=h;exact⟨m,n,p,e,f,hp.bind λd b a l c _ q k i j=>g _ a c b d l Q k i j⟩
theorem Hm(hc:kn X (.builtin id) r)(i:Bq T r o)(g:Gl X x)(hm:X.mg x=none)(j:bootBuiltins x=some (.builtin id))(d:FA T X (e::es) fs)(hn:x ≠ "__name__":=by decide)(b:(x == ("__debug__" : Str))=false:=by decide)
  (f:ua (e::es) X.env=(false,bc e X.env)::ua es X.env:=by rfl) (c:(Mc pos (ua es X.env)).any (·.1)=false:=by rfl):FE T X (.Call (.Name x p) (e::es) [] pos) (Bh o fs):=
 λa s st H Q I h=>yG hc g hm j d hn b f c a s st H Q I (oM i h)
theorem Gw(hc:kn X (.type ty) r)(i:Bq T r o)(g:Gl X x)(hm:X.mg x=none)(j:bootBuiltins x=some (.type ty))(d:FA T X (e::es) fs)(hn:x ≠ "__name__":=by decide)(b:(x == ("__debug__" : Str))=false:=by decide)
  (f:ua (e::es) X.env=(false,bc e X.env)::ua es X.env:=by rfl) (c:(Mc pos (ua es X.env)).any (·.1)=false:=by rfl):FE T X (.Call (.Name x p) (e::es) [] pos) (Bh o fs):=
 λa s st H Q I h=>fP hc g hm j d hn b f c a s st H Q I (oM i h)
end
noncomputable def kh(σ:Ya):D->Option (List D)
 | .ref n=>Wg σ n
 | .lst xs=>some xs
 |_=>none
theorem Rel.ls{T:Tb}{μ:List Addr}{H:Hp}{σ:Ya}(r:Rel T μ H σ){x:D}{v:V}{xs:List D}(h:Rep T μ H x v)(e:kh σ x=some xs):∃ a vs,v=.ref a/\H a=some (.lst vs)/\Ua T μ H xs vs:=by
 cases x with
 |ref n=>obtain⟨a,vs,h1,_,b,h3⟩:=r.lst h e;exact⟨a,vs,h1,b,h3⟩
 |lst c=>cases e;rw[Rep]at h;obtain⟨a,vs,h1,_,b,h3⟩:=h;exact⟨a,vs,h1,b,h3⟩
 |_=>cases e
noncomputable def Rt(o:D->List D->M D)(m:M (List D))(x:D):M D:=λa=>match kh a x with
 |some _=>Xc m (o x) a
 |none=>.bad
noncomputable def Mx(o:D->List D->M D)(f:Ev->M D)(fs:Ev->M (List D)):Ev->M D:=λa=>Xc (f a) (Rt o (fs a))
noncomputable def NA(T:Tb)(r:V->List V->Hp->VK->Prop)(o:D->List D->M D):Prop:=∀ (E:XK) a H c x xs v b Q,Rel T a H c->Rep T a H x v->Ua T a H xs b->Kb T E (Rep T) a H (o x xs c) Q->r v b H Q
noncomputable def il(x:D)(xs:List D):M D:=λb=>match x,xs with
 | .ref n,[y]=>(match Wg b n with
  |some a=>if a.length<Rh then .ok .zb (b.set n (.lst (a++[y])))else .bad
  |none=>.bad)
 |_,_=>.bad
section
variable{T:Tb}{X:Cx}{o e:Ka}{es:List Ka}{f:Ev->M D}{fs:Ev->M (List D)}{name:Str}{apos cpos:Ke}{id:String}{r:V->List V->Hp->VK->Prop}{g:D->List D->M D}
theorem VA(M:jn "list")(slot:Slot "list" name id)(p:Sq (.builtin id)=pure (.type "method_descriptor"))(hm:Vt X id r)(K:NA T r g)(G:FE T X o f)(F:FA T X (e::es) fs)
  (c:Zd o name X.env (bc o X.env)=bc o X.env:=by rfl)
  (i:((Mc cpos (ua (e::es) X.env)).all (λx=>!x.1) && (Wn cpos (Ai [] X.env)).all (λx=>x.1.isSome)
   && decide ((e::es).length+([]:List xj).length+(if ([]:List xj).isEmpty then 0 else 1)<30))=true:=by rfl)
  (d:(apos.endLine == cpos.line)=true:=by rfl) (n:ua (e::es) X.env=(false,bc e X.env)::ua es X.env:=by rfl) (b:(Mc cpos (ua es X.env)).any (·.1)=false:=by rfl) :
  FE T X (.Call (.Attribute o name apos) (e::es) [] cpos) (Mx g f fs):=by
 intro j s st H Q I h;refine rV M slot p hm G F c i d n b j s st H Q I ?_;obtain⟨S,A,U,w,J,hp⟩:=h;refine⟨S,A,U,w,J,hp.bind λx l q v V _ D z y k=>?_⟩;unfold Rt at k;cases m:kh l x with
 |none=>rw[m]at k;exact k.elim
 |some xs=>
  rw[m]at k;obtain⟨a,P,rfl,h1,W⟩:=z.ls y m;refine⟨.inl ⟨rfl,P,Qe.of h1⟩,q,A,l,w.mono D,z,k.bind λC u t R B _ E O L N=>?_⟩;exact K _ t B u x C (.ref a) R Q O (Rep.mono E _ _ y) L N
theorem YA:NA T dJ il:=by
 intro E i H k x xs v b Q r p q h;cases x with
 |ref n=>
  match xs with
  |[]=>exact h.elim
  |[y]=>
   rw[Ua]at q;obtain⟨w,z,rfl,j,e⟩:=q;rw[Ua]at e;subst e;unfold il at h;cases c:Wg k n with
   |none=>simp only[c]at h;exact h.elim
   |some g=>
    simp only[c]at h;by_cases hc:g.length<Rh
    ·rw[da hc]at h;obtain⟨a,b,rfl,hn,h1,d⟩:=r.lst p c;have f:=r.write (o:=.lst (b++[w])) (ob:=.lst (g++[y])) hn ⟨_,Og,by
      have ex:Ext i H i (upd H a (.lst (b++[w]))):=Iv (Ma hn) h1 (λ_ z=>by cases z) (λ_ _ z=>by cases z);exact Ua.append (Ua.mono ex _ _ d) (Ua.cons (Rep.mono ex _ _ j) Ua.nil)⟩
     exact⟨a,b,w,rfl,rfl,h1,by rw[<-d.length];exact RN hc,h _ _ _ f.1 f.2 (by rw[Rep])⟩
    ·rw[ga hc]at h;exact h.elim
  |_::_::_=>exact h.elim
 |_=>exact h.elim
end
inductive BT where
 |int|bool|str|tuple|list|dict
noncomputable def BT.nm:BT->String
 | .int=>"int" | .bool=>"bool" | .str=>"str" | .tuple=>"tuple" | .list=>"list" | .dict=>"dict"
noncomputable def mD(σ:Ya)(c:BT):D->Option Bool
 | .zb=>some false
 | .bl _=>some (match c with | .int=>true | .bool=>true|_=>false)
 | .int _=>some (match c with | .int=>true|_=>false)
 | .str _=>some (match c with | .str=>true|_=>false)
 | .tup _=>some (match c with | .tuple=>true|_=>false)
 | .ae _=>none
 | .lst _=>some (match c with | .list=>true|_=>false)
 | .Db _ _=>some (match c with | .dict=>true|_=>false)
 | .obj _ _ _=>none
 | .Kr _=>none
 | .gt _=>none
 | .ref n=>match σ[n]? with
  |some (.lst _)=>some (match c with | .list=>true|_=>false)
  |some (.Db _)=>some (match c with | .dict=>true|_=>false)
  |_=>none
noncomputable def Jn(c:BT)(x:D):M D:=λa=>match mD a c x with
 |some b=>.ok (.bl b) a
 |none=>.bad
section
variable{T:Tb}{X:Cx}
noncomputable def fQ(K:W.Frag)(H:Hp)(x:V)(t:Value):Prop:=zk K H x t\/∃ a b,x=.ref a/\Rd H a (.dK b)/\t=.type "dict"
noncomputable def NY(K:W.Frag)(c:String):List V->Hp->VK->Prop:=λxs H Q=>∃ x t b,xs=[x,.ty c]/\fQ K H x t/\W.kitOne K t (.type c)=some b/\Q (.bl b) H
theorem FR(c:String):kn X (.builtin "isinstance") (NY X.K c):=by
 intro g s st H xs n Q I r h;obtain⟨x,t,b,rfl,ty,e,q⟩:=h;obtain⟨u,u2,rfl,i,f⟩:=QO r;cases f;rcases ty with ty|⟨a,d,rfl,rd,rfl⟩
 ·exact uZ I i ty e λk=>⟨.bl b,H,I.tok _,rfl,q⟩
 ·cases (show u=pb a from i);obtain⟨_,_,v,_,p⟩:=(show Fi X.prog X.w H s.heap a (.dK d)from rd.ok I.cc)
  obtain⟨o,m,l,h1,j,_⟩:=p;exact W.kia_one W.kitx_dict I.Gj ⟨o,h1,j.1⟩ e (λz=>nomatch z) λk=>⟨.bl b,H,I.tok _,rfl,q⟩
theorem jR{μ:List Addr}{H:Hp}{σ:Ya}{x:D}{v:V}{c:BT}{b:Bool}(r:Rel T μ H σ)(p:Rep T μ H x v)(h:mD σ c x=some b):∃ t,fQ X.K H v t/\W.kitOne X.K t (.type c.nm)=some b:=by
 cases x with
 |zb=>rw[Rep]at p;subst p;refine⟨_,.inl (.zb),?_⟩;cases c<;>cases h<;>rfl
 |bl i=>rw[Rep]at p;subst p;refine⟨_,.inl (.bl i),?_⟩;cases c<;>cases h<;>rfl
 |int i=>rw[Rep]at p;subst p;refine⟨_,.inl (.int i),?_⟩;cases c<;>cases h<;>rfl
 |str i=>rw[Rep]at p;subst p;refine⟨_,.inl (.str i),?_⟩;cases c<;>cases h<;>rfl
 |tup ds=>rw[Rep]at p;obtain⟨q,d,rfl,h1,_⟩:=p;refine⟨_,.inl (.tup h1),?_⟩;cases c<;>cases h<;>rfl
 |ae ns=>cases h
 |lst ds=>rw[Rep]at p;obtain⟨q,d,rfl,_,h1,_⟩:=p;refine⟨_,.inl (.lst h1),?_⟩;cases c<;>cases h<;>rfl
 |Db j ds=>rw[Rep]at p;obtain⟨q,d,rfl,_,h1,_⟩:=p;refine⟨_,.inr ⟨q,_,rfl,h1,rfl⟩,?_⟩;cases c<;>cases h<;>rfl
 |obj f j ds=>cases h
 |Kr f=>cases h
 |gt ss=>cases h
 |ref n=>
  unfold mD at h;dsimp only at h;cases e:σ[n]? with
  |none=>rw[e]at h;cases h
  |some o=>
   rw[e]at h;obtain⟨a,rfl,_,g⟩:=r.at p e;cases o with
   |lst xs=>obtain⟨d,h3,_⟩:=g;refine⟨_,.inl (.lst h3),?_⟩;cases c<;>cases h<;>rfl
   |Db xs=>obtain⟨d,h3,_⟩:=g;refine⟨_,.inl (.dK h3),?_⟩;cases c<;>cases h<;>rfl
   |ins f fs=>cases h
   |Cf xs=>cases h
   |yk _=>cases h
theorem At(c:BT){a:Str}{e:Ka}{f:Ev->M D}{p j g:Ke}(B:FE T X e f)(C:Gl X "isinstance")(hm:X.mg "isinstance" = none)(m:Gl X a)(n:X.mg a=none)(r:bootBuiltins a=some (.type c.nm))(o:a ≠ "__name__":=by decide)(l:(a == ("__debug__" : Str))=false:=by decide)
  (w:ua [e,.Name a j] X.env=(false,bc e X.env)::ua [.Name a j] X.env:=by rfl) (q:(Mc g (ua [.Name a j] X.env)).any (·.1)=false:=by rfl) :
  FE T X (.Call (.Name "isinstance" p) [e,.Name a j] [] g) (Wc (Jn c) f):=by
 intro d s st H Q I h;refine yG (FR c.nm) C hm boot_isinstance (Av B (Av (t3 m n r (v:=.ty c.nm) rfl o l) Ux) w) (by decide) (by decide) w q d s st H Q I ?_;obtain⟨G,K,L,A,E,hp⟩:=h;refine⟨G,K,L,A,E,hp.bind λx u J v N _ O y F i=>?_⟩;unfold Jn at i;cases k:mD u c x with
 |none=>rw[k]at i;exact i.elim
 |some b=>
  rw[k]at i;obtain⟨t,h1,z⟩:=jR (X:=X) y F k;exact⟨v,t,b,rfl,h1,z,Kb.here i y (by rw[Rep])⟩
end
noncomputable def Mf:Ev->M Fl:=λa=>ret (.nx a)
noncomputable def EA(h:Ev->M Fl):Fl->M Fl
 | .nx a=>h a
 | .rt d=>ret (.rt d)
 | .bk a=>ret (.bk a)
 | .ct a=>ret (.ct a)
 | .xc a x=>ret (.xc a x)
noncomputable def Nb(g h:Ev->M Fl):Ev->M Fl:=λa=>Xc (g a) (EA h)
noncomputable def NB:D->M Fl:=λd=>ret (.rt d)
noncomputable def zd(f:Ev->M D):Ev->M Fl:=λa=>xs a (f a) NB
noncomputable def nF(ρ:Ev):D->M Fl:=λ_=>ret (.nx ρ)
noncomputable def xq(f:Ev->M D):Ev->M Fl:=λa=>xs a (f a) (nF a)
noncomputable def WA(i:Nat)(ρ:Ev):D->M Fl:=λd=>ret (.nx (ρ.set i (some d)))
noncomputable def Ue(i:Nat)(f:Ev->M D):Ev->M Fl:=λa=>xs a (f a) (WA i a)
noncomputable def Bf(t:Ev->M Bool)(a b:Ev->M Fl):Ev->M Fl:=λc=>xs c (t c) (Ej (a c) (b c))
section
variable{T:Tb}{X:Cx}{st':Stmt}{rest:List Stmt}{g h:Ev->M Fl}{e:Ka}{f:Ev->M D}{pos:Ke}
theorem Vf:Do T X [] Mf:=by
 intro a s st H D I d;obtain⟨e,f,h,b,c,hp⟩:=d;exact t7 a s st H D I (Kb.here (g:=Hl.nx st) hp c b)
theorem oW{μ:List Addr}{H:Hp}{σ:Ya}{a:Fl}{gl:Hl}{D:Ends}{N:St->Hp->Prop}(r:Rel T μ H σ)(q:Rk T μ H a gl)(k:Fl->M Fl)
  (hn:∀ ρ,a=.nx ρ->∀ st,gl=.nx st->gh T μ H ρ st->N st H) (b:(∀ ρ,a≠.nx ρ)->Kb T EN (Rk T) μ H (.ok a σ) (Jj X D)):Jj X { D with nx:=N } gl H:=by
 cases a with
 |nx ρ=>cases gl with
  |nx st=>exact hn ρ rfl st rfl q
  |_=>exact q.elim
 |rt d=>cases gl with
  |rt v=>have z:=Kb.here (g:=Hl.rt v) (b λ_ z=>by cases z) r q;exact z
  |_=>exact q.elim
 |bk ρ=>cases gl with
  |bk v=>have z:=Kb.here (g:=Hl.bk v) (b λ_ z=>by cases z) r q;exact z
  |_=>exact q.elim
 |ct ρ=>cases gl with
  |ct v=>have z:=Kb.here (g:=Hl.ct v) (b λ_ z=>by cases z) r q;exact z
  |_=>exact q.elim
 |xc ρ x=>cases gl with
  |xc v c fd=>have z:=Kb.here (g:=Hl.xc v c fd) (b λ_ z=>by cases z) r q;exact z
  |_=>exact q.elim
theorem Yb(h1:FS T X st' g)(k:Do T X rest h):Do T X (st'::rest) (Nb g h):=by
 intro b s st H D I o;refine XV h1 k b s st H D I ?_;obtain⟨r,t,u,l,n,hp⟩:=o;refine⟨r,t,u,l,n,hp.bind λj d c gl v _ w f p e=>?_⟩;refine oW (X:=X) f p (λ_=>bad) (λa i q x m=>?_) (λhn=>?_)
 ·subst i;exact⟨c,a,d,m,f,e⟩
 ·cases j with
  |nx a=>exact(hn a rfl).elim
  |_=>exact e
theorem Bc(h1:FS T X st' g):Do T X [st'] g:=tV h1
theorem Bd(c:FE T X e f):FS T X (.Return (some e) pos) (zd f):=by
 intro a s st H D I i;refine FU c a s st H D I ?_;obtain⟨m,o,p,b,h,hp⟩:=i;exact⟨m,o,p,b,h,hp.xs b λd q n v r _ t l k j=>Kb.here (g:=Hl.rt v) j l k⟩
theorem Mr(h:FE T X e f)(j:dj e none pos.line X.env=pure false:=by rfl):FS T X (.Expr e pos) (xq f):=by
 intro a s st H D I k;refine n7 h j a s st H D I ?_;obtain⟨n,p,q,b,i,hp⟩:=k;exact⟨n,p,q,b,i,hp.xs b λd r o v t _ c m u l=>Kb.here (g:=Hl.nx st) l m (b.mono c)⟩
theorem sf{i:Nat}{x:Str}{a:Ke}(hN:X.N.Nodup)(l:X.N[i]?=some x)(p:Loc X.env.scope x)(j:FE T X e f)(n:dj e (some (.Name x a)) pos.line X.env=pure false:=by rfl)(k:X.fn x=true\/X.env.scope.names.lookup x=some .local:=by first|exact .inl rfl|exact .inr rfl|assumption) :
  FS T X (.Assign [.Name x a] e pos) (Ue i f):=by
 intro b s st H D I o;refine iT hN l p j n k b s st H D I ?_;obtain⟨u,y,z,c,m,hp⟩:=o;exact⟨u,y,z,c,m,hp.xs c λd A w v B _ h t r q=>Kb.here (g:=Hl.nx (st.set i (some v))) q t ((c.mono h).set i r)⟩
theorem Lf{c:Ka}{a b:List Stmt}{n:Ev->M Bool}{k l:Ev->M Fl}(hc:FT T X c n)(o:Do T X a k)(hb:Do T X b l):FS T X (.If c a b pos) (Bf n k l):=by
 intro e s st H D I q;refine WZ hc o hb e s st H D I ?_;obtain⟨t,i,u,h,p,hp⟩:=q;refine⟨t,i,u,h,p,hp.xs h λc g f v w _ j m r d=>?_⟩;cases r;cases c with
 |true=>unfold Ej at d;rw[da rfl]at d ⊢;exact⟨f,i,g,h.mono j,m,d⟩
 |false=>unfold Ej at d;rw[ga Wa]at d ⊢;exact⟨f,i,g,h.mono j,m,d⟩
noncomputable def gD(T:Tb)(tg:D->Ev->Option Ev):TG:=λv st H Q=>∃ b e c d a,gh T b H c st/\Rel T b H e/\Rep T b H d v/\tg d c=some a/\∀ st',gh T b H a st'->Q st' H
noncomputable def cX(T:Tb)(tg:List D->Ev->Option Ev):Cw:=λe st H Q=>∃ b f d c a,gh T b H d st/\Rel T b H f/\Ua T b H c e/\tg c d=some a/\∀ st',gh T b H a st'->Q st' H
noncomputable abbrev FG(T:Tb)(X:Cx)(t:Ka)(tg:D->Ev->Option Ev):Prop:=PG X t (gD T tg)
noncomputable abbrev aC(T:Tb)(X:Cx)(ts:List Ka)(tg:List D->Ev->Option Ev):Prop:=gA X ts (cX T tg)
noncomputable def Ye(i:Nat):D->Ev->Option Ev:=λd a=>some (a.set i (some d))
noncomputable def Xq:List D->Ev->Option Ev
 |[],a=>some a
 |_::_,_=>none
noncomputable def uk(t:D->Ev->Option Ev)(u:List D->Ev->Option Ev):List D->Ev->Option Ev
 |[],_=>none
 |d::ds,b=>(t d b).bind λa=>u ds a
noncomputable def zq(n:Nat)(t:List D->Ev->Option Ev):D->Ev->Option Ev
 | .tup ds,a=>if ds.length=n then t ds a else none
 |_,_=>none
theorem Li{i:Nat}{x:Str}(hN:X.N.Nodup)(e:X.N[i]?=some x)(g:Loc X.env.scope x)(c:X.fn x=true\/X.env.scope.names.lookup x=some .local:=by first|exact .inl rfl|exact .inr rfl|assumption):FG T X (.Name x pos) (Ye i):=by
 intro a s st H v u Q I r h;obtain⟨l,n,m,d,j,b,k,hd,f,hq⟩:=h;cases f;exact AX hN e g c a s st H v u Q I r (hq _ (b.set i hd))
theorem fx:aC T X [] Xq:=by
 intro a s st H j f Q I r h;obtain⟨k,m,l,b,g,e,i,hd,c,hq⟩:=h;cases b with
 |nil=>cases c;rw[Ua]at hd;subst hd;exact hW a s st H [] f Q I r ⟨rfl,hq _ e⟩
 |cons d b=>cases c
theorem Zq{c:List Ka}{t:D->Ev->Option Ev}{u:List D->Ev->Option Ev}(h1:FG T X e t)(x:aC T X c u)
  (z:(me (e::c) X.env).map (·.2)=Zh e X.env::(me c X.env).map (·.2):=by rfl):aC T X (e::c) (uk t u):=by
 intro a s st H E B Q I r h;obtain⟨n,o,C,f,k,y,l,hd,m,hq⟩:=h;cases f with
 |nil=>cases m
 |cons d f=>
  rw[Ua]at hd;obtain⟨v,w,rfl,i,j⟩:=hd;obtain⟨b,p,q⟩:=Oh.mp m;refine rZ h1 x z a s st H (v::w) B Q I r ⟨v,w,rfl,n,o,C,d,b,y,l,i,p,λA g=>?_⟩;exact⟨n,o,b,f,k,g,l,j,q,hq⟩
theorem Dx{c:List Ka}{k:Nat}{t:List D->Ev->Option Ev}{n:Nat}(hc:X.calm=true)(h:aC T X c t)
  (hn:(me c X.env).length=n:=by rfl) (f:(me c X.env).findIdx? (·.1)=none:=by rfl):FG T X (.Tuple c k pos) (zq n t):=by
 intro b s st H v u Q I r o;obtain⟨w,y,x,d,g,j,m,hd,a,hq⟩:=o;cases d with
 |tup ds=>
  have l:=hd;rw[Rep]at hd;obtain⟨p,q,rfl,h1,i⟩:=hd;unfold zq at a;dsimp only at a;by_cases e:ds.length=n
  ·rw[da e]at a;exact OT hc h hn f b s st H (.ref p) u Q I r ⟨p,q,rfl,ph.of h1,by rw[<-i.length];exact e,w,y,x,ds,g,j,m,i,a,hq⟩
  ·rw[ga e]at a;cases a
 |_=>cases a
noncomputable def wE(tg:D->Ev->Option Ev)(ρ:Ev)(d:D):M Fl:=match tg d ρ with
 |some a=>ret (.nx a)
 |none=>bad
noncomputable def EI(f:Ev->M D)(tg:D->Ev->Option Ev):Ev->M Fl:=λa=>xs a (f a) (wE tg a)
theorem BU{tg:Ka}{t:D->Ev->Option Ev}(q:FE T X e f)(r:FG T X tg t)(w:xm [tg] e pos.line X.env=pure false:=by rfl)(x:ym [tg] e X.env=pure none:=by rfl)
  (h1:(me [tg] X.env).map (·.2)=[Zh tg X.env]:=by rfl):FS T X (.Assign [tg] e pos) (EI f t):=by
 intro b s st H D I hq;refine TF q r w x h1 b s st H D I ?_;obtain⟨z,l,A,c,u,hp⟩:=hq;refine⟨z,l,A,c,u,hp.xs c λd n k v B _ p o y a=>?_⟩;unfold wE at a;cases i:t d l with
 |none=>simp only[i]at a;exact a.elim
 |some m=>simp only[i]at a;exact⟨k,n,l,d,m,c.mono p,o,y,i,λj h=>Kb.here (g:=Hl.nx j) a o h⟩
noncomputable def zy(x i d:D):M Unit:=λa=>match x,i with
 | .ref n,.int k=>(match Wg a n with
  |some xs=>(match Yq xs.length k with
   |some j=>.ok () (a.set n (.lst (xs.set j d)))
   |none=>.bad)
  |none=>.bad)
 |_,_=>.bad
noncomputable def kx(ρ:Ev)(d x i:D):M Fl:=λb=>match zy x i d b with
 | .ok _ a=>.ok (.nx ρ) a
 |_=>.bad
noncomputable def QE(ρ:Ev)(fi:Ev->M D)(d x:D):M Fl:=xs ρ (fi ρ) (kx ρ d x)
noncomputable def DI(ρ:Ev)(a fi:Ev->M D)(d:D):M Fl:=xs ρ (a ρ) (QE ρ fi d)
noncomputable def VG(f b fi:Ev->M D):Ev->M Fl:=λa=>xs a (f a) (DI a b fi)
theorem yT{o i:Ka}{L fi:Ev->M D}{b:Ke}(Q:FE T X e f)(S:FE T X o L)(R:FE T X i fi)
  (P:∀ v,Zh (.Subscript o i b) X.env v=(do
   let q <-vf [v] (bc o X.env);let w <-vf [v,q] (bc i X.env)
   Vn b
   vf [v,q,w] (yu q w v)
   i8 [v,q,w] []):=by intro _;rfl)
  (V:xm [.Subscript o i b] e pos.line X.env=pure false:=by rfl) (W:ym [.Subscript o i b] e X.env=pure none:=by rfl)
  (h1:(me [.Subscript o i b] X.env).map (·.2)=[Zh (.Subscript o i b) X.env]:=by rfl):FS T X (.Assign [.Subscript o i b] e pos) (VG f L fi):=by
 intro l s st H D I hq;refine TF Q (cN S R nX P) V W h1 l s st H D I ?_;obtain⟨μ,E,σ,g,U,hp⟩:=hq;refine⟨μ,E,σ,g,U,hp.xs g λd F B v H1 _ h r1 q1 Z=>?_⟩;refine⟨B,E,F,g.mono h,r1,Z.xs (g.mono h) λx G C vo H2 _ p r2 q2 p2=>?_⟩;refine⟨C,E,G,(g.mono h).mono p,r2,p2.xs ((g.mono h).mono p) λk J m vi K _ r O q3 c=>?_⟩;have hd:=Rep.mono r _ _ (Rep.mono p _ _ q1);have Y:=Rep.mono r _ _ q2;unfold kx zy at c;cases x with
 |ref n=>
  cases k with
  |int k=>
   dsimp only at c;cases u:Wg J n with
   |none=>rw[u]at c;exact c.elim
   |some xs=>
    rw[u]at c;dsimp only at c;cases t:Yq xs.length k with
    |none=>rw[t]at c;exact c.elim
    |some j=>
     rw[t]at c;obtain⟨a,y,rfl,hn,h1,N⟩:=O.lst Y u;have A:=O.write (o:=.lst (y.set j v)) (ob:=.lst (xs.set j d)) hn ⟨_,Og,by
      have ex:Ext m K m (upd K a (.lst (y.set j v))):=Iv (Ma hn) h1 (λ_ z=>by cases z) (λ_ _ z=>by cases z);exact Ua.set (Rep.mono ex _ _ hd) j (Ua.mono ex _ _ N)⟩
     exact⟨a,y,k,j,rfl,Fp q3,h1,by rw[<-N.length];exact t,c _ (.nx st) _ A.1 A.2 (((g.mono h).mono p).mono r |>.mono A.1)⟩
  |_=>exact c.elim
 |_=>exact c.elim
end
inductive Src where
 |seq (ds:List D)
 |Up (n:Nat)
noncomputable def Src.nx:Src->Nat->Ya->Option (Option D)
 | .seq ds,i,_=>some ds[i]?
 | .Up n,i,σ=>(Wg σ n).map λxs=>xs[i]?
noncomputable def Mv(T:Tb)(b:List Addr)(f:Hp)(src:Src)(J:It):Prop:=∀ a H e i,Ext b f a H->Rel T a H e->match src.nx i e with
 |none=>True
 |some none=>J.stop i H
 |some (some d)=>J.go i H/\∀ x c,J.vy i H x c->c=H/\Rep T a H d x
noncomputable def tI(T:Tb)(X:Cx)(f:Ev->M Src):TI:=λst H R=>∃ a b c,gh T a H b st/\Rel T a H c/\Kb T (XE X st) (Mv T) a H (f b c) R
noncomputable abbrev FI(T:Tb)(X:Cx)(tg a:Ka)(f:Ev->M Src):Prop:=PI X tg a (tI T X f)
noncomputable def Zw(n:Nat):List D:=(List.range n).map λ(i:Nat)=>D.int (i:Int)
noncomputable def xw(d:D):M Src:=λa=>match d with
 | .tup ds=>.ok (.seq ds) a
 | .lst ds=>.ok (.seq ds) a
 | .ae ns=>.ok (.seq (ns.map D.int)) a
 | .ref n=>(match Wg a n with
  |some _=>.ok (.Up n) a
  |none=>.bad)
 |_=>.bad
noncomputable def qj(f:Ev->M D):Ev->M Src:=λa=>Xc (f a) xw
noncomputable def yC(j:Int):Bool:=hide (decide (-(2 ^ 62)<=j) && decide (j<2 ^ 62))
noncomputable def Fx(d:D):M Src:=λa=>match d with
 | .int j=>if yC j=true then .ok (.seq (Zw j.toNat)) a else .bad
 |_=>.bad
noncomputable def Yy(f:Ev->M D):Ev->M Src:=λa=>Xc (f a) Fx
section
variable{T:Tb}{X:Cx}{tg iter:Ka}{f:Ev->M D}
noncomputable def l7(K:W.Frag)(c:TE):TI:=λd H R=>c d H λx b=>∃ a,x=.ref a/\(((∃ xs,Qe K b a xs)/\R (mI K a) b)\/((∃ xs,ph K b a xs)/\R (QH K a) b))
theorem xS{l:Ka}{i:TE}(j:PE X l i):PI X tg l (l7 X.K i):=by
 intro f s r H R I h;refine Od (j f s r H _ I h) λv s1 ⟨x,H1,c,m,g⟩=>?_;obtain⟨a,e,g⟩:=g;subst e;cases m;rcases g with⟨⟨xs,hq⟩,q⟩|⟨⟨xs,hq⟩,q⟩
 ·obtain⟨d,n,p,k⟩:=c.list hq;refine Pn p.isList ?_;refine⟨s1.heap.objs.size,[s1.heap.objs.size],_,_,H1,rfl,c.kept (t':=s1.toks) λb o e=>la _ e,vX a _,⟨_,Xa _ rfl,rfl,rfl⟩,λb hb=>?_,q⟩;have e:b=s1.heap.objs.size:=by simpa using hb
  subst e;exact c.Qp (za _) (c.cc.fresh (za _))
 ·obtain⟨d,n,p,k⟩:=c.tuple hq;refine fy (show s1.heap.IsTuple a d.toArray from p) ?_;refine⟨s1.heap.objs.size,[s1.heap.objs.size],_,_,H1,rfl,c.kept (t':=s1.toks) λb o e=>la _ e,G2 a _,⟨_,Xa _ rfl,rfl,rfl⟩,λb hb=>?_,q⟩;have e:b=s1.heap.objs.size:=by simpa using hb
  subst e;exact c.Qp (za _) (c.cc.fresh (za _))
theorem gQ{g:List Addr}{k:Hp}{a:Addr}{ds:List D}{K:W.Frag}(h:∀ b c,Ext g k b c->∃ vs,Qe K c a vs/\Ua T b c ds vs):Mv T g k (.seq ds) (mI K a):=by
 intro b c l i ex n;obtain⟨vs,h3,h4⟩:=h b c ex;show match some ds[i]? with|none=>True|some none=>_|some (some d)=>_
 cases e:ds[i]? with
 |none=>exact⟨vs,h3,by rw[<-h4.length];exact dc.mp e⟩
 |some d=>
  obtain⟨v,f,j⟩:=h4.get e;refine⟨⟨vs,v,h3,f⟩,λx m y=>?_⟩;obtain⟨rfl,y⟩:=y;have:=y vs h3;rw[f]at this;cases this;exact⟨rfl,j⟩
theorem S1{g:List Addr}{k:Hp}{a:Addr}{ds:List D}{K:W.Frag}(h:∀ b c,Ext g k b c->∃ vs,ph K c a vs/\Ua T b c ds vs):Mv T g k (.seq ds) (QH K a):=by
 intro b c l i ex n;obtain⟨vs,h3,h4⟩:=h b c ex;show match some ds[i]? with|none=>True|some none=>_|some (some d)=>_
 cases e:ds[i]? with
 |none=>exact⟨vs,h3,by rw[<-h4.length];exact dc.mp e⟩
 |some d=>
  obtain⟨v,f,j⟩:=h4.get e;refine⟨⟨vs,v,h3,f⟩,λx m y=>?_⟩;obtain⟨rfl,y⟩:=y;have:=y vs h3;rw[f]at this;cases this;exact⟨rfl,j⟩
theorem ap(L:T.K=X.K)(h:FE T X iter f):FI T X tg iter (qj f):=by
 intro r s st H R I N;refine xS h r s st H R I ?_;obtain⟨P,Q,S,J,M,hp⟩:=N;refine⟨P,Q,S,J,M,hp.bind λd B A v D _ Y t j c=>?_⟩;cases d with
 |tup ds=>
  rw[Rep]at j;obtain⟨p,m,rfl,h1,l⟩:=j;exact⟨p,rfl,.inr ⟨⟨m,ph.of h1⟩,Kb.here (R:=Mv T) c t (S1 λb g ex=>⟨m,ph.of (ex.tup _ _ h1),Ua.mono ex _ _ l⟩)⟩⟩
 |lst ds=>
  rw[Rep]at j;obtain⟨p,m,rfl,hn,h1,l⟩:=j;exact⟨p,rfl,.inl ⟨⟨m,Qe.of h1⟩,Kb.here (R:=Mv T) c t (gQ λb g ex=>⟨m,Qe.of (ex.bi _ _ h1 hn).1,Ua.mono ex _ _ l⟩)⟩⟩
 |ae ns=>
  rw[Rep]at j;obtain⟨p,rfl,h1⟩:=j;have o:∀ b g,Ext A D b g->Qe X.K g p (ns.map V.int):=λb g ex=>by
   have l:Rep T b g (.ae ns) (.ref p):=Rep.mono ex _ _ (by rw[Rep];exact⟨p,rfl,h1⟩);rw[Rep]at l;obtain⟨Z,E,h3⟩:=l;cases E;rw[<-L];exact h3.seq
  exact⟨p,rfl,.inl ⟨⟨_,o _ _ (Ext.refl _ _)⟩,Kb.here (R:=Mv T) c t (gQ λb g ex=>⟨_,o b g ex,HA ns⟩)⟩⟩
 |ref n=>
  unfold xw at c;dsimp only at c;cases k:Wg B n with
  |none=>rw[k]at c;exact c.elim
  |some xs=>
   rw[k]at c;obtain⟨a,m,rfl,_,h1,l⟩:=t.lst j k;refine⟨a,rfl,.inl ⟨⟨m,Qe.of h1⟩,Kb.here (R:=Mv T) c t λb g u i ex O=>?_⟩⟩;show match (Wg u n).map (λxs=>xs[i]?)with|none=>True|some none=>_|some (some d)=>_
   cases G:Wg u n with
   |none=>trivial
   |some C=>
    obtain⟨W,z,F,_,h3,h4⟩:=O.lst (Rep.mono ex _ _ j) G;cases F;show match some (C[i]?)with|none=>True|some none=>_|some (some d)=>_
    cases e:C[i]? with
    |none=>exact⟨z,Qe.of h3,by rw[<-h4.length];exact dc.mp e⟩
    |some d=>
     obtain⟨v,q,w⟩:=h4.get e;refine⟨⟨z,v,Qe.of h3,q⟩,λx U y=>?_⟩;obtain⟨rfl,y⟩:=y;have:=y z (Qe.of h3);rw[q]at this;cases this;exact⟨rfl,w⟩
 |_=>exact c.elim
theorem bS{n i:Nat}(h:i<n):(Zw n)[i]?=some (.int i):=by simp[Zw,h]
theorem G1(n:Nat):(Zw n).length=n:=by simp[Zw]
theorem YO{a:Ka}{p l:Ke}(h:Gl X "range")(hm:X.mg "range" = none)(o:FE T X a f)(e:ua [a] X.env=[(false,bc a X.env)]:=by rfl):FI T X tg (.Call (.Name "range" p) [a] [] l) (Yy f):=by
 intro g s st H R I r;refine e5 h hm (Av o Ux e) e g s st H R I ?_;obtain⟨u,A,B,n,q,hp⟩:=r;refine⟨u,A,B,n,q,hp.bind λd C w v F _ J t m b=>?_⟩;cases d with
 |int j=>
  rw[Rep]at m;subst m;unfold Fx at b;dsimp only at b;by_cases c:yC j=true
  ·rw[da c]at b;simp only[yC,Gs,Ba,Pd]at c;refine⟨j,rfl,c.1,c.2,Kb.here (R:=Mv T) b t λz G D i ex K=>?_⟩;show match some (Zw j.toNat)[i]? with|none=>True|some none=>_|some (some d)=>_
   by_cases k:i<j.toNat
   ·rw[bS k];refine⟨k,λx E y=>?_⟩;obtain⟨rfl,rfl⟩:=y;exact⟨rfl,by rw[Rep,Int.zero_add]⟩
   ·rw[dc.mpr (by rw[G1];omega)];exact fJ.mp k
  ·rw[ga c]at b;exact b.elim
 |_=>exact b.elim
end
noncomputable def Lu(k:Ev->M Fl):Fl->M Fl
 | .nx a=>k a
 | .ct a=>k a
 | .bk a=>ret (.nx a)
 | .rt d=>ret (.rt d)
 | .xc b x=>ret (.xc b x)
noncomputable def Xl(tg:D->Ev->Option Ev)(body:Ev->M Fl):List D->Ev->M Fl
 |[],a=>ret (.nx a)
 |d::ds,a=>match tg d a with
  |none=>bad
  |some b=>Xc (body b) (Lu (Xl tg body ds))
noncomputable def Hr(tg:D->Ev->Option Ev)(body:Ev->M Fl)(n:Nat):Nat->Nat->Ev->M Fl
 |0,_,_=>bad
 |k+1,i,c=>λb=>match Wg b n with
  |none=>.bad
  |some xs=>match xs[i]? with
   |none=>.ok (.nx c) b
   |some d=>match tg d c with
    |none=>.bad
    |some a=>Xc (body a) (Lu (Hr tg body n k (i+1))) b
noncomputable def iE(tg:D->Ev->Option Ev)(body:Ev->M Fl)(ρ:Ev):Src->M Fl
 | .seq ds=>Xl tg body ds ρ
 | .Up n=>Hr tg body n 1001 0 ρ
noncomputable def vt(src:Ev->M Src)(tg:D->Ev->Option Ev)(body:Ev->M Fl):Ev->M Fl:=λa=>xs a (src a) (iE tg body a)
section
variable{T:Tb}{X:Cx}
theorem FF{e:List Addr}{H1:Hp}{h:Ya}{l:Fl}{gl:Hl}{D:Ends}{k:Ev->M Fl}{N:St->Hp->Prop}(m:Rel T e H1 h)(f:Rk T e H1 l gl)(j:Kb T EN (Rk T) e H1 (Lu k l h) (Jj X D))
  (hN:∀ b a,gh T e H1 b a->Kb T EN (Rk T) e H1 (k b h) (Jj X D)->N a H1):Jj X { D with nx:=N,ct:=N,bk:=D.nx } gl H1:=by
 cases l with
 |nx b=>cases gl with
  |nx a=>exact hN b a f j
  |_=>exact f.elim
 |ct b=>cases gl with
  |ct a=>exact hN b a f j
  |_=>exact f.elim
 |bk b=>cases gl with
  |bk a=>have z:Jj X D (Hl.nx a) H1:=Kb.here (g:=Hl.nx a) (d:=Fl.nx b) j m f;exact z
  |_=>exact f.elim
 |rt n=>cases gl with
  |rt v2=>have z:Jj X D (Hl.rt v2) H1:=Kb.here (g:=Hl.rt v2) (d:=Fl.rt n) j m f;exact z
  |_=>exact f.elim
 |xc b x=>cases gl with
  |xc a c i=>have z:Jj X D (Hl.xc a c i) H1:=Kb.here (g:=Hl.xc a c i) (d:=Fl.xc b x) j m f;exact z
  |_=>exact f.elim
variable{tgt iter:Ka}{body:List Stmt}{src:Ev->M Src}{t:D->Ev->Option Ev}{g:Ev->M Fl}{pos:Ke}
theorem Bv(hp:Yo (model X.prog X.w) X.A X.env X.xe)(hc:X.calm=true)(hi:FI T X tgt iter src)(hg:FG T X tgt t)(hb:Do T X body g)
  (hs:∀ x,Ag iter X.env x=pure x:=by intro _;rfl):FS T X (.For tgt iter body [] pos) (vt src t g):=by
 intro R s st H D I hq;refine sK hp hc hi hg hb hs R s st H D I ?_;obtain⟨e,l,r,U,hr,hp⟩:=hq;refine⟨e,l,r,U,hr,hp.xs U λsrc C k J P _ e1 r1 q1 p1=>?_⟩;cases src with
 |seq ds=>
  have L:Kb T EN (Rk T) k P (Xl t g ds l C) (Jj X D):=p1;refine⟨λi m p b=>m=ds.length - i/\∃ e l r,Ext k P e b/\gh T e b l p/\Rel T e b r/\Kb T EN (Rk T) e b (Xl t g (ds.drop i) l r) (Jj X D),⟨ds.length,by simp,k,l,C,Ext.refl _ _,U.mono e1,r1,by simpa using L⟩,?_⟩;rintro i m p b ⟨rfl,f,v,j,ex,u,B,c⟩;have so:=q1 f b j i ex B;have a:match (some ds[i]?:Option (Option L4.D))with|none=>True|some none=>J.stop i b|some (some d)=>J.go i b/\∀ x Q,J.vy i b x Q->Q=b/\Rep T f b d x:=so
  cases E:ds[i]? with
  |none=>
   rw[E]at a;rw[mq (dc.mp E)]at c;exact .inl ⟨a,Kb.here (g:=Hl.nx p) c B u⟩
  |some d=>
   rw[E]at a;obtain⟨hl,ed⟩:=na.mp E;have hd:ds.drop i=d::ds.drop (i+1):=by rw[<-ed];exact(Ah hl)
   rw[hd]at c;unfold Xl at c;refine .inr ⟨a.1,λq o=>∃ e l r,Ext k P e o/\gh T e o l q/\Rel T e o r/\Kb T EN (Rk T) e o (Xl t g (ds.drop (i+1)) l r) (Jj X D),λq o h=>⟨ds.length - (i+1),by omega,rfl,h⟩,λx o y=>?_⟩;obtain⟨rfl,W⟩:=a.2 x o y;cases K:t d v with
   |none=>rw[K]at c;exact c.elim
   |some z=>
    rw[K]at c;exact⟨f,j,v,d,z,u,B,W,K,λq F=>⟨f,z,j,F,B,c.bind λfl O M gl H4 _ V S Z p4=>FF S Z p4 λN a0 G Y=>⟨M,N,O,ex.trans V,G,S,Y⟩⟩⟩
 |Up n=>
  have L:Kb T EN (Rk T) k P (Hr t g n 1001 0 l C) (Jj X D):=p1;refine⟨λi m p b=>∃ e l r,Ext k P e b/\gh T e b l p/\Rel T e b r/\Kb T EN (Rk T) e b (Hr t g n m i l r) (Jj X D),⟨1001,k,l,C,Ext.refl _ _,U.mono e1,r1,L⟩,?_⟩;rintro i m p b ⟨f,v,j,ex,u,B,c⟩;cases m with
  |zero=>exact c.elim
  |succ m=>
   unfold Hr at c;have so:=q1 f b j i ex B;have a:match ((Wg j n).map λxs=>xs[i]?:Option (Option L4.D))with|none=>True|some none=>J.stop i b|some (some d)=>J.go i b/\∀ x Q,J.vy i b x Q->Q=b/\Rep T f b d x:=so
   cases el:Wg j n with
   |none=>simp only[el]at c;exact c.elim
   |some xs=>
    simp only[el]at c a;cases E:xs[i]? with
    |none=>
     simp only[E,Hf]at c a;exact .inl ⟨a,Kb.here (g:=Hl.nx p) c B u⟩
    |some d=>
     simp only[E,Hf]at c a;refine .inr ⟨a.1,λq o=>∃ e l r,Ext k P e o/\gh T e o l q/\Rel T e o r/\Kb T EN (Rk T) e o (Hr t g n m (i+1) l r) (Jj X D),λq o h=>⟨m,Oc _,h⟩,λx o y=>?_⟩;obtain⟨rfl,W⟩:=a.2 x o y;cases K:t d v with
     |none=>simp only[K]at c;exact c.elim
     |some z=>
      simp only[K]at c;exact⟨f,j,v,d,z,u,B,W,K,λq F=>⟨f,z,j,F,B,c.bind λfl O M gl H4 _ V S Z p4=>FF S Z p4 λN a0 G Y=>⟨M,N,O,ex.trans V,G,S,Y⟩⟩⟩
end
mutual
noncomputable def cl:D->Bool
 | .tup xs=>Ze xs
 | .lst xs=>Ze xs
 | .Db _ xs=>Ze xs
 | .obj _ _ xs=>Ze xs
 | .ref _=>false
 | .zb=>true
 | .bl _=>true
 | .int _=>true
 | .str _=>true
 | .ae _=>true
 | .Kr _=>true
 | .gt _=>true
noncomputable def Ze:List D->Bool
 |[]=>true
 |d::ds=>cl d && Ze ds
end
noncomputable def sm(f:D->Option D):List D->Option (List D)
 |[]=>some []
 |d::ds=>match f d,sm f ds with
  |some x,some xs=>some (x::xs)
  |_,_=>none
noncomputable def fz(k:Nat)(σ:Ya):Nat->D->Option D
 |0,d=>if cl d=true then some d else match d with
  | .ref n=>if n<k then some (.ref n)else none
  |_=>none
 |m+1,d=>if cl d=true then some d else match d with
  | .ref n=>if n<k then some (.ref n)else match σ[n]? with
   |some (.lst xs)=>(sm (fz k σ m) xs).map .lst
   |some (.Db a)=>(sm (fz k σ m) (a.map (·.2))).map (.Db (a.map (·.1)))
   |some (.ins c fs)=>(sm (fz k σ m) (fs.map (·.2))).map (.obj c (fs.map (·.1)))
   |some (.Cf _)=>none
   |some (.yk _)=>none
   |none=>none
  | .tup xs=>(sm (fz k σ m) xs).map .tup
  | .lst xs=>(sm (fz k σ m) xs).map .lst
  | .Db b xs=>(sm (fz k σ m) xs).map (.Db b)
  | .obj c ns xs=>(sm (fz k σ m) xs).map (.obj c ns)
  |_=>none
open Classical in
noncomputable def Ng(σ:Ya):Out D->Out D
 | .ok d a=>if a.take σ.length=σ then (match fz σ.length a 6 d with
  |some b=>.ok b σ
  |none=>.bad)else .bad
 | .ex x a=>if a.take σ.length=σ then .ex x σ else .bad
 | .bad=>.bad
noncomputable def db(f:M D):M D:=λa=>Ng a (f a)
section
variable{T:Tb}{μ μ':List Addr}{H H':Hp}{σ σ':Ya}
mutual
theorem RE(e:∃ r,μ'=μ++r):∀ (d:D) (v:V),cl d=true->Rep T μ' H d v->Rep T μ H d v
 | .zb,v,_,h=>by simpa [Rep]using h
 | .bl b,v,_,h=>by simpa [Rep]using h
 | .int i,v,_,h=>by simpa [Rep]using h
 | .str x,v,_,h=>by simpa [Rep]using h
 | .tup ds,v,c,h=>by
  rw[Rep]at h ⊢;obtain⟨p,g,h1,f,h3⟩:=h;exact⟨p,g,h1,f,Gz e ds g (by simpa [cl]using c) h3⟩
 | .ae ns,v,_,h=>by rw[Rep]at h ⊢;exact h
 | .ref n,v,c,h=>by simp[cl]at c
 | .lst ds,v,c,h=>by
  rw[Rep]at h ⊢;obtain⟨a,g,h1,f,h3,h4⟩:=h;exact⟨a,g,h1,λz=>f (by obtain⟨r,rfl⟩:=e;exact Qa _ z),h3,Gz e ds g (by simpa [cl]using c) h4⟩
 | .Db w ds,v,c,h=>by
  rw[Rep]at h ⊢;obtain⟨a,g,h1,f,h3,j,h4⟩:=h;exact⟨a,g,h1,λz=>f (by obtain⟨r,rfl⟩:=e;exact Qa _ z),h3,j,Gz e ds _ (by simpa [cl]using c) h4⟩
 | .obj k ns ds,v,c,h=>by
  rw[Rep]at h ⊢;obtain⟨a,o,g,h1,f,h3,j,h4⟩:=h;exact⟨a,o,g,h1,λz=>f (by obtain⟨r,rfl⟩:=e;exact Qa _ z),h3,j,Gz e ds _ (by simpa [cl]using c) h4⟩
 | .Kr k,v,_,h=>by
  rw[Rep]at h ⊢;obtain⟨a,m,h1,f,h3,h4⟩:=h;exact⟨a,m,h1,λz=>f (by obtain⟨r,rfl⟩:=e;exact Qa _ z),h3,λn q=>let ⟨l,s,t,u⟩:=h4 n q;⟨l,s,λz=>t (by obtain⟨r,rfl⟩:=e;exact Qa _ z),u⟩⟩
 | .gt ss,v,_,h=>by rw[Rep]at h ⊢;exact h
theorem Gz(e:∃ r,μ'=μ++r):∀ (ds:List D) (vs:List V),Ze ds=true->Ua T μ' H ds vs->Ua T μ H ds vs
 |[],vs,_,h=>by simpa [Ua]using h
 |d::ds,vs,c,h=>by
  rw[Ua]at h ⊢;obtain⟨v,r,h1,b,h3⟩:=h;have a:cl d=true/\Ze ds=true:=by simpa [Ze,Ba]using c
  exact⟨v,r,h1,RE e d v a.1 b,Gz e ds r a.2 h3⟩
end
mutual
theorem Rep.down(e:∃ r,μ'=μ++r):∀ (d:D) (v0 v:V),Rep T μ H d v0->Rep T μ' H' d v->Rep T μ H' d v
 | .zb,v0,v,_,h=>by simpa [Rep]using h
 | .bl b,v0,v,_,h=>by simpa [Rep]using h
 | .int i,v0,v,_,h=>by simpa [Rep]using h
 | .str x,v0,v,_,h=>by simpa [Rep]using h
 | .tup ds,v0,v,c,h=>by
  rw[Rep]at h c ⊢;obtain⟨p,j,h1,f,h3⟩:=h;obtain⟨E,g,_,_,s⟩:=c;exact⟨p,j,h1,f,Ua.down e ds g j s h3⟩
 | .ae ns,v0,v,_,h=>by rw[Rep]at h ⊢;exact h
 | .ref n,v0,v,c,h=>by
  rw[Rep]at h c ⊢;obtain⟨a,h1,f⟩:=h;obtain⟨b,_,o⟩:=c;refine⟨a,h1,?_⟩;obtain⟨r,rfl⟩:=e;rw[qb (na.mp o).1]at f;exact f
 | .lst ds,v0,v,c,h=>by
  rw[Rep]at h c ⊢;obtain⟨a,j,h1,f,h3,h4⟩:=h;obtain⟨_,g,_,_,_,l⟩:=c;exact⟨a,j,h1,λz=>f (by obtain⟨r,rfl⟩:=e;exact Qa _ z),h3,Ua.down e ds g j l h4⟩
 | .Db C ds,v0,v,c,h=>by
  rw[Rep]at h c ⊢;obtain⟨a,j,h1,f,h3,m,h4⟩:=h;obtain⟨_,g,_,_,_,_,l⟩:=c;exact⟨a,j,h1,λz=>f (by obtain⟨r,rfl⟩:=e;exact Qa _ z),h3,m,Ua.down e ds _ _ l h4⟩
 | .obj k ns ds,v0,v,c,h=>by
  rw[Rep]at h c ⊢;obtain⟨a,w,j,h1,f,h3,m,h4⟩:=h;obtain⟨_,_,g,_,_,_,_,l⟩:=c;exact⟨a,w,j,h1,λz=>f (by obtain⟨r,rfl⟩:=e;exact Qa _ z),h3,m,Ua.down e ds _ _ l h4⟩
 | .Kr k,v0,v,_,h=>by
  rw[Rep]at h ⊢;obtain⟨a,u,h1,f,h3,h4⟩:=h;exact⟨a,u,h1,λz=>f (by obtain⟨r,rfl⟩:=e;exact Qa _ z),h3,λn q=>let ⟨t,y,A,B⟩:=h4 n q;⟨t,y,λz=>A (by obtain⟨r,rfl⟩:=e;exact Qa _ z),B⟩⟩
 | .gt ss,v0,v,_,h=>by rw[Rep]at h ⊢;exact h
theorem Ua.down(e:∃ r,μ'=μ++r):∀ (ds:List D) (a vs:List V),Ua T μ H ds a->Ua T μ' H' ds vs->Ua T μ H' ds vs
 |[],a,vs,_,h=>by simpa [Ua]using h
 |d::ds,a,vs,c,h=>by
  rw[Ua]at h c ⊢;obtain⟨v,r,h1,g,h3⟩:=h;obtain⟨i,r0,_,b,f⟩:=c;exact⟨v,r,h1,Rep.down e d i v b g,Ua.down e ds r0 r f h3⟩
end
theorem eE{f:Type}(e:∃ r,μ'=μ++r):∀ {xs:List (f × D)} {ys zs:List (f × V)},Paired (λ(p:f × D) (q:f × V)=>p.1=q.1/\Rep T μ H p.2 q.2) xs zs->Paired (λ(p:f × D) (q:f × V)=>p.1=q.1/\Rep T μ' H' p.2 q.2) xs ys->Paired (λ(p:f × D) (q:f × V)=>p.1=q.1/\Rep T μ H' p.2 q.2) xs ys
 |_,_,_,.nil,.nil=>.nil
 |_,_,_,.cons a b,.cons c d=>.cons ⟨c.1,Rep.down e _ _ _ a.2 c.2⟩ (eE e b d)
theorem Go.down(e:∃ r,μ'=μ++r){a:Addr}:∀ {o:Ob},Go T μ H a o->Go T μ' H' a o->Go T μ H' a o
 | .lst ds,⟨_,_,c⟩,⟨b,h,r⟩=>⟨b,h,Ua.down e _ _ _ c r⟩
 | .Db f,⟨_,_,c⟩,⟨b,h,r⟩=>⟨b,h,eE e c r⟩
 | .ins c fs,⟨_,_,_,d⟩,⟨g,b,h,r⟩=>⟨g,b,h,eE e d r⟩
 | .Cf f,⟨_,_,_,d⟩,⟨i,b,h,r⟩=>⟨i,b,h,eE e d r⟩
 | .yk j,_,⟨b,h,r⟩=>⟨b,h,r⟩
theorem Rel.down(r0:Rel T μ H σ)(r:Rel T μ' H' σ')(e:Ext μ H μ' H')(i:σ'.take σ.length=σ):Rel T μ H' σ/\Ext μ H μ H':=by
 refine⟨⟨r0.len,r0.nd,λn o h=>?_,r.tb.sub λb hb=>by obtain⟨z,rfl⟩:=e.pre;exact Qa _ hb⟩,⟨⟨[],by simp⟩,e.tup,e.db,λp o h n=>⟨(e.keep p o h n).1,n⟩⟩⟩;obtain⟨a,h1,f⟩:=r0.obs n o h;have d:σ'[n]?=some o:=by
  have g:=(na.mp h).1;rw[<-i,xp g]at h;exact h
 obtain⟨b,h3,h4⟩:=r.obs n o d;have c:=e.get h1;rw[h3]at c;cases c;exact⟨a,h1,f.down e.pre h4⟩
theorem yH{c:Type}:∀ {xs:List (c × D)} {ys:List (c × V)},Paired (λ(p:c × D) (q:c × V)=>p.1=q.1/\Rep T μ H p.2 q.2) xs ys->ys.map (·.1)=xs.map (·.1)/\Ua T μ H (xs.map (·.2)) (ys.map (·.2))
 |_,_,.nil=>⟨rfl,Ua.nil⟩
 |_,_,.cons a b=>by
  obtain⟨h1,d⟩:=yH b;exact⟨by simp[h1,a.1],Ua.cons a.2 d⟩
theorem xO{f:D->Option D}(e:∀ d d' v,f d=some d'->Rep T μ' H d v->Rep T μ H d' v):∀ (ds a:List D) (vs:List V),sm f ds=some a->Ua T μ' H ds vs->Ua T μ H a vs
 |[],a,vs,h,r=>by cases h;simpa [Ua]using r
 |d::ds,a,vs,h,r=>by
  unfold sm at h;cases b:f d with
  |none=>rw[b]at h;cases h
  |some x=>
   cases c:sm f ds with
   |none=>rw[b,c]at h;cases h
   |some xs=>
    rw[b,c]at h;cases h;rw[Ua]at r;obtain⟨v,w,rfl,g,h3⟩:=r;exact Ua.cons (e d x v b g) (xO e ds xs w c h3)
theorem GK(e:∃ r,μ'=μ++r)(r:Rel T μ' H σ'):∀ (m:Nat) (d d':D) (v:V),fz μ.length σ' m d=some d'->Rep T μ' H d v->Rep T μ H d' v:=by
 have A:∀ n v,n<μ.length->Rep T μ' H (.ref n) v->Rep T μ H (.ref n) v:=λn v hn h=>by
  rw[Rep]at h ⊢;obtain⟨a,h1,g⟩:=h;obtain⟨q,rfl⟩:=e;rw[qb hn]at g;exact⟨a,h1,g⟩
 intro m;induction m with
 |zero=>
  intro d d' v h l;unfold fz at h;by_cases hc:cl d=true
  ·rw[da hc]at h;cases h;exact RE e _ _ hc l
  ·rw[ga hc]at h;cases d with
   |ref n=>
    dsimp only at h;by_cases hn:n<μ.length
    ·rw[da hn]at h;cases h;exact A n v hn l
    ·rw[ga hn]at h;cases h
   |_=>cases h
 |succ m M=>
  intro d d' v h l;unfold fz at h;by_cases hc:cl d=true
  ·rw[da hc]at h;cases h;exact RE e _ _ hc l
  ·rw[ga hc]at h;have go:=xO (T:=T) (μ:=μ) (μ':=μ') (H:=H) (f:=fz μ.length σ' m) (λd d' v a b=>M d d' v a b);cases d with
   |ref n=>
    dsimp only at h;by_cases hn:n<μ.length
    ·rw[da hn]at h;cases h;exact A n v hn l
    ·rw[ga hn]at h;cases E:σ'[n]? with
     |none=>rw[E]at h;cases h
     |some o=>
      rw[E]at h;obtain⟨a,rfl,K,x⟩:=r.at l E;have out:a ∉ μ:=λz=>by
       obtain⟨i,J⟩:=qr z;obtain⟨q,rfl⟩:=e;have L:=(na.mp J).1;have:=UI r.nd (i:=i) (j:=n) (by rw[qb L];exact J) K;omega
      cases o with
      |lst xs=>
       obtain⟨s,h1,g⟩:=Lb.mp h;subst g;obtain⟨k,h3,h4⟩:=x;rw[Rep];exact⟨a,k,rfl,out,h3,go xs s k h1 h4⟩
      |Db I=>
       obtain⟨s,h1,g⟩:=Lb.mp h;subst g;obtain⟨k,h3,h4⟩:=x;obtain⟨F,G⟩:=yH h4;rw[Rep];exact⟨a,k,rfl,out,(.inl h3),F,go _ s _ h1 G⟩
      |ins c fs=>
       obtain⟨s,h1,g⟩:=Lb.mp h;subst g;obtain⟨B,k,h3,h4⟩:=x;obtain⟨F,G⟩:=yH h4;rw[Rep];exact⟨a,B,k,rfl,out,h3,F,go _ s _ h1 G⟩
      |Cf I=>cases h
      |yk _=>cases h
   |tup xs=>
    obtain⟨s,h1,g⟩:=Lb.mp h;subst g;rw[Rep]at l ⊢;obtain⟨p,k,t,u,w⟩:=l;exact⟨p,k,t,u,go xs s k h1 w⟩
   |lst xs=>
    obtain⟨s,h1,g⟩:=Lb.mp h;subst g;rw[Rep]at l ⊢;obtain⟨p,k,t,y,u,w⟩:=l;exact⟨p,k,t,λz=>y (by obtain⟨r,rfl⟩:=e;exact Qa _ z),u,go xs s k h1 w⟩
   |Db N xs=>
    obtain⟨s,h1,g⟩:=Lb.mp h;subst g;rw[Rep]at l ⊢;obtain⟨p,k,t,y,u,C,w⟩:=l;exact⟨p,k,t,λz=>y (by obtain⟨r,rfl⟩:=e;exact Qa _ z),u,C,go xs s _ h1 w⟩
   |obj c N xs=>
    obtain⟨s,h1,g⟩:=Lb.mp h;subst g;rw[Rep]at l ⊢;obtain⟨p,B,k,t,y,u,C,w⟩:=l;exact⟨p,B,k,t,λz=>y (by obtain⟨r,rfl⟩:=e;exact Qa _ z),u,C,go xs s _ h1 w⟩
   |_=>cases h
theorem Kb.db{E:XK}{f:M D}{Q:V->Hp->Prop}(r:Rel T μ H σ)(h:Kb T E (Rep T) μ H (db f σ) Q):Kb T E (Rep T) μ H (f σ) Q:=by
 unfold L4.db at h;cases e:f σ with
 |bad=>rw[e]at h;exact h
 |ex x a=>
  rw[e]at h;unfold Ng at h;dsimp only at h;by_cases b:a.take σ.length=σ
  ·rw[da b]at h;intro m i c g;obtain⟨l,j⟩:=Rel.down r g c b;exact h μ i j l
  ·rw[ga b]at h;exact h.elim
 |ok d a=>
  rw[e]at h;unfold Ng at h;dsimp only at h;by_cases b:a.take σ.length=σ
  ·rw[da b]at h;cases k:fz σ.length a 6 d with
   |none=>rw[k]at h;exact h.elim
   |some n=>
    rw[k]at h;intro m v i c g o;obtain⟨l,j⟩:=Rel.down r g c b;exact h μ v i j l (GK c.pre g 6 d n v (by rw[r.len];exact k) o)
  ·rw[ga b]at h;exact h.elim
end
noncomputable def mi(f:Ev->M D):Ev->M D:=λa=>db (f a)
theorem mn{T:Tb}{X:Cx}{e:Ka}{f:Ev->M D}(h:FE T X e f):FE T X e (mi f):=by
 intro a s st H Q I d;obtain⟨g,i,j,c,b,hp⟩:=d;exact h a s st H Q I ⟨g,i,j,c,b,Kb.db b hp⟩
end L4
namespace L4
open PySem PySem.Spec PyProof.Rows L2
noncomputable def DK(h h':Heap):Prop:=∀ (a:Nat) o,h.objs[a]?=some o->∃ b:vc,h'.objs[a]?=some b/\b.dict=o.dict
theorem DK.refl(h:Heap):DK h h:=λ_ o e=>⟨o,e,rfl⟩
theorem DK.trans{h1 d h3:Heap}(x:DK h1 d)(y:DK d h3):DK h1 h3:=λa o e=>by
 obtain⟨g,f,q⟩:=x a o e;obtain⟨c,b,h⟩:=y a g f;exact⟨c,b,h.trans q⟩
theorem DK.push(h:Heap)(o:vc):DK h (h.push o):=λa u e=>by
 obtain⟨b,l⟩:=h;have e:b[a]?=some u:=e;have c:=(Vc.mp e).1;refine⟨u,?_,rfl⟩;show (b.push o)[a]?=some u;rw[Array.getElem?_push_lt c];exact(yh c).symm.trans e
theorem DK.update(h:Heap)(b:Addr){f:vc->vc}(d:∀ o,(f o).dict=o.dict):DK h (h.update b f):=λa u e=>by
 obtain⟨c,l⟩:=h;have e:c[a]?=some u:=e;show ∃ g:vc,(c.modify b f)[a]?=some g/\_;rw[Array.getElem?_modify];by_cases hb:b=a
 ·rw[da hb,e];exact⟨f u,rfl,d u⟩
 ·rw[ga hb];exact⟨u,e,rfl⟩
theorem DK.get{h h':Heap}(x:DK h h'){a:Addr}{o o':vc}(e:h.get? a=some o)(b:h'.get? a=some o'):o'.dict=o.dict:=by
 obtain⟨u,c,d⟩:=x a o ((uu _ _ _).1 e).1;have:=((uu _ _ _).1 b).1;have z:some u=some o':=c.symm.trans this;cases z;exact d
structure KD{α:Type}(t:Ap α):Prop where
 out:∀ (M:Lk) (Γ:PySem.Ctx) (Q:α->Ke->aa->Prop) (E:Value->Ke->aa->Prop) (p:Ke) (s:aa),Sem.wp M Γ t Q E p s->Sem.wp M Γ t (λa p' s'=>Q a p' s'/\DK s.heap s'.heap) (λe p' s'=>E e p' s'/\DK s.heap s'.heap) p s
namespace KD
variable{α β:Type}
theorem xr(a:α):KD (Pure.pure a:Ap α):=⟨λ_ _ _ _ _ s h=>⟨h,.refl _⟩⟩
theorem Et(w:String):KD (PySem.unsupported w:Ap α):=⟨λ_ _ _ _ _ _ h=>h⟩
theorem Xc{m:Ap α}{f:α->Ap β}(hm:KD m)(e:∀ a,KD (f a)):KD (m >>= f):=⟨λM b Q E p s h=>by
 rw[dm]at h ⊢;refine Ur M b m (λa c d z=>?_) (λ_ _ _ z=>z) p s (hm.out M b _ _ p s h);exact Ur M b (f a) (λ_ _ _ q=>⟨q.1,z.2.trans q.2⟩) (λ_ _ _ q=>⟨q.1,z.2.trans q.2⟩) c d ((e a).out M b _ _ c d z.1)⟩
theorem Om{c:Prop}[Decidable c]{t u:Ap α}(a:KD t)(b:KD u):KD (if c then t else u):=by split<;>assumption
theorem ld(a:Addr):KD (PySem.load a):=⟨λ_ _ _ _ _ _ h=>by obtain⟨o,b,h⟩:=h;exact⟨o,b,h,.refl _⟩⟩
theorem upd(a:Addr){f:vc->vc}(b:∀ o,(f o).dict=o.dict):KD (PySem.update a f):=⟨λ_ _ _ _ _ _ h=>⟨h.1,h.2,.update _ _ b⟩⟩
theorem Bo:KD PySem.stack:=⟨λM a Q E p s h=>by
 unfold PySem.stack at h ⊢;rw[Sem.wp_stack]at h ⊢;exact⟨h,.refl _⟩⟩
theorem Pt(o:vc):KD (PySem.alloc o):=⟨λ_ _ _ _ _ _ h=>⟨h,.push _ _⟩⟩
theorem fld(v:Value)(i:Nat):KD (PySem.field v i):=⟨λ_ g Q E p s h=>by
 rw[vu]at h ⊢;obtain⟨a,o,f,x,b,c,d,e,h⟩:=h;exact⟨a,o,f,x,b,c,d,e,h,.refl _⟩⟩
theorem set(v:Value)(i:Nat)(x:Value):KD (PySem.setField v i x):=⟨λ_ m Q E p s h=>by
 rw[IE]at h ⊢;obtain⟨a,o,k,e,f,g,j,h⟩:=h;exact⟨a,o,k,e,f,g,j,h,.update _ _ λo=>by obtain⟨c,d,b,l⟩:=o;cases b<;>rfl⟩⟩
end KD
theorem kR(env:yg)(l:List yg):KD (mJ env l):=by unfold mJ;(repeat' with_reducible first|assumption|exact KD.xr _|exact KD.Et _|exact KD.fld _ _|exact KD.set _ _ _|exact KD.ld _|exact KD.upd _ (λ_=>rfl)|exact KD.Bo|exact KD.Pt _|apply KD.Om|apply KD.Xc|intro _|split)
theorem mT:KD underTheClaimsCaller:=by unfold underTheClaimsCaller;(repeat' with_reducible first|assumption|exact KD.xr _|exact KD.Et _|exact KD.fld _ _|exact KD.set _ _ _|exact KD.ld _|exact KD.upd _ (λ_=>rfl)|exact KD.Bo|exact KD.Pt _|apply KD.Om|apply KD.Xc|intro _|split)
theorem LZ(env:yg)(i:Bool)(l:List yg):KD (keptBack env i l):=by
 have:=mT;cases l<;>unfold keptBack<;>(repeat' with_reducible first|assumption|exact KD.xr _|exact KD.Et _|exact KD.fld _ _|exact KD.set _ _ _|exact KD.ld _|exact KD.upd _ (λ_=>rfl)|exact KD.Bo|exact KD.Pt _|apply KD.Om|apply KD.Xc|intro _|split)
theorem fO:∀ l:List yg,KD (readyFrames l)
 |[]=>KD.xr _
 |env::l=>by
  have b:=fO l;have h1:=kR env l;have a:=λi=>LZ env i l;unfold readyFrames
  (repeat' with_reducible first|assumption|exact KD.xr _|exact KD.Et _|exact KD.fld _ _|exact KD.set _ _ _|exact KD.ld _|exact KD.upd _ (λ_=>rfl)|exact KD.Bo|exact KD.Pt _|apply KD.Om|apply KD.Xc|intro _|split)
  all_goals first|exact a _|skip
theorem MS(l:List yg):KD (frameObject l):=by
 cases l with
 |nil=>exact KD.xr _
 |cons env l=>
  have:=fO (env::l);unfold frameObject
  (repeat' with_reducible first|assumption|exact KD.xr _|exact KD.Et _|exact KD.fld _ _|exact KD.set _ _ _|exact KD.ld _|exact KD.upd _ (λ_=>rfl)|exact KD.Bo|exact KD.Pt _|apply KD.Om|apply KD.Xc|intro _|split)
theorem hZ:KD frameEnvs:=by unfold frameEnvs;(repeat' with_reducible first|assumption|exact KD.xr _|exact KD.Et _|exact KD.fld _ _|exact KD.set _ _ _|exact KD.ld _|exact KD.upd _ (λ_=>rfl)|exact KD.Bo|exact KD.Pt _|apply KD.Om|apply KD.Xc|intro _|split)
theorem ZX(env:yg):KD (PySem.frameOf env):=by
 have h1:=hZ;have a:=MS;unfold PySem.frameOf
 (repeat' with_reducible first|assumption|exact KD.xr _|exact KD.Et _|exact KD.fld _ _|exact KD.set _ _ _|exact KD.ld _|exact KD.upd _ (λ_=>rfl)|exact KD.Bo|exact KD.Pt _|apply KD.Om|apply KD.Xc|intro _|split)
 all_goals first|exact a _|skip
theorem wV(f:Addr)(b:Bool):KD (o8 f b):=by unfold o8;(repeat' with_reducible first|assumption|exact KD.xr _|exact KD.Et _|exact KD.fld _ _|exact KD.set _ _ _|exact KD.ld _|exact KD.upd _ (λ_=>rfl)|exact KD.Bo|exact KD.Pt _|apply KD.Om|apply KD.Xc|intro _|split)
theorem R0(a b c d e:Value)(l:List Value):KD (Zo a b c d e l):=by
 unfold Zo newFields newObj newObjAsIs;dsimp only
 (repeat' with_reducible first|assumption|exact KD.xr _|exact KD.Et _|exact KD.fld _ _|exact KD.set _ _ _|exact KD.ld _|exact KD.upd _ (λ_=>rfl)|exact KD.Bo|exact KD.Pt _|apply KD.Om|apply KD.Xc|intro _|split)
theorem hV(e:Value)(env:yg):KD (vg e env):=by
 have h1:=ZX env;have a:=wV;have h3:=R0;unfold vg
 (repeat' with_reducible first|assumption|exact KD.xr _|exact KD.Et _|exact KD.fld _ _|exact KD.set _ _ _|exact KD.ld _|exact KD.upd _ (λ_=>rfl)|exact KD.Bo|exact KD.Pt _|apply KD.Om|apply KD.Xc|intro _|split)
 all_goals first|exact a _ _|exact h3 _ _ _ _ _ _|skip
theorem MW(e:Value)(f:Option Addr):KD (Qh e f):=by unfold Qh;(repeat' with_reducible first|assumption|exact KD.xr _|exact KD.Et _|exact KD.fld _ _|exact KD.set _ _ _|exact KD.ld _|exact KD.upd _ (λ_=>rfl)|exact KD.Bo|exact KD.Pt _|apply KD.Om|apply KD.Xc|intro _|split)
theorem lK{e:Type}{M:Lk}{A:Ia}{t:Ap e}{Q:e->aa->Prop}{E:Value->aa->Prop}{s:aa}(k:KD t)(h:wpAny M A t Q E s):wpAny M A t (λa d=>Q a d/\DK s.heap d.heap) E s:=
 λc p b=>Ur M c t (λ_ _ _ z=>z) (λ_ _ _ z=>z.1) p s (k.out M c _ _ p s (h c p b))
section
variable{P:wa}{w:Ja}{H H':Hp}{h h':Heap}{a:Addr}{o:HO}
theorem kP(x:Fi P w H h a o):∃ u,h.get? a=some u:=by
 cases o with
 |lst xs=>obtain⟨_,_,_,_,e⟩:=x;exact⟨_,e⟩
 |tup xs=>obtain⟨_,_,_,c,e,_⟩:=x;exact⟨_,e⟩
 |dK b=>obtain⟨_,_,_,_,o,_,_,e,_⟩:=x;exact⟨_,e⟩
 |dT b=>obtain⟨_,_,_,_,o,_,_,e,_⟩:=x;exact⟨_,e⟩
 |set S n=>obtain⟨o,_,_,_,e,_⟩:=x;exact⟨_,e⟩
 |ins C d fs=>obtain⟨_,_,_,e,_⟩:=x;exact⟨_,e⟩
 |own y=>obtain⟨_,e⟩:=x;exact⟨_,e⟩
 |xd fs=>obtain⟨_,⟨_,_,_,e,_⟩,_⟩:=x;exact⟨_,e⟩
 |fE lo g=>obtain⟨_,_,_,e⟩:=x;exact⟨_,e⟩
 |db c u=>obtain⟨e,_⟩:=x;exact⟨_,e⟩
 |Ol i=>exact⟨_,x⟩
 |met f y=>exact⟨_,x⟩
 |ext j=>obtain⟨_,⟨_,e⟩,_⟩:=x;exact⟨_,e⟩
theorem xF(x:ci P w H h)(k:∀ b o u,H b=some o->h.get? b=some u->h'.get? b=some u):ci P w H h':=λb o e=>
 (x b o e).Oj (λc v hc q=>by
  rcases hc with rfl|hc
  ·exact k _ _ _ e q
  ·exact k _ _ _ hc q) (λ_ q=>q) λ_ _ q=>q
end
section
variable{X:Cx}{pins:List (Addr × vc)}{st:St}{H H':Hp}{s s':aa}{cls:Value}{h':Heap}{ea:Addr}{args:List Value}{M:Lk}{E:Value->aa->Prop}{Q:Unit->aa->Prop}
theorem YT{B:Heap}{l:List yg}{a0:Value}{h:Heap}(x:uz B l ea cls a0 h):Xp B l ea cls a0 h:=⟨x.1,x.2.1,x.2.2.1,.inl ⟨.none,x.2.2.2.at⟩⟩
theorem Xp.there{B:Heap}{l:List yg}{a0:Value}{h:Heap}(x:Xp B l ea cls a0 h):∃ ob,h.get? ea=some ob/\ob.cls=cls:=by
 obtain⟨_,_,_,⟨d,q⟩|⟨a,e,b,c,_⟩⟩:=x
 ·exact q.there
 ·exact⟨a,b,c⟩
theorem Xp.LI{B:Heap}{l:List yg}{a0:Value}{h:Heap}{o:vc}(x:Xp B l ea cls a0 h)(b:h.get? ea=some o):∃ vs,o.data=.fields vs:=by
 obtain⟨_,_,_,⟨g,d,vs,T,i,k,c,a,hd,_⟩|⟨d,vs,e,j,f,_⟩⟩:=x
 ·cases c.symm.trans b;exact⟨vs,hd⟩
 ·cases e.symm.trans b;exact⟨vs,f⟩
theorem jB.next{a:Option Nat}{B h h' h0:Heap}{H':Hp}(x:jB a ea B h h0 H')(k:DK h h')(e:∃ o,h'.get? ea=some o):jB a ea B h' h0 H':=λn q=>by
 obtain⟨b,oD,g,c,d,f⟩:=x n q;obtain⟨o,e⟩:=e;exact⟨b,oD,o,e,(k.get c e).trans d,f⟩
theorem RI{A:Ia}{B:Heap}{l:List yg}{a0:Value}(x:Xp B l ea cls a0 s.heap)(g:∀ h1,Xp B l ea cls a0 h1->s.heap.UpToSlots h1->DK s.heap h1->Q () { s with heap:=h1 }):wpAny M A (Qh (.ref ea) none) Q E s:=by
 obtain⟨c,d,f,⟨u,a⟩|a⟩:=x
 ·have k:wpAny M A (Qh (.ref ea) none) (λ_ s'=>∃ h1,s'={ s with heap:=h1 }/\Xp B l ea cls a0 h1/\s.heap.UpToSlots h1) E s:=
   wpAny_setFlight_noneW c f a λh1 i j m p=>⟨h1,rfl,YT ⟨i,d,j,m⟩,λb o e n=>⟨o.slots,p b o e n⟩⟩
  exact Rb (lK (MW _ _) k) (λ_ _ ⟨⟨h1,e,q,r⟩,t⟩=>by subst e;exact g h1 q r t) λ_ _ z=>z
 ·obtain⟨w,y,h,hc,hd,v,h0,h1⟩:=id a;unfold Qh;refine ba (Ik h hd h1 ?_);rw[ga (show ¬ ((Eb != Eb)=true)from by decide)];exact ra (g s.heap ⟨c,d,f,.inr a⟩ (.refl _) (.refl _))
theorem US{A:Ia}{B:Heap}{env:yg}{outer:List yg}{L:Addr}{a0:Value}(l:A.frames=some (env::outer))(j:env.frame=some L)(x:Xp B (env::outer) ea cls a0 s.heap)
  (F:∀ h1,zo B (env::outer) ea cls a0 L h1->s.heap.UpToSlots h1->Q () { s with heap:=h1 }):wpAny M A (vg (.ref ea) env) Q E s:=by
 obtain⟨z,t,C,⟨u,h⟩|h⟩:=x
 ·by_cases hm:u=pe L
  ·subst hm;exact wpAny_noteFrame_againW j h (F s.heap ⟨z,t,C,h⟩ (.refl _))
  ·obtain⟨oe,J,T,S,r,g,hc,hd,h1,m,f,w,a,h3⟩:=h;have sz:3<r.size:=(Vc.mp h3).1;have c:∀ b,b≠T->(s.heap.update T (ai (·.setIfInBounds 3 Eb))).get? b=s.heap.get? b:=λb hb=>xi _ _ (He hb);have nr:∀ b o,s.heap.get? b=some o->(∀ v,o.data≠.fields v)->b≠T:=λb o hb hn q=>by
    rw[q,w]at hb;cases hb;exact hn r a
   have d:=Kq (ai (·.setIfInBounds 3 Eb)) w (Obj.isFreed_of_fields (Jk a _));have up:s.heap.UpToSlots (s.heap.update T (ai (·.setIfInBounds 3 Eb))):=λb o e n=>⟨o.slots,(c b (nr b o e n)).trans e⟩
   have U:uz B (env::outer) ea cls a0 (s.heap.update T (ai (·.setIfInBounds 3 Eb))):=
    ⟨λb o e=>(c b λq=>by rw[q,m]at e;cases e).trans (z b o e),t,C.of_keeps λb o e n=>⟨o,(c b (nr b o e n)).trans e,rfl⟩,
     oe,J,T,_,_,(c ea (He f)).trans g,hc,hd,h1,m,f,d,Jk a _,by simp[sz]⟩
   have H:=wpAny_looks_onW (M:=M) (E:=E) (Q:=Q) (s:={ s with heap:=s.heap.update T (ai (·.setIfInBounds 3 Eb)) }) l j U λh2 q1 q2=>F h2 q1 (up.trans q2);intro Γ p G;have k:=H Γ p G;unfold vg at k ⊢;simp only[j]at k ⊢;rw[dm,vu]at k ⊢;obtain⟨a1,o1,v1,x1,W,Z,N,O,k⟩:=k;cases W;have i:s.heap.get? ea=some o1:=(c ea (He f)).symm.trans Z;have I:o1=oe:=by rw[g]at i;cases i;rfl
   subst I;rw[hd]at N;cases N;rw[h1]at O;cases O;refine⟨ea,o1,J,.ref T,rfl,g,hd,h1,?_⟩;have nn:(pb T != Eb)=true:=by simp
   simp only[nn,ag]at k ⊢;rw[dm,vu]at k ⊢;obtain⟨a2,o2,v2,x2,X,g2,V,P,k⟩:=k;cases X;have D:=d.symm.trans g2;cases D;have y:=(Jk a (·.setIfInBounds 3 Eb)).symm.trans V;cases y;have K:x2=Eb:=by
    have:(r.setIfInBounds 3 Eb)[3]?=some Eb:=by simp[sz]
    rw[this]at P;cases P;rfl
   subst K;refine⟨T,S,r,u,rfl,w,a,h3,?_⟩;have n1:(Eb == pe L)=false:=by simp[pe]
   have n2:(u == pe L)=false:=by
    cases q:u == pe L with
    |false=>rfl
    |true=>exact absurd (Wf.mp q) hm
   simp only[n1,n2,rh,ui]at k ⊢;rw[dm,IE]at k ⊢;obtain⟨a3,o3,v3,Y,g3,d3,i3,k⟩:=k;cases Y;refine⟨T,S,r,rfl,w,a,sz,?_⟩;simp only[Heap.update_setField_twice]at k;exact k
 ·obtain⟨oe,J,g,hc,hd,hz,h0,h1⟩:=h;unfold vg;simp only[j];refine ba (Ik g hd h1 ?_);rw[ga (by decide)];refine wpAny_entryW (base:=B) (outer:=outer) (a0:=a0) l C j g z t hd hz h0 λh4 hN=>?_;obtain⟨k1,k2,R,k4⟩:=hN;rw[hc]at R;exact F h4 ⟨k1,t,k2,R⟩ k4
theorem vQ{A:Ia}{B:Heap}{env:yg}{outer:List yg}{L:Addr}{a0:Value}(a:A.frames=some (env::outer))(f:env.frame=some L)(x:Xp B (env::outer) ea cls a0 s.heap)
  (d:∀ h1,zo B (env::outer) ea cls a0 L h1->s.heap.UpToSlots h1->DK s.heap h1->Q () { s with heap:=h1 }):wpAny M A (vg (.ref ea) env) Q E s:=by
 have k:wpAny M A (vg (.ref ea) env) (λ_ s'=>∃ h1,s'={ s with heap:=h1 }/\zo B (env::outer) ea cls a0 L h1/\s.heap.UpToSlots h1) E s:=US a f x λh1 b c=>⟨h1,rfl,b,c⟩
 exact Rb (lK (hV _ _) k) (λ_ _ ⟨⟨h1,e,b,c⟩,g⟩=>by subst e;exact d h1 b c g) λ_ _ z=>z
theorem eP{B:Heap}{l:List yg}{a0:Value}{L:Addr}{h:Heap}(x:zo B l ea cls a0 L h):Xp B l ea cls a0 h:=⟨x.1,x.2.1,x.2.2.1,.inl ⟨_,x.2.2.2⟩⟩
theorem J0{A:Ia}{B:Heap}{env:yg}{outer:List yg}{L:Addr}{a0:Value}(a:A.frames=some (env::outer))(d:env.frame=some L)(x:Xp B (env::outer) ea cls a0 s.heap)
  (c:∀ h1,Xp B outer ea cls a0 h1->s.heap.UpToSlots h1->DK s.heap h1->Q () { s with heap:=h1 }):wpAny M A (rz env (.ref ea)) Q E s:=by
 unfold rz;refine ba (vQ a d x λh1 i j k=>?_);refine RI (eP i) λb l m n=>?_;obtain⟨e,f,⟨_,_,g⟩,h⟩:=l;exact c b ⟨e,f,g,h⟩ (j.trans m) (k.trans n)
theorem MB(c:X.stack=X.env::X.outer)(a:X.env.frame=some X.env.locals){b:Addr}:b∈Yi X.stack ↔ b=X.env.locals\/b∈Yi X.outer:=by
 rw[c];unfold Yi;rw[dh,a];exact La
theorem f6(I:Inv X pins st H s)(j:X.stack=X.env::X.outer)(i:X.env.frame=some X.env.locals)(k:X.ex=[]){h'':Heap}(un:Un (Yi X.stack) [] H H' s.heap h''):Un (Yi X.outer) [] X.H₀ H' X.s₀.heap h'':=by
 have a:∀ b,b ∉ X.ex:=λb z=>by rw[k]at z;cases z
 have f:∀ b o,X.s₀.heap.get? b=some o->b≠X.env.locals:=λb o e=>Ea (Ha (va e) I.ok.above);refine⟨λb o e n hb _=>?_,λb o e n hb _=>?_,λb o e n _=>?_,λb o e _=>?_,λb xs e=>un.Uh b xs (I.base.Uh b xs e),λb o u e=>un.ah b o u (I.base.ah b o u e),λb p e=>?_⟩
 ·exact un.keep b o (I.base.keep b o e n hb (a b)) (I.base.free b o e n (a b)) (λz=>((MB j i).mp z).elim (f b o e) hb) (by simp)
 ·obtain⟨q,c⟩:=I.base.slot b o e n hb (a b);obtain⟨h,d⟩:=un.slot b _ c (I.base.free b o e n (a b)) ((MB j i).mpr (.inr hb)) (by simp);exact⟨h,d⟩
 ·obtain⟨g,c⟩:=I.base.there b o e (a b);exact un.free b g c (I.base.free b o e n (a b)) (by simp)
 ·obtain⟨g,c⟩:=I.base.there b o e (a b);exact un.there b g c (by simp)
 ·obtain⟨l,c⟩:=I.base.Gh b p e;obtain⟨m,d⟩:=un.Gh b _ c;exact⟨l++m,by rw[d,ck]⟩
theorem RF{P:wa}{w:Ja}{outer:List yg}{e:Value}{m:Option Nat}(F:Yw P w outer H s cls m H' e s'){h6:Heap}{B:Heap}(r:∀ b o,s.heap.get? b=some o->H b=none->b ∉ Yi outer->B.get? b=some o)(t:∀ b o,H' b=some o->∃ ob,B.get? b=some ob)
  (p:∀ b o,s.heap.get? b=some o->b ∉ Yi outer->∃ d,B.get? b=some d) (k:∀ b o,B.get? b=some o->s'.heap.get? b=some o) (c:∀ b o,B.get? b=some o->h6.get? b=some o) (h:s'.heap.UpToSlots h6) (g:∀ b∈Yi outer,∃ o,s.heap.get? b=some o/\(∀ vs,o.data≠.fields vs)/\H b=none) :
  Un (Yi outer) [] H H' s.heap h6/\ci P w H' h6:=by
 refine⟨⟨λb o e n hb _=>c b o (r b o e n hb),λb o e n hb l=>?_,F.un.free,λb o e l=>?_,F.un.Uh,F.un.ah,F.un.Gh⟩,xF F.cc λb o u e q=>?_⟩
 ·obtain⟨v,a⟩:=F.un.slot b o e n hb l;obtain⟨d,f,hd,_⟩:=g b hb;rw[e]at f;cases f;obtain⟨i,j⟩:=h b _ a hd;exact⟨i,j⟩
 ·by_cases hb:b∈Yi outer
  ·obtain⟨d,f,hd,hn⟩:=g b hb;rw[e]at f;cases f;obtain⟨v,a⟩:=F.un.slot b o e hn hb l;obtain⟨i,j⟩:=h b _ a hd;exact⟨_,j⟩
  ·obtain⟨d,a⟩:=p b o e hb;exact⟨d,c b d a⟩
 ·obtain⟨ob,a⟩:=t b o e;have:=k b ob a;rw[q]at this;cases this;exact c b _ a
theorem wG(I:Inv X pins st H s):∀ b∈Yi X.stack,∃ o,s.heap.get? b=some o/\(∀ vs,o.data≠.fields vs)/\H b=none:=λb hb=>by
 obtain⟨_,o,e,hd⟩:=I.stack.mem hb;exact⟨o,e,hd,I.Yj b hb⟩
theorem W4(I:Inv X pins st H s)(f:X.stack=X.env::X.outer)(j:X.env.frame=some X.env.locals)(c:X.ex=[]){e:Value}{k:Option Nat}(F:Yw X.prog X.w X.stack H s cls k H' e s')
  (L:∀ i,Yw X.prog X.w X.outer X.H₀ X.s₀ cls k H' e i->Q () i):wpAny M X.A (rz X.env e) Q E s':=by
 obtain⟨ea,t,B,rfl,y,hn,d,G,D,C,K⟩:=F.ex;have l:Xp B (X.env::X.outer) ea cls t s'.heap:=by rw[<-f];exact y
 refine J0 (by rw[<-f];exact I.ok.frames) j l λm r P R=>L _ ?_;obtain⟨un,cc⟩:=RF F D G C y.1 r.1 P (wG I);have a:∀ b,b ∉ X.ex:=λb z=>by rw[c]at z;cases z
 have g:∀ b o,X.s₀.heap.get? b=some o->b≠X.env.locals:=λb o e=>Ea (Ha (va e) I.ok.above);have h:∀ b,s.heap.get? b=none->X.s₀.heap.get? b=none:=λb e=>by
  cases q:X.s₀.heap.get? b with
  |none=>rfl
  |some u=>obtain⟨v,x⟩:=I.base.there _ _ q (a _);rw[e]at x;cases x
 have p:jB k ea B m X.s₀.heap H':=λn q=>by
  obtain⟨J,oD,O,S,T,U,V,W,Y⟩:=K.next R (let ⟨o,e,_⟩:=r.there;⟨o,e⟩) n q;exact⟨J,oD,O,S,T,U,V,W,h _ Y⟩
 refine⟨⟨ea,t,B,rfl,r,hn,?_,G,λb o e n hb=>?_,λb o e hb=>?_,p⟩,F.os.trans I.os,F.bare,f6 I f j c un,cc⟩
 ·cases q:X.s₀.heap.get? ea with
  |none=>rfl
  |some u=>obtain⟨v,e⟩:=I.base.there _ _ q (a _);rw[d]at e;cases e
 ·exact D b o (I.base.keep b o e n hb (a b)) (I.base.free b o e n (a b)) λz=>((MB f j).mp z).elim (g b o e) hb
 ·obtain⟨N,q⟩:=I.base.there b o e (a b);exact C b N q λz=>((MB f j).mp z).elim (g b o e) hb
end
theorem F0{P:wa}{w:Ja}{K:W.Frag}{mg:Str->Option Value}{base:Heap}{N:List Str}{qual:Str}{scope:Scope}{f:Addr}{cd:Value}{A:Ia}{outer:List yg}{s:aa}{H:Hp}{E:XK}{st:St}{cls:Value}{b:Option Nat}{a:Hp}
  (h:E cls b a):ez (Ip (Al P w) P w K mg base N qual scope f cd A outer s H E) st cls b a where
 UB:=λc g s1 e i I F=>W4 I rfl rfl rfl F λd G=>⟨cls,b,a,G,h⟩
theorem ez.made{X:Cx}{d:List (Addr × vc)}{st:St}{h:Hp}{s:aa}{cls:Value}{f:Addr}{h':Heap}{i:List Value}(t:ez X st cls none h)(I:Inv X d st h s)(c:Heap.MadeExcOf s.heap h' f cls i):X.xe (.ref f) { s with heap:=h' }:=by
 have l:s.heap.FunFrames (W.hideAll s.heap (Yi X.stack)) X.stack:=W.funFrames_hide (as:=Yi X.stack) I.stack (λenv j a m=>ik.mpr ⟨env,j,m⟩);have g:∀ b o,s.heap.get? b=some o->b ∉ Yi X.stack->(W.hideAll s.heap (Yi X.stack)).get? b=some o:=λb o e n=>W.hideAll_get _ e n;obtain⟨r,j,p,w⟩:=c.there;have k:∀ b o,h b=some o->b ∉ Yi X.stack:=λb o e z=>by rw[I.Yj b z]at e;cases e
 have hn:h f=none:=by
  cases q:h f with
  |none=>rfl
  |some u=>obtain⟨v,e⟩:=kP (I.cc _ _ q);rw[c.new]at e;cases e
 refine t.UB d h s (.ref f) _ I ⟨⟨f,.ref r,W.hideAll s.heap (Yi X.stack),rfl,⟨λb o q=>c.keeps b o (W.of_hideAll _ q),?_,l.of_keeps λb o e _=>⟨o,c.keeps b o e,rfl⟩,.inr ⟨_,_,j,rfl,rfl,by simp,rfl,rfl⟩⟩,hn,c.new,λb o e=>?_,λb o e n hb=>g b o e hb,λb o e hb=>⟨o,g b o e hb⟩,λn q=>by cases q⟩,rfl,I.bare,⟨λb o e n hb _=>c.keeps b o e,λb o e n hb _=>⟨o.slots,c.keeps b o e⟩,λb o e n _=>n,λb o e _=>⟨o,c.keeps b o e⟩,λ_ _ e=>e,λ_ _ _ e=>e,λb x e=>⟨#[],by rw[e];simp⟩⟩,xF I.cc λb o u e q=>c.keeps b u q⟩
 ·cases q:(W.hideAll s.heap (Yi X.stack)).get? f with
  |none=>rfl
  |some u=>have:=W.of_hideAll _ q;rw[c.new]at this;cases this
 ·obtain⟨u,q⟩:=kP (I.cc _ _ e);exact⟨u,g b u q (k b o e)⟩
theorem jr{P:wa}{w:Ja}{K:W.Frag}{mg:Str->Option Value}{base:Heap}{N:List Str}{qual:Str}{scope:Scope}{f:Addr}{cd:Value}{A:Ia}{outer:List yg}{s:aa}{H:Hp}{E:XK} :
  Yo (model P w) (Ip (Al P w) P w K mg base N qual scope f cd A outer s H E).A (Ip (Al P w) P w K mg base N qual scope f cd A outer s H E).env (Ip (Al P w) P w K mg base N qual scope f cd A outer s H E).xe:=Y7
noncomputable def bZ:Fl->M D
 | .nx _=>ret .zb
 | .rt d=>ret d
 | .xc _ x=>λa=>.ex x a
 |_=>bad
noncomputable def Hu:Out Fl->Out D
 | .ok a σ=>bZ a σ
 |_=>.bad
noncomputable def run(n:Nat)(g:Ev->M Fl)(ds:List D):M D:=λa=>Hu (g (ds.map some++List.replicate (n - ds.length) none) a)
noncomputable def Qo(T:Tb)(n:Nat)(f:List D->M D):Sp:=λd H Q E=>∃ b c a,Ua T b H a d/\a.length=n/\Rel T b H c/\Kb T E (Rep T) b H (f a c) Q
noncomputable def uq(n:Nat)(f:List D->M D)(dds:List D)(ds:List D):M D:=if (ds++dds).length=n then f (ds++dds)else bad
noncomputable def qd(n:Nat)(f:List D->M D)(dds:List D)(fs:Ev->M (List D)):Ev->M D:=λa=>Xc (fs a) (uq n f dds)
section
variable{T:Tb}{X:Cx}
theorem JY{μ:List Addr}{H:Hp}{ds:List D}{vs:List V}{N:List Str}(h:Ua T μ H ds vs):gh T μ H (ds.map some++List.replicate (N.length - ds.length) none) (L2.Ut N vs):=by
 have c:=h.length;refine⟨by simp[L2.Ut,c],λi d e=>?_⟩;by_cases b:i<ds.length
 ·rw[qb (by simpa using b),Ab]at e;cases a:ds[i]? with
  |none=>rw[a]at e;cases e
  |some x=>
   rw[a]at e;cases e;obtain⟨v,h1,f⟩:=h.get a;refine⟨v,?_,f⟩;unfold L2.Ut;rw[qb (by simpa [<-c]using b),Ab,h1];rfl
 ·rw[Sd (by simpa using b),Yp]at e;split at e<;>cases e
variable{k:Nat}{f C:Addr}{fd:Qd}{ps:List Str}{dvs:List V}{dval:List Value}{dds:List D}{x:Str}{p pos:Ke}{e:Ka}{es:List Ka}{fn:List D->M D}{fs:Ev->M (List D)}{sp:Sp}{t:TA}
theorem OH{a:List (Addr × vc)}{st:St}{H:Hp}{s:aa}{Q:VK}{us:List Value}{vs:List V}(F:Xg X.prog X.w X.K X.mg X.base (Al X.prog X.w) k f fd ps sp)(i:Ld k X.A)(hb:Iq X.K fd ps dval)(hd:Ud dvs dval)
  (I:Inv X a st H s) (r:Ud vs us) (h:sp (vs++dvs) H Q (XE X st)):wpAny (model X.prog X.w) X.A (call (.ref f) us) (EP X a st Q) X.xe s:=by
 have c:Ud (vs++dvs) (us++dval):=r.append hd;have g:(us++dval).length=ps.length:=by rw[<-c.length];exact F.len _ _ _ _ h
 refine Lq (Jh (F.run X.A X.stack s H ⟨us,[]⟩ (us++dval) (vs++dvs) Q (XE X st) i I.CA (hb s us I.Gj g) c h) λr l hq=>?_);cases r with
 |error e=>obtain⟨cls,fd,m,b,j⟩:=hq;exact j.UB a H s e l I b
 |ok d=>
  cases d with
  |ret u=>exact I.after hq
  |next=>exact False.elim hq
  |brk=>exact False.elim hq
  |cont=>exact False.elim hq
theorem iH(F:Xg X.prog X.w X.K X.mg X.base (Al X.prog X.w) k f fd ps (Qo T ps.length fn))(D:Ld k X.A)(B:Gl X x)(hm:X.mg x=some (.ref f))(C:W.keepIn X.K (.ref f)=true)(hb:Iq X.K fd ps dval)(hd:Ud dvs dval)(g:∀ μ H,Ua T μ H dds dvs)
  (y:FA T X (e::es) fs) (d:(x == ("__debug__" : Str))=false:=by decide) (z:ua (e::es) X.env=(false,bc e X.env)::ua es X.env:=by rfl) (j:(Mc pos (ua es X.env)).any (·.1)=false:=by rfl) :
  FE T X (.Call (.Name x p) (e::es) [] pos) (qd ps.length fn dds fs):=by
 intro a s st H Q I h;refine af (Ny I B hm ?_ d);obtain⟨μ,J,L,v,l,hp⟩:=h;refine W.callWith_K (h₀:=X.base) I.ok.mod.qw C (Od (y pos a s st H (λm c=>Qo T ps.length fn (m++dvs) c Q (XE X st)) I ⟨μ,J,L,v,l,hp.bind λu o n m c _ M G E b=>?_⟩) λus s1 ⟨m,c,t,r,q⟩=>⟨t.Gj,?_⟩) z j
 ·unfold uq at b;by_cases i:(u++dds).length=ps.length
  ·rw[da i]at b;exact⟨n,o,u++dds,E.append (g _ _),i,G,b⟩
  ·rw[ga i]at b;exact b.elim
 ·exact OH F D hb hd t r q
variable{P:wa}{w:Ja}{K:W.Frag}{mg:Str->Option Value}{base:Heap}
theorem Gy{x qual:Str}{st:Stmt}{N:List Str}{g:Ev->M Fl}{a:Arguments}{y kV c C b ct R:Value}{v od:Option Addr}{n:Array (Option Value)}
  (lk:K.lookup f=some ⟨R,od,.func (W.fnOf x qual a (pj st) (Kc st) y kV c C v b ct),n⟩) (m:W.codeIn K b qual=true) (S:Aa N ps (Kc st))
  (hb:∀ (A:Ia) (outer:List yg) (s:aa) (H:Hp) (E:XK),Ld k (A.deeper (Bg qual (Kc st) s.heap.objs.size f b))->Do T (Ip (Al P w) P w K mg base N qual (Kc st) f b A outer s H E) (pj st) g) :
  Xg P w K mg base (Al P w) (k+1) f (W.fnOf x qual a (pj st) (Kc st) y kV c C v b ct) ps (Qo T ps.length (run N.length g)):=by
 refine eN lk m S (λU H Q E h=>?_) (λA outer s H U Q E O h=>?_)
 ·obtain⟨F,t,j,h1,B,_⟩:=h;rw[<-h1.length];exact B
 ·obtain⟨F,t,j,h1,B,h3,h4⟩:=h;refine⟨_,hb A outer s H E O,F,_,t,JY h1,h3,?_⟩;unfold run at h4;cases l:g (j.map some++List.replicate (N.length - j.length) none) t with
  |bad=>rw[l]at h4;exact h4
  |ex x u=>rw[l]at h4;exact h4.elim
  |ok L u=>
   rw[l]at h4;intro q gl H1 I o e;have i:=h4.mono I;cases L with
   |nx r=>cases gl with
    |nx p=>have z:Q V.zb H1:=Kb.here (d:=D.zb) i o (by rw[Rep]);exact z
    |_=>exact e.elim
   |rt G=>cases gl with
    |rt v2=>have z:Q v2 H1:=Kb.here (d:=G) i o e;exact z
    |_=>exact e.elim
   |xc r Y=>cases gl with
    |xc p X J=>
     obtain⟨_,rfl,rfl⟩:=e;exact F0 (i q H1 (Ext.refl _ _) o)
    |_=>exact e.elim
   |_=>exact i.elim
theorem GC(F:Xg P w K mg base (Al P w) k f fd ps (Qo T ps.length fn)):Xg P w K mg base (Al P w) k f fd ps (Qo T ps.length (λa=>db (fn a))):=
 F.imp λe H Q E h=>by
  obtain⟨c,d,a,h1,b,h3,h4⟩:=h;exact⟨c,d,a,h1,b,h3,Kb.db h3 h4⟩
end
noncomputable def oi(env:yg)(names:List (Str × Pe))(a:List (Str × Addr)):List (Str × Addr):=
 names.foldl (λb y=>if (y.2 == .free)=true then (match env.cells.lookup y.1 with|some c=>(y.1,c)::b|none=>b)else b) a
theorem EH(env:yg):∀ (names:List (Str × Pe)) (acc:List (Str × Addr)),(∀ y∈names,y.2=.free->∃ c,env.cells.lookup y.1=some c)->
  (forIn names acc (λx (cs:List (Str × Addr))=>match x with|(name,kind)=>if (kind == .free)=true then (do let a <-cellOf env name;pure (ForInStep.yield ((name,a)::cs)))else pure (ForInStep.yield cs)):Ap (List (Str × Addr)))=pure (oi env names acc)
 |[],acc,_=>rfl
 |(n,k)::r,acc,h=>by
  rw[List.forIn_cons];by_cases b:(k == lb)=true
  ·obtain⟨c,hc⟩:=h (n,k) Pa (by simpa using b);have e:cellOf env n=pure c:=by unfold cellOf;rw[hc]
   simp only[b,ag,e];show (forIn r ((n,c)::acc) _:Ap (List (Str × Addr)))=_;rw[EH env r ((n,c)::acc) λy hy=>h y (Da _ hy)];have d:oi env ((n,k)::r) acc=oi env r ((n,c)::acc):=by
    unfold oi;rw[Sf];simp only[b,ag,hc]
   rw[d]
  ·simp only[b];show (forIn r acc _:Ap (List (Str × Addr)))=_;rw[EH env r acc λy hy=>h y (Da _ hy)];have d:oi env ((n,k)::r) acc=oi env r acc:=by
    unfold oi;rw[Sf];simp only[b];rfl
   rw[d]
theorem DH(env:yg)(scope:Scope)(h:∀ y∈scope.names,y.2=.free->∃ c,env.cells.lookup y.1=some c):closureFor scope env=pure (oi env scope.names []):=by
 have e:=EH env scope.names [] h;unfold closureFor;simp only[bind_pure];exact e
theorem CI(env:yg):∀ (names:List (Str × Pe)) (acc:List (Str × Addr)) (n:Str) (c:Addr),(∀ n c,acc.lookup n=some c->env.cells.lookup n=some c)->(oi env names acc).lookup n=some c->env.cells.lookup n=some c
 |[],acc,n,c,h,e=>h n c e
 |(y,k)::r,acc,n,c,h,e=>by
  unfold oi at e;rw[Sf]at e;refine CI env r _ n c (λn c q=>?_) e;by_cases a:(k == lb)=true
  ·simp only[a,ag]at q;cases hc:env.cells.lookup y with
   |none=>rw[hc]at q;exact h n c q
   |some b=>
    rw[hc]at q;rw[Sa]at q;cases hn:(n == y)with
    |true=>rw[hn]at q;cases q;rw[eq_of_beq hn];exact hc
    |false=>rw[hn]at q;exact h n c q
  ·simp only[a]at q;exact h n c q
theorem oQ(env:yg):∀ (names:List (Str × Pe)) (acc:List (Str × Addr)) (n:Str),(∃ c,acc.lookup n=some c)->∃ c,(oi env names acc).lookup n=some c
 |[],acc,n,h=>h
 |(y,k)::r,acc,n,h=>by
  unfold oi;rw[Sf];refine oQ env r _ n ?_;by_cases b:(k == lb)=true
  ·simp only[b,ag];cases hc:env.cells.lookup y with
   |none=>exact h
   |some a=>
    show ∃ c,List.lookup n ((y,a)::acc)=some c;rw[Sa];cases hn:(n == y)with
    |true=>exact⟨a,rfl⟩
    |false=>exact h
  ·simp only[b];exact h
theorem xA(env:yg):∀ (names:List (Str × Pe)) (acc:List (Str × Addr)) (n:Str),(n,lb)∈names->(∃ c,env.cells.lookup n=some c)->∃ c,(oi env names acc).lookup n=some c
 |[],acc,n,h,_=>nomatch h
 |(y,k)::r,acc,n,h,hc=>by
  unfold oi;rw[Sf];rcases La.mp h with e|e
  ·cases e;refine oQ env r _ _ ?_;obtain⟨c,hc⟩:=hc;refine⟨c,?_⟩;simp[hc]
  ·exact xA env r _ n e hc
theorem SE{env:yg}:∀ {names:List (Str × Pe)} {x:Str} {k:Pe},
  (names.map λ(n,k)=>if (k == lb && env.scope.kind == .function && env.kindOf n == some .cell)then (n,Fc)else (n,k)).lookup x=some k->∃ k0,names.lookup x=some k0/\(k=k0\/(k0=.free/\k=.cell))
 |[],_,_,h=>by simp at h
 |(n,k0)::r,x,k,h=>by
  have c:=@SE env r x k;have a:List.lookup x ((if (k0 == lb && env.scope.kind == .function && env.kindOf n == some .cell)=true then (n,Fc)else (n,k0))::(r.map λ(n,k)=>if (k == lb && env.scope.kind == .function && env.kindOf n == some .cell)then (n,Fc)else (n,k)))=some k:=h;cases b:x == n with
  |true=>
   by_cases hc:(k0 == lb && env.scope.kind == .function && env.kindOf n == some .cell)=true
   ·rw[da hc]at a;simp only[Sa,b]at a ⊢;cases a;simp only[Ba]at hc;exact⟨k0,rfl,.inr ⟨by simpa using hc.1.1,rfl⟩⟩
   ·rw[ga hc]at a;simp only[Sa,b]at a ⊢;cases a;exact⟨k0,rfl,.inl rfl⟩
  |false=>
   by_cases hc:(k0 == lb && env.scope.kind == .function && env.kindOf n == some .cell)=true
   ·rw[da hc]at a;simp only[Sa,b]at a ⊢;exact c a
   ·rw[ga hc]at a;simp only[Sa,b]at a ⊢;exact c a
theorem PP{env:yg}:∀ {names:List (Str × Pe)} {x:Str},names.lookup x=some .free->
  (names.map λ(n,k)=>if (k == lb && env.scope.kind == .function && env.kindOf n == some .cell)then (n,Fc)else (n,k)).lookup x=some .cell\/
  (names.map λ(n,k)=>if (k == lb && env.scope.kind == .function && env.kindOf n == some .cell)then (n,Fc)else (n,k)).lookup x=some .free
 |[],_,h=>by simp at h
 |(n,k)::r,x,h=>by
  have c:=@PP env r x;have a:∀ z,List.lookup x ((if (k == lb && env.scope.kind == .function && env.kindOf n == some .cell)=true then (n,Fc)else (n,k))::(r.map λ(n,k)=>if (k == lb && env.scope.kind == .function && env.kindOf n == some .cell)then (n,Fc)else (n,k)))=z->
   (List.map (λ(n,k)=>if (k == lb && env.scope.kind == .function && env.kindOf n == some .cell)then (n,Fc)else (n,k)) ((n,k)::r)).lookup x=z:=λz e=>e
  cases b:x == n with
  |true=>
   simp only[Sa,b]at h;cases h;by_cases hc:(lb == lb && env.scope.kind == .function && env.kindOf n == some .cell)=true
   ·exact .inl (a _ (by rw[da hc];simp only[Sa,b]))
   ·exact .inr (a _ (by rw[ga hc];simp only[Sa,b]))
  |false=>
   simp only[Sa,b]at h;have e:List.lookup x ((if (k == lb && env.scope.kind == .function && env.kindOf n == some .cell)=true then (n,Fc)else (n,k))::(r.map λ(n,k)=>if (k == lb && env.scope.kind == .function && env.kindOf n == some .cell)then (n,Fc)else (n,k))) =
     (r.map λ(n,k)=>if (k == lb && env.scope.kind == .function && env.kindOf n == some .cell)then (n,Fc)else (n,k)).lookup x:=by
    by_cases hc:(k == lb && env.scope.kind == .function && env.kindOf n == some .cell)=true
    ·rw[da hc];simp only[Sa,b]
    ·rw[ga hc];simp only[Sa,b]
   rcases c h with q|q
   ·exact .inl (a _ (e.trans q))
   ·exact .inr (a _ (e.trans q))
theorem Nu{names:List (Str × Pe)}{x:Str}{k:Pe}(h:names.lookup x=some k):(x,k)∈names:=Ae h
noncomputable def Es(X:Cx)(a:List Str)(scope:Scope)(cl:List (Str × Addr))(C:Addr)(s₀:aa)(H₀:Hp)(ex:List Addr):Cx:=
 { X with N:=a,s₀:=s₀,H₀:=H₀,env:=compEnvC scope cl C X.env,outer:=X.stack,stack:=X.stack,ex:=ex,fn:=λ_=>false,pn:=[],xe:=λ_ _=>False }
structure Im(X:Cx)(x:Str)(M':List Str)(ix:List Nat)(scope:Scope):Prop where
 kind:scope.kind=.function
 cell:(scope.names.all λy=>!(y.2 == .cell))=true
 names:(scope.names.all λy=>!(y.2 == .local) || scope.names.lookup y.1 == some .local)=true
 free:(scope.names.all λy=>!(y.2 == .free) || (X.env.scope.names.lookup y.1 == some .cell || X.env.scope.names.lookup y.1 == some .free))=true
 at_:ix.map (λi=>X.N[i]?)=M'.map some
 wD:(M'.all λy=>(X.env.scope.names.lookup y == some .cell || X.env.scope.names.lookup y == some .free) && scope.names.lookup y == some .free)=true
noncomputable def VE(ix:List Nat)(ρ:Ev):Ev:=none::ix.map λi=>(ρ[i]?).getD none
noncomputable def nN(ix:List Nat)(st:St):St:=none::ix.map λi=>(st[i]?).getD none
theorem JJ{T:Tb}{μ:List Addr}{H:Hp}{ρ:Ev}{st:St}(ix:List Nat)(h:gh T μ H ρ st):gh T μ H (VE ix ρ) (nN ix st):=by
 refine⟨by simp[VE,nN],λi d e=>?_⟩;cases i with
 |zero=>simp[VE]at e
 |succ j=>
  have a:(ix.map λi=>(ρ[i]?).getD none)[j]?=some (some d):=e;rw[Ab]at a;cases f:ix[j]? with
  |none=>rw[f]at a;cases a
  |some b=>
   rw[f]at a;have c:(ρ[b]?).getD none=some d:=ub a;have g:ρ[b]?=some (some d):=by
    cases q:ρ[b]? with
    |none=>rw[q]at c;cases c
    |some o=>rw[q]at c;exact rc some c
   obtain⟨v,h1,k⟩:=h.2 b d g;refine⟨v,?_,k⟩;show (ix.map λi=>(st[i]?).getD none)[j]?=_;rw[Ab,f];show some ((st[b]?).getD none)=_;rw[h1];rfl
section
variable{X:Cx}{pins:List (Addr × vc)}{st:St}{H:Hp}{s:aa}{x:Str}{M':List Str}{ix:List Nat}{scope:Scope}{fp:List Addr}
theorem jZ(L:Im X x M' ix scope)(y:Str × Pe)(hy:y∈scope.names)(e:y.2=.free):X.env.kindOf y.1=some .cell\/X.env.kindOf y.1=some .free:=by
 have q:=Vb.mp L.free y hy;rw[e]at q;simp only[nq,yp,dk,Tg]at q;rcases q with q|q
 ·exact .inl (eq_of_beq q)
 ·exact .inr (eq_of_beq q)
theorem Lx(I:Inv X pins st H s)(L:Im X x M' ix scope):∀ y∈scope.names,y.2=.free->∃ c,X.env.cells.lookup y.1=some c:=λy hy e=>I.ok.has y.1 (jZ L y hy e)
theorem zz(L:Im X x M' ix scope):∀ y∈scope.names,y.2≠.cell:=λy hy e=>by
 have q:=Vb.mp L.cell y hy;rw[e]at q;simp at q
end
noncomputable def En{α:Type}(m:M α):M α:=λa=>match m a with
 | .ex _ _=>.bad
 |o=>o
theorem Kb.wt{i o p s:Type}{T:Tb}{E E0:XK}{R:List Addr->Hp->i->p->Prop}{l:List Addr->Hp->o->s->Prop}{μ:List Addr}{H:Hp}{m:M i}{k:i->M o}{σ:Ya}{Q:s->Hp->Prop}{Q1:p->Hp->Prop}
  (h:Kb T E l μ H (Xc (En m) k σ) Q) (f:∀ a b c g d,m σ=.ok a b->Ext μ H c d->Rel T c d b->R c d a g->Kb T E l c d (k a b) Q->Q1 g d):Kb T E0 R μ H (m σ) Q1:=by
 unfold Xc En at h;cases e:m σ with
 |ok a b=>
  simp only[e]at h;exact λj g t n r q=>f a b j g t e n r q (h.mono n)
 |ex x b=>simp only[e]at h;exact h.elim
 |bad=>simp only[e]at h;exact h
noncomputable def Nz(T:Tb)(X:Cx)(b:List Ka)(f:Ev->M Bool):Prop:=
 ∀ (a:List (Addr × vc)) (s:aa) (st:St) (H:Hp) (Q:Bool->Hp->Prop),Inv X a st H s->tT T X f st H Q->
  wpAny (model X.prog X.w) X.A (forIn b true λc r=>if r=true then do let ok <-iy c X.env (bc c X.env);pure (ForInStep.yield ok)else pure (ForInStep.yield r)) (TP X a st Q) X.xe s
noncomputable def eo:Ev->M Bool:=λ_=>ret true
section
variable{T:Tb}{X:Cx}
theorem Au:Nz T X [] eo:=by
 intro a s st H Q I h;obtain⟨d,e,f,c,b,hp⟩:=h;exact wpAny_tests_nil ⟨H,I,Kb.here hp b rfl⟩
theorem kK{c:Ka}{f:Ev->M Bool}(h:FT T X c f):Nz T X [c] f:=λa s st H Q I b=>wpAny_tests_one (h a s st H Q I b)
theorem EV{fs ex:List Addr}{H d:Hp}{h h1 h2:Heap}{C:Addr}(u:Un fs ex H d h h1)(c:uf C h1 h2)(f:h.objs.size<=C):Un fs ex H d h h2:=by
 have ne:∀ b o,h.get? b=some o->b≠C:=λb o e=>Ea (Ha (va e) f);refine⟨λb o e n hb a=>(c.2 b (ne b o e)).trans (u.keep b o e n hb a),λb o e n hb a=>?_,u.free,λb o e a=>?_,u.Uh,u.ah,u.Gh⟩
 ·obtain⟨i,q⟩:=u.slot b o e n hb a;exact⟨i,(c.2 b (ne b o e)).trans q⟩
 ·obtain⟨g,q⟩:=u.there b o e a;exact⟨g,(c.2 b (ne b o e)).trans q⟩
theorem TV{P:wa}{w:Ja}{H:Hp}{h1 h2:Heap}{C:Addr}(ok:ci P w H h1)(d:uf C h1 h2)(a:H C=none):ci P w H h2:=λb f e=>by
 refine(ok b f e).Oj (λc g hc q=>(d.2 c ?_).trans q) (λ_ q=>q) λ_ _ q=>q;rintro rfl;rcases hc with rfl|hc
 ·rw[a]at e;cases e
 ·rw[a]at hc;cases hc
theorem SR{E:XK}{μ:List Addr}{H:Hp}{σ:Ya}{n:Nat}{a:Addr}{y:D}{v:V}{Q:VK}(r:Rel T μ H σ)(hn:μ[n]?=some a)(hy:Rep T μ H y v)(h:Kb T E (Rep T) μ H (il (.ref n) [y] σ) Q):dJ (.ref a) [v] H Q:=
 YA E μ H σ (.ref n) [y] (.ref a) [v] Q r (by rw[Rep];exact⟨a,rfl,hn⟩) (Ua.cons hy Ua.nil) h
theorem VC{a b:Type}{m m':M a}{k:a->M b}{σ:Ya}(h:m σ=m' σ):Xc m k σ=Xc m' k σ:=by unfold Xc;rw[h]
theorem JG{b c d:Type}{m:M b}{k:b->M c}{l:c->M d}:Xc (Xc m k) l=Xc m λa=>Xc (k a) l:=by
 funext e;unfold Xc;cases m e<;>rfl
end
noncomputable def Vz(x y:D):M D:=λa=>match kh a x,kh a y with
 |some xs,some b=>if xs.length+b.length<=Rh then .ok (.lst (xs++b)) a else .bad
 |_,_=>.bad
noncomputable def nh(x y:D):M D:=match x,y with
 | .int i,.int j=>ret (.int (i+j))
 | .tup xs,.tup c=>if xs.length+c.length<=Rh then ret (.tup (xs++c))else bad
 | .str a,.str b=>if a.length+b.length<=100000 then ret (.str (a++b))else bad
 |x,y=>Vz x y
theorem iW{n:Nat}(h:n<=100000):n<=sizeLine:=Sb h (by decide)
section
variable{T:Tb}{X:Cx}{a b c:Ka}{fa fb fc:Ev->M D}{pos:Ke}
theorem E5{prog:wa}{w:Ja}{A:Ia}{F:Value->aa->Prop}{s:aa}{t b:Addr}{k:List Value}{Q:Value->aa->Prop}(m:Xs s.heap t (#[]:Array Value))(hb:Xs s.heap b k.toArray)(h1:Q (.ref b) s):wpAny (model prog w) A (lf .Add (.ref t) (.ref b)) Q F s:=by
 obtain⟨⟨cls,l,i,p⟩,j,hc,n,hd⟩:=id m;obtain⟨⟨h,f,e,g⟩,d,a,o,c⟩:=id hb;simp only at hc hd a c;subst hc hd a c;exact iu ⟨_,j,rfl⟩ ⟨_,d,rfl⟩ Vo Tr Vh Ih (xh _ _)
  (tuple_addW0 t b #[] k.toArray n o l f p g rfl) ⟨j,d,h1⟩
theorem BC{E:XK}{μ:List Addr}{H:Hp}{σ:Ya}{x y:D}{v u:V}{e d:Value}{Q:VK}{a:List (Addr × vc)}{s:aa}{st:St}(I:Inv X a st H s)(j:Zc v e)(i:Zc u d)(r:Rel T μ H σ)(h:Rep T μ H x v)(hy:Rep T μ H y u)(hp:Kb T E (Rep T) μ H (Vz x y σ) Q) :
  wpAny (model X.prog X.w) X.A (lf .Add e d) (EP X a st Q) X.xe s:=by
 unfold Vz at hp;cases b:kh σ x with
 |none=>rw[b]at hp;exact hp.elim
 |some xs=>
  cases c:kh σ y with
  |none=>rw[b,c]at hp;exact hp.elim
  |some n=>
   rw[b,c]at hp;dsimp only at hp;by_cases hc:xs.length+n.length<=Rh
   ·rw[da hc]at hp;obtain⟨p,k,rfl,h1,f⟩:=r.ls h b;obtain⟨q,m,rfl,h3,h4⟩:=r.ls hy c;exact X1 a s st H _ _ e d Q I j i ⟨p,q,k,m,rfl,rfl,h1,h3,by rw[<-f.length,<-h4.length];exact bx hc,λl g=>nE hp r (Ua.append f h4) g⟩
   ·rw[ga hc]at hp;exact hp.elim
theorem Aj(M:T.K=X.K):Nh X (lf .Add) (rD T nh):=by
 intro c s st H v u w t Q I g f h;obtain⟨E,P,R,x,y,r,d,hy,hp⟩:=h;cases x with
 |int i=>
  cases y with
  |int j=>exact qU c s st H v u w t Q I g f ⟨i,j,Fp d,Fp hy,Kb.here hp r (by rw[Rep])⟩
  |_=>exact BC I g f r d hy hp
 |str a=>
  cases y with
  |str b=>
   unfold nh at hp;dsimp only at hp;by_cases hc:a.length+b.length<=100000
   ·rw[da hc]at hp;exact jY c s st H v u w t Q I g f ⟨a,b,by simpa [Rep]using d,by simpa [Rep]using hy,iW hc,Kb.here hp r (by rw[Rep])⟩
   ·rw[ga hc]at hp;exact hp.elim
  |_=>exact BC I g f r d hy hp
 |tup xs=>
  cases y with
  |tup A=>
   unfold nh at hp;dsimp only at hp;by_cases hc:xs.length+A.length<=Rh
   ·rw[da hc]at hp;have n:=d;have o:=hy;rw[Rep]at d hy;obtain⟨p,J,rfl,h1,m⟩:=d;obtain⟨q,L,rfl,h3,h4⟩:=hy;cases J with
    |nil=>
     have k:xs=[]:=by have:=m.length;simpa using this
     subst k;cases g;cases f;obtain⟨C,D,F,_⟩:=L2.Inv.tuple I (ph.of (K:=X.K) h1);obtain⟨z,N,G,_⟩:=L2.Inv.tuple I (ph.of (K:=X.K) h3);cases D;exact E5 F G ⟨.ref q,H,I,rfl,Kb.here hp r (by simpa using o)⟩
    |cons v0 O=>
     refine rT c s st H _ _ w t Q I g f ⟨p,q,_,L,rfl,rfl,ph.of h1,ph.of h3,by simp,?_,λe=>?_,λe l B=>?_⟩
     ·rw[<-m.length,<-h4.length];exact bx hc
     ·subst e;have k:A=[]:=by have:=h4.length;simpa using this
      subst k;exact Kb.here hp r (by simpa using n)
     ·exact Dy hp r (Ua.append m h4) B
   ·rw[ga hc]at hp;exact hp.elim
  |_=>exact BC I g f r d hy hp
 |_=>exact BC I g f r d hy hp
noncomputable def KG(a:D->D->M D)(c:M D)(y:D):D->M D:=uw (Ej (Xc c (a y)) (ret (.bl false)))
noncomputable def qF(o a:D->D->M D)(c:M D)(x y:D):M D:=Xc (o x y) (KG a c y)
noncomputable def nI(o a:D->D->M D)(b c:M D)(x:D):M D:=Xc b (qF o a c x)
noncomputable def qI(o e:D->D->M D)(a b c:Ev->M D):Ev->M D:=λd=>Xc (a d) (nI o e (b d) (c d))
theorem N6{j d:Bp}{r L:R2}{o J:D->D->M D}(V:Nh X (Ib j) r)(Y:al T r o)(g:Nh X (Ib d) L)(i:al T L J)(U:FE T X a fa)(hb:FE T X b fb)(hc:FE T X c fc)
  (hm:lastMarks [j,d] [b,c]=false:=by with_unfolding_all rfl):FE T X (.Compare a [j,d] [b,c] pos) (qI o J fa fb fc):=by
 intro e s st H Q I h;refine KU V g U hb hc hm e s st H Q I ?_;obtain⟨μ,q,σ,f,W,hp⟩:=h;refine⟨μ,q,σ,f,W,hp.bind λx t l v H1 _ E r1 q1 Z=>⟨l,q,t,f.mono E,r1,Z.bind λy A m w O _ F r2 K p2=>?_⟩⟩;refine Y _ m O A x y v w _ r2 (Rep.mono F _ _ q1) K (p2.bind λz B n u H3 _ G N q3 p3=>?_);obtain⟨k,rfl,S,p4⟩:=cE q3 p3;refine⟨k,S,?_⟩;cases k with
 |true=>
  unfold Ej at p4;rw[da rfl]at p4 ⊢;exact⟨n,q,B,((f.mono E).mono F).mono G,N,p4.bind λz C p u5 P _ R r5 q5 p5=>i _ p P C y z w u5 Q r5 (Rep.mono R _ _ (Rep.mono G _ _ K)) q5 p5⟩
 |false=>unfold Ej at p4;rw[ga Wa]at p4 ⊢;exact Kb.here p4 N (by rw[Rep])
theorem Jd{k:Nat}{A:Ia}(a:Ld k A):A.units+9<cLine:=by have:=a.un;omega
end
noncomputable def lg(K:W.Frag)(mg:Str->Option Value)(x:Str)(st:Stmt)(ps:List Str):Prop:=
 ∃ f b,mg x=some (.ref f)/\gw K x x st f b/\∀ a:List Value,a.length=ps.length->bindArgs b ⟨a,[]⟩=pure (ps.zip a)
noncomputable def Pb(T:Tb)(P:wa)(w:Ja)(mg:Str->Option Value)(base:Heap)(k:Nat)(x:Str)(ps:List Str)(fn:List D->M D):Prop:=
 ∃ f b,mg x=some (.ref f)/\W.keepIn T.K (.ref f)=true/\(∀ a:List Value,a.length=ps.length->bindArgs b ⟨a,[]⟩=pure (ps.zip a))/\Xg P w T.K mg base (Al P w) k f b ps (Qo T ps.length fn)
section
variable{T:Tb}{X:Cx}
theorem Vd{k:Nat}{ps:List Str}{fn:List D->M D}{x:Str}{p b:Ke}{e:Ka}{a:List Ka}{fs:Ev->M (List D)}(h:Pb T X.prog X.w X.mg X.base k x ps fn)(j:T.K=X.K)(o:Ld k X.A)(n:Gl X x)
  (l:FA T X (e::a) fs) (c:(x == ("__debug__" : Str))=false:=by decide) (m:ua (e::a) X.env=(false,bc e X.env)::ua a X.env:=by rfl) (d:(Mc b (ua a X.env)).any (·.1)=false:=by rfl) :
  FE T X (.Call (.Name x p) (e::a) [] b) (qd ps.length fn [] fs):=by
 obtain⟨f,q,hm,i,hb,g⟩:=h;rw[j]at i g;exact iH (dds:=[]) (dvs:=[]) g o n hm i (.all hb) .nil (λ_ _=>Ua.nil) l c m d
variable{P:wa}{w:Ja}{K:W.Frag}{mg:Str->Option Value}{base:Heap}{ca:Nat->Addr}{tx:Tx}
theorem Ig{k:Nat}{x:Str}{st:Stmt}{ps N:List Str}{g:Ev->M Fl}(h:lg K mg x st ps)(S:Aa N ps (Kc st))
  (hb:∀ (f:Addr) (a:Value) (A:Ia) (outer:List yg) (s:aa) (H:Hp) (E:XK),Ld k (A.deeper (Bg x (Kc st) s.heap.objs.size f a))->Do ⟨K,ca,tx⟩ (Ip (Al P w) P w K mg base N x (Kc st) f a A outer s H E) (pj st) g) :
  Pb ⟨K,ca,tx⟩ P w mg base (k+1) x ps (run N.length g):=by
 obtain⟨f,j,hm,F,b⟩:=h;obtain⟨l,m,kV,d,n,i,a,ct,e,rfl,lk,c⟩:=F.ex;exact⟨f,_,hm,F.kp,b,Gy lk c S (hb f a)⟩
theorem Pb.db{k:Nat}{x:Str}{ps:List Str}{fn:List D->M D}(h:Pb T P w mg base k x ps fn):Pb T P w mg base k x ps (λa=>L4.db (fn a)):=by
 obtain⟨f,b,h1,c,h3,h4⟩:=h;exact⟨f,b,h1,c,h3,GC h4⟩
theorem ZP{h:Heap}{x:Str}{st:Stmt}{ps:List Str}{f:Addr}{j:Value}{od e:Option Addr}{i:Array (Option Value)}{kV d g b ct:Value}(X:K.In h)(G:h.Ns mainGlobals mg)
  (hb:∀ (kV d g:Value) (e:Option Addr) (b ct:Value) (us:List Value),us.length=ps.length->bindArgs (W.fnOf x x (Gn st) (pj st) (Kc st) .none kV d g e b ct) ⟨us,[]⟩=pure (ps.zip us))
  (a:W.nsIn K mainGlobals x=some (some (.ref f))) (l:K.lookup f=some ⟨j,od,.func (W.fnOf x x (Gn st) (pj st) (Kc st) .none kV d g e b ct),i⟩)
  (c:W.codeIn K b x=true) (k:W.keepIn K (.ref f)=true):lg K mg x st ps:=
 ⟨f,_,W.mg_of X G a,nK l c k,hb kV d g e b ct⟩
theorem AV{h:Heap}{x:Str}{i:Int}{t:g8}(X:K.In h)(G:h.Ns mainGlobals mg)(a:W.nsIn K mainGlobals x=some (some (.int i t))):∃ t,mg x=some (.int i t):=⟨t,W.mg_of X G a⟩
end
noncomputable def aJ(T:Tb)(P:wa)(w:Ja)(mg:Str->Option Value)(k:Nat)(x:Str)(ps:List Str)(fn:List D->M D):Prop:=
 ∃ f b,mg x=some (.ref f)/\(∀ a:List Value,a.length=ps.length->bindArgs b ⟨a,[]⟩=pure (ps.zip a))/\∀ base:Heap,Xg P w T.K mg base (Al P w) k f b ps (Qo T ps.length fn)
theorem Y0{P:wa}{w:Ja}{K:W.Frag}{mg:Str->Option Value}{ca:Nat->Addr}{tx:Tx}{k:Nat}{x:Str}{st:Stmt}{ps N:List Str}{g:Ev->M Fl}(h:lg K mg x st ps)(S:Aa N ps (Kc st))
  (hb:∀ (base:Heap) (f:Addr) (a:Value) (A:Ia) (outer:List yg) (s:aa) (H:Hp) (E:XK),Ld k (A.deeper (Bg x (Kc st) s.heap.objs.size f a))->Do ⟨K,ca,tx⟩ (Ip (Al P w) P w K mg base N x (Kc st) f a A outer s H E) (pj st) g) :
  aJ ⟨K,ca,tx⟩ P w mg (k+1) x ps (run N.length g):=by
 obtain⟨f,j,hm,F,b⟩:=h;obtain⟨l,m,kV,d,n,i,a,ct,e,rfl,lk,c⟩:=F.ex;exact⟨f,_,hm,b,λbase=>Gy lk c S (hb base f a)⟩
theorem B0{K:W.Frag}{h:Heap}{C:Addr}{c:List Value}{a:String}(e:K.In h)(hq:W.excIn K C c a=true) :
  ∃ bm N nm j bs hdct sn sub ab col dd k0 k1 k2 k3 k5 mN,h.get? C=some (excClassObj nm j C N bs bm hdct sn sub ab col dd k0 k1 k2 k3 k5 a)/\h.Ns N mN/\mN "__init__" = none/\OwnTail h c bm:=by
 unfold W.excIn at hq;split at hq
 ·rename_i dd b u lk
  split at hq
  ·rename_i m bm k0 k1 k2 k3 i k5 d f
   have g:((((m=C/\i=a)/\b.hasDel=false)/\W.tailIn K c bm=true)/\W.nsOkIn K b.ns=true)/\W.nsIn K b.ns "__init__" = some none:=by
    simpa [Ba,wu]using hq
   obtain⟨⟨⟨⟨⟨n,o⟩,p⟩,q⟩,k⟩,r⟩:=g;subst n;subst o;obtain⟨nm,bs,t,ns,j,hd,sn,sub,ab,col,s⟩:=b;cases d;cases p;obtain⟨l⟩:=u;cases f;exact⟨bm,ns,nm,j,bs,hd,sn,sub,ab,col,dd,k0,k1,k2,k3,k5,_,e _ _ lk,.of_isNs (W.isNs_of_in e k),W.nsMap_none_of_in e k r,W.tail_of_in e q⟩
  ·cases hq
 ·cases hq
noncomputable def SB(c:Nat)(ρ:Ev)(ds:List D):M Fl:=if ds.length<=Rh then ret (.xc ρ ⟨c⟩)else bad
noncomputable def sC(c:Nat)(fs:Ev->M (List D)):Ev->M Fl:=λa=>xs a (fs a) (SB c a)
section
variable{T:Tb}{X:Cx}
theorem lO(c:Nat){x:Str}{B b d:String}{h:List Value}{U a w:Ke}{e:Ka}{f:List Ka}{fs:Ev->M (List D)}(A:ExcBaseFacts B b d h)(L:T.K=X.K)(hq:W.excIn T.K (T.ca c) h b=true)(hm:X.mg x=some (.ref (T.ca c)))
  (P:Gl X x) (hc:X.calm=true) (O:FA T X (e::f) fs) (p:(x == ("__debug__" : Str))=false:=by decide) (C:ua (e::f) X.env=(false,bc e X.env)::ua f X.env:=by rfl)
  (v:(Mc a (ua f X.env)).any (·.1)=false:=by rfl) (t:Ry c=none:=by rfl):FS T X (.Raise (some (.Call (.Name x U) (e::f) [] a)) none w) (sC c fs):=by
 intro l s st H D I R;obtain⟨μ,ρ,σ,o,Q,hp⟩:=R;rw[L]at hq;obtain⟨bm,N,nm,Y,bs,hdct,sn,sub,ab,col,dd,k0,k1,k2,k3,k5,mN,J,hN,u,E⟩:=B0 I.ok.mod.qw hq;have j:(Mc a (ua (e::f) X.env)).any (·.1)=false:=by
  rw[C];show (false || (Mc a (ua f X.env)).any (·.1))=false;rw[v];rfl
 refine wpAny_Raise_call_subT (nm:=nm) (q:=Y) (N:=N) (bs:=bs) (bm:=bm) (hdct:=hdct) (sn:=sn) (sub:=sub) (ab:=ab) (col:=col) (dd:=dd) (k0:=k0) (k1:=k1) (k2:=k2) (k3:=k3) (k5:=k5) A (mN:=mN) (E.hasType A.hasBase) (I.ok.hd hc) j u (Ny I P hm ⟨rfl,?_⟩ p);have step:=O a l s st H (λz n=>z.length<=Rh/\ez X st (T.cv ⟨c⟩) none n) I ⟨μ,ρ,σ,o,Q,hp.xs o λF a1 a0 z n _ G Z V k=>by
  unfold SB at k;by_cases i:F.length<=Rh
  ·rw[da i]at k;exact⟨by rw[<-V.length];exact i,Kb.here (g:=Hl.xc st (T.cv ⟨c⟩) none) k Z ⟨o.mono G,rfl,t.symm⟩⟩
  ·rw[ga i]at k;exact k.elim⟩
 rw[C]at step ⊢;refine cj (Od step λus s1 ⟨z,n,m,r,i,y⟩=>?_);exact⟨rfl,by rw[<-r.length];exact bx i,m.bk _ _ J,hN.keeps m.bk,E.keeps m.bk,λh' ea S=>y.made m S⟩
end
structure Hd where
 t:Nat->Option Bool
 nm:Option Nat
 g:Ev->M Fl
noncomputable def ZM(i:Nat):Fl->M Fl
 | .nx a=>ret (.nx (a.set i none))
 | .rt d=>ret (.rt d)
 | .bk a=>ret (.bk (a.set i none))
 | .ct a=>ret (.ct (a.set i none))
 | .xc _ _=>bad
noncomputable def yD:Fl->M Fl
 | .nx a=>ret (.nx a)
 | .rt d=>ret (.rt d)
 | .bk a=>ret (.bk a)
 | .ct a=>ret (.ct a)
 | .xc _ _=>bad
noncomputable def hit(h:Hd)(ρ:Ev)(x:Xn):M Fl:=match h.nm with
 |none=>Xc (h.g ρ) yD
 |some i=>Xc (h.g (ρ.set i (some (.Kr x.cls)))) (ZM i)
noncomputable def Jv(ρ:Ev)(x:Xn):List Hd->M Fl
 |[]=>bad
 |h::r=>match h.t x.cls with
  |some true=>hit h ρ x
  |some false=>Jv ρ x r
  |none=>bad
noncomputable def Rz(b:List Hd):Fl->M Fl
 | .xc a x=>Jv a x b
 | .nx a=>ret (.nx a)
 | .rt d=>ret (.rt d)
 | .bk a=>ret (.bk a)
 | .ct a=>ret (.ct a)
noncomputable def lE(g:Ev->M Fl)(a:List Hd):Ev->M Fl:=λb=>Xc (g b) (Rz a)
noncomputable abbrev Cx.xt(X:Cx)(e:Value):Cx:={ X with A:=X.A.mark (some e),calm:=false,xe:=λ_ _=>False }
noncomputable abbrev Cx.QB(X:Cx)(a:List (Addr × vc))(xe:Value->aa->Prop):Cx:={ X with xe:=xe,pn:=X.pn++a }
section
variable{T:Tb}{X:Cx}{pins:List (Addr × vc)}{st:St}{H:Hp}{s:aa}{e:Value}{xe:Value->aa->Prop}
theorem YW(I:Inv X pins st H s):Inv (Cx.QB X pins xe) [] st H s:=
 ⟨⟨I.ok.mod,I.ok.kind,I.ok.glob,I.ok.blt,I.ok.above,I.ok.inj,I.ok.has,I.ok.tw,I.ok.hd,I.ok.frames,I.ok.Bo,I.ok.wx,I.ok.bs,I.ok.Uq,I.ok.Tp,I.ok.Lp,I.ok.Zi,I.ok.Ft⟩,I.os,I.bare,I.base,I.loc,I.cell,I.free,I.dg,λp hp=>I.pin p (by simpa using hp),I.cc,I.len⟩
theorem lA{a:List (Addr × vc)}(I:Inv (Cx.QB X pins xe) a st H s):Inv X pins st H s:=
 ⟨⟨I.ok.mod,I.ok.kind,I.ok.glob,I.ok.blt,I.ok.above,I.ok.inj,I.ok.has,I.ok.tw,I.ok.hd,I.ok.frames,I.ok.Bo,I.ok.wx,I.ok.bs,I.ok.Uq,I.ok.Tp,I.ok.Lp,I.ok.Zi,I.ok.Ft⟩,I.os,I.bare,I.base,I.loc,I.cell,I.free,I.dg,λp hp=>I.pin p (Qa _ hp),I.cc,I.len⟩
theorem PD(I:Inv X pins st H s):Inv (Cx.xt X e) pins st H s:=
 ⟨⟨I.ok.mod,I.ok.kind,I.ok.glob,I.ok.blt,I.ok.above,I.ok.inj,I.ok.has,I.ok.tw,λz=>(by cases z),I.ok.frames,I.ok.Bo,I.ok.wx,I.ok.bs,I.ok.Uq,I.ok.Tp,I.ok.Lp,I.ok.Zi,I.ok.Ft⟩,I.os,I.bare,I.base,I.loc,I.cell,I.free,I.dg,I.pin,I.cc,I.len⟩
theorem Xz(ok:X.Ok)(I:Inv (Cx.xt X e) pins st H s):Inv X pins st H s:=
 ⟨ok,I.os,I.bare,I.base,I.loc,I.cell,I.free,I.dg,I.pin,I.cc,I.len⟩
theorem yZ{D:Ends}{f:Flow}{s':aa}(h:SP (Cx.QB X pins xe) [] D f s'):SP X pins D f s':=by
 cases f with
 |next=>obtain⟨a,b,I,q⟩:=h;exact⟨a,b,lA I,q⟩
 |brk=>obtain⟨a,b,I,q⟩:=h;exact⟨a,b,lA I,q⟩
 |cont=>obtain⟨a,b,I,q⟩:=h;exact⟨a,b,lA I,q⟩
 |ret u=>obtain⟨v,a,b,I,r,q⟩:=h;exact⟨v,a,b,lA I,r,q⟩
theorem UX(ok:X.Ok){D:Ends}{f:Flow}{s':aa}(h:SP (Cx.xt X e) pins D f s'):SP X pins D f s':=by
 cases f with
 |next=>obtain⟨a,b,I,q⟩:=h;exact⟨a,b,Xz ok I,q⟩
 |brk=>obtain⟨a,b,I,q⟩:=h;exact⟨a,b,Xz ok I,q⟩
 |cont=>obtain⟨a,b,I,q⟩:=h;exact⟨a,b,Xz ok I,q⟩
 |ret u=>obtain⟨v,a,b,I,r,q⟩:=h;exact⟨v,a,b,Xz ok I,r,q⟩
end
noncomputable def Ds(X:Cx)(a:List (Addr × vc))(st:St)(H:Hp)(s:aa)(c:Addr)(cls:Value)(d:Option Nat):Prop:=∃ b s0,Inv X a st b s0/\Yw X.prog X.w X.stack b s0 cls d H (.ref c) s
section
variable{T:Tb}{X:Cx}{pins:List (Addr × vc)}{st:St}{H:Hp}{s:aa}{ea:Addr}{cls:Value}{fd:Option Nat}
theorem Ds.inv(L:Ds X pins st H s ea cls fd):Inv X pins st H s:=by
 obtain⟨a,s0,I,F⟩:=L;exact L2.Inv.Wt (ch:=[]) I F.os F.un F.cc F.bare λb z=>absurd z (by simp)
theorem Ds.next(L:Ds X pins st H s ea cls fd){M:Lk}{A:Ia}{E:Value->aa->Prop}{Q:Unit->aa->Prop}(h:∀ s',Ds X pins st H s' ea cls fd->Q () s'):wpAny M A (Qh (.ref ea) none) Q E s:=by
 obtain⟨k,s0,I,F⟩:=L;obtain⟨m,l,B,e,f,hn,b,j,i,g,n⟩:=F.ex;cases e;refine RI f λp a d c=>h _ ?_;obtain⟨un,cc⟩:=RF F i j g f.1 a.1 d (wG I);exact⟨k,s0,I,⟨ea,l,B,rfl,a,hn,b,j,i,g,n.next c (let ⟨o,e,_⟩:=a.there;⟨o,e⟩)⟩,F.os,F.bare,un,cc⟩
theorem Ds.obj(L:Ds X pins st H s ea cls fd):H ea=none/\(∃ o,s.heap.get? ea=some o/\o.cls=cls)/\∃ s0:aa,s0.heap.get? ea=none/\∃ b,Inv X pins st b s0:=by
 obtain⟨b,s0,I,F⟩:=L;obtain⟨c,f,B,e,d,hn,a,j,h,g,i⟩:=F.ex;cases e;exact⟨hn,d.there,s0,a,b,I⟩
theorem YE{k:Hp}{s0:aa}{a:Addr}{o:vc}{φ:Heap->Prop}(I:Inv X pins st H s)(f:Inv X pins st k s0)(d:s0.heap.get? a=none)(hn:H a=none)(r:s.heap.get? a=some o)(i:φ s.heap)
  (t:∀ h1 j:Heap,φ h1->(∀ u,h1.get? a=some u->j.get? a=some u)->φ j):Inv X pins st (upd H a (.ext φ)) s:=by
 have ne:∀ b u,s0.heap.get? b=some u->b≠a:=λb u e z=>by rw[z,d]at e;cases e
 have nt:∀ b u,H b=some u->b≠a:=λb u e z=>by rw[z,hn]at e;cases e
 have w:∀ b u,X.s₀.heap.get? b=some u->b ∉ X.ex->b≠a:=λb u e g=>by obtain⟨E,l⟩:=f.base.there b u e g;exact ne b E l
 refine⟨I.ok,I.os,I.bare,⟨I.base.keep,I.base.slot,λb u e n g=>?_,I.base.there,λb xs e=>?_,λb y u e=>?_,λb D e=>?_⟩,I.loc,I.cell,?_,λx c e=>?_,λp hp=>?_,λb u e=>?_,I.len⟩
 ·rw[yd (w b u e g)];exact I.base.free b u e n g
 ·have q:=I.base.Uh b xs e;rw[yd (nt b _ q)];exact q
 ·have q:=I.base.ah b y u e;rw[yd (nt b _ q)];exact q
 ·obtain⟨more,q⟩:=I.base.Gh b D e;exact⟨more,by rw[yd (nt b _ q)];exact q⟩
 ·obtain⟨m,⟨u,_,_,h,_⟩,_⟩:=f.loc;rw[yd (ne _ u h)];exact I.free
 ·obtain⟨v,u,h,_⟩:=f.cell x c e;rw[yd (ne _ u h)];exact I.dg x c e
 ·obtain⟨A,B,C⟩:=I.pin p hp;refine⟨A,?_,C⟩;rw[yd (ne _ _ (f.pin p hp).1)];exact B
 ·by_cases hb:b=a
  ·subst hb;rw[Og]at e;cases e;exact⟨i,⟨o,r⟩,t⟩
  ·rw[yd hb]at e;exact(I.cc b u e).Oj (λc v _ q=>q) (λc q=>by rw[yd (nt c _ q)];exact q) λc xs q=>by rw[yd (nt c _ q)];exact q
theorem PJ{C a:Addr}{dd:Option Addr}:∀ h1 h2:Heap,sw C dd a h1->(∀ u,h1.get? a=some u->h2.get? a=some u)->sw C dd a h2:=λh1 h2 ⟨u,b,q⟩ k=>⟨u,k u b,q⟩
theorem R4{a:Addr}{n:Nat}:∀ h1 h2:Heap,Oz a n h1->(∀ u,h1.get? a=some u->h2.get? a=some u)->Oz a n h2:=λh1 h2 ⟨u,b,q⟩ k=>⟨u,k u b,q⟩
theorem Ds.aA(L:Ds X pins st H s ea (.ref C) fd):∃ dd f,Inv X pins st f s/\f ea=some (.ext (sw C dd ea))/\(∀ n,fd=some n->∃ a,dd=some a/\H a=none/\f a=some (.ext (Oz a n)))/\(∀ b u,H b=some u->f b=some u)/\∀ b u,f b=some u->H b=some u\/H b=none:=by
 have I:=L.inv;obtain⟨J,s0,k,F⟩:=L;obtain⟨y,K,B,e,i,hn,c,O,N,M,A⟩:=F.ex;cases e;obtain⟨o,d,hc⟩:=i.there;cases p:fd with
 |none=>
  have l:=YE (φ:=sw C none ea) I k c hn d ⟨o,d,hc,λ_ z=>by cases z⟩ PJ;refine⟨none,_,l,Og,(λn q=>by cases q),λb u e=>?_,λb u e=>?_⟩
  ·rw[yd (λz=>by rw[z,hn]at e;cases e)];exact e
  ·by_cases hb:b=ea
   ·rw[hb];exact .inr hn
   ·rw[yd hb]at e;exact .inl e
 |some n=>
  obtain⟨a,oD,t,v,D,w,E,j,G⟩:=A n p;have r:t=o:=by rw[d]at v;cases v;rfl
  subst r;have g:=i.1 a oD w;have h:a≠ea:=λz=>by
   have:=i.2.1;rw[<-z,w]at this;cases this
  have l:=YE (φ:=sw C (some a) ea) I k c hn d ⟨t,d,hc,λ_ z=>by cases z;exact⟨D,i.LI d⟩⟩ PJ;have x:=YE (φ:=Oz a n) l k G (by rw[yd h];exact j) g ⟨oD,g,E⟩ R4;refine⟨some a,_,x,by rw[yd (He h)];exact Og,λm q=>?_,λb u e=>?_,λb u e=>?_⟩
  ·cases q;exact⟨a,rfl,j,Og⟩
  ·rw[yd (λz=>by rw[z,j]at e;cases e),yd (λz=>by rw[z,hn]at e;cases e)];exact e
  ·by_cases hd:b=a
   ·rw[hd];exact .inr j
   ·rw[yd hd]at e;by_cases hb:b=ea
    ·rw[hb];exact .inr hn
    ·rw[yd hb]at e;exact .inl e
theorem RY(I:Inv X pins st H s)(l:X.stack=X.env::X.outer)(x:X.env.frame=some X.env.locals){s':aa}{p:Hp}{e:Value}(F:Yw X.prog X.w X.stack H s cls fd p e s'){M:Lk}{E:Value->aa->Prop}{Q:Value->aa->Prop}
  (h:∀ ea d,e=.ref ea->Ds X pins st p d ea cls fd->Q e d):wpAny M X.A (vg e X.env) (λ_ s2=>wpAny M X.A (Qh e none) (λ_ y=>Q e y) E s2) E s':=by
 obtain⟨ea,f,B,rfl,q,hn,c,u,t,r,v⟩:=F.ex;have j:Xp B (X.env::X.outer) ea cls f s'.heap:=by rw[<-l];exact q
 refine vQ (by rw[<-l];exact I.ok.frames) x j λh4 b m g=>?_;refine RI (eP b) λh5 k n i=>h ea _ rfl ?_;have a:Xp B X.stack ea cls f h5:=by rw[l];exact k
 obtain⟨un,cc⟩:=RF F t u r q.1 a.1 (m.trans n) (wG I);exact⟨H,s,I,⟨ea,f,B,rfl,a,hn,c,u,t,r,v.next (g.trans i) (let ⟨o,e,_⟩:=a.there;⟨o,e⟩)⟩,F.os,F.bare,un,cc⟩
end
noncomputable def kF(X:Cx)(x:Str)(cv:Value):Prop:=X.mg x=some cv\/(X.mg x=none/\bootBuiltins x=some cv/\x ≠ "__name__")
inductive Px(T:Tb)(X:Cx):List cg->List Hd->Prop where
 |nil {r:List cg}:Px T X r []
 |cons {x:Str} {np pos:Ke} {cv:Value} {b₀:Stmt} {suite:List Stmt} {t:Nat->Option Bool} {g:Ev->M Fl} {r:List cg} {hs:List Hd} (hg:Gl X x) (hd:(x == ("__debug__" : Str))=false) (hm:kF X x cv) (ht:∀ c b,t c=some b->W.exmOne X.K (.ref (T.ca c)) cv=some b)
   (hb:∀ e,Do T (Cx.xt X e) (b₀::suite) g) (hr:Px T X r hs):Px T X (.ExceptHandler (some (.Name x np)) none (b₀::suite) pos::r) (⟨t,none,g⟩::hs)
 |ux {x n:Str} {i:Nat} {np pos:Ke} {cv:Value} {b₀:Stmt} {suite:List Stmt} {t:Nat->Option Bool} {g:Ev->M Fl} {r:List cg} {hs:List Hd} (hg:Gl X x) (hd:(x == ("__debug__" : Str))=false) (hm:kF X x cv) (ht:∀ c b,t c=some b->W.exmOne X.K (.ref (T.ca c)) cv=some b)
   (hN:X.N.Nodup) (hi:X.N[i]?=some n) (hl:X.env.scope.names.lookup n=some .local)
   (hb:∀ e,Do T (Cx.xt X e) (b₀::suite) g) (hr:Px T X r hs):Px T X (.ExceptHandler (some (.Name x np)) (some n) (b₀::suite) pos::r) (⟨t,some i,g⟩::hs)
section
variable{T:Tb}{X:Cx}
theorem GO{a:List (Addr × vc)}{st:St}{H:Hp}{s:aa}{x:Str}{cv:Value}{b:Ke}{E:Value->aa->Prop}{Q:Value->aa->Prop}(I:Inv X a st H s)(c:Gl X x)(hd:(x == ("__debug__" : Str))=false)(hm:kF X x cv)(h:Q cv s):wpAny (model X.prog X.w) X.A (bc (.Name x b) X.env) Q E s:=by
 rcases hm with hm|⟨hm,d,hn⟩
 ·exact Ny I c hm h hd
 ·exact jw I c hm d h hn hd
theorem V0{e:Value}{μ:List Addr}{H:Hp}{o:Out Fl}{D:Ends}(hp:Kb T EN (Rk T) μ H (o.bind yD) (Jj X D)):Kb T EN (Rk T) μ H o (Jj (Cx.xt X e) D):=by
 cases o with
 |bad=>exact hp
 |ex x σ=>exact hp
 |ok h σ=>
  intro a gl c d f b;cases h with
  |nx g=>cases gl with
   |nx st=>exact hp a (.nx st) c d f b
   |_=>exact b.elim
  |rt g=>cases gl with
   |rt st=>exact hp a (.rt st) c d f b
   |_=>exact b.elim
  |bk g=>cases gl with
   |bk st=>exact hp a (.bk st) c d f b
   |_=>exact b.elim
  |ct g=>cases gl with
   |ct st=>exact hp a (.ct st) c d f b
   |_=>exact b.elim
  |xc g x=>exact hp.elim
theorem bH{μ:List Addr}{H:Hp}{ρ:Ev}{st:St}(h:gh T μ H ρ st)(i:Nat):gh T μ H (ρ.set i none) (st.set i none):=by
 refine⟨by simpa using h.1,λj d q=>?_⟩;rw[qc]at q;by_cases a:i=j
 ·subst a;rw[da rfl]at q;split at q<;>cases q
 ·rw[ga a]at q;obtain⟨v,h1,b⟩:=h.2 j d q;exact⟨v,by rw[qc,ga a];exact h1,b⟩
theorem CU{e:Value}{μ:List Addr}{H:Hp}{o:Out Fl}{D:Ends}{i:Nat}(hp:Kb T EN (Rk T) μ H (o.bind (ZM i)) (Jj X D)):Kb T EN (Rk T) μ H o (Jj (Cx.xt X e) ⟨λst H=>D.nx (st.set i none) H,D.rt,λst H=>D.bk (st.set i none) H,λst H=>D.ct (st.set i none) H⟩):=by
 cases o with
 |bad=>exact hp
 |ex x σ=>exact hp
 |ok h σ=>
  intro a gl c d f b;cases h with
  |nx g=>cases gl with
   |nx st=>exact hp a (.nx (st.set i none)) c d f (bH b i)
   |_=>exact b.elim
  |rt g=>cases gl with
   |rt st=>exact hp a (.rt st) c d f b
   |_=>exact b.elim
  |bk g=>cases gl with
   |bk st=>exact hp a (.bk (st.set i none)) c d f (bH b i)
   |_=>exact b.elim
  |ct g=>cases gl with
   |ct st=>exact hp a (.ct (st.set i none)) c d f (bH b i)
   |_=>exact b.elim
  |xc g x=>exact hp.elim
theorem YS{a:List (Addr × vc)}{st:St}{H:Hp}{s:aa}{n:Str}{i t:Nat}{h':Heap}{m:Str->Option Value}(I:Inv X a st H s)(hN:X.N.Nodup)(R:X.N[i]?=some n)(hl:X.env.scope.names.lookup n=some .local)(hn:s.heap.Ns X.env.locals m){w:Option Value}(E:h'.Ns X.env.locals λy=>if y=n then w else m y)(d:uf X.env.locals s.heap h'):Inv X a (st.set i none) H { s with heap:=h',toks:=t }:=by
 have f:∀ b o,X.s₀.heap.get? b=some o->b≠X.env.locals:=λb o e=>Ea (Ha (va e) I.ok.above);obtain⟨G,D,l⟩:=I.loc;have M:G=m:=by
  obtain⟨o,es,Z,T,hd,hk,Q⟩:=D;obtain⟨J,P,O,x,h,S,B⟩:=hn;rw[T]at x;cases x;rw[hd]at h;cases h;funext y;rw[<-Q y,<-B y]
 subst M;refine⟨I.ok,I.os,I.bare,⟨λb o e n hb A=>(d.2 b (f b o e)).trans (I.base.keep b o e n hb A),λb o e n hb A=>?_,I.base.free,λb o e A=>?_,I.base.Uh,I.base.ah,I.base.Gh⟩,⟨_,E,λj y v F g L=>?_⟩,λy c e=>?_,I.free,I.dg,λp hp=>?_,xF I.cc λb o u e q=>?_,by simpa using I.len⟩
 ·obtain⟨Y,q⟩:=I.base.slot b o e n hb A;exact⟨Y,(d.2 b (f b o e)).trans q⟩
 ·obtain⟨J,q⟩:=I.base.there b o e A;exact⟨J,(d.2 b (f b o e)).trans q⟩
 ·rw[qc]at g;by_cases C:i=j
  ·subst C;rw[da rfl]at g;split at g<;>cases g
  ·rw[ga C]at g;obtain⟨u,r,lk⟩:=l j y v F g L;refine⟨u,r,?_⟩;have hy:y≠n:=λz=>C (XH hN R (z ▸ F));rcases lk with⟨k,q⟩|⟨k,c,q,z⟩
   ·exact .inl ⟨k,by show (if y=n then w else G y)=some u;rw[ga hy];exact q⟩
   ·exact .inr ⟨k,c,q,z.sameBut d (I.fv y c q)⟩
 ·obtain⟨v,z⟩:=I.cell y c e;exact⟨v,z.sameBut d (I.fv y c e)⟩
 ·obtain⟨U,V,K,W⟩:=I.pin p hp;exact⟨(d.2 p.1 K).trans U,V,K,W⟩
 ·exact(d.2 b λz=>by rw[z,I.free]at e;cases e).trans q
theorem D1{D:Ends}{c:List (Addr × vc)}{st:St}{H:Hp}{d:Addr}{x:Xn}{μ:List Addr}{ρ:Ev}{σ:Ya}{U:List cg}{hs:List Hd}(h:Px T X U hs)(hE:gh T μ H ρ st)(hr:Rel T μ H σ)(hp:Kb T EN (Rk T) μ H (Jv ρ x hs σ) (Jj X D)) :
  ∀ s,Ds X c st H s d (T.cv x) (Ry x.cls)->wpAny (model X.prog X.w) X.A (nJ (.ref d) X.env U) (SP X c D) X.xe s:=by
 induction h with
 |nil=>exact hp.elim
 |@cons y np pos cv R P t g r hs hg hd hm ht hb N ih=>
  intro s L;have I:=L.inv;obtain⟨_,⟨o,ho,hc⟩,_⟩:=L.obj;refine Tw (Tu (GO (X:=Cx.xt X (.ref d)) (PD I) hg hd hm ?_)) (by intro q;cases q);unfold Jv at hp;dsimp only at hp;cases K:t x.cls with
  |none=>rw[K]at hp;exact hp.elim
  |some b=>
   rw[K]at hp;have LT:W.Looks (model X.prog X.w) s.heap (Sq (.ref d)) (T.cv x):=by rw[<-hc];exact(W.Looks.ld ho).andThen .now
   refine(W.exm_one I.Gj LT (ht x.cls b K)).here ?_;cases b with
   |false=>exact ih hp s L
   |true=>
    refine codeAny_handlers_suite (L.next λs' Z=>?_);exact Rb (hb (.ref d) c s' st H D (PD Z.inv) ⟨μ,ρ,σ,hE,hr,V0 hp⟩) (λf s2 q=>UX I.ok q) λ_ _ z=>z.elim
 |@ux y n i np pos cv R P t g r hs hg hd hm ht hN hi hl hb N ih=>
  intro s L;have I:=L.inv;obtain⟨_,⟨o,ho,hc⟩,_⟩:=L.obj;refine Tw (Tu (GO (X:=Cx.xt X (.ref d)) (PD I) hg hd hm ?_)) (by intro q;cases q);unfold Jv at hp;dsimp only at hp;cases K:t x.cls with
  |none=>rw[K]at hp;exact hp.elim
  |some b=>
   rw[K]at hp;have LT:W.Looks (model X.prog X.w) s.heap (Sq (.ref d)) (T.cv x):=by rw[<-hc];exact(W.Looks.ld ho).andThen .now
   refine(W.exm_one I.Gj LT (ht x.cls b K)).here ?_;cases b with
   |false=>exact ih hp s L
   |true=>
    refine codeAny_handlers_suite_as (L.next λs' Z=>?_);have hn:H d=none:=Z.obj.1;obtain⟨dd,H1,I1,a1,a0,B,a4⟩:=Ds.aA Z;have l:∀ b,b∈μ->∃ u,H b=some u:=λb z=>by obtain⟨u,C,_⟩:=hr.mem z;exact⟨u,C⟩
    have M:Ext μ H μ H1:=⟨⟨[],by simp⟩,λp xs e=>B _ _ e,λp o u e=>B _ _ e,λp o e n=>⟨⟨o,B _ _ e,.inl rfl⟩,n⟩⟩
    have out:d ∉ μ:=λz=>by obtain⟨u,C⟩:=l _ z;rw[hn]at C;cases C
    have rp:Rep T μ H1 (.Kr x.cls) (.ref d):=by
     rw[Rep];refine⟨d,dd,rfl,out,a1,λn q=>?_⟩;obtain⟨dN,z1,z2,z3⟩:=a0 n q;exact⟨dN,z1,λz=>(by obtain⟨u,C⟩:=l _ z;rw[z2]at C;cases C),z3⟩
    refine yE (X:=Cx.xt X (.ref d)) (v:=.ref d) (PD I1) hN hi (.inl hl) rfl (λs2 I2=>?_) (.inr hl);refine Rb (hb (.ref d) c s2 _ _ ⟨λst H=>D.nx (st.set i none) H,D.rt,λst H=>D.bk (st.set i none) H,λst H=>D.ct (st.set i none) H⟩ I2 ⟨μ,ρ.set i (some (.Kr x.cls)),σ,(hE.mono M).set i rp,hr.keep M (λa ha=>by obtain⟨u,C⟩:=l a ha;rw[B _ _ C,C]) (hr.tb.grow B),CU (Kb.mono M hp)⟩) (λf s3 q=>?_) λ_ _ z=>z.elim;have S:(X.env.scope.kind == .class || (X.env.scope.kind == .module && X.env.locals != X.env.globals))=false:=by rw[I.ok.kind];rfl
    have go:∀ {j:St} {F:Hp},Inv (Cx.xt X (.ref d)) c j F s3->(∀ Q,Inv X c (j.set i none) F Q->SP X c D f Q)->wpAny (model X.prog X.w) X.A (do bindName X.env n .none;unbindBehindTheSuite X.env n pos) (λ_ Y=>SP X c D f Y) X.xe s3:=fun {j F} E k=>by
     have J:=Xz I.ok E;obtain⟨m,V,_⟩:=id J.loc;exact wpAny_nameGoes_keeps hl V S λh4 v4 a2 a3=>k _ (YS J hN hi hl V a2 a3)
    cases f with
    |next=>obtain⟨j,F,E,O⟩:=q;exact go E λQ G=>⟨_,_,G,O⟩
    |brk=>obtain⟨j,F,E,O⟩:=q;exact go E λQ G=>⟨_,_,G,O⟩
    |cont=>obtain⟨j,F,E,O⟩:=q;exact go E λQ G=>⟨_,_,G,O⟩
    |ret u=>obtain⟨v,j,F,E,r3,O⟩:=q;exact go E λQ G=>⟨v,_,_,G,r3,O⟩
theorem VM{body:List Stmt}{h₀:cg}{h:List cg}{v:List Hd}{g:Ev->M Fl}{B:Ke}(y:X.stack=X.env::X.outer)(S:X.env.frame=some X.env.locals)
  (hb:∀ a xe,Yo (model X.prog X.w) X.A X.env xe->Do T (Cx.QB X a xe) body g) (U:Px T X (h₀::h) v):FS T X (.Try body (h₀::h) [] [] B) (lE g v):=by
 intro a s st H D I W;obtain⟨J,j,E,R,V,hp⟩:=W;refine wpAny_Try_except ?_;refine Rb (hb a (λe m=>wpAny (model X.prog X.w) X.A (vg e X.env) (λ_ n=>wpAny (model X.prog X.w) X.A (Qh e none) (λ_ c=>wpAny (model X.prog X.w) X.A (nJ e X.env (h₀::h)) (SP X a D) X.xe c) X.xe n) X.xe m) Z7 [] s st H D (YW I)
  ⟨J,j,E,R,V,?_⟩) (λf s1 q=>?_) λ_ _ z=>z
 ·have b:Kb T EN (Rk T) J H ((g j E).bind (Rz v)) (Jj X D):=hp;cases r:g j E with
  |bad=>rw[r]at b;exact b
  |ex x G=>rw[r]at b;exact b
  |ok P G=>
   rw[r]at b;intro i gl o N l d;have k:=b.mono N;cases P with
   |nx j=>cases gl with
    |nx st=>exact k i (.nx st) o (Ext.refl _ _) l d
    |_=>exact d.elim
   |rt j=>cases gl with
    |rt st=>exact k i (.rt st) o (Ext.refl _ _) l d
    |_=>exact d.elim
   |bk j=>cases gl with
    |bk st=>exact k i (.bk st) o (Ext.refl _ _) l d
    |_=>exact d.elim
   |ct j=>cases gl with
    |ct st=>exact k i (.ct st) o (Ext.refl _ _) l d
    |_=>exact d.elim
   |xc Z x=>cases gl with
    |xc Y cls fd=>
     obtain⟨t,rfl,rfl⟩:=d;refine⟨λp0 H0 s0 e s' K F=>?_⟩;exact RY (lA K) y S F (Q:=λe c=>wpAny (model X.prog X.w) X.A (nJ e X.env (h₀::h)) (SP X a D) X.xe c) λea C O L=>by subst O;exact D1 U t l k C L
    |_=>exact d.elim
 ·have p:=yZ q;cases f with
  |next=>exact Hj p
  |brk=>exact p
  |cont=>exact p
  |ret u=>exact p
end
theorem ZZ{T:Tb}{X:Cx}{r:Stmt}{i:Nat}{f:Ev->M D}(h:FS T X r (Ue i f)):FS T X r (Ue i (mi f)):=by
 intro p s st H D I P;obtain⟨t,c,g,E,y,hp⟩:=P;refine h p s st H D I ⟨t,c,g,E,y,?_⟩;have a:Kb T EN (Rk T) t H (xs c (db (f c)) (WA i c) g) (Jj X D):=hp;show Kb T EN (Rk T) t H (xs c (f c) (WA i c) g) (Jj X D);unfold xs db at a;unfold xs;cases e:f c g with
 |bad=>rw[e]at a;exact a
 |ex x k=>
  rw[e]at a;unfold Ng at a;dsimp only at a ⊢;by_cases l:k.take g.length=g
  ·rw[da l]at a;intro u gl w n z q;cases gl with
   |xc st1 L C=>
    obtain⟨G,A⟩:=Rel.down y z n l;obtain⟨K,Q⟩:=q;refine a t (.xc st1 L C) w A G ⟨⟨K.1,λj d b=>?_⟩,Q⟩;obtain⟨v,h1,o⟩:=K.2 j d b;obtain⟨J,_,h4⟩:=E.2 j d b;exact⟨v,h1,Rep.down n.pre d J v h4 o⟩
   |_=>exact q.elim
  ·rw[ga l]at a;exact a.elim
 |ok d k=>
  rw[e]at a;unfold Ng at a;dsimp only at a ⊢;by_cases l:k.take g.length=g
  ·rw[da l]at a;cases B:fz g.length k 6 d with
   |none=>rw[B]at a;exact a.elim
   |some N=>
    rw[B]at a;intro u gl w n z q;cases gl with
    |nx st1=>
     obtain⟨G,A⟩:=Rel.down y z n l;have m:gh T u w (c.set i (some d)) st1:=q;refine a t (.nx st1) w A G ⟨by simpa using m.1,λj x b=>?_⟩;rw[qc]at b;by_cases F:i=j
     ·subst F;rw[da rfl]at b;split at b
      ·rename_i O
       cases b;obtain⟨v,h1,o⟩:=m.2 i d (by rw[qc,da rfl,da O]);exact⟨v,h1,GK n.pre z 6 d N v (by rw[y.len];exact B) o⟩
      ·cases b
     ·rw[ga F]at b;obtain⟨v,h1,o⟩:=m.2 j x (by rw[qc,ga F];exact b);obtain⟨J,_,h4⟩:=E.2 j x b;exact⟨v,h1,Rep.down n.pre x J v h4 o⟩
    |_=>exact q.elim
  ·rw[ga l]at a;exact a.elim
noncomputable def Ly:List D->Option (List Bool)
 |[]=>some []
 | .bl b::r=>(Ly r).map (b::·)
 |_::_=>none
noncomputable def As:List D->Option (List Int)
 |[]=>some []
 | .int b::r=>(As r).map (b::·)
 |_::_=>none
theorem JN{T:Tb}{μ:List Addr}{H:Hp}:∀ {ds:List D} {vs:List V} {bs:List Bool},Ua T μ H ds vs->Ly ds=some bs->vs=bs.map V.bl
 |[],vs,bs,r,h=>by cases h;rw[Ua]at r;exact r
 |d::ds,vs,bs,r,h=>by
  rw[Ua]at r;obtain⟨v,w,rfl,h1,e⟩:=r;cases d with
  |bl b=>
   obtain⟨f,a,c⟩:=Lb.mp h;subst c;rw[Rep]at h1;subst h1;rw[JN e a];rfl
  |_=>cases h
theorem MC{T:Tb}{μ:List Addr}{H:Hp}:∀ {ds:List D} {vs:List V} {bs:List Int},Ua T μ H ds vs->As ds=some bs->vs=bs.map V.int
 |[],vs,bs,r,h=>by cases h;rw[Ua]at r;exact r
 |d::ds,vs,bs,r,h=>by
  rw[Ua]at r;obtain⟨v,w,rfl,h1,e⟩:=r;cases d with
  |int b=>
   obtain⟨f,a,c⟩:=Lb.mp h;subst c;rw[Rep]at h1;subst h1;rw[MC e a];rfl
  |_=>cases h
noncomputable def Hx(xs:List D):M D:=λa=>match xs with
 |[x]=>(match (vj a x).bind Ly with
  |some bs=>.ok (.bl (bs.all id)) a
  |none=>.bad)
 |_=>.bad
noncomputable def Qs(xs:List D):M D:=λa=>match xs with
 |[x]=>(match (vj a x).bind As with
  |some bs=>.ok (.int bs.sum) a
  |none=>.bad)
 |_=>.bad
section
variable{T:Tb}{X:Cx}
noncomputable def aK(K:W.Frag)(g:List Bool->Bool):List V->Hp->VK->Prop:=λxs H Q=>∃ p bs,xs=[.ref p]/\(Qe K H p (bs.map V.bl)\/ph K H p (bs.map V.bl))/\Q (.bl (g bs)) H
noncomputable def uK(K:W.Frag):List V->Hp->VK->Prop:=λxs H Q=>∃ (p:Addr) (bs:List Int),xs=[.ref p]/\(Qe K H p (bs.map V.int)\/ph K H p (bs.map V.int))/\Q (.int bs.sum) H
theorem ZJ:∀ {bs:List Bool} {us:List Value},Ud (bs.map V.bl) us->us=bs.map kf
 |[],us,h=>by cases h;rfl
 |b::bs,us,h=>by
  cases h with
  |cons r t=>cases r;rw[ZJ t];rfl
theorem PM{a:Type}(g:a->Bool)(d:a):∀ (bs:List a),(List.range bs.length).all (λi=>g (bs.getD i d))=bs.all g
 |[]=>rfl
 |b::bs=>by
  rw[Gb,jq,Qf,lq,Qf];congr 1;rw[<-PM g d bs];congr 1
theorem PX{prog:wa}{w:Ja}{A:Ia}(bs:List Bool):TruthOf prog w A (λi v=>(bs.map kf).toArray[i]?=some v) (λi=>bs.getD i false):=by
 intro i v s Q E a d;simp only[Mq,Ab]at a;cases e:bs[i]? with
 |none=>rw[e]at a;cases a
 |some b=>
  rw[e]at a;cases a;have c:Q (bs.getD i false) s:=d;rw[qf,e]at c;exact Yc c
theorem nQ{s:aa}{o:vc}{h':Heap}(k:∀ b u,b ∉ [s.heap.objs.size]->(s.heap.push o).get? b=some u->h'.get? b=some u):∀ b u,s.heap.get? b=some u->h'.get? b=some u:=λb u e=>
 k b u (λz=>absurd (va e) (by rw[Ts.mp z];exact pd _)) (la _ e)
theorem eK{c:List (Addr × vc)}{s:aa}{st:St}{H:Hp}{p:Addr}{vs:List V}{E:Value->aa->Prop}{Q:Value->aa->Prop}(j:X.A.handled=none)(I:Inv X c st H s)(hq:Qe X.K H p vs\/ph X.K H p vs)
  (h:∀ (its:List Value) (It:Addr) (g:List Addr) (St:Nat->Heap->Prop) (s2:aa),Ud vs its->Walks X.prog X.w X.A.in1 It g [It] its.toArray.size (λi v=>its.toArray[i]?=some v) St->St 0 s2.heap->(∀ b∈g,b<s2.heap.objs.size)->
   (∀ h' tk,(∀ b o,b ∉ [It]->s2.heap.get? b=some o->h'.get? b=some o)->Inv X c st H { s2 with heap:=h',toks:=tk })->Q (.ref It) s2):wpAny (model X.prog X.w) X.A.in1 (pyIter (.ref p)) Q E s:=by
 rcases hq with hq|hq
 ·obtain⟨its,f,pl,k⟩:=I.list hq;have a:p<s.heap.objs.size:=by obtain⟨_,e,_⟩:=pl.isList;exact va e
  refine Pn pl.isList (h its s.heap.objs.size [s.heap.objs.size,p] _ _ f (Qn (A:=X.A.in1) j _ p (Ea a) its.toArray) ⟨⟨_,Xa _ rfl,rfl,rfl⟩,pl.isList.push _⟩ (λb hb=>?_) (λh' tk d=>I.kept (nQ d)));show b<(s.heap.push _).objs.size;rw[eg];simp only[La,Nd,vm]at hb;rcases hb with rfl|rfl
  ·exact Oc _
  ·exact Ph a
 ·obtain⟨its,f,pl,k⟩:=I.tuple hq;have a:p<s.heap.objs.size:=pl.lt;refine fy (show s.heap.IsTuple p _ from pl) (h its s.heap.objs.size [s.heap.objs.size,p] _ _ f (Walks.tuple (A:=X.A.in1) j _ p (Ea a) its.toArray) ⟨⟨_,Xa _ rfl,rfl,rfl⟩,JE (show s.heap.IsTuple p _ from pl) _⟩ (λb hb=>?_) (λh' tk d=>I.kept (nQ d)));show b<(s.heap.push _).objs.size;rw[eg];simp only[La,Nd,vm]at hb;rcases hb with rfl|rfl
  ·exact Oc _
  ·exact Ph a
theorem bN(hc:X.calm=true):kn X (.builtin "all") (aK X.K λbs=>bs.all id):=by
 intro a s st H xs n Q I r h;obtain⟨p,bs,rfl,hq,q⟩:=h;obtain⟨u,rfl,g⟩:=js r;cases g;refine call_all_walk (eK (I.ok.hd hc) I hq λf It l St s2 j W h0 m d=>?_);have b:=ZJ j;subst b;refine⟨_,_,_,_,_,_,λi=>bs.getD i false,rfl,W,h0,PX bs,λc k e=>⟨.bl (bs.all id),H,d c k e,?_,q⟩⟩;show kf _=kf _;rw[pa,Ub];exact rc kf (PM id false bs)
theorem EM:∀ (bs:List Int) (n:Nat),n<=bs.length->preSum (λi=>bs.getD i 0) n=(bs.take n).sum
 |bs,0,_=>by simp[preSum]
 |bs,n+1,h=>by
  rw[preSum,EM bs n (by omega),List.take_succ_eq_append_getElem (by omega),List.sum_append];simp[qf,show n<bs.length by omega]
theorem kD(hc:X.calm=true):kn X (.builtin "sum") (uK X.K):=by
 intro d s st H xs A Q I r h;obtain⟨p,bs,rfl,hq,q⟩:=h;obtain⟨u,rfl,o⟩:=js r;cases o;refine call_sum_walkG (eK (I.ok.hd hc) I hq λa It z St s2 f W h0 m l=>?_);refine⟨_,_,_,_,_,_,λi=>bs.getD i 0,rfl,W,h0,m,λi v c=>?_,λj y w n=>⟨.int bs.sum,H,l j y n,⟨w,?_⟩,q⟩⟩
 ·simp only[Mq]at c;obtain⟨x,h1,k⟩:=fD f c;rw[Ab]at h1;cases e:bs[i]? with
  |none=>rw[e]at h1;cases h1
  |some b=>
   rw[e]at h1;cases h1;obtain⟨t,rfl⟩:=k;exact⟨t,by show xg b t=xg (bs.getD i 0) t;rw[qf,e];rfl⟩
 ·have g:a.toArray.size=bs.length:=by rw[pa,<-f.length,Ub]
  rw[g,EM bs _ (za _),wm]
theorem nP{a:Type}{σ:Ya}{x:D}{g:List D->Option a}{bs:a}(h:(vj σ x).bind g=some bs):∃ ys,vj σ x=some ys/\g ys=some bs:=Oh.mp h
theorem wJ(g:T.K=X.K):Bq T (aK X.K λbs=>bs.all id) Hx:=by
 intro E m H k xs j Q r p h
 match xs with
 |[]=>exact h.elim
 |[x]=>
  rw[Ua]at p;obtain⟨v,w,rfl,i,c⟩:=p;rw[Ua]at c;subst c;unfold Hx at h;cases e:(vj k x).bind Ly with
  |none=>simp only[e]at h;exact h.elim
  |some bs=>
   simp only[e]at h;obtain⟨l,d,f⟩:=nP e;obtain⟨b,j,rfl,h1,a⟩:=px r i d;rw[g,JN h1 f]at a;exact⟨b,bs,rfl,a,Kb.here h r (by rw[Rep])⟩
 |_::_::_=>exact h.elim
theorem jE(g:T.K=X.K):Bq T (uK X.K) Qs:=by
 intro E m H k xs j Q r p h
 match xs with
 |[]=>exact h.elim
 |[x]=>
  rw[Ua]at p;obtain⟨v,w,rfl,i,c⟩:=p;rw[Ua]at c;subst c;unfold Qs at h;cases e:(vj k x).bind As with
  |none=>simp only[e]at h;exact h.elim
  |some bs=>
   simp only[e]at h;obtain⟨l,d,f⟩:=nP e;obtain⟨b,j,rfl,h1,a⟩:=px r i d;rw[g,MC h1 f]at a;exact⟨b,bs,rfl,a,Kb.here h r (by rw[Rep])⟩
 |_::_::_=>exact h.elim
noncomputable def sE(xs:List D):M D:=match xs with
 |[.int i,.int j]=>ret (.int (max i j))
 |_=>bad
theorem fX{μ:List Addr}{H:Hp}{x y:D}{vs:List V}(p:Ua T μ H [x,y] vs):∃ v u,vs=[v,u]/\Rep T μ H x v/\Rep T μ H y u:=by
 rw[Ua]at p;obtain⟨v,w,rfl,b,a⟩:=p;rw[Ua]at a;obtain⟨u,d,rfl,c,p4⟩:=a;rw[Ua]at p4;subst p4;exact⟨v,u,rfl,b,c⟩
theorem UR:Bq T (λxs H Q=>∃ i j,xs=[.int i,.int j]/\Q (.int (if j > i then j else i)) H) sE:=by
 intro E d H f xs c Q r p h;unfold sE at h;split at h
 ·rename_i i j
  obtain⟨v,u,rfl,a,b⟩:=fX p;refine⟨i,j,by rw[Fp a,Fp b],?_⟩;have e:(if j > i then j else i)=max i j:=by rw[Int.max_def];split<;>split<;>omega
  rw[e];exact Kb.here h r (by rw[Rep])
 ·exact h.elim
noncomputable def Zt(ns:List Int):List Int:=ns.foldl step_dedup []
theorem i4(ns:List Int):firstMet (λi=>ns.getD i 0) ns.length=Zt ns:=by
 unfold firstMet Zt;congr 1;apply List.ext_getElem?;intro i;by_cases h:i<ns.length
 ·simp[h]
 ·simp[h]
noncomputable def UA(x:D):M D:=λa=>match (kh a x).bind As with
 |some ns=>if ns.length<=Rh then .ok (.int (Zt ns).length) a else .bad
 |none=>.bad
noncomputable def GW(K:W.Frag):List V->Hp->VK->Prop:=λxs H Q=>∃ (p:Addr) (ns:List Int),xs=[.ref p]/\Qe K H p (ns.map V.int)/\ns.length<=Rh/\∀ l,H l=none->Q (.ref l) (upd H l (.set (λk=>(Zt ns).any (·== k)) (Zt ns).length))
theorem J7{n:Nat}(h:n<=Rh):n+1<scanBound:=tu (Nat.succ_le_succ h) (by decide)
theorem UV(hc:X.calm=true):kn X (.type "set") (GW X.K):=by
 intro f s st H xs v Q I r h;obtain⟨p,ns,rfl,hq,j,q⟩:=h;obtain⟨u,rfl,l⟩:=js r;cases l;obtain⟨a,g,pl,t⟩:=I.list hq;have c:a.length=ns.length:=by rw[<-g.length,Ub]
 refine call_set_list (I.ok.hd hc) pl.isList (ns:=ns) (NO g) (by rw[pa,c];exact J7 j) λn m d i=>?_;rw[show a.toArray.size=ns.length by rw[pa,c],i4]at d;refine⟨.ref s.heap.objs.size,_,I.laid (t':=m) (o:=.set (λk=>(Zt ns).any (·== k)) (Zt ns).length) (λb o e=>i b o (va e) e) (za _) ?_,rfl,q _ (I.cc.fresh (za _))⟩;exact d
theorem Z0 : kn X (.builtin "len") (λxs H Q => ∃ (p : Addr) (S : Int -> Bool) (n : Nat), xs = [.ref p] /\ H p = some (.set S n) /\ Q (.int n) H) := by
  intro a s st H xs k Q I r h;obtain ⟨p, S, n, rfl, hp, q⟩ := h;obtain ⟨u, rfl, e⟩ := js r;cases e;obtain ⟨o, g, f, t, h1, b, h3, h4, i, j, c, d⟩ := (show Fi X.prog X.w H s.heap p (.set S n) from I.cc p _ hp)
  refine call_len_set h1 b h3 c (by have : scanBound <= 2 ^ 62 := (by decide);omega) ⟨.int n, H, I.tok _, ⟨_, by rw [d]⟩, q⟩
theorem V4{e:Ka}{f:Ev->M D}{p t k b:Ke}(U:T.K=X.K)(hc:X.calm=true)(G:Gl X "len")(hm:X.mg "len" = none)(n:Gl X "set")(q:X.mg "set" = none)(F:FE T X e f)
  (x:ua [e] X.env=(false,bc e X.env)::ua [] X.env:=by rfl) (r:(Mc b (ua [] X.env)).any (·.1)=false:=by rfl)
  (i:ua [.Call (.Name "set" t) [e] [] b] X.env=(false,bc (.Call (.Name "set" t) [e] [] b) X.env)::ua [] X.env:=by rfl) (g:(Mc k (ua [] X.env)).any (·.1)=false:=by rfl) :
  FE T X (.Call (.Name "len" p) [.Call (.Name "set" t) [e] [] b] [] k) (Wc UA f):=by
 intro j s st H Q I h;refine yG Z0 G hm Mb (Av (fP (UV hc) n q rfl (Av F Ux x) (by decide) (by decide) x r) Ux i) (by decide) (by decide) i g j s st H Q I ?_;obtain⟨N,O,P,E,J,hp⟩:=h;refine⟨N,O,P,E,J,hp.bind λd w u v R _ S y L c=>?_⟩;unfold UA at c;cases m:(kh w d).bind As with
 |none=>rw[m]at c;exact c.elim
 |some ns=>
  rw[m]at c;dsimp only at c;by_cases o:ns.length<=Rh
  ·rw[da o]at c;obtain⟨W,z,A⟩:=Oh.mp m;obtain⟨a,V,rfl,h1,C⟩:=y.ls L z;have B:=MC C A;subst B;refine⟨a,ns,rfl,Qe.of h1,o,λl hn=>?_⟩;exact⟨l,_,_,rfl,Og,c u (.int (Zt ns).length) _ (Sk hn) (y.fresh hn) (by rw[Rep])⟩
  ·rw[ga o]at c;exact c.elim
noncomputable def sv(xs:List D)(a b:Option Int):List D:=(xs.drop (HT.pf xs.length 0 a)).take (HT.pf xs.length xs.length b - HT.pf xs.length 0 a)
theorem CZ{xs:List D}{b a:Option Int}(h:HT.pf xs.length 0 b=0/\HT.pf xs.length xs.length a=xs.length):sv xs b a=xs:=by
 unfold sv;rw[h.1,h.2];simp
theorem pF{μ:List Addr}{H:Hp}{xs:List D}{vs:List V}(r:Ua T μ H xs vs)(b a:Option Int):Ua T μ H (sv xs b a) (lw vs b a):=by
 unfold sv lw;rw[r.length];exact Ua.take _ (Ua.drop _ r)
end
end L4
namespace HT
open PySem PySem.Spec PyProof.Rows
variable{prog:wa}{w:Ja}{A:Ia}{E:Value->aa->Prop}{s:aa}
theorem Nj{t j:Addr}{a:Array Value}{m n:Value}{c e:Option Int}{Q:Value->aa->Prop}(b:Xs s.heap t a)(k:s.heap.IsSliceOf j m n .none)(pl:Pk m c)(q:Pk n e)
  (l:pf a.size 0 c=0/\pf a.size a.size e=a.size) (h:Q (.ref t) s):wpAny (model prog w) A (zi (.ref t) (.ref j)) Q E s:=by
 obtain⟨os,i,g,p⟩:=id k;have f:s.TypeIs (.ref j) "slice":=⟨os,i,g⟩
 unfold zi;try with_reducible refine Ad ?_
 first|refine ba (ra ?_)|skip
 refine ba (jz b.typeIs (by decide) ?_);refine ba (Rs (name:=rg "__getitem__") b.typeIs pc
  (Wo pc b.typeIs Qw ?_ (ay _ _)))
 show wpAny _ _ (fk (.ref t) >>= _) _ _ s;refine ba (OQ b ?_);refine ba (ju f ?_);rw[da (by decide)];refine ba (jM k pl q ?_);have d:(((pf a.size 0 c:Nat):Int) == 0 && (1:Int) == 1 && (pf a.size a.size e - pf a.size 0 c) == a.size)=true:=by
  rw[l.1,l.2];simp
 show wpAny _ _ (if (((pf a.size 0 c:Nat):Int) == 0 && (1:Int) == 1 && (pf a.size a.size e - pf a.size 0 c) == a.size)=true then _ else _) _ _ s;rw[da d];obtain⟨o,r,hc,u⟩:=id b;unfold IB;refine ba (ba (ju b.typeIs ?_));refine ra ?_;rw[da (by decide)];refine ba (wpAny_rule ?_);first
  |exact ra ⟨_,rfl,ra h⟩
  |exact ra (ra ⟨_,rfl,ra h⟩)
  |exact ba (ra (ra ⟨_,rfl,ra h⟩))
end HT
namespace L4
open PySem PySem.Spec PyProof.Rows L2
section
variable{T:Tb}{X:Cx}
noncomputable def sQ(K:W.Frag):V->Option Int->Option Int->Hp->VK->Prop:=λx c b H Q=>∃ a xs,x=.ref a/\ph K H a xs/\(HT.pf xs.length 0 c=0/\HT.pf xs.length xs.length b=xs.length)/\Q (.ref a) H
theorem D4:Mu X (sQ X.K):=by
 intro e s st H x v p t n l o Q I k f pl j h;obtain⟨a,xs,rfl,i,g,q⟩:=h;cases k;obtain⟨c,r,d,m⟩:=I.tuple i;have b:c.toArray.size=xs.length:=by rw[pa];exact r.length.symm
 exact⟨"tuple",_,pc.lookup,d.typeIs,HT.Nj d f pl j (by rw[b];exact g) ⟨.ref a,H,I,rfl,q⟩⟩
noncomputable abbrev PF:=Option (Ev->M D)
noncomputable def SG(d:D):M (Option Int):=match d with
 | .int i=>ret (some i)
 |_=>bad
noncomputable def gx(p:PF):Ev->M (Option Int):=match p with
 |none=>λ_=>ret none
 |some f=>λa=>Xc (f a) SG
noncomputable def tP(T:Tb)(X:Cx)(f:Ev->M (Option Int)):TO:=λst H Q=>∃ c d e,gh T c H d st/\Rel T c H e/\Kb T (XE X st) (λ_ _ a b=>b=a) c H (f d e) Q
noncomputable abbrev FO(T:Tb)(X:Cx)(e:Option Ka)(p:PF):Prop:=PO X e (tP T X (gx p))
theorem fW:FO T X none none:=by
 intro a s st H Q I h;obtain⟨d,e,f,c,b,hp⟩:=h;exact MR a s st H Q I (Kb.here hp b rfl)
theorem OX{e:Ka}{f:Ev->M D}(g:FE T X e f):FO T X (some e) (some f):=by
 intro a s st H Q I h;refine zT g a s st H Q I ?_;obtain⟨m,o,p,c,j,hp⟩:=h;refine⟨m,o,p,c,j,Kb.bind hp λd q n v r _ t l k b=>?_⟩;cases d with
 |int i=>exact⟨i,Fp k,Kb.here b l rfl⟩
 |_=>exact b.elim
noncomputable def AN(x:D)(c b:Option Int):M D:=λa=>match x with
 | .tup xs=>.ok (.tup (sv xs c b)) a
 | .ae ns=>.ok (.lst (sv (ns.map D.int) c b)) a
 |x=>(match kh a x with
  |some xs=>.ok (.lst (sv xs c b)) a
  |none=>.bad)
noncomputable def CC(x:D)(b:Option Int)(a:Option Int):M D:=AN x b a
noncomputable def BI(x:D)(a:M (Option Int))(b:Option Int):M D:=Xc a (CC x b)
noncomputable def QI(b a:M (Option Int))(x:D):M D:=Xc b (BI x a)
noncomputable def hH(f:Ev->M D)(c b:PF):Ev->M D:=λa=>Xc (f a) (QI (gx c a) (gx b a))
theorem EW{e:Ka}{V U:Option Ka}{f:Ev->M D}{pl W:PF}{C B:Ke}(Z:T.K=X.K)(he:FE T X e f)(hl:FO T X V pl)(hh:FO T X U W):FE T X (.Subscript e (.Slice V U none B) C) (hH f pl W):=by
 intro w s st H Q I h;refine j6 (Mu.or RT (Mu.or D4 X4)) he hl hh w s st H Q I ?_;obtain⟨μ,N,σ,z,hr,hp⟩:=h;refine⟨μ,N,σ,z,hr,hp.bind λd O J v H1 _ R r1 q1 p1=>⟨J,N,O,z.mono R,r1,p1.bind λl P L g H2 _ S r2 q2 B=>⟨L,N,P,(z.mono R).mono S,r2,B.bind λu o y i r _ Y x q3 c=>?_⟩⟩⟩;have E:g=l:=q2;have F:i=u:=q3;subst E;subst F;have rd:Rep T y r d v:=Rep.mono Y _ _ (Rep.mono S _ _ q1);have b:∀ m,kh o d=some m->Kb T (XE X st) (Rep T) y r (.ok (.lst (sv m g i)) o) Q->gK X.K v g i r Q\/sQ X.K v g i r Q\/zK X.K v g i r Q:=λm t p4=>by
  obtain⟨a,j,rfl,h1,k⟩:=x.ls rd t;exact .inr (.inr ⟨a,j,rfl,Qe.of h1,λp hn=>nE p4 x (pF k g i) hn⟩)
 cases d with
 |tup xs=>
  have G:=rd;rw[Rep]at rd;obtain⟨p,j,rfl,h1,k⟩:=rd;by_cases A:HT.pf j.length 0 g=0/\HT.pf j.length j.length i=j.length
  ·refine .inr (.inl ⟨p,j,rfl,ph.of h1,A,Kb.here (d:=D.tup (sv xs g i)) c x ?_⟩);rw[CZ (by rw[k.length];exact A)];exact G
  ·exact .inl ⟨p,j,rfl,ph.of h1,A,λq hn=>Dy c x (pF k g i) hn⟩
 |ref n=>
  unfold CC AN at c;dsimp only at c;cases t:kh o (.ref n)with
  |none=>rw[t]at c;exact c.elim
  |some m=>rw[t]at c;exact b m t c
 |lst m=>exact b m rfl c
 |ae ns=>
  rw[Rep]at rd;obtain⟨p,rfl,h1⟩:=rd;have k:=h1.seq;rw[Z]at k;exact .inr (.inr ⟨p,_,rfl,k,λp hn=>nE c x (pF (HA ns) g i) hn⟩)
 |_=>exact c.elim
end
noncomputable def zH(K:W.Frag)(mg:Str->Option Value)(x:Str)(st:Stmt)(ps:List Str)(g:List Value):Prop:=
 ∃ f b,mg x=some (.ref f)/\W.keepIn K (.ref f)=true/\(∃ (h:Value) (i:Option Addr) (e kV c j:Value) (an:Option Addr) (a ct:Value) (d:Array (Option Value)),
  b=W.fnOf x x (Gn st) (pj st) (Kc st) e kV c j an a ct/\K.lookup f=some ⟨h,i,.func b,d⟩/\W.codeIn K a x=true)/\Iq K b ps []/\Iq K b ps g
noncomputable def Os(T:Tb)(P:wa)(w:Ja)(mg:Str->Option Value)(base:Heap)(k:Nat)(x:Str)(ps:List Str)(b:List Value)(fn:List D->M D):Prop:=
 ∃ f a,mg x=some (.ref f)/\W.keepIn T.K (.ref f)=true/\Iq T.K a ps []/\Iq T.K a ps b/\Xg P w T.K mg base (Al P w) k f a ps (Qo T ps.length fn)
section
variable{T:Tb}{X:Cx}
theorem wR{k:Nat}{ps:List Str}{j:List Value}{fn:List D->M D}{x:Str}{p b:Ke}{e:Ka}{a:List Ka}{fs:Ev->M (List D)}(h:Os T X.prog X.w X.mg X.base k x ps j fn)(l:T.K=X.K)(q:Ld k X.A)(o:Gl X x)
  (m:FA T X (e::a) fs) (c:(x == ("__debug__" : Str))=false:=by decide) (n:ua (e::a) X.env=(false,bc e X.env)::ua a X.env:=by rfl) (d:(Mc b (ua a X.env)).any (·.1)=false:=by rfl) :
  FE T X (.Call (.Name x p) (e::a) [] b) (qd ps.length fn [] fs):=by
 obtain⟨f,r,hm,i,hb,_,g⟩:=h;rw[l]at i g hb;exact iH (dds:=[]) (dvs:=[]) g q o hm i hb .nil (λ_ _=>Ua.nil) m c n d
theorem dX{k:Nat}{ps:List Str}{i:List Value}{dds:List D}{dvs:List V}{fn:List D->M D}{x:Str}{p b:Ke}{e:Ka}{a:List Ka}{fs:Ev->M (List D)}(h:Os T X.prog X.w X.mg X.base k x ps i fn)(m:T.K=X.K)(r:Ld k X.A)(q:Gl X x)(s:Ud dvs i)(d:∀ μ H,Ua T μ H dds dvs)
  (n:FA T X (e::a) fs) (c:(x == ("__debug__" : Str))=false:=by decide) (o:ua (e::a) X.env=(false,bc e X.env)::ua a X.env:=by rfl) (g:(Mc b (ua a X.env)).any (·.1)=false:=by rfl) :
  FE T X (.Call (.Name x p) (e::a) [] b) (qd ps.length fn dds fs):=by
 obtain⟨f,t,hm,l,_,hb,j⟩:=h;rw[m]at l j hb;exact iH (dds:=dds) (dvs:=dvs) j r q hm l hb s d n c o g
theorem Q5:Ud [V.zb] [Eb]:=.cons rfl .nil
theorem YX{T:Tb}(μ:List Addr)(H:Hp):Ua T μ H [D.zb] [V.zb]:=Ua.cons (by rw[Rep]) Ua.nil
variable{P:wa}{w:Ja}{K:W.Frag}{mg:Str->Option Value}{base:Heap}{ca:Nat->Addr}{tx:Tx}
theorem OY{k:Nat}{x:Str}{st:Stmt}{ps N:List Str}{c:List Value}{g:Ev->M Fl}(h:zH K mg x st ps c)(S:Aa N ps (Kc st))
  (hb:∀ (f:Addr) (a:Value) (A:Ia) (outer:List yg) (s:aa) (H:Hp) (E:XK),Ld k (A.deeper (Bg x (Kc st) s.heap.objs.size f a))->Do ⟨K,ca,tx⟩ (Ip (Al P w) P w K mg base N x (Kc st) f a A outer s H E) (pj st) g) :
  Os ⟨K,ca,tx⟩ P w mg base (k+1) x ps c (run N.length g):=by
 obtain⟨f,o,hm,j,⟨p,q,n,kV,i,r,m,a,ct,l,rfl,lk,b⟩,d,e⟩:=h;exact⟨f,_,hm,j,d,e,Gy lk b S (hb f a)⟩
theorem Os.db{k:Nat}{x:Str}{ps:List Str}{a:List Value}{fn:List D->M D}(h:Os T P w mg base k x ps a fn):Os T P w mg base k x ps a (λb=>L4.db (fn b)):=by
 obtain⟨f,c,h1,d,h3,h4,e⟩:=h;exact⟨f,c,h1,d,h3,h4,GC e⟩
theorem NV{h:Heap}{x:Str}{st:Stmt}{ps:List Str}{f t:Addr}{dv:List Value}{w r:Value}{od g u:Option Addr}{j v:Array (Option Value)}{kV e i b ct:Value}{q:Nat}(X:K.In h)(G:h.Ns mainGlobals mg)
  (hb:∀ (t:Addr) (kV e i:Value) (g:Option Addr) (b ct:Value) (s:aa) (o:vc) (n:Nat) (us:List Value),s.heap.get? t=some o->o.data=.seq dv.toArray n->((us++[]).length=ps.length->Tf s (W.fnOf x x (Gn st) (pj st) (Kc st) (.ref t) kV e i g b ct) ⟨us,[]⟩ (ps.zip (us++[])))/\
   ((us++dv).length=ps.length->Tf s (W.fnOf x x (Gn st) (pj st) (Kc st) (.ref t) kV e i g b ct) ⟨us,[]⟩ (ps.zip (us++dv))))
  (a:W.nsIn K mainGlobals x=some (some (.ref f))) (l:K.lookup f=some ⟨w,od,.func (W.fnOf x x (Gn st) (pj st) (Kc st) (.ref t) kV e i g b ct),j⟩)
  (c:W.codeIn K b x=true) (k:W.keepIn K (.ref f)=true) (d:K.lookup t=some ⟨r,u,.seq dv.toArray q,v⟩):zH K mg x st ps dv:=
 ⟨f,_,W.mg_of X G a,k,⟨w,od,_,kV,e,i,g,b,ct,j,rfl,l,c⟩,λs us m p=>(hb t kV e i g b ct s _ q us (m _ _ d) rfl).1 p,λs us m p=>(hb t kV e i g b ct s _ q us (m _ _ d) rfl).2 p⟩
end
noncomputable def rE(l:List (Nat × Bool)):Nat->Option Bool:=λc=>l.lookup c
abbrev kS:List Value:=[.type "ValueError",.type "Exception",.type "BaseException",.type "object"]
noncomputable def AE(K:W.Frag)(ca:Nat->Addr)(cv:Value)(l:List (Nat × Bool)):Prop:=∀ p∈l,W.exmOne K (.ref (ca p.1)) cv=some p.2
theorem VU{K:W.Frag}{ca:Nat->Addr}{cv:Value}:AE K ca cv []:=λ_ h=>nomatch h
theorem kW{K:W.Frag}{ca:Nat->Addr}{cv:Value}{c:Nat}{b:Bool}{l:List (Nat × Bool)}(h:W.exmOne K (.ref (ca c)) cv=some b)(r:AE K ca cv l):AE K ca cv ((c,b)::l):=λp hp=>by
 rcases La.mp hp with rfl|hp
 ·exact h
 ·exact r p hp
theorem EJ:∀ {l:List (Nat × Bool)} {c:Nat} {b:Bool},l.lookup c=some b->(c,b)∈l
 |[],_,_,h=>by simp at h
 |(n,d)::r,c,b,h=>by
  rw[Sa]at h;cases e:c == n with
  |true=>rw[e]at h;cases h;rw[eq_of_beq e];exact Pa
  |false=>rw[e]at h;exact Da _ (EJ h)
theorem gZ{K:W.Frag}{ca:Nat->Addr}{cv:Value}{l:List (Nat × Bool)}(h:AE K ca cv l):∀ c b,rE l c=some b->W.exmOne K (.ref (ca c)) cv=some b:=λc b e=>h (c,b) (EJ e)
theorem Pb.hide{T:Tb}{P:wa}{w:Ja}{mg:Str->Option Value}{base:Heap}{k:Nat}{x:Str}{ps:List Str}{fn:List D->M D}(h:Pb T P w mg base k x ps fn):Pb T P w mg base k x ps (L4.hide fn):=by rw[Gs];exact h
theorem Os.hide{T:Tb}{P:wa}{w:Ja}{mg:Str->Option Value}{base:Heap}{k:Nat}{x:Str}{ps:List Str}{a:List Value}{fn:List D->M D}(h:Os T P w mg base k x ps a fn):Os T P w mg base k x ps a (L4.hide fn):=by rw[Gs];exact h
section
variable{T:Tb}{X:Cx}{μ:List Addr}{H:Hp}{σ:Ya}
noncomputable def Ym(σ:Ya):D->Option (Nat × List (Str × D))
 | .obj c ns ds=>if ns.length=ds.length then some (c,ns.zip ds)else none
 | .ref n=>match σ[n]? with
  |some (.ins c fs)=>some (c,fs)
  |_=>none
 |_=>none
theorem RM:∀ {ns:List Str} {ds:List D} {fs:List (Str × V)},fs.map (·.1)=ns->Ua T μ H ds (fs.map (·.2))->Cr T μ H (ns.zip ds) fs
 |[],ds,[],_,h=>by
  rw[jh]at h;cases ds with
  |nil=>exact Paired.nil
  |cons d ds=>have:=h.length;simp at this
 |[],ds,f::fs,e,_=>by simp at e
 |n::ns,ds,[],e,_=>by simp at e
 |n::ns,[],f::fs,e,h=>by have:=h.length;simp at this
 |n::ns,d::ds,f::fs,e,h=>by
  simp only[Za,sr]at e;rw[Za,Ua]at h;obtain⟨v,r,a,h1,g⟩:=h;simp only[sr]at a;obtain⟨b,c⟩:=a;subst c;exact Paired.cons ⟨e.1.symm,by rw[b];exact h1⟩ (RM e.2 g)
theorem sy(r:Rel T μ H σ){d:D}{v:V}{c:Nat}{fs:List (Str × D)}(h:Rep T μ H d v)(e:Ym σ d=some (c,fs)):∃ a b vs,v=.ref a/\H a=some (.ins (T.ca c) b vs)/\Cr T μ H fs vs:=by
 cases d with
 |obj i ns ds=>
  unfold Ym at e;by_cases g:ns.length=ds.length
  ·simp only[g,ag,Ug,Prod.mk.injEq]at e;obtain⟨rfl,rfl⟩:=e;rw[Rep]at h;obtain⟨a,b,vs,rfl,_,h3,h4,l⟩:=h;exact⟨a,b,vs,rfl,h3,RM h4 l⟩
  ·simp[g]at e
 |ref n=>
  unfold Ym at e;dsimp only at e;cases f:σ[n]? with
  |none=>rw[f]at e;cases e
  |some o=>
   rw[f]at e;obtain⟨a,rfl,_,k⟩:=r.at h f;cases o with
   |ins i j=>cases e;obtain⟨b,vs,h3,h4⟩:=k;exact⟨a,b,vs,rfl,h3,h4⟩
   |lst _=>cases e
   |Db _=>cases e
   |Cf _=>cases e
   |yk _=>cases e
 |_=>cases e
theorem GA{f:Str}:∀ {fs:List (Str × D)} {vs:List (Str × V)},Cr T μ H fs vs->(∀ d,fs.lookup f=some d->∃ v,vs.lookup f=some v/\Rep T μ H d v)/\(fs.lookup f=none->vs.lookup f=none)
 |_,_,.nil=>⟨λd e=>by simp at e,λ_=>rfl⟩
 |(g,x)::fs,(g',v)::vs,.cons ⟨e,h⟩ t=>by
  have c:g=g':=e;subst c;obtain⟨h1,i⟩:=GA t;by_cases b:(f == g)=true
  ·refine⟨λd q=>?_,λq=>?_⟩
   ·rw[Sa,b]at q;cases q;exact⟨v,by rw[Sa,b],h⟩
   ·rw[Sa,b]at q;cases q
  ·have a:(f == g)=false:=by simpa using b
   refine⟨λd q=>?_,λq=>?_⟩
   ·rw[Sa,a]at q;obtain⟨w,j,k⟩:=h1 d q;exact⟨w,by rw[Sa,a];exact j,k⟩
   ·rw[Sa,a]at q;rw[Sa,a];exact i q
noncomputable def Rm(T:Tb)(cs:List Nat)(f:Str):Prop:=∀ c,cs.contains c=true->jo T.K (T.ca c)/\bh T.K (T.ca c) f
theorem Pp{f:Str}:Rm T [] f:=λc h=>by simp at h
theorem di{f:Str}{c:Nat}{cs:List Nat}(h1:jo T.K (T.ca c))(a:bh T.K (T.ca c) f)(h:Rm T cs f):Rm T (c::cs) f:=λd hd=>by
 rw[List.contains_cons,Tg,Wf]at hd;rcases hd with rfl|hd
 ·exact⟨h1,a⟩
 ·exact h d hd
noncomputable def yc(cs:List Nat)(f:Str)(x:D):M D:=λσ=>match Ym σ x with
 |some (c,fs)=>if cs.contains c=true then (match fs.lookup f with
  |some d=>.ok d σ
  |none=>.bad)else .bad
 |none=>.bad
theorem ge{e:Ka}{f:Str}{g:Ev->M D}{m:Ke}{cs:List Nat}(z:T.K=X.K)(hc:Rm T cs f)(A:FE T X e g)
  (hb:Zd e f X.env (bc e X.env)=bc e X.env:=by rfl):FE T X (.Attribute e f m) (Wc (yc cs f) g):=by
 intro j s st H Q I h;refine EZ A hb j s st H Q I ?_;obtain⟨μ,G,σ,x,B,hp⟩:=h;refine⟨μ,G,σ,x,B,Kb.bind hp λd n F v J _ L r C b=>?_⟩;unfold yc at b;cases k:Ym n d with
 |none=>rw[k]at b;exact b.elim
 |some p=>
  obtain⟨c,fs⟩:=p;rw[k]at b;dsimp only at b;by_cases i:cs.contains c=true
  ·rw[da i]at b;obtain⟨a,t,E,rfl,h1,u⟩:=sy r C k;cases l:fs.lookup f with
   |none=>rw[l]at b;exact b.elim
   |some y=>
    rw[l]at b;obtain⟨w,h3,h4⟩:=(GA u).1 y l;obtain⟨o,q⟩:=hc c i;rw[z]at o q;exact⟨a,_,t,E,w,rfl,h1,o,q,h3,Kb.here b r h4⟩
  ·rw[ga i]at b;exact b.elim
noncomputable def dn(f:Str)(v:D):List (Str × D)->List (Str × D)
 |[]=>[(f,v)]
 |(g,x)::r=>if g=f then (g,v)::r else (g,x)::dn f v r
theorem OI{f:Str}{d:D}{v:V}(hd:Rep T μ H d v):∀ {fs:List (Str × D)} {vs:List (Str × V)},Cr T μ H fs vs->Cr T μ H (dn f d fs) (Sm f v vs)
 |_,_,.nil=>Paired.cons ⟨rfl,hd⟩ Paired.nil
 |(g,x)::fs,(g',w)::vs,.cons ⟨e,h⟩ t=>by
  have b:g=g':=e;subst b;unfold dn Sm;by_cases a:g=f
  ·rw[da a,da a];exact Paired.cons ⟨rfl,hd⟩ t
  ·rw[ga a,ga a];exact Paired.cons ⟨rfl,h⟩ (OI hd t)
theorem Cr.mono{μ':List Addr}{a:Hp}(e:Ext μ H μ' a){fs:List (Str × D)}{vs:List (Str × V)}(h:Cr T μ H fs vs):Cr T μ' a fs vs:=Paired.Gp h λ_ _ q=>⟨q.1,Rep.mono e _ _ q.2⟩
theorem Cr.length{fs:List (Str × D)}{vs:List (Str × V)}(h:Cr T μ H fs vs):fs.length=vs.length:=Paired.length h
noncomputable def ny(cs:List Nat)(f:Str)(d x:D):M Unit:=λσ=>match x with
 | .ref n=>(match σ[n]? with
  |some (.ins c fs)=>if (cs.contains c && decide (fs.length<1000))=true then .ok () (σ.set n (.ins c (dn f d fs)))else .bad
  |_=>.bad)
 |_=>.bad
noncomputable def ax(ρ:Ev)(cs:List Nat)(f:Str)(d x:D):M Fl:=λσ=>match ny cs f d x σ with
 | .ok _ a=>.ok (.nx ρ) a
 |_=>.bad
noncomputable def cF(ρ:Ev)(cs:List Nat)(f:Str)(a:Ev->M D)(d:D):M Fl:=xs ρ (a ρ) (ax ρ cs f d)
noncomputable def lm(cs:List Nat)(f:Str)(c b:Ev->M D):Ev->M Fl:=λa=>xs a (c a) (cF a cs f b)
theorem uo{o e:Ka}{f:Str}{E C:Ev->M D}{k h:Ke}{cs:List Nat}(O:T.K=X.K)(hc:Rm T cs f)(P:FE T X o C)(S:FE T X e E)
  (R:dj e (some (.Attribute o f h)) k.line X.env=pure false:=by rfl):FS T X (.Assign [.Attribute o f h] e k) (lm cs f E C):=by
 intro j s st H D I hq;refine T1 P S R j s st H D I ?_;obtain⟨μ,N,σ,i,Q,hp⟩:=hq;refine⟨μ,N,σ,i,Q,hp.xs i λd w u v Z _ p Y V U=>?_⟩;refine⟨u,N,w,i.mono p,Y,U.xs (i.mono p) λx y l vo A _ B L W b=>?_⟩;have hd:=Rep.mono B _ _ V;unfold ax ny at b;cases x with
 |ref n=>
  dsimp only at b;cases q:y[n]? with
  |none=>rw[q]at b;exact b.elim
  |some ob=>
   rw[q]at b;cases ob with
   |lst _=>exact b.elim
   |Db _=>exact b.elim
   |Cf _=>exact b.elim
   |yk _=>exact b.elim
   |ins c fs=>
    dsimp only at b;by_cases g:(cs.contains c && decide (fs.length<1000))=true
    ·rw[da g]at b;rw[Ba,Pd]at g;obtain⟨a,rfl,hn,m,r,h1,F⟩:=L.at W q;have ex:Ext l A l (upd A a (.ins (T.ca c) m (Sm f v r))):=Iv (Ma hn) h1 (λ_ z=>by cases z) (λ_ _ z=>by cases z);have t:=L.write (o:=.ins (T.ca c) m (Sm f v r)) (ob:=.ins c (dn f d fs)) hn ⟨m,_,Og,OI (Rep.mono ex _ _ hd) (Cr.mono ex F)⟩;obtain⟨G,J⟩:=hc c g.1;rw[O]at G J;exact⟨a,_,m,r,rfl,h1,G,J,by rw[<-F.length];exact g.2,b _ (.nx st) _ t.1 t.2 ((i.mono p).mono B |>.mono t.1)⟩
    ·rw[ga g]at b;exact b.elim
 |_=>exact b.elim
noncomputable def ly(n:Nat):Out D->Out D
 | .ok .zb a=>.ok (.ref n) a
 | .ok _ _=>.bad
 | .ex x a=>.ex x a
 | .bad=>.bad
noncomputable def pp(c n:Nat)(fn:List D->M D)(ds:List D):M D:=λσ=>if ds.length+1=n then ly σ.length (fn (.ref σ.length::ds) (σ++[.ins c []]))else .bad
noncomputable def Qr(c n:Nat)(fn:List D->M D)(fs:Ev->M (List D)):Ev->M D:=λa=>Xc (fs a) (pp c n fn)
noncomputable def De(T:Tb)(P:wa)(w:Ja)(mg:Str->Option Value)(base:Heap)(k:Nat)(f:Addr)(ps:List Str)(fn:List D->M D):Prop:=
 ∃ b,(∀ a:List Value,a.length=ps.length->bindArgs b ⟨a,[]⟩=pure (ps.zip a))/\Xg P w T.K mg base (Al P w) k f b ps (Qo T ps.length fn)
noncomputable def PV(T:Tb)(P:wa)(w:Ja)(mg:Str->Option Value)(base:Heap)(k:Nat)(x:Str)(c:Nat)(ps:List Str)(fn:List D->M D):Prop:=
 ∃ f,mg x=some (.ref (T.ca c))/\Mk T.K (T.ca c) f/\De T P w mg base k f ps fn
theorem NL{E:XK}{c:Nat}{ps:List Str}{fn:List D->M D}{ds:List D}{vs:List V}{Q:VK}(r:Rel T μ H σ)(q:Ua T μ H ds vs)(p:Kb T E (Rep T) μ H (pp c ps.length fn ds σ) Q) :
  ∀ x a,H x=none->H a=none->a≠x->Qo T ps.length fn (.ref x::(vs++[])) (upd (upd H a (.own x)) x (.ins (T.ca c) a [])) (λv u=>v=.zb/\Q (.ref x) u) E:=by
 intro x a z h m;unfold pp at p;by_cases l:ds.length+1=ps.length
 ·rw[da l]at p;have b:Ext μ H μ (upd H a (.own x)):=Sk h;have o:Rel T μ (upd H a (.own x)) σ:=r.fresh h;have i:upd H a (.own x) x=none:=by unfold upd;rw[ga (He m)];exact z
  have f:Ext μ (upd H a (.own x)) (μ++[x]) (upd (upd H a (.own x)) x (.ins (T.ca c) a [])):=Hv i;have A:Rel T (μ++[x]) (upd (upd H a (.own x)) x (.ins (T.ca c) a [])) (σ++[.ins c []]):=o.push i ⟨a,[],Og,Paired.nil⟩;refine⟨μ++[x],σ++[.ins c []],.ref σ.length::ds,Ua.cons (iB o) (by rw[Ji];exact Ua.mono (b.trans f) _ _ q),by rw[Gb];exact l,A,?_⟩;cases e:fn (.ref σ.length::ds) (σ++[.ins c []])with
  |bad=>rw[e]at p;exact p.elim
  |ex y s=>rw[e]at p;exact λg k j n=>p g k ((b.trans f).trans j) n
  |ok d s=>
   rw[e]at p;intro g v k j n t;have w:d=.zb:=by cases d<;>first|rfl|exact p.elim
   subst w;rw[Rep]at t;refine⟨t,p g (.ref x) k ((b.trans f).trans j) n ?_⟩;exact Rep.mono j _ _ (iB o)
 ·rw[ga l]at p;exact p.elim
theorem gN{k:Nat}{C f:Addr}{i:Qd}{ps:List Str}{sp:Sp}{dvs:List V}{ds:List Value}{b:List (Addr × vc)}{st:St}{H:Hp}{s:aa}{Q:VK}{us:List Value}{vs:List V}(M:Mk X.K C f)(F:Xg X.prog X.w X.K X.mg X.base (Al X.prog X.w) k f i ps sp)(t:Ld (k+1) X.A)(hb:Iq X.K i ps ds)(hd:Ud dvs ds)
  (I:Inv X b st H s) (r:Ud vs us)
  (h:∀ x g,H x=none->H g=none->g≠x->sp (.ref x::(vs++dvs)) (upd (upd H g (.own x)) x (.ins C g [])) (λv m=>v=.zb/\Q (.ref x) m) (XE X st)) :
  wpAny (model X.prog X.w) X.A (call (.ref C) us) (EP X b st Q) X.xe s:=by
 have hq:=h (s.heap.objs.size+1) s.heap.objs.size (I.cc.fresh (zn _)) (I.cc.fresh (za _)) (Ea (Oc _));have d:=Inv.made (C:=C) I;have l:Ud (V.ref (s.heap.objs.size+1)::(vs++dvs)) (pb (s.heap.objs.size+1)::(us++ds)):=.cons rfl (r.append hd);have q:(pb (s.heap.objs.size+1)::us++ds).length=ps.length:=by
  have e:=l.length;rw[F.len _ _ _ _ hq]at e;exact e.symm
 refine Lq (VV (f:=f) I.Gj M.makes M.init (Wf.mp M.fn) (Jh (F.run _ X.stack _ _ ⟨pb (s.heap.objs.size+1)::us,[]⟩ (pb (s.heap.objs.size+1)::(us++ds)) _ _ (XE X st) (t.make C us [])
  (d.CA.make C us []) (hb _ (pb (s.heap.objs.size+1)::us) d.Gj q) l hq) λr D a=>?_))
 cases r with
 |error e=>obtain⟨cls,i,j,c,y⟩:=a;exact y.UB b _ _ e D d c
 |ok p=>
  cases p with
  |ret u=>
   obtain⟨v,j,n,B,o,z⟩:=d.after a;subst o;exact⟨B,⟨V.ref (s.heap.objs.size+1),j,n,rfl,z⟩⟩
  |next=>exact False.elim a
  |brk=>exact False.elim a
  |cont=>exact False.elim a
theorem az{k c:Nat}{ps:List Str}{fn:List D->M D}{x:Str}{p a:Ke}{e:Ka}{d:List Ka}{fs:Ev->M (List D)}(h:PV T X.prog X.w X.mg X.base k x c ps fn)(B:T.K=X.K)(G:Ld (k+1) X.A)(F:Gl X x)
  (C:FA T X (e::d) fs) (l:(x == ("__debug__" : Str))=false:=by decide) (E:ua (e::d) X.env=(false,bc e X.env)::ua d X.env:=by rfl) (m:(Mc a (ua d X.env)).any (·.1)=false:=by rfl) :
  FE T X (.Call (.Name x p) (e::d) [] a) (Qr c ps.length fn fs):=by
 obtain⟨f,hm,j,U,hb,u⟩:=h;rw[B]at j u;intro g s st H Q I hq;obtain⟨μ,P,σ,z,n,hp⟩:=hq;refine af (Ny I F hm ?_ l);refine W.callWith_K (h₀:=X.base) I.ok.mod.qw j.kp (Od (C a g s st H (λo b=>∀ x i,b x=none->b i=none->i≠x->Qo T ps.length fn (.ref x::(o++[])) (upd (upd b i (.own x)) x (.ins (T.ca c) i [])) (λv y=>v=.zb/\Q (.ref x) y) (XE X st)) I ⟨μ,P,σ,z,n,hp.bind λds R O o b _ S N J L=>NL N J L⟩) λus s1 ⟨o,b,t,r,q⟩=>⟨t.Gj,?_⟩) E m;exact gN (ds:=[]) (dvs:=[]) j u G (.all hb) .nil t r q
structure UF(T:Tb)(P:wa)(w:Ja)(mg:Str->Option Value)(base:Heap)(k:Nat)(m:Str)(c:Nat)(ps:List Str)(fn:List D->M D):Prop where
 cl:jo T.K (T.ca c)
 ex:∃ f,wf T.K (T.ca c) m f/\De T P w mg base k f ps fn
noncomputable abbrev Mt:=List (Nat × (List D->M D))
noncomputable def wv:Mt->Nat->Option (List D->M D)
 |[],_=>none
 |(c,fn)::r,d=>if c == d then some fn else wv r d
noncomputable def Zj(n:Nat)(fn:List D->M D)(x:D)(ds:List D):M D:=if ds.length+1=n then fn (x::ds)else bad
noncomputable def mm(tb:Mt)(n:Nat)(m:Str)(fs:M (List D))(x:D):M D:=λσ=>match Ym σ x with
 |some (c,gs)=>(match wv tb c,gs.lookup m with
  |some fn,none=>Xc fs (Zj n fn x) σ
  |_,_=>.bad)
 |none=>.bad
noncomputable def oh(tb:Mt)(n:Nat)(m:Str)(f:Ev->M D)(fs:Ev->M (List D)):Ev->M D:=λa=>Xc (f a) (mm tb n m (fs a))
theorem ZH:∀ {tb:Mt} {c:Nat} {fn:List D->M D},wv tb c=some fn->(c,fn)∈tb
 |[],_,_,h=>by cases h
 |(d,g)::r,c,fn,h=>by
  unfold wv at h;by_cases e:(d == c)=true
  ·rw[da e]at h;cases h;rw[Wf.mp e];exact Pa
  ·rw[ga e]at h;exact Da _ (ZH h)
theorem Cj{pl:Ap Bool}{k:Nat}{tb:Mt}{ps:List Str}{m:Str}{o e:Ka}{l:List Ka}{f:Ev->M D}{fs:Ev->M (List D)}{b i:Ke}(hK:T.K=X.K)(he:FE T X o f)(h:∀ q∈tb,UF T X.prog X.w X.mg X.base k m q.1 ps q.2)(hr:Ld k X.A)(ha:FA T X (e::l) fs)
  (R:ua (e::l) X.env=(false,bc e X.env)::ua l X.env:=by rfl) (O:(Mc b (ua l X.env)).any (·.1)=false:=by rfl)
  (ht:bc (.Call (.Attribute o m i) (e::l) [] b) X.env=(do
   let ov <-bc o X.env
   Vn i.atName
   let (f,first) <-vf [ov] (Ys ov m pl)
   callWith b f first (Mc b (ua (e::l) X.env)) (Wn b (Ai [] X.env))):=by rfl) :
  FE T X (.Call (.Attribute o m i) (e::l) [] b) (oh tb ps.length m f fs):=by
 intro j s st H Q I hq;obtain⟨μ,ρ,σ,hE,P,hp⟩:=hq;have J:=hE;refine W.methodCall_KW (pl:=pl) (Od (he j s st H (λx p=>∃ a c E vs fn,x=.ref a/\p a=some (.ins (T.ca c) E vs)/\wv tb c=some fn/\vs.lookup m=none/\tL T X fs st p λus F=>Qo T ps.length fn (x::(us++[])) F Q (XE X st)) I ⟨μ,ρ,σ,hE,P,hp.bind λd C U v p _ e1 r1 q1 g=>?_⟩) λu s1 ⟨x,p,Z,rx,a,c,E,vs,fn,ex,ea,n,t,q⟩=>?_) ht
 ·unfold mm at g;cases G:Ym C d with
  |none=>rw[G]at g;exact g.elim
  |some z=>
   obtain⟨c,gs⟩:=z;rw[G]at g;dsimp only at g;cases n:wv tb c with
   |none=>rw[n]at g;exact g.elim
   |some fn=>
    cases t:gs.lookup m with
    |some y=>rw[n,t]at g;exact g.elim
    |none=>
     rw[n,t]at g;dsimp only at g;obtain⟨a,E,vs,rfl,h1,h2⟩:=sy r1 q1 G;refine⟨a,c,E,vs,fn,rfl,h1,n,(GA h2).2 t,U,ρ,C,J.mono e1,r1,g.bind λds Y V us F _ e2 r2 S B=>?_⟩;unfold Zj at B;by_cases N:ds.length+1=ps.length
     ·rw[da N]at B;exact⟨V,Y,d::ds,Ua.cons (Rep.mono e2 _ _ q1) (by rw[Ji];exact S),by rw[Gb];exact N,r2,B⟩
     ·rw[ga N]at B;exact B.elim
 ·subst ex;obtain rfl:u=pb a:=rx;obtain⟨hC,f',L,fd,hb,hF⟩:=h _ (ZH n);rw[hK]at hC L hF;refine UO Z ea hC L t ?_;refine W.callWith_K (first:=[.ref a]) (h₀:=X.base) I.ok.mod.qw L.kp (Od (ha b j s1 st p _ Z q) λus s2 ⟨vs,F,I2,r,S⟩=>⟨I2.Gj,?_⟩) R O;exact OH (us:=.ref a::us) (vs:=.ref a::vs) hF hr (.all hb) .nil I2 (.cons rfl r) S
theorem Ht{pl:Ap Bool}{k:Nat}{tb:Mt}{ps:List Str}{m:Str}{o:Ka}{f:Ev->M D}{g e:Ke}(Y:T.K=X.K)(Z:FE T X o f)(h:∀ q∈tb,UF T X.prog X.w X.mg X.base k m q.1 ps q.2)(hr:Ld k X.A)
  (ht:bc (.Call (.Attribute o m e) [] [] g) X.env=(do
   let O <-bc o X.env
   Vn e.atName
   let (f,first) <-vf [O] (Ys O m pl)
   callWith g f first (Mc g (ua [] X.env)) (Wn g (Ai [] X.env))):=by rfl) :
  FE T X (.Call (.Attribute o m e) [] [] g) (oh tb ps.length m f Oa):=by
 intro r s st H Q I hq;obtain⟨μ,ρ,σ,V,J,hp⟩:=hq;refine W.methodCall_KW (pl:=pl) (Od (Z r s st H (λx l=>∃ a c B vs fn,x=.ref a/\l a=some (.ins (T.ca c) B vs)/\wv tb c=some fn/\vs.lookup m=none/\Qo T ps.length fn (x::([]++[])) l Q (XE X st)) I ⟨μ,ρ,σ,V,J,hp.bind λd i t v l _ e1 R P b=>?_⟩) λu s1 ⟨x,l,C,rx,a,c,B,vs,fn,ex,S,j,n,q⟩=>?_) ht
 ·unfold mm at b;cases E:Ym i d with
  |none=>rw[E]at b;exact b.elim
  |some z=>
   obtain⟨c,gs⟩:=z;rw[E]at b;dsimp only at b;cases j:wv tb c with
   |none=>rw[j]at b;exact b.elim
   |some fn=>
    cases n:gs.lookup m with
    |some y=>rw[j,n]at b;exact b.elim
    |none=>
     rw[j,n]at b;dsimp only at b;obtain⟨a,B,vs,rfl,h1,U⟩:=sy R P E;have p:Kb T (XE X st) (Rep T) t l (Zj ps.length fn d [] i) Q:=b;unfold Zj at p;by_cases G:([]:List D).length+1=ps.length
     ·rw[da G]at p;exact⟨a,c,B,vs,fn,rfl,h1,j,(GA U).2 n,t,i,[d],Ua.cons P Ua.nil,G,R,p⟩
     ·rw[ga G]at p;exact p.elim
 ·subst ex;obtain rfl:u=pb a:=rx;obtain⟨L,f',F,fd,hb,N⟩:=h _ (ZH j);rw[Y]at L F N;refine UO C S L F n ?_;exact W.callWith_K0 (first:=[.ref a]) C.Gj F.kp (OH (us:=[.ref a]) (vs:=[.ref a]) N hr (.all hb) .nil C (.cons rfl .nil) q)
structure OkU(T:Tb)(P:wa)(w:Ja)(mg:Str->Option Value)(base:Heap)(k:Nat)(x m:Str)(c:Nat)(ps:List Str)(fn:List D->M D):Prop where
 gl:mg x=some (.ref (T.ca c))
 sp:W.specialIn T.K (.ref (T.ca c)) (rg "__getattribute__")=some (some (.builtin "type.__getattribute__"))
 ex:∃ f mc,W.readsIn T.K (T.ca c) mc=true/\W.findCls T.K (.ref (T.ca c)) mc m=some (.val (.ref f))/\W.keepIn T.K (.ref f)=true/\De T P w mg base k f ps fn
end
structure bg(K:W.Frag)(C:Addr)(x qual:Str)(st:Stmt)(ps:List Str)(f:Addr):Prop where
 ex:∃ fd,gw K x qual st f fd/\∀ us:List Value,us.length=ps.length->bindArgs fd ⟨us,[]⟩=pure (ps.zip us)
section
variable{P:wa}{w:Ja}{K:W.Frag}{mg:Str->Option Value}{base:Heap}{ca:Nat->Addr}{tx:Tx}
theorem jl{k:Nat}{C f:Addr}{x qual:Str}{st:Stmt}{ps N:List Str}{g:Ev->M Fl}(h:bg K C x qual st ps f)(S:Aa N ps (Kc st))
  (hb:∀ (a:Value) (A:Ia) (outer:List yg) (s:aa) (H:Hp) (E:XK),Ld k (A.deeper (Bg qual (Kc st) s.heap.objs.size f a))->Do ⟨K,ca,tx⟩ (Ip (Al P w) P w K mg base N qual (Kc st) f a A outer s H E) (pj st) g) :
  De ⟨K,ca,tx⟩ P w mg base (k+1) f ps (run N.length g):=by
 obtain⟨j,F,b⟩:=h.ex;obtain⟨l,m,kV,d,n,i,a,ct,e,rfl,lk,c⟩:=F.ex;exact⟨_,b,Gy lk c S (hb a)⟩
theorem De.db{T:Tb}{k:Nat}{f:Addr}{ps:List Str}{fn:List D->M D}(h:De T P w mg base k f ps fn):De T P w mg base k f ps (λa=>L4.db (fn a)):=by
 obtain⟨b,h3,h4⟩:=h;exact⟨b,h3,GC h4⟩
theorem De.hide{T:Tb}{k:Nat}{f:Addr}{ps:List Str}{fn:List D->M D}(h:De T P w mg base k f ps fn):De T P w mg base k f ps (L4.hide fn):=by rw[Gs];exact h
end
noncomputable def sg(s:Stmt)(j:Nat):Stmt:=match s with
 | .ClassDef _ _ _ b _ _ _ _ _ _ _=>b.getD j (.Pass ⟨0,0,0,0⟩)
 |s=>s
theorem N0{K:W.Frag}{C f:Addr}{x qual:Str}{st:Stmt}{ps:List Str}{h:Value}{od d:Option Addr}{g:Array (Option Value)}{kV b e a ct:Value}
  (hb:∀ (kV b e:Value) (d:Option Addr) (a ct:Value) (us:List Value),us.length=ps.length->bindArgs (W.fnOf x qual (Gn st) (pj st) (Kc st) .none kV b e d a ct) ⟨us,[]⟩=pure (ps.zip us))
  (l:K.lookup f=some ⟨h,od,.func (W.fnOf x qual (Gn st) (pj st) (Kc st) .none kV b e d a ct),g⟩)
  (c:W.codeIn K a qual=true) (k:W.keepIn K (.ref f)=true):bg K C x qual st ps f:=⟨⟨_,nK l c k,hb kV b e d a ct⟩⟩
section
variable{T:Tb}{P:wa}{w:Ja}{mg:Str->Option Value}{base:Heap}
noncomputable def Dk(T:Tb)(P:wa)(w:Ja)(mg:Str->Option Value)(base:Heap)(k:Nat)(m:Str)(ps:List Str)(tb:Mt):Prop:=∀ q∈tb,UF T P w mg base k m q.1 ps q.2
theorem rm{k:Nat}{m:Str}{ps:List Str}:Dk T P w mg base k m ps []:=λq h=>nomatch h
theorem sj{j k:Nat}{m:Str}{ps:List Str}{tb:Mt}{c:Nat}{f:Addr}{fn:List D->M D}(h1:jo T.K (T.ca c))(e:wf T.K (T.ca c) m f)(h3:De T P w mg base j f ps fn)(g:j<=k)(h:Dk T P w mg base k m ps tb):Dk T P w mg base k m ps ((c,fn)::tb):=λq hq=>by
 rcases La.mp hq with rfl|hq
 ·obtain⟨d,a,b⟩:=h3;exact⟨h1,f,e,d,a,b.mono g⟩
 ·exact h q hq
end
section
variable{T:Tb}{X:Cx}
end
end L4
namespace L4
open PySem L2
theorem nr{c:Type}{a b:c}(h:a=b):a=b:=h
section
variable{α β:Type}{ρ:Ev}{σ:Ya}
@[simp] theorem Oe(a:α)(σ:Ya)(k:α->M β):(Out.ok a σ).bind k=k a σ:=nr rfl
@[simp] theorem Y8(a:α)(σ:Ya):ret a σ=.ok a σ:=nr rfl
@[simp] theorem gr(m:M α)(k:α->M β)(σ:Ya):Xc m k σ=(m σ).bind k:=nr rfl
@[simp] theorem x5(d:D):eC d ρ σ=.ok d σ:=nr rfl
@[simp] theorem pA(d:D)(r:Ev):ia 0 (some d::r) σ=.ok d σ:=nr rfl
@[simp] theorem qJ(i:Nat)(o:Option D)(r:Ev):ia (i+1) (o::r) σ=ia i r σ:=nr rfl
@[simp] theorem Q9(o:D->D->M D)(a b:Ev->M D):Fa o a b ρ σ=(a ρ σ).bind (AG o (b ρ)):=nr rfl
@[simp] theorem O9(o:D->D->M D)(m:M D)(x:D):AG o m x σ=(m σ).bind (o x):=nr rfl
@[simp] theorem yex(o:D->M D)(a:Ev->M D):Wc o a ρ σ=(a ρ σ).bind o:=nr rfl
@[simp] theorem B9(b:Bool):Ky (.bl b) σ=.ok b σ:=nr rfl
@[simp] theorem B8(p q:M α):Ej p q true σ=p σ:=nr rfl
@[simp] theorem yni(p q:M α):Ej p q false σ=q σ:=nr rfl
@[simp] theorem y8(c:Bool):aH c σ=.ok (!c) σ:=nr rfl
@[simp] theorem zuk(k:Bool->M α)(b:Bool):uw k (.bl b) σ=k b σ:=nr rfl
@[simp] theorem R8(c:Bool):wF c σ=.ok (.bl (!c)) σ:=nr rfl
@[simp] theorem ymm(f:Ev->M D):eT f ρ σ=(f ρ σ).bind Ky:=nr rfl
@[simp] theorem j9(a b:Ev->M Bool):Mw a b ρ σ=(a ρ σ).bind (Ej (b ρ) (ret false)):=nr rfl
@[simp] theorem ydq(a b:Ev->M Bool):Ko a b ρ σ=(a ρ σ).bind (Ej (ret true) (b ρ)):=nr rfl
@[simp] theorem zvj(a:Ev->M Bool):Vk a ρ σ=(a ρ σ).bind aH:=nr rfl
@[simp] theorem M9(a b:Ev->M D):Ci a b ρ σ=(a ρ σ).bind (uw (Ej (b ρ) (ret (.bl false)))):=nr rfl
@[simp] theorem yev(a b:Ev->M D):QG a b ρ σ=(a ρ σ).bind (uw (Ej (ret (.bl true)) (b ρ))):=nr rfl
@[simp] theorem g9(a:Ev->M D):lC a ρ σ=(a ρ σ).bind (uw wF):=nr rfl
@[simp] theorem yeq(t:Ev->M Bool)(a b:Ev->M D):Eu t a b ρ σ=(t ρ σ).bind (Ej (a ρ) (b ρ)):=nr rfl
@[simp] theorem qG:Oa ρ σ=.ok [] σ:=nr rfl
@[simp] theorem kH(e:Ev->M D)(r:Ev->M (List D)):qa e r ρ σ=(e ρ σ).bind (SI (r ρ)):=nr rfl
@[simp] theorem qH(m:M (List D))(x:D):SI m x σ=(m σ).bind (hG x):=nr rfl
@[simp] theorem lG(x:D)(xs:List D):hG x xs σ=.ok (x::xs) σ:=nr rfl
@[simp] theorem RZ(a:Ev->M (List D)):Zf a ρ σ=(a ρ σ).bind Cv:=nr rfl
@[simp] theorem ykg:Cv [] σ=.ok (.tup []) σ:=nr rfl
@[simp] theorem ykh(a:D):Cv [a] σ=.ok (.tup [a]) σ:=nr rfl
@[simp] theorem SZ(a b:D):Cv [a,b] σ=.ok (.tup [a,b]) σ:=nr rfl
@[simp] theorem n9(a b c:D):Cv [a,b,c] σ=.ok (.tup [a,b,c]) σ:=nr rfl
@[simp] theorem ykk(a b c d:D):Cv [a,b,c,d] σ=.ok (.tup [a,b,c,d]) σ:=nr rfl
@[simp] theorem K8(a:Ev->M (List D)):ij a ρ σ=(a ρ σ).bind fw:=nr rfl
@[simp] theorem zv5(a:Ev->M (List D)):vw a ρ σ=(a ρ σ).bind BA:=nr rfl
@[simp] theorem yhd:BA [] σ=.ok (.ref σ.length) (σ++[.lst []]):=nr rfl
@[simp] theorem U8(g:Int->Int->Int)(i j:Int):oI g (.int i) (.int j) σ=.ok (.int (g i j)) σ:=nr rfl
@[simp] theorem F8(g:Int->Int->Bool)(i j:Int):oB g (.int i) (.int j) σ=.ok (.bl (g i j)) σ:=nr rfl
theorem WE{C:Int->Int->Bool}{g:Int->Int->Int}{i j:Int}(h:C i j=true):Nx C g (.int i) (.int j) σ=.ok (.int (g i j)) σ:=by
 show (if C i j=true then ret _ else bad) σ=_;rw[da h];rfl
@[simp] theorem zzg(i j:Int)(h:0<j)(a:j<1073741824):Sv (.int i) (.int j) σ=.ok (.int (i / j)) σ:=WE (by simp[TH,h,a])
@[simp] theorem MI(i j:Int)(h:0<j):io (.int i) (.int j) σ=.ok (.int (i % j)) σ:=WE (by simp[zF,h])
theorem eA{i j:Int}(h:Lw i j=true):zv (.int i) (.int j) σ=.ok (.int (i ^ j.toNat)) σ:=WE h
@[simp] theorem x8:zv (.int 10) (.int 12) σ=.ok (.int 1000000000000) σ:=eA (by simp[Lw])
@[simp] theorem p6:zv (.int 10) (.int 6) σ=.ok (.int 1000000) σ:=eA (by simp[Lw])
@[simp] theorem p4:zv (.int 10) (.int 4) σ=.ok (.int 10000) σ:=eA (by simp[Lw])
@[simp] theorem Z9:zv (.int 10) (.int 40) σ=.ok (.int (10 ^ 40)) σ:=eA (by simp[Lw])
@[simp] theorem Z8(i:Int):Bx (.int i) σ=.ok (.int (-i)) σ:=nr rfl
@[simp] theorem L9(i j:Int):nh (.int i) (.int j) σ=.ok (.int (i+j)) σ:=nr rfl
theorem nD{xs ys:List D}(h:xs.length+ys.length<=Rh):nh (.lst xs) (.lst ys) σ=.ok (.lst (xs++ys)) σ:=by
 show Vz (.lst xs) (.lst ys) σ=_;unfold Vz;simp only[kh];rw[da h]
@[simp] theorem zsd(σ:Ya):ms .zb .zb σ=.ok (.bl true) σ:=nr rfl
@[simp] theorem U9(σ:Ya):xC .zb .zb σ=.ok (.bl false) σ:=nr rfl
theorem WF{x y:D}{b:Bool}(h:jj σ 8 x y=some b):oEq x y σ=.ok (.bl b) σ:=by unfold oEq;rw[h]
theorem cA{x y:D}{b:Bool}(h:jj σ 8 x y=some b):Hi x y σ=.ok (.bl (!b)) σ:=by unfold Hi;rw[h]
@[simp] theorem zzh(i j:Int):oEq (.int i) (.int j) σ=.ok (.bl (i == j)) σ:=WF (by simp[jj,kd,Dn,Kj])
@[simp] theorem zzt(i j:Int):Hi (.int i) (.int j) σ=.ok (.bl (!(i == j))) σ:=cA (by simp[jj,kd,Dn,Kj])
@[simp] theorem v8(i j:Str):oEq (.str i) (.str j) σ=.ok (.bl (i == j)) σ:=WF (by simp[jj,kd,Dn,Kj])
theorem aB{xs:List D}{k:Int}{d:D}(h:Ek xs k=some d):Ta (.tup xs) (.int k) σ=.ok d σ:=by simp[Ta,vj,h]
theorem Qx{xs:List D}{k:Int}{d:D}(h:Ek xs k=some d):Ta (.lst xs) (.int k) σ=.ok d σ:=by simp[Ta,vj,h]
@[simp] theorem w8(a:D)(r:List D):Ta (.tup (a::r)) (.int 0) σ=.ok a σ:=aB (show Ek _ ((0:Nat):Int)=_ from Dq rfl)
@[simp] theorem ynr(a b:D)(r:List D):Ta (.tup (a::b::r)) (.int 1) σ=.ok b σ:=aB (show Ek _ ((1:Nat):Int)=_ from Dq rfl)
@[simp] theorem G9(a b c:D)(r:List D):Ta (.tup (a::b::c::r)) (.int 2) σ=.ok c σ:=aB (show Ek _ ((2:Nat):Int)=_ from Dq rfl)
@[simp] theorem S9(a b c d:D)(r:List D):Ta (.tup (a::b::c::d::r)) (.int 3) σ=.ok d σ:=aB (show Ek _ ((3:Nat):Int)=_ from Dq rfl)
@[simp] theorem lL(xs:List D):qk [.tup xs] σ=.ok (.int xs.length) σ:=nr rfl
@[simp] theorem V8(xs:List D):qk [.lst xs] σ=.ok (.int xs.length) σ:=nr rfl
@[simp] theorem A9(xs:List Int):qk [.ae xs] σ=.ok (.int xs.length) σ:=by simp[qk,vj]
@[simp] theorem d9(o:List D->M D)(fs:Ev->M (List D)):Bh o fs ρ σ=(fs ρ σ).bind o:=nr rfl
@[simp] theorem oX(n:Nat)(f:List D->M D)(dds:List D)(fs:Ev->M (List D)):qd n f dds fs ρ σ=(fs ρ σ).bind (uq n f dds):=nr rfl
@[simp] theorem ymw(f:List D->M D)(a:D):uq 1 f [] [a] σ=f [a] σ:=by unfold uq;rw[da (by simp)];simp
@[simp] theorem ymx(f:List D->M D)(a b:D):uq 2 f [] [a,b] σ=f [a,b] σ:=by unfold uq;rw[da (by simp)];simp
@[simp] theorem T2(f:List D->M D)(a b c:D):uq 3 f [] [a,b,c] σ=f [a,b,c] σ:=by unfold uq;rw[da (by simp)];simp
@[simp] theorem yfr(f:List D->M D)(a b c:D):uq 3 f [c] [a,b] σ=f [a,b,c] σ:=by unfold uq;rw[da (by simp)];simp
@[simp] theorem ymz(f:List D->M D)(a b c d:D):uq 4 f [] [a,b,c,d] σ=f [a,b,c,d] σ:=by unfold uq;rw[da (by simp)];simp
@[simp] theorem ym0(f:List D->M D)(a b c d e:D):uq 5 f [] [a,b,c,d,e] σ=f [a,b,c,d,e] σ:=by unfold uq;rw[da (by simp)];simp
@[simp] theorem P8:Mf ρ σ=.ok (.nx ρ) σ:=nr rfl
@[simp] theorem ri(g h:Ev->M Fl):Nb g h ρ σ=(g ρ σ).bind (EA h):=nr rfl
@[simp] theorem si(h:Ev->M Fl)(ρ:Ev):EA h (.nx ρ) σ=h ρ σ:=nr rfl
@[simp] theorem ybq(h:Ev->M Fl)(d:D):EA h (.rt d) σ=.ok (.rt d) σ:=nr rfl
@[simp] theorem k9(h:Ev->M Fl)(ρ:Ev)(x:Xn):EA h (.xc ρ x) σ=.ok (.xc ρ x) σ:=nr rfl
noncomputable def yl(ρ:Ev)(k:α->M Fl):Out α->Out Fl
 | .ok a b=>k a b
 | .ex x b=>.ok (.xc ρ x) b
 | .bad=>.bad
@[simp] theorem jp(ρ:Ev)(m:M α)(k:α->M Fl):xs ρ m k σ=yl ρ k (m σ):=by unfold xs yl;cases m σ<;>rfl
@[simp] theorem Cs(ρ:Ev)(k:α->M Fl)(a:α):yl ρ k (.ok a σ)=k a σ:=nr rfl
@[simp] theorem yky(ρ:Ev)(k:α->M Fl)(x:Xn):yl ρ k (.ex x σ)=.ok (.xc ρ x) σ:=nr rfl
@[simp] theorem ybe(f:Ev->M D):zd f ρ σ=yl ρ NB (f ρ σ):=jp ..
@[simp] theorem G8(d:D):NB d σ=.ok (.rt d) σ:=nr rfl
@[simp] theorem vN(f:Ev->M D):xq f ρ σ=yl ρ (nF ρ) (f ρ σ):=jp ..
@[simp] theorem WO(d:D):nF ρ d σ=.ok (.nx ρ) σ:=nr rfl
@[simp] theorem ybg(i:Nat)(f:Ev->M D):Ue i f ρ σ=yl ρ (WA i ρ) (f ρ σ):=jp ..
@[simp] theorem ybu(i:Nat)(d:D):WA i ρ d σ=.ok (.nx (ρ.set i (some d))) σ:=nr rfl
@[simp] theorem P9(t:Ev->M Bool)(a b:Ev->M Fl):Bf t a b ρ σ=yl ρ (Ej (a ρ) (b ρ)) (t ρ σ):=jp ..
@[simp] theorem h9(f:Ev->M D)(tg:D->Ev->Option Ev):EI f tg ρ σ=yl ρ (wE tg ρ) (f ρ σ):=jp ..
@[simp] theorem znj(c:Nat)(fs:Ev->M (List D)):sC c fs ρ σ=yl ρ (SB c ρ) (fs ρ σ):=jp ..
@[simp] theorem zs5(c:Nat)(d:D):SB c ρ [d] σ=.ok (.xc ρ ⟨c⟩) σ:=nr rfl
@[simp] theorem ybh(g:Ev->M Fl)(a:List Hd):lE g a ρ σ=(g ρ σ).bind (Rz a):=nr rfl
@[simp] theorem l9(a:List Hd):Rz a (.nx ρ) σ=.ok (.nx ρ) σ:=nr rfl
@[simp] theorem W9(a:List Hd)(x:Xn):Rz a (.xc ρ x) σ=Jv ρ x a σ:=nr rfl
theorem G3{h:Hd}{r:List Hd}{x:Xn}(e:h.t x.cls=some true):Jv ρ x (h::r) σ=hit h ρ x σ:=by unfold Jv;rw[e]
@[simp] theorem ygk(t:Nat->Option Bool)(g:Ev->M Fl)(x:Xn):hit ⟨t,none,g⟩ ρ x σ=(g ρ σ).bind yD:=nr rfl
@[simp] theorem o9(d:D):yD (.rt d) σ=.ok (.rt d) σ:=nr rfl
@[simp] theorem HH(n:Nat)(g:Ev->M Fl)(ds:List D):run n g ds σ=Hu (g (ds.map some++List.replicate (n - ds.length) none) σ):=nr rfl
@[simp] theorem WX(d:D):Hu (.ok (.rt d) σ)=.ok d σ:=nr rfl
@[simp] theorem KO:Hu (.ok (.nx ρ) σ)=.ok .zb σ:=nr rfl
@[simp] theorem z8(x:Xn):Hu (.ok (.xc ρ x) σ)=.ex x σ:=nr rfl
@[simp] theorem x9(f:M D):db f σ=Ng σ (f σ):=nr rfl
@[simp] theorem Kt(f:Ev->M D):mi f ρ σ=Ng σ (f ρ σ):=nr rfl
theorem Wv{k m:Nat}{σ:Ya}{d:D}(h:cl d=true):fz k σ m d=some d:=by cases m<;>(unfold fz;rw[da h])
theorem WM{a:Ya}{d:D}(h:cl d=true)(b:a.take σ.length=σ):Ng σ (.ok d a)=.ok d σ:=by
 unfold Ng;dsimp only;rw[da b,Wv h]
@[simp] theorem y9:Ng σ (.ex x σ)=.ex x σ:=by unfold Ng;dsimp only;rw[da wm]
@[simp] theorem F9{d:D}(h:cl d=true):Ng σ (.ok d σ)=.ok d σ:=WM h wm
theorem rM{j j':Ya}{xs:List D}(h:Ze xs=true):Ng σ (.ok (.ref σ.length) (σ++[.lst xs]++j))=.ok (.lst xs) σ:=by
 unfold Ng;dsimp only;rw[da (by simp)];have e:fz σ.length (σ++[.lst xs]++j) 6 (.ref σ.length)=some (.lst xs):=by
  unfold fz;rw[ga (by simp[cl])];dsimp only;rw[ga (pd _)];have:(σ++[Ob.lst xs]++j)[σ.length]?=some (.lst xs):=by simp
  rw[this];dsimp only;have b:∀ (ys:List D) (m:Nat),Ze ys=true->sm (fz σ.length (σ++[.lst xs]++j) m) ys=some ys:=by
   intro ys m;induction ys with
   |nil=>intro _;rfl
   |cons y ys c=>
    intro hc;have a:cl y=true/\Ze ys=true:=by simpa [Ze,Ba]using hc
    unfold sm;rw[Wv a.1,c a.2]
  rw[b xs 5 h];rfl
 rw[e]
@[simp] theorem yd9(i:Int):cl (.int i)=true:=by simp[cl]
@[simp] theorem ylv(i:Bool):cl (.bl i)=true:=by simp[cl]
@[simp] theorem yef(i:Str):cl (.str i)=true:=by simp[cl]
@[simp] theorem yeb:cl .zb=true:=by simp[cl]
@[simp] theorem i9(xs:List D):cl (.tup xs)=Ze xs:=by simp[cl]
@[simp] theorem f9(xs:List D):cl (.lst xs)=Ze xs:=by simp[cl]
@[simp] theorem T9(n:Nat):cl (.ref n)=false:=by simp[cl]
@[simp] theorem zvs:Ze []=true:=by simp[Ze]
@[simp] theorem M4(d:D)(ds:List D):Ze (d::ds)=(cl d && Ze ds):=by simp[Ze]
theorem gu:∀ {ds:List D},(∀ d∈ds,cl d=true)->Ze ds=true
 |[],_=>by simp
 |d::ds,h=>by rw[M4,h d Pa,gu λx a=>h x (Da _ a)];rfl
@[simp] theorem tE(xs ys:List D):Ze (xs++ys)=(Ze xs && Ze ys):=by
 induction xs with
 |nil=>simp
 |cons x xs a=>simp[a,Sw]
theorem sR{xs:List D}{k:Int}(h0:0<=k)(h:k<xs.length):Ek xs k=some (xs.getD k.toNat .zb):=by
 obtain⟨n,rfl⟩:=Int.eq_ofNat_of_zero_le h0;have hn:n<xs.length:=by omega
 refine Dq ?_;show xs[n]?=some (xs.getD n .zb);rw[qf,Lc hn];rfl
theorem aU{a:List Int}{k:Int}(h0:0<=k)(h:k<a.length):Ek (a.map D.int) k=some (.int (a.getD k.toNat 0)):=by
 rw[sR h0 (by simpa using h)];have hn:k.toNat<a.length:=by omega
 simp[hn]
@[simp] theorem yn6(a:D):fw [a] σ=.ok (.lst [a]) σ:=nr rfl
@[simp] theorem yn5:fw [] σ=.ok (.lst []) σ:=nr rfl
@[simp] theorem yn7(a b:D):fw [a,b] σ=.ok (.lst [a,b]) σ:=nr rfl
@[simp] theorem T8(a b c d:D):fw [a,b,c,d] σ=.ok (.lst [a,b,c,d]) σ:=nr rfl
@[simp] theorem yn9(a b c d e f g h:D):fw [a,b,c,d,e,f,g,h] σ=.ok (.lst [a,b,c,d,e,f,g,h]) σ:=nr rfl
@[simp] theorem yhe(a b:D):BA [a,b] σ=.ok (.ref σ.length) (σ++[.lst [a,b]]):=nr rfl
@[simp] theorem IA(xs:List D):Wg (σ++[.lst xs]) σ.length=some xs:=by simp[Wg]
@[simp] theorem uA(a b:Ob):(σ++[a]).set σ.length b=σ++[b]:=by
 rw[List.set_append_right _ _ (za _)];simp
@[simp] theorem K9(o:D->List D->M D)(f:Ev->M D)(fs:Ev->M (List D)):Mx o f fs ρ σ=(f ρ σ).bind (Rt o (fs ρ)):=nr rfl
theorem ky{o:D->List D->M D}{m:M (List D)}{x:D}{xs:List D}(h:kh σ x=some xs):Rt o m x σ=(m σ).bind (o x):=by unfold Rt;rw[h];rfl
theorem Cz{xs:List D}{d:D}(h:xs.length<1000):il (.ref σ.length) [d] (σ++[.lst xs])=.ok .zb (σ++[.lst (xs++[d])]):=by
 unfold il;simp only[IA];rw[da (show xs.length<Rh from h),uA]
@[simp] theorem znw(xs:List D):vj (σ++[.lst xs]) (.ref σ.length)=some xs:=IA xs
@[simp] theorem aO(xs:List D):vj σ (.lst xs)=some xs:=nr rfl
@[simp] theorem v9(xs:List D):vj σ (.tup xs)=some xs:=nr rfl
@[simp] theorem nM(f:Ev->M D):qj f ρ σ=(f ρ σ).bind xw:=nr rfl
@[simp] theorem ES(ds:List D):xw (.tup ds) σ=.ok (.seq ds) σ:=nr rfl
@[simp] theorem znu(ds:List D):xw (.lst ds) σ=.ok (.seq ds) σ:=nr rfl
@[simp] theorem L8(f:Ev->M D):Yy f ρ σ=(f ρ σ).bind Fx:=nr rfl
theorem GN{j:Int}(h:-(2 ^ 62)<=j)(a:j<2 ^ 62):Fx (.int j) σ=.ok (.seq (Zw j.toNat)) σ:=by
 unfold Fx;dsimp only;rw[da (by simp only[yC,Gs,Ba,Pd];exact⟨h,a⟩)]
@[simp] theorem nZ(src:Ev->M Src)(tg:D->Ev->Option Ev)(body:Ev->M Fl):vt src tg body ρ σ=yl ρ (iE tg body ρ) (src ρ σ):=jp ..
@[simp] theorem AY(tg:D->Ev->Option Ev)(body:Ev->M Fl)(ds:List D):iE tg body ρ (.seq ds) σ=Xl tg body ds ρ σ:=nr rfl
@[simp] theorem Ow(tg:D->Ev->Option Ev)(body:Ev->M Fl):Xl tg body [] ρ σ=.ok (.nx ρ) σ:=nr rfl
theorem n3{tg:D->Ev->Option Ev}{body:Ev->M Fl}{d:D}{ds:List D}{ρ1:Ev}(h:tg d ρ=some ρ1):Xl tg body (d::ds) ρ σ=(body ρ1 σ).bind (Lu (Xl tg body ds)):=by
 show (match tg d ρ with|none=>bad|some ρ1=>Xc (body ρ1) (Lu (Xl tg body ds))) σ=_;rw[h];rfl
@[simp] theorem dq(i:Nat)(body:Ev->M Fl)(d:D)(ds:List D):Xl (Ye i) body (d::ds) ρ σ=(body (ρ.set i (some d)) σ).bind (Lu (Xl (Ye i) body ds)):=n3 rfl
@[simp] theorem tm(k:Ev->M Fl):Lu k (.nx ρ) σ=k ρ σ:=nr rfl
theorem wC{m:M α}{a:α}{σ':Ya}(h:m σ=.ok a σ'):En m σ=.ok a σ':=by unfold En;rw[h]
end
section
variable{α β:Type}{ρ:Ev}{σ:Ya}
@[simp] theorem qZ(ns:List Int):vj σ (.ae ns)=some (ns.map D.int):=nr rfl
theorem DZ{ns:List Int}{k:Int}(h0:0<=k)(h:k<ns.length):Ta (.ae ns) (.int k) σ=.ok (.int (ns.getD k.toNat 0)) σ:=by
 simp only[Ta,qZ,aU h0 h]
@[simp] theorem E8(c:BT)(i:Int):Jn c (.int i) σ=.ok (.bl (match c with | .int=>true|_=>false)) σ:=nr rfl
@[simp] theorem zzm(c:BT)(i:Bool):Jn c (.bl i) σ=.ok (.bl (match c with | .int=>true | .bool=>true|_=>false)) σ:=nr rfl
@[simp] theorem D8(xs:List D):Jn .tuple (.tup xs) σ=.ok (.bl true) σ:=nr rfl
@[simp] theorem zld(o d:D->D->M D)(a b c:Ev->M D):qI o d a b c ρ σ=(a ρ σ).bind (nI o d (b ρ) (c ρ)):=nr rfl
noncomputable def pl:Nat->D->Bool
 |_,.zb=>true
 |_,.bl _=>true
 |_,.int _=>true
 |_,.str _=>true
 |n+1,.tup xs=>xs.all (pl n)
 |n+1,.lst xs=>xs.all (pl n)
 |_,_=>false
theorem CG{f:D->D->Option Bool}:∀ {xs:List D},(∀ x∈xs,f x x=some true)->wn f xs xs=some true
 |[],_=>rfl
 |x::xs,h=>by unfold wn;rw[h x Pa,CG λy hy=>h y (Da _ hy)];rfl
theorem iG:∀ (n:Nat) (x:D),pl n x=true->jj σ n x x=some true
 |0,x,h=>by cases x<;>simp[pl]at h<;>simp[jj,kd,Dn,Kj]
 |n+1,x,h=>by
  cases x with
  |zb=>simp[jj,kd,Dn,Kj]
  |bl b=>simp[jj,kd,Dn,Kj]
  |int b=>simp[jj,kd,Dn,Kj]
  |str b=>simp[jj,kd,Dn,Kj]
  |tup xs=>
   simp only[pl,Vb]at h;unfold jj;simp only[kd,Dn];exact CG λy hy=>iG n y (h y hy)
  |lst xs=>
   simp only[pl,Vb]at h;unfold jj;simp only[kd,Dn];exact CG λy hy=>iG n y (h y hy)
  |_=>simp[pl]at h
theorem Ms{x:D}(h:pl 8 x=true):Hi x x σ=.ok (.bl false) σ:=cA (iG 8 x h)
@[simp] theorem S8(f a fi:Ev->M D):VG f a fi ρ σ=yl ρ (DI ρ a fi) (f ρ σ):=jp ..
@[simp] theorem D9(o a:D->D->M D)(b c:M D)(x:D):nI o a b c x σ=(b σ).bind (qF o a c x):=nr rfl
@[simp] theorem X9(o a:D->D->M D)(c:M D)(x y:D):qF o a c x y σ=(o x y σ).bind (KG a c y):=nr rfl
@[simp] theorem W8(a:D->D->M D)(c:M D)(y:D)(b:Bool):KG a c y (.bl b) σ=Ej (Xc c (a y)) (ret (.bl false)) b σ:=nr rfl
@[simp] theorem E9(a fi:Ev->M D)(d:D):DI ρ a fi d σ=yl ρ (QE ρ fi d) (a ρ σ):=jp ..
@[simp] theorem z9(fi:Ev->M D)(d x:D):QE ρ fi d x σ=yl ρ (kx ρ d x) (fi ρ σ):=jp ..
@[simp] theorem ybv(d a:D)(r:List D):kx ρ d (.ref σ.length) (.int 0) (σ++[.lst (a::r)])=.ok (.nx ρ) (σ++[.lst (d::r)]):=by
 have:zy (.ref σ.length) (.int 0) d (σ++[.lst (a::r)])=.ok () (σ++[.lst (d::r)]):=by
  simp only[zy,IA];rw[show Yq (a::r).length 0=some 0 by simp[Yq]];simp
 unfold kx;rw[this]
@[simp] theorem ybw(d a b:D)(r:List D):kx ρ d (.ref σ.length) (.int 1) (σ++[.lst (a::b::r)])=.ok (.nx ρ) (σ++[.lst (a::d::r)]):=by
 have:zy (.ref σ.length) (.int 1) d (σ++[.lst (a::b::r)])=.ok () (σ++[.lst (a::d::r)]):=by
  simp only[zy,IA];rw[show Yq (a::b::r).length 1=some 1 by simp[Yq];omega];simp
 unfold kx;rw[this]
theorem pP{a:Ob}{d:D}(h:cl d=true):Ng σ (.ok d (σ++[a]))=.ok d σ:=WM h (by simp)
@[simp] theorem yW{a:Type}(f:a->Bool)(l:List a):Ly (l.map λx=>D.bl (f x))=some (l.map f):=by
 induction l with
 |nil=>rfl
 |cons x l b=>simp[Ly,b]
@[simp] theorem wY(l:List Int):As (l.map D.int)=some l:=by
 induction l with
 |nil=>rfl
 |cons x l a=>simp[As,a]
theorem MK{a:Type}{f:a->Bool}{l:List a}:Hx [.lst (l.map λx=>D.bl (f x))] σ=.ok (.bl (l.all f)) σ:=by
 simp only[Hx,aO,Us,yW];simp[lq,Function.comp_def]
theorem T3{l:List Int}(h:l.length<=1000):UA (.lst (l.map D.int)) σ=.ok (.int (Zt l).length) σ:=by
 simp only[UA,kh,Us,wY];rw[da (show l.length<=Rh from h)]
theorem EF:∀ (l s:List Int),(l.foldl PyProof.Rows.step_dedup s).length<=s.length+l.length/\((l.foldl PyProof.Rows.step_dedup s).length=s.length+l.length ↔ (l.Nodup/\∀ x∈l,x ∉ s))
 |[],s=>by simp
 |x::l,s=>by
  rw[Sf];by_cases h:s.any (·== x)=true
  ·have g:x∈s:=by simpa using h
   rw[show PyProof.Rows.step_dedup s x=s by unfold PyProof.Rows.step_dedup;rw[da h]];obtain⟨h1,f⟩:=EF l s;refine⟨by simp only[Gb];omega,λe=>?_,λe=>absurd g (e.2 x Pa)⟩;simp only[Gb]at e;omega
  ·have g:x ∉ s:=by simpa using h
   rw[show PyProof.Rows.step_dedup s x=s++[x] by unfold PyProof.Rows.step_dedup;rw[ga h]];obtain⟨h1,f⟩:=EF l (s++[x]);simp only[Td,Gb,An]at h1 f;refine⟨by simp only[Gb];omega,?_⟩;rw[Gb,show s.length+(l.length+1)=s.length+(0+1)+l.length by omega,f,Sg];constructor
   ·rintro ⟨a,b⟩;refine⟨⟨λhm=>(b x hm) (by simp),a⟩,λy hy=>?_⟩;rcases La.mp hy with rfl|hy
    ·exact g
    ·exact λd=>b y hy (by simp[d])
   ·rintro ⟨⟨a,b⟩,c⟩;refine⟨b,λy hy d=>?_⟩;rcases Qg.mp d with d|d
    ·exact c y (Da _ hy) d
    ·rw[Ts.mp d]at hy;exact a hy
theorem EX(l:List Int):((Zt l).length:Int)=(l.length:Int) ↔ l.Nodup:=by
 have:=(EF l []).2;simp only[An,Nat.zero_add,Nd,not_false_eq_true,implies_true,and_true]at this;unfold Zt;rw[<-this];omega
end
section
variable{ρ:Ev}{σ:Ya}
@[simp] theorem zo7(c n:Nat)(fn:List D->M D)(fs:Ev->M (List D)):Qr c n fn fs ρ σ=(fs ρ σ).bind (pp c n fn):=nr rfl
theorem eQ{c n:Nat}{fn:List D->M D}{ds:List D}(h:ds.length+1=n):pp c n fn ds σ=ly σ.length (fn (.ref σ.length::ds) (σ++[.ins c []])):=by unfold pp;rw[da h]
@[simp] theorem lH(n:Nat):ly n (.ok .zb σ)=.ok (.ref n) σ:=nr rfl
@[simp] theorem oP(cs:List Nat)(f:Str)(b a:Ev->M D):lm cs f b a ρ σ=yl ρ (cF ρ cs f a) (b ρ σ):=jp ..
@[simp] theorem mO(cs:List Nat)(f:Str)(a:Ev->M D)(d:D):cF ρ cs f a d σ=yl ρ (ax ρ cs f d) (a ρ σ):=jp ..
theorem XP{cs:List Nat}{f:Str}{d:D}{c:Nat}{fs:List (Str × D)}(h:cs.contains c=true)(a:fs.length<1000):ax ρ cs f d (.ref σ.length) (σ++[.ins c fs])=.ok (.nx ρ) (σ++[.ins c (dn f d fs)]):=by
 have e:ny cs f d (.ref σ.length) (σ++[.ins c fs])=.ok () (σ++[.ins c (dn f d fs)]):=by
  have:(σ++[Ob.ins c fs])[σ.length]?=some (.ins c fs):=by simp
  unfold ny;simp only[this];rw[da (by rw[h];simpa using a)];simp
 unfold ax;rw[e]
theorem bo{c:Nat}{ns:List Str}{ds:List D}(h:ns.length=ds.length):Ym σ (.obj c ns ds)=some (c,ns.zip ds):=by unfold Ym;dsimp only;rw[da h]
theorem bn{cs:List Nat}{f:Str}{x d:D}{c:Nat}{fs:List (Str × D)}(h:Ym σ x=some (c,fs))(hc:cs.contains c=true)(a:fs.lookup f=some d):yc cs f x σ=.ok d σ:=by
 unfold yc;rw[h];dsimp only;rw[da hc,a]
@[simp] theorem mR(tb:Mt)(n:Nat)(m:Str)(f:Ev->M D)(fs:Ev->M (List D)):oh tb n m f fs ρ σ=(f ρ σ).bind (mm tb n m (fs ρ)):=nr rfl
theorem ao{tb:Mt}{n:Nat}{m:Str}{fs:M (List D)}{x:D}{c:Nat}{gs:List (Str × D)}{fn:List D->M D}(h:Ym σ x=some (c,gs))(b:wv tb c=some fn)(a:gs.lookup m=none):mm tb n m fs x σ=(fs σ).bind (Zj n fn x):=by
 unfold mm;rw[h];dsimp only;rw[b,a];rfl
theorem kC{n:Nat}{fn:List D->M D}{x:D}{ds:List D}(h:ds.length+1=n):Zj n fn x ds σ=fn (x::ds) σ:=by unfold Zj;rw[da h]
@[simp] theorem zy2(fn:List D->M D)(x:D):Zj 1 fn x [] σ=fn [x] σ:=kC rfl
@[simp] theorem wX(fn:List D->M D)(x a:D):Zj 2 fn x [a] σ=fn [x,a] σ:=kC rfl
@[simp] theorem zy4(fn:List D->M D)(x a b:D):Zj 3 fn x [a,b] σ=fn [x,a,b] σ:=kC rfl
theorem uJ{c:Nat}{fs:List (Str × D)}(h:Ze (fs.map (·.2))=true):Ng σ (.ok (.ref σ.length) (σ++[.ins c fs]))=.ok (.obj c (fs.map (·.1)) (fs.map (·.2))) σ:=by
 unfold Ng;dsimp only;rw[da (by simp)];have e:fz σ.length (σ++[.ins c fs]) 6 (.ref σ.length)=some (.obj c (fs.map (·.1)) (fs.map (·.2))):=by
  unfold fz;rw[ga (by simp)];dsimp only;rw[ga (pd _)];have:(σ++[Ob.ins c fs])[σ.length]?=some (.ins c fs):=by simp
  rw[this];dsimp only;have b:∀ (ys:List D) (m:Nat),Ze ys=true->sm (fz σ.length (σ++[.ins c fs]) m) ys=some ys:=by
   intro ys m;induction ys with
   |nil=>intro _;rfl
   |cons y ys d=>
    intro hc;have a:cl y=true/\Ze ys=true:=by simpa [Ze,Ba]using hc
    unfold sm;rw[Wv a.1,d a.2]
  rw[b _ 5 h];rfl
 rw[e]
@[simp] theorem M8(i j:Int):sE [.int i,.int j] σ=.ok (.int (max i j)) σ:=nr rfl
@[simp] theorem J8(i:Str):Jn .str (.str i) σ=.ok (.bl true) σ:=nr rfl
@[simp] theorem zsa(c:BT):Jn c .zb σ=.ok (.bl false) σ:=by cases c<;>rfl
end
end L4
namespace L4
open PySem PySem.Spec PySem.Calls PyProof.Rows PySem.Builtin PySem.Builtin.ObjectAttr PySem.Builtin.Getset_descriptor L2
structure ExK(K:W.Frag)(C:Addr):Prop where
 g:W.findIn K (.ref C) "__getattribute__" = some (some (.builtin "BaseException.__getattribute__"))
 g2:W.findIn K (.ref C) "__getattr__" = some none
 mb:W.mroIn K C (.type "BaseException")=some true
 d:W.hasDictIn K C=true
 a:W.findIn K (.ref C) "__class__" = some (some (.builtin "object.__class__"))
 n:W.specialIn K (.builtin "object.__class__") "__get__" = some (some (.builtin "getset_descriptor.__get__"))
 t:W.takesIn K (.builtin "object.__class__")=some true
 m:W.mroIn K C (.type "object")=some true
section
variable{prog:wa}{w:Ja}{A:Ia}{E:Value->aa->Prop}{s:aa}{K:W.Frag}{C ea:Addr}{hp:Heap}{Mo:Lk}
theorem sw.plain{dd:Option Addr}(p:sw C dd ea hp):TU C ea hp:=let ⟨o,h1,a,_⟩:=p;⟨o,h1,a⟩
end
section
variable{T:Tb}{X:Cx}
inductive iv(X:Cx)(y:Str):V->Value->Prop where
 |own {a:Addr} (h:X.mg y=some (.ref a)):iv X y (.ref a) (.ref a)
 |bt {n:String} (h:X.mg y=none) (hv:bootBuiltins y=some (.type n)) (hn:y ≠ "__name__"):iv X y (.ty n) (.type n)
theorem iv.rel{y:Str}{a:V}{cv:Value}(h:iv X y a cv):∀ u,Zc a u->u=cv:=by
 cases h with
 |own h=>exact λu q=>q
 |bt h b hn=>exact λu q=>q
end
section
variable{ρ:Ev}{σ:Ya}
end
end L4
namespace L4
open PySem PySem.Spec PySem.Calls PyProof.Rows L2
section
variable{T:Tb}{X:Cx}
end
end L4
namespace HT
open PySem Builtin
open Sem (wp)
end HT
namespace L4
open PySem PySem.Spec PyProof.Rows L2
end L4
namespace HT
open PySem Builtin
open Sem (wp)
end HT
namespace L4
open PySem PySem.Spec PyProof.Rows L2
section
variable{T:Tb}{X:Cx}
end
end L4
namespace L2
open PySem PySem.Spec PyProof.Rows
section
variable{κ:Type}[DecidableEq κ]
noncomputable def Cn(kvs:List (κ × V))(k:κ):Option V:=(kvs.find? λa=>decide (a.1=k)).map (·.2)
noncomputable def ko(kvs:List (κ × V))(k:κ)(v:V):List (κ × V):=
 if (kvs.any λa=>decide (a.1=k))=true then kvs.map (λa=>if a.1=k then (a.1,v)else a)else kvs++[(k,v)]
noncomputable def lQ(kvs:List (κ × V))(k:κ):List (κ × V):=kvs.filter λa=>decide (a.1≠k)
theorem uD{p:κ × V}{r:List (κ × V)}{k:κ}(e:p.1=k):Cn (p::r) k=some p.2:=by simp[Cn,ke,e]
theorem jC{p:κ × V}{r:List (κ × V)}{k:κ}(e:¬ p.1=k):Cn (p::r) k=Cn r k:=by simp[Cn,ke,e]
theorem iM(k:κ):∀ kvs:List (κ × V),(kvs.any λa=>decide (a.1=k))=(Cn kvs k).isSome
 |[]=>rfl
 |p::r=>by
  rw[ue];by_cases e:p.1=k
  ·simp only[uD e,jd e,Bool.true_or,Option.isSome_some]
  ·rw[jC e,xb e,dk];exact iM k r
theorem HG(kvs:List (κ × V))(k:κ)(v:V):(ko kvs k v).length<=kvs.length+1:=by
 unfold ko;split
 ·rw[Ub];omega
 ·rw[Td,Gb,An];omega
theorem mo.Hh{o:Option V}{u:Option Value}(r:mo o u):o.isSome=u.isSome:=by
 cases o with
 |none=>cases u with
  |none=>rfl
  |some _=>exact(show False from r).elim
 |some _=>cases u with
  |none=>exact(show False from r).elim
  |some _=>rfl
theorem mo.getD{o:Option V}{u:Option Value}{d:V}{d':Value}(r:mo o u)(rd:Zc d d'):Zc (o.getD d) (u.getD d'):=by
 cases o with
 |none=>cases u with
  |none=>exact rd
  |some _=>exact(show False from r).elim
 |some _=>cases u with
  |none=>exact(show False from r).elim
  |some _=>exact r
theorem KV.val{kvs:List (κ × V)}{vs:List (κ × Value)}(r:KV kvs vs)(k:κ):mo (Cn kvs k) (Yn vs k):=by
 unfold KV at r;induction r with
 |nil=>exact True.intro
 |@cons p q g c h t f=>
  obtain⟨h1,d⟩:=h;by_cases e:p.1=k
  ·have a:q.1=k:=h1.symm.trans e;have b:Yn (q::c) k=some q.2:=by simp[Yn,ke,a]
   rw[uD e,b];exact d
  ·have a:¬ q.1=k:=λz=>e (h1.trans z);have b:Yn (q::c) k=Yn c k:=by simp[Yn,ke,a]
   rw[jC e,b];exact f
theorem KV.any{kvs:List (κ × V)}{vs:List (κ × Value)}(r:KV kvs vs)(k:κ):(kvs.any λa=>decide (a.1=k))=vs.any λa=>decide (a.1=k):=by
 unfold KV at r;induction r with
 |nil=>rfl
 |cons h t b=>rw[ue,ue,b,h.1]
theorem KV.Vx{kvs:List (κ × V)}{vs:List (κ × Value)}(r:KV kvs vs)(k:κ){y:V}{u:Value}(d:Zc y u) :
  KV (kvs.map λa=>if a.1=k then (a.1,y)else a) (vs.map λa=>if a.1=k then (a.1,u)else a):=by
 unfold KV at r ⊢;induction r with
 |nil=>exact .nil
 |@cons p q f g h t c=>
  rw[Za,Za];refine .cons ?_ c;obtain⟨h1,b⟩:=h;by_cases e:p.1=k
  ·rw[da e,da (h1.symm.trans e)];exact⟨h1,d⟩
  ·rw[ga e,ga (λz=>e (h1.trans z))];exact⟨h1,b⟩
theorem KV.put{kvs:List (κ × V)}{vs:List (κ × Value)}(r:KV kvs vs)(k:κ){y:V}{u:Value}(a:Zc y u):KV (ko kvs k y) (stored vs k u):=by
 unfold ko stored;rw[r.any k];by_cases e:(vs.any λb=>decide (b.1=k))=true
 ·rw[da e,da e];exact r.Vx k a
 ·rw[ga e,ga e];exact Paired.snoc r ⟨rfl,a⟩
theorem KV.drop{kvs:List (κ × V)}{vs:List (κ × Value)}(r:KV kvs vs)(k:κ):KV (lQ kvs k) (without vs k):=by
 unfold KV at r ⊢;unfold lQ without;induction r with
 |nil=>exact .nil
 |@cons p q g i h t c=>
  obtain⟨h1,f⟩:=h;rw[ii,ii];by_cases e:p.1=k
  ·have a:¬ decide (p.1≠k)=true:=by simp[e]
   have b:¬ decide (q.1≠k)=true:=by simp[h1.symm.trans e]
   rw[ga a,ga b];exact c
  ·have d:¬ q.1=k:=λz=>e (h1.trans z);have a:decide (p.1≠k)=true:=by simp[e]
   have b:decide (q.1≠k)=true:=by simp[d]
   rw[da a,da b];exact .cons ⟨h1,f⟩ c
theorem KV.keys{kvs:List (κ × V)}{vs:List (κ × Value)}(r:KV kvs vs):kvs.map (·.1)=vs.map (·.1):=by
 unfold KV at r;induction r with
 |nil=>rfl
 |cons h t a=>rw[Za,Za,a,h.1]
theorem KV.length{kvs:List (κ × V)}{vs:List (κ × Value)}(r:KV kvs vs):kvs.length=vs.length:=Paired.length r
end
theorem cz{P:wa}{w:Ja}{k:Key}{u:Value}(r:Zc (kV k) u):(zl P w).is k u=true:=by
 cases k with
 |inl i=>obtain⟨t,e⟩:=(show ∃ t,u=xg i t from r);subst e;exact DU P w i t
 |inr x=>obtain⟨t,e⟩:=(show ∃ t,u=gm x t from r);subst e;exact ZY P w x t
theorem vP{P:wa}{w:Ja}:∀ {a:List Key} {us:List Value},Ud (a.map kV) us->ItemsAre (zl P w) a us
 |[],_,r=>by rw[jh]at r;cases r;exact .nil
 |k::a,_,r=>by
  rw[Za]at r;cases r with
  |cons h t=>exact .cons (cz h) (vP t)
noncomputable abbrev KT(H:Hp):List (List Key × V)->List (List Key × Addr × Value)->Prop:=Paired λp q=>p.1=q.1/\H q.2.1=some (.tup (p.1.map kV))/\Zc p.2 q.2.2
theorem KT.val{H:Hp}{kvs:List (List Key × V)}{xs:List (List Key × Addr × Value)}(r:KT H kvs xs)(k:List Key):mo (Cn kvs k) ((Tq xs k).map (·.2)):=by
 induction r with
 |nil=>exact True.intro
 |@cons p q g c h t f=>
  obtain⟨h1,_,d⟩:=h;by_cases e:p.1=k
  ·have a:q.1=k:=h1.symm.trans e;have b:Tq (q::c) k=some q.2:=by simp[Tq,ke,a]
   rw[uD e,b];exact d
  ·have a:¬ q.1=k:=λz=>e (h1.trans z);have b:Tq (q::c) k=Tq c k:=by simp[Tq,ke,a]
   rw[jC e,b];exact f
theorem KT.Vx{H:Hp}{kvs:List (List Key × V)}{xs:List (List Key × Addr × Value)}(r:KT H kvs xs)(k:List Key){y:V}{u:Value}(d:Zc y u) :
  KT H (kvs.map λa=>if a.1=k then (a.1,y)else a) (xs.map (putAt k u)):=by
 induction r with
 |nil=>exact .nil
 |@cons p q f g h t c=>
  rw[Za,Za];refine .cons ?_ c;obtain⟨h1,b,h3⟩:=h;unfold putAt;by_cases e:p.1=k
  ·rw[da e,da (h1.symm.trans e)];exact⟨h1,b,d⟩
  ·rw[ga e,ga (λz=>e (h1.trans z))];exact⟨h1,b,h3⟩
theorem KT.put{H:Hp}{kvs:List (List Key × V)}{xs:List (List Key × Addr × Value)}(r:KT H kvs xs)(k:List Key){b:Addr}{y:V}{u:Value}(hb:H b=some (.tup (k.map kV)))(a:Zc y u) :
  KT H (ko kvs k y) (storedH xs k b u):=by
 have e:(kvs.any λc=>decide (c.1=k))=(Tq xs k).isSome:=by
  rw[iM,(r.val k).Hh,nk]
 unfold ko storedH;rw[e];by_cases q:(Tq xs k).isSome=true
 ·rw[da q,da q];exact r.Vx k a
 ·rw[ga q,ga q];exact Paired.snoc r ⟨rfl,hb,a⟩
theorem KT.keeps{H a:Hp}{kvs:List (List Key × V)}{xs:List (List Key × Addr × Value)}(r:KT H kvs xs)(c:∀ b ys,H b=some (.tup ys)->a b=some (.tup ys)):KT a kvs xs:=
 Paired.Gp r λ_ _ z=>⟨z.1,c _ _ z.2.1,z.2.2⟩
section
variable{P:wa}{w:Ja}{H:Hp}{h:Heap}{a:Addr}
theorem HQ{u:HO}(ok:ci P w H h)(e:Rd H a u):Fi P w H h a u:=e.ok ok
theorem bv{kvs:List (Key × V)}(ok:ci P w H h)(e:Rd H a (.dK kvs)):kvs.length<=sizeLine/\(a == qg)=false/\∃ vs,KV kvs vs/\h.DictOf (zl P w) a vs:=
 show Fi P w H h a (.dK kvs)from HQ ok e
theorem BQ{kvs:List (Key × V)}(ok:ci P w H h)(e:H a=some (.dK kvs)):kvs.length<=sizeLine/\(a == qg)=false/\∃ vs,KV kvs vs/\h.DictOf (zl P w) a vs:=bv ok (.inl e)
theorem Jz{c:List Key}(ok:ci P w H h)(e:H a=some (.tup (c.map kV))):(Xo (zl P w)).is h c a:=by
 obtain⟨_,b,r,o,h1,d,n,h3⟩:=(show Fi P w H h a (.tup (c.map kV))from ok a _ e)
 exact⟨o,b.toArray,n,h1,d,h3,by simpa using vP r⟩
theorem fA{kvs:List (List Key × V)}(ok:ci P w H h)(e:Rd H a (.dT kvs)):kvs.length<=sizeLine/\(a == qg)=false/\
  ∃ xs,KT H kvs xs/\h.DictOfH (Xo (zl P w)) a xs:=by
 obtain⟨z,y,xs,r,o,d,c,h1,f,h3,h4,g⟩:=(show Fi P w H h a (.dT kvs)from HQ ok e)
 refine⟨z,y,xs,r,o,d,c,h1,f,h3,h4,λx b=>?_,g⟩;have all:∀ {l:List (List Key × V)} {m:List (List Key × Addr × Value)},KT H l m->∀ x∈m,(Xo (zl P w)).is h x.1 x.2.1:=by
  intro l m q;induction q with
  |nil=>intro x b;exact nomatch b
  |@cons p q j k hq t i=>
   intro x b;rcases La.mp b with e|b
   ·subst e;exact Jz ok (by rw[<-hq.1];exact hq.2.1)
   ·exact i x b
 exact all r x b
theorem z5{kvs:List (List Key × V)}(ok:ci P w H h)(e:H a=some (.dT kvs)):kvs.length<=sizeLine/\(a == qg)=false/\
  ∃ xs,KT H kvs xs/\h.DictOfH (Xo (zl P w)) a xs:=fA ok (.inl e)
end
noncomputable def Si(H:Hp)(a:Addr)(y:V)(r:Option V):Prop:=
 (∃ c k,Rd H a (.dK c)/\y=kV k/\r=Cn c k)\/∃ c k b,Rd H a (.dT c)/\y=.ref b/\H b=some (.tup (k.map kV))/\r=Cn c k
noncomputable def Ox(H:Hp)(a:Addr)(y v:V)(d:Hp):Prop:=
 (∃ c k,H a=some (.dK c)/\y=kV k/\c.length<sizeLine/\d=upd H a (.dK (ko c k v)))\/
 ∃ c k b,H a=some (.dT c)/\y=.ref b/\H b=some (.tup (k.map kV))/\c.length<sizeLine/\d=upd H a (.dT (ko c k v))
theorem Si.k{H:Hp}{a:Addr}{kvs:List (Key × V)}{k:Key}(e:H a=some (.dK kvs)):Si H a (kV k) (Cn kvs k):=.inl ⟨kvs,k,.inl e,rfl,rfl⟩
theorem Si.t{H:Hp}{a b:Addr}{kvs:List (List Key × V)}{k:List Key}(e:H a=some (.dT kvs))(c:H b=some (.tup (k.map kV))):Si H a (.ref b) (Cn kvs k):=.inr ⟨kvs,k,b,.inl e,rfl,c,rfl⟩
theorem Ox.k{H:Hp}{a:Addr}{kvs:List (Key × V)}{k:Key}{v:V}(e:H a=some (.dK kvs))(b:kvs.length<sizeLine):Ox H a (kV k) v (upd H a (.dK (ko kvs k v))):=.inl ⟨kvs,k,e,rfl,b,rfl⟩
theorem Ox.t{H:Hp}{a b:Addr}{kvs:List (List Key × V)}{k:List Key}{v:V}(e:H a=some (.dT kvs))(c:H b=some (.tup (k.map kV)))(d:kvs.length<sizeLine) :
  Ox H a (.ref b) v (upd H a (.dT (ko kvs k v))):=.inr ⟨kvs,k,b,e,rfl,c,d,rfl⟩
section
variable{X:Cx}{pins:List (Addr × vc)}{σ:St}{H:Hp}{s:aa}{a:Addr}{y v:V}{u r:Value}{o:Option V}{A:Ia}{E:Value->aa->Prop}
theorem Inv.fN(I:Inv X pins σ H s):qg<s.heap.objs.size:=by
 have h:mainGlobals<s.heap.objs.size:=(I.mod.glob.keeps I.bk).lt;exact Nq (by decide) h
theorem gR{Q:Value->aa->Prop}(t:A.units+1<cLine)(I:Inv X pins σ H s)(g:Si H a y (some v))(q:Zc y u)(h:∀ d s',Inv X pins σ H s'->Zc v d->Q d s') :
  wpAny (model X.prog X.w) A (zi (.ref a) u) Q E s:=by
 rcases g with⟨n,k,e,i,l⟩|⟨n,k,b,e,i,r,l⟩
 ·subst i;obtain⟨z,hd,x,rel,f⟩:=bv I.cc e;obtain⟨d,m,c⟩:=mo.some_of (v:=v) (o:=Yn x k) (by rw[l];exact rel.val k);exact wpAny_getItem_of (cz q) f.mapOf m (h d _ (I.tok _) c)
 ·subst i;cases (show u=pb b from q);obtain⟨z,hd,xs,rel,f⟩:=fA I.cc e;obtain⟨d,m,c⟩:=mo.some_of (v:=v) (o:=(Tq xs k).map (·.2)) (by rw[l];exact rel.val k);obtain⟨p,hp,j⟩:=Lb.mp m;refine wpAny_getItem_heap (Wh t) (Jz I.cc r) f hp ?_;rw[j];exact h d _ (I.tok _) c
theorem DR{Q:Value->aa->Prop}(m:A.units+1<cLine)(I:Inv X pins σ H s)(g:Si H a y o)(i:Zc y u)(h:∀ s',Inv X pins σ H s'->Q (.bool o.isSome) s') :
  wpAny (model X.prog X.w) A (Ib .In u (.ref a)) Q E s:=by
 rcases g with⟨f,k,e,d,l⟩|⟨f,k,b,e,d,j,l⟩
 ·subst d;obtain⟨z,hd,n,rel,c⟩:=bv I.cc e;refine wpAny_in_of (cz i) hd c.mapOf ?_;rw[<-(rel.val k).Hh,<-l];exact h _ (I.tok _)
 ·subst d;cases (show u=pb b from i);obtain⟨z,hd,xs,rel,c⟩:=fA I.cc e;refine wpAny_in_heap (Wh m) (Jz I.cc j) hd c ?_;have q:=(rel.val k).Hh;rw[nk]at q;rw[<-q,<-l];exact h _ (I.tok _)
theorem eV{Q:Value->aa->Prop}(m:A.units+1<cLine)(I:Inv X pins σ H s)(g:Si H a y o)(i:Zc y u)(h:∀ s',Inv X pins σ H s'->Q (.bool (!o.isSome)) s') :
  wpAny (model X.prog X.w) A (Ib .NotIn u (.ref a)) Q E s:=by
 rcases g with⟨f,k,e,d,l⟩|⟨f,k,b,e,d,j,l⟩
 ·subst d;obtain⟨z,hd,n,rel,c⟩:=bv I.cc e;refine wpAny_notIn_of (cz i) hd c.mapOf ?_;rw[<-(rel.val k).Hh,<-l];exact h _ (I.tok _)
 ·subst d;cases (show u=pb b from i);obtain⟨z,hd,xs,rel,c⟩:=fA I.cc e;refine wpAny_notIn_heap (Wh m) (Jz I.cc j) hd c ?_;have q:=(rel.val k).Hh;rw[nk]at q;rw[<-q,<-l];exact h _ (I.tok _)
theorem jI{h':Heap}{t':Nat}{ob:HO}(I:Inv X pins σ H s)(g:Bz (H a))(f:uf a s.heap h')(d:∃ q,h'.get? a=some q)(c:Fi X.prog X.w (upd H a ob) h' a ob) :
  Inv X pins σ (upd H a ob) { s with heap:=h',toks:=t' }:=
 I.write (x:=a) (e:=a) g (.inl rfl) (λb q hb z=>(f.2 b hb).trans z) d c
theorem ZF{P:wa}{w:Ja}{b:Hp}{h':Heap}{kvs:List (Key × V)}{vs:List (Key × Value)}(z:kvs.length<=sizeLine)(hd:(a == qg)=false)(rel:KV kvs vs)(dd:h'.DictOf (zl P w) a vs) :
  Fi P w b h' a (.dK kvs):=⟨z,hd,vs,rel,dd⟩
theorem zS{t:Hp}{Q:Unit->aa->Prop}(N:A.units+1<cLine)(I:Inv X pins σ H s)(g:Ox H a y v t)(F:Zc y u)(D:Zc v r)(h:∀ s',Inv X pins σ t s'->Q () s') :
  wpAny (model X.prog X.w) A (yu (.ref a) u r) Q E s:=by
 rcases g with⟨d,k,e,m,l,j⟩|⟨d,k,b,e,m,x,l,j⟩
 ·subst m j;obtain⟨z,hd,O,rel,i⟩:=BQ I.cc e;have p:O.length<=sizeLine:=by rw[<-rel.length];exact z
  have n:(ko d k v).length<=sizeLine:=by have:=HG d k v;omega
  refine wpAny_setItem_pairs (hsz:=p) (cz F) i λC f o=>h _ ?_;have M:∃ q,C.get? a=some q:=let ⟨q,_,_,hq,_⟩:=f;⟨q,hq⟩;exact jI I (by rw[e];exact True.intro) o M (ZF n hd (rel.put k D) f)
 ·subst m j;cases (show u=pb b from F);obtain⟨z,hd,xs,rel,i⟩:=z5 I.cc e;have p:xs.length<=sizeLine:=by rw[<-Paired.length rel];exact z
  have n:(ko d k v).length<=sizeLine:=by have:=HG d k v;omega
  refine wpAny_setItem_heap (hsz:=p) (Wh N) (Jz I.cc x) i λC f o=>h _ ?_;obtain⟨q,J,G,hq,K,h3,h4,_,L⟩:=f;refine jI I (by rw[e];exact True.intro) o ⟨q,hq⟩ ⟨n,hd,_,(rel.put k x D).keeps λc P B=>?_,q,J,G,hq,K,h3,h4,L⟩;rw[yd (AI B e (λz=>nomatch z))];exact B
end
section
variable{X:Cx}{pins:List (Addr × vc)}{σ:St}{H:Hp}{s:aa}{a:Addr}{kvs:List (Key × V)}{k:Key}{u:Value}{A:Ia}{E:Value->aa->Prop}
end
noncomputable def iF(i:Ka):Prop:=∀ b a,Dp i false b a=m8 [b,a] (zi b a)
theorem ZV{prog:wa}{w:Ja}{A:Ia}{E:Value->aa->Prop}{s:aa}{env:yg}{b a:Ka}{k:Ke}{T p:String}{Q:Value->aa->Prop}
  (m:typeLookup (.type T) "__getitem__" = pure (some (.builtin p))) (n:iF a)
  (h:wpAny (model prog w) A (bc b env) (λo d=>wpAny (model prog w) A (bc a env) (λi s₂=>s₂.TypeIs o T/\wpAny (model prog w) A (zi o i) Q E s₂) E d) E s) :
  wpAny (model prog w) A (bc (.Subscript b a k) env) Q E s:=by
 refine cy (Rb h (λo d g=>Rb g (λi s₂ c=>?_) λ_ _ x=>x) λ_ _ x=>x);obtain⟨l,c⟩:=c;unfold Yr;refine ba ?_;rw[getitemInPython_of_ne l.not_modules];refine ba (wpAny_specialOf l m ?_);have f:wpAny (model prog w) A (Dp a false o i) (λr e=>wpAny (model prog w) A (letTemporaryGo b o r >>= λ_=>pure r) Q E e) E s₂:=by
  rw[n o i];exact wpAny_operating (Rb c (λr e j=>ba (wpAny_letTemporaryGo (ra j))) λ_ _ x=>x)
 first
  |exact ra (ba f)
  |exact ba (ra (ba f))
  |exact ba f
theorem MY{X:Cx}{c:List (Addr × vc)}{σ:St}{H:Hp}{s:aa}{a:Addr}{y:V}{o:Option V}(I:Inv X c σ H s)(g:Si H a y o):s.TypeIs (.ref a) "dict":=by
 rcases g with⟨f,k,e,_,_⟩|⟨f,k,b,e,_,_,_⟩
 ·obtain⟨_,_,h,_,d⟩:=bv I.cc e;exact d.typeIs
 ·obtain⟨_,_,xs,_,d⟩:=fA I.cc e;exact d.typeIs
noncomputable def fT(td ty:TE):TE:=λc H Q=>td c H λx d=>ty c d λy b=>∃ a v,x=.ref a/\Si b a y (some v)/\Q v b
section
variable{X:Cx}{o i e value:Ka}{pos pos' tpos:Ke}{td ty tv:TE}
theorem j5(p:X.A.units+1<cLine)(m:PE X o td)(l:PE X i ty)(n:iF i):PE X (.Subscript o i pos) (fT td ty):=by
 intro b s e H Q I h;refine ZV PySem.F.slot_dict_getitem.lookup n (Od (m b s e H _ I h) λu s1 ⟨x,H1,j,t,q⟩=>Od (l b s1 e H1 _ j q) λz s2 ⟨y,f,d,w,a,v,ex,g,r⟩=>?_);subst ex;obtain rfl:u=pb a:=t;exact⟨MY d g,gR p d g w λC B k c=>⟨v,f,k,c,r⟩⟩
end
theorem TR{P:wa}{w:Ja}{H:Hp}(h:Heap)(hb:qg<h.objs.size):Fi P w H (h.push { cls:=.type "dict",data:=.dict #[] }) h.objs.size (.dK []):=
 ⟨Sr _,Yd.mpr (He (Ea hb)),[],.nil,gJ h⟩
noncomputable def oV:TE:=λ_ H Q=>∀ p,H p=none->Q (.ref p) (upd H p (.dK []))
section
variable{X:Cx}{pos:Ke}
theorem qQ:PE X (.Dict [] [] pos) oV:=λb s c H Q I h=>
 wpAny_Dict_empty ⟨.ref s.heap.objs.size,_,I.laid (a:=s.heap.objs.size) (o:=.dK []) (t':=s.toks) (λ_ _ q=>la _ q) (za _) (TR s.heap I.fN),rfl,h _ (I.cc.fresh (za _))⟩
end
section
variable{X:Cx}{pins:List (Addr × vc)}{σ:St}{H:Hp}{s:aa}{a:Addr}{kvs:List (Key × V)}{A:Ia}{E:Value->aa->Prop}
theorem qY{Q:Value->aa->Prop}(I:Inv X pins σ H s)(e:Rd H a (.dK kvs))(h:∀ p s',H p=none->Inv X pins σ (upd H p (.dK kvs)) s'->Q (.ref p) s'):wpAny (model X.prog X.w) A (call (.type "dict") [.ref a]) Q E s:=by
 obtain⟨z,hd,i,rel,d⟩:=bv I.cc e;refine kt_call_dict hd d (by rw[<-rel.length];exact z) λg c f=>?_;refine h _ _ (I.cc.fresh (za _)) (I.laid (a:=s.heap.objs.size) (o:=.dK kvs) (t':=s.toks) (λb q hq=>?_) (za _) (ZF z (Yd.mpr (He (Ea I.fN))) rel c));exact(f.2 b (Ea (va hq))).trans (la _ hq)
end
end L2
namespace L4
open PySem PySem.Spec PyProof.Rows L2
noncomputable def qp:D->Option Key
 | .int i=>some (.inl i)
 | .str x=>some (.inr x)
 |_=>none
noncomputable def ll(σ:Ya):D->Option (List (Key × D))
 | .Db b xs=>if b.length=xs.length then some (b.zip xs)else none
 | .ref n=>(match σ[n]? with
  |some (.Db a)=>some a
  |some (.Cf a)=>some a
  |_=>none)
 |_=>none
noncomputable def bp(kvs:List (Key × D))(k:Key):Option D:=(kvs.find? λa=>decide (a.1=k)).map (·.2)
noncomputable def uh(kvs:List (Key × D))(k:Key)(d:D):List (Key × D):=
 if kvs.any (λa=>decide (a.1=k))then kvs.map λa=>if a.1=k then (a.1,d)else a else kvs++[(k,d)]
section
variable{T:Tb}{X:Cx}{μ:List Addr}{H:Hp}
theorem Lz{y:D}{v:V}{k:Key}(h:Rep T μ H y v)(e:qp y=some k):v=kV k:=by
 cases y<;>simp[qp]at e<;>subst e<;>rw[Rep]at h<;>exact h
theorem oC:∀ {b:List Key} {ds:List D} {kvs:List (Key × V)},kvs.map (·.1)=b->Ua T μ H ds (kvs.map (·.2))->yj T μ H (b.zip ds) kvs
 |b,[],kvs,h1,a=>by
  rw[Ua]at a;have:kvs=[]:=by simpa using a
  subst this;rw[<-h1];exact .nil
 |b,d::ds,kvs,h1,a=>by
  rw[Ua]at a;obtain⟨v,r,e,c,f⟩:=a;cases kvs with
  |nil=>cases e
  |cons p kvs=>
   rw[Za]at e h1;cases e;rw[<-h1];exact .cons ⟨rfl,c⟩ (oC rfl f)
theorem lx{σ:Ya}(r:Rel T μ H σ){x:D}{v:V}{kvs:List (Key × D)}(h:Rep T μ H x v)(e:ll σ x=some kvs):∃ a vs,v=.ref a/\Rd H a (.dK vs)/\yj T μ H kvs vs:=by
 cases x with
 |Db f xs=>
  rw[Rep]at h;obtain⟨a,vs,rfl,_,h1,b,h3⟩:=h;unfold ll at e;dsimp only at e;split at e
  ·cases e;exact⟨a,vs,rfl,h1,oC b h3⟩
  ·cases e
 |ref n=>
  unfold ll at e;dsimp only at e;cases q:σ[n]? with
  |none=>rw[q]at e;cases e
  |some o=>
   rw[q]at e;cases o with
   |Db c=>
    cases e;obtain⟨a,rfl,_,vs,h1,b⟩:=r.at h q;exact⟨a,vs,rfl,.inl h1,b⟩
   |Cf c=>
    cases e;obtain⟨a,rfl,_,d,vs,h1,b⟩:=r.at h q;exact⟨a,vs,rfl,.inr ⟨d,h1⟩,b⟩
   |_=>cases e
 |_=>cases e
theorem vB{kvs:List (Key × D)}{vs:List (Key × V)}(h:yj T μ H kvs vs)(k:Key):(bp kvs k=none/\Cn vs k=none)\/∃ d v,bp kvs k=some d/\Cn vs k=some v/\Rep T μ H d v:=by
 unfold yj at h;induction h with
 |nil=>exact .inl ⟨rfl,rfl⟩
 |@cons p q b i h t g=>
  obtain⟨h1,c⟩:=h;by_cases e:p.1=k
  ·have a:q.1=k:=h1.symm.trans e;exact .inr ⟨p.2,q.2,by unfold bp;rw[ke,jd e];rfl,uD a,c⟩
  ·have a:¬ q.1=k:=λz=>e (h1.trans z);have f:bp (p::b) k=bp b k:=by unfold bp;rw[ke,xb e]
   rw[f,jC a];exact g
theorem ER{kvs:List (Key × D)}{vs:List (Key × V)}(h:yj T μ H kvs vs)(k:Key):(kvs.any λa=>decide (a.1=k))=(vs.any λa=>decide (a.1=k)):=by
 unfold yj at h;induction h with
 |nil=>rfl
 |@cons p q c d h t b=>rw[ue,ue,b,h.1]
theorem VJ{d e:Type}{F:d->e->Prop}{f:d->d}{g:e->e}(c:∀ a b,F a b->F (f a) (g b)):∀ {l:List d} {m:List e},Paired F l m->Paired F (l.map f) (m.map g)
 |_,_,.nil=>.nil
 |_,_,.cons h t=>.cons (c _ _ h) (VJ c t)
theorem cM{d e:Type}{F:d->e->Prop}{a:d}{b:e}(c:F a b):∀ {l:List d} {m:List e},Paired F l m->Paired F (l++[a]) (m++[b])
 |_,_,.nil=>.cons c .nil
 |_,_,.cons h t=>.cons h (cM c t)
theorem gP{kvs:List (Key × D)}{vs:List (Key × V)}(h:yj T μ H kvs vs)(k:Key){d:D}{v:V}(hd:Rep T μ H d v):yj T μ H (uh kvs k d) (ko vs k v):=by
 unfold uh ko;rw[ER h k];split
 ·refine VJ (λp q h=>?_) h;by_cases e:p.1=k
  ·rw[da e,da (h.1.symm.trans e)];exact⟨h.1,hd⟩
  ·rw[ga e,ga (λz=>e (h.1.trans z))];exact h
 ·exact cM ⟨rfl,hd⟩ h
theorem yj.mono{μ':List Addr}{a:Hp}(e:Ext μ H μ' a){kvs:List (Key × D)}{vs:List (Key × V)}(h:yj T μ H kvs vs):yj T μ' a kvs vs:=Paired.Gp h λ_ _ z=>⟨z.1,Rep.mono e _ _ z.2⟩
theorem _root_.L2.Si.kr{H:Hp}{a:Addr}{kvs:List (Key × V)}{k:Key}(e:Rd H a (.dK kvs)):Si H a (kV k) (Cn kvs k):=.inl ⟨kvs,k,e,rfl,rfl⟩
noncomputable def Xk(x y:D):M D:=λb=>match qp y with
 |some k=>(match ll b x with
  |some a=>(match bp a k with
   |some d=>.ok d b
   |none=>.bad)
  |none=>.bad)
 |none=>.bad
theorem yr{o i:Ka}{p fi:Ev->M D}{g:Ke}(Z:X.A.units+9<cLine)(F:FE T X o p)(E:FE T X i fi)(J:iF i):FE T X (.Subscript o i g) (Fa Xk p fi):=by
 intro c s st H Q I h;refine j5 (by omega) F E J c s st H Q I ?_;obtain⟨μ,t,V,q,G,hp⟩:=h;refine⟨μ,t,V,q,G,hp.bind λx m l v W _ z P N L=>⟨l,t,m,q.mono z,P,L.bind λy n U u Y _ B r O b=>?_⟩⟩;unfold Xk at b;cases f:qp y with
 |none=>rw[f]at b;exact b.elim
 |some k=>
  rw[f]at b;dsimp only at b;cases e:ll n x with
  |none=>rw[e]at b;exact b.elim
  |some K=>
   rw[e]at b;dsimp only at b;obtain⟨a,vs,rfl,h1,C⟩:=lx r (Rep.mono B _ _ N) e;obtain rfl:=Lz O f;rcases vB C k with⟨j,_⟩|⟨d,w,j,R,S⟩
   ·rw[j]at b;exact b.elim
   ·rw[j]at b;exact⟨a,w,rfl,by rw[<-R];exact Si.kr h1,Kb.here b r S⟩
noncomputable def mK:R2:=λy x H Q=>∃ a o,x=.ref a/\Si H a y o/\Q (.bl o.isSome) H
theorem bQ(f:X.A.units+9<cLine):Nh X (Ib .In) mK:=by
 intro b s st H y x i u Q I e d h;obtain⟨a,o,rfl,g,q⟩:=h;obtain rfl:u=pb a:=d;exact DR (by omega) I g e λj c=>⟨.bl o.isSome,H,c,rfl,q⟩
noncomputable def Cy(y x:D):M D:=λb=>match qp y with
 |some k=>(match ll b x with
  |some a=>.ok (.bl (bp a k).isSome) b
  |none=>.bad)
 |none=>.bad
theorem eM:al T mK Cy:=by
 intro E μ H l y x u v Q r q p h;unfold Cy at h;cases c:qp y with
 |none=>rw[c]at h;exact h.elim
 |some k=>
  rw[c]at h;dsimp only at h;cases b:ll l x with
  |none=>rw[b]at h;exact h.elim
  |some i=>
   rw[b]at h;obtain⟨a,j,rfl,h1,g⟩:=lx r p b;obtain rfl:=Lz q c;refine⟨a,Cn j k,rfl,Si.kr h1,Kb.here h r ?_⟩;rw[Rep];rcases vB g k with⟨e,f⟩|⟨d,w,e,f,m⟩
   ·rw[e,f];rfl
   ·rw[e,f];rfl
noncomputable def MU:UC:=λx y v H Q=>∃ a b,x=.ref a/\Ox H a y v b/\Q b
theorem G5(l:X.A.units+9<cLine):DF X MU:=by
 intro b s st H o i v e m u Q I j f k h;obtain⟨a,c,rfl,g,q⟩:=h;obtain rfl:e=pb a:=j;exact zS (by omega) I g f k λn d=>⟨c,d,q⟩
noncomputable def Ar(ρ:Ev)(d x:D)(y:D):M Fl:=λb=>match x with
 | .ref n=>(match qp y with
  |some k=>(match b[n]? with
   |some (.Db a)=>if a.length<Rh then .ok (.nx ρ) (b.set n (.Db (uh a k d)))else .bad
   |_=>.bad)
  |none=>.bad)
 |_=>.bad
noncomputable def AF(ρ:Ev)(fi:Ev->M D)(d x:D):M Fl:=xs ρ (fi ρ) (Ar ρ d x)
noncomputable def RH(ρ:Ev)(a fi:Ev->M D)(d:D):M Fl:=xs ρ (a ρ) (AF ρ fi d)
noncomputable def Lr(f b fi:Ev->M D):Ev->M Fl:=λa=>xs a (f a) (RH a b fi)
theorem Qt{e o i:Ka}{f Q fi:Ev->M D}{p b:Ke}(hu:X.A.units+9<cLine)(V:FE T X e f)(Y:FE T X o Q)(W:FE T X i fi)
  (U:∀ v,Zh (.Subscript o i b) X.env v=(do
   let t <-vf [v] (bc o X.env);let C <-vf [v,t] (bc i X.env)
   Vn b
   vf [v,t,C] (yu t C v)
   i8 [v,t,C] []):=by intro _;rfl)
  (hs:xm [.Subscript o i b] e p.line X.env=pure false:=by rfl) (hw:ym [.Subscript o i b] e X.env=pure none:=by rfl)
  (h1:(me [.Subscript o i b] X.env).map (·.2)=[Zh (.Subscript o i b) X.env]:=by rfl):FS T X (.Assign [.Subscript o i b] e p) (Lr f Q fi):=by
 intro m s st H D I hq;refine TF V (cN Y W (G5 hu) U) hs hw h1 m s st H D I ?_;obtain⟨μ,K,σ,g,Z,hp⟩:=hq;refine⟨μ,K,σ,g,Z,hp.xs g λd L G v H1 _ j r1 q1 p1=>?_⟩;refine⟨G,K,L,g.mono j,r1,p1.xs (g.mono j) λx N J vo H2 _ r r2 q2 p2=>?_⟩;refine⟨J,K,N,(g.mono j).mono r,r2,p2.xs ((g.mono j).mono r) λy O q vi P _ u S q3 c=>?_⟩;have hd:=Rep.mono u _ _ (Rep.mono r _ _ q1);have hx:=Rep.mono u _ _ q2;unfold Ar at c;cases x with
 |ref n=>
  dsimp only at c;cases w:qp y with
  |none=>rw[w]at c;exact c.elim
  |some k=>
   rw[w]at c;dsimp only at c;cases B:O[n]? with
   |none=>rw[B]at c;exact c.elim
   |some ob=>
    rw[B]at c;cases ob with
    |Db h=>
     dsimp only at c;by_cases hc:h.length<Rh
     ·rw[da hc]at c;obtain⟨a,rfl,hn,E,R,g2⟩:=S.at hx B;obtain rfl:=Lz q3 w;have F:=S.write (o:=.dK (ko E k v)) (ob:=.Db (uh h k d)) hn ⟨_,Og,by
       have ex:Ext q P q (upd P a (.dK (ko E k v))):=Iv (Ma hn) R (λ_ z=>by cases z) (λ_ _ z=>by cases z);exact gP (yj.mono ex g2) k (Rep.mono ex _ _ hd)⟩
      have l:E.length=h.length:=by unfold yj at g2;exact(Paired.length g2).symm
      exact⟨a,_,rfl,Ox.k R (by rw[l];exact Ha hc (by decide)),c _ (.nx st) _ F.1 F.2 (((g.mono j).mono r).mono u |>.mono F.1)⟩
     ·rw[ga hc]at c;exact c.elim
    |_=>exact c.elim
 |_=>exact c.elim
noncomputable def Hs:Ev->M D:=λ_ a=>.ok (.ref a.length) (a++[.Db []])
theorem Rv{b:Ke}:FE T X (.Dict [] [] b) Hs:=by
 intro a s st H Q I h;obtain⟨μ,e,f,d,c,hp⟩:=h;refine qQ a s st H Q I λp hn=>?_;exact hp (μ++[p]) (.ref p) _ (Hv hn) (c.push hn ⟨[],Og,.nil⟩) (iB c)
theorem O0{b:Ke}:FE T X (.Dict [] [] b) (eC (.Db [] [])):=by
 intro a s st H Q I h;obtain⟨μ,f,g,e,c,hp⟩:=h;refine qQ a s st H Q I λp hn=>?_;exact hp μ (.ref p) _ (Sk hn) (c.fresh hn) (by rw[Rep];exact⟨p,[],rfl,λhm=>(by obtain⟨u,d,_⟩:=c.mem hm;rw[hn]at d;cases d),(.inl Og),rfl,Ua.nil⟩)
noncomputable def XG:List V->Hp->VK->Prop:=λxs H Q=>∃ a b,xs=[.ref a]/\Rd H a (.dK b)/\∀ p,H p=none->Q (.ref p) (upd H p (.dK b))
theorem jL:kn X (.type "dict") XG:=by
 intro b s st H xs i Q I r h;obtain⟨a,d,rfl,e,q⟩:=h;obtain⟨u,rfl,f⟩:=js r;cases f;exact qY I e λp g hn c=>⟨.ref p,_,c,rfl,q p hn⟩
noncomputable def hA(ds:List D):M D:=λb=>match ds with
 |[x]=>(match ll b x with
  |some a=>.ok (.Db (a.map (·.1)) (a.map (·.2))) b
  |none=>.bad)
 |_=>.bad
theorem YN:∀ {kvs:List (Key × D)} {vs:List (Key × V)},yj T μ H kvs vs->vs.map (·.1)=kvs.map (·.1)/\Ua T μ H (kvs.map (·.2)) (vs.map (·.2))
 |_,_,.nil=>⟨rfl,Ua.nil⟩
 |_,_,.cons h t=>by
  obtain⟨a,b⟩:=YN t;exact⟨by rw[Za,Za,a,h.1],Ua.cons h.2 b⟩
theorem K6:Bq T XG hA:=by
 intro E μ H n f q Q r p h
 match f with
 |[]=>exact h.elim
 |[x]=>
  unfold hA at h;dsimp only at h;cases b:ll n x with
  |none=>rw[b]at h;exact h.elim
  |some i=>
   rw[b]at h;rw[Ua]at p;obtain⟨v,o,rfl,j,d⟩:=p;rw[Ua]at d;subst d;obtain⟨a,e,rfl,h1,g⟩:=lx r j b;refine⟨a,e,rfl,h1,λl hn=>?_⟩;obtain⟨k,m⟩:=YN g;exact h μ (.ref l) _ (Sk hn) (r.fresh hn) (by rw[Rep];exact⟨l,e,rfl,λhm=>(by obtain⟨u,c,_⟩:=r.mem hm;rw[hn]at c;cases c),(.inl Og),k,Ua.mono (Sk hn) _ _ m⟩)
 |_::_::_=>exact h.elim
end
section
variable{T:Tb}{X:Cx}
structure InK(K:W.Frag)(C:Addr):Prop where
 cl:L2.jo K C
 a:W.findIn K (.ref C) "__class__" = some (some (.builtin "object.__class__"))
 n:W.specialIn K (.builtin "object.__class__") "__get__" = some (some (.builtin "getset_descriptor.__get__"))
 t:W.takesIn K (.builtin "object.__class__")=some true
 m:W.mroIn K C (.type "object")=some true
end
section
variable{T:Tb}{X:Cx}
noncomputable def sH(ds:List D):M D:=λa=>match ds with
 |[x]=>(match x with
  | .int i=>.ok (.int i) a
  | .bl k=>.ok (.int (if k then 1 else 0)) a
  |_=>.bad)
 |_=>.bad
theorem AW(k:Bool)(σ:Ya):sH [.bl k] σ=.ok (.int (if k then 1 else 0)) σ:=rfl
theorem O7:Bq T (λxs H Q=>(∃ i,xs=[.int i]/\Q (.int i) H)\/∃ k,xs=[.bl k]/\Q (.int (if k then 1 else 0)) H) sH:=by
 intro E d H e xs c Q r p h
 match xs with
 |[]=>exact h.elim
 |[x]=>
  rw[Ua]at p;obtain⟨v,w,rfl,a,b⟩:=p;rw[Ua]at b;subst b;cases x with
  |int i=>rw[Rep]at a;subst a;exact .inl ⟨i,rfl,Kb.here h r (by rw[Rep])⟩
  |bl k=>rw[Rep]at a;subst a;exact .inr ⟨k,rfl,Kb.here h r (by rw[Rep])⟩
  |_=>exact h.elim
 |_::_::_=>exact h.elim
inductive lB(X:Cx):List (Option Ka)->List Ka->List (Str × Str)->Prop
 |nil:lB X [] [] []
 |cons {k v:Ka} {x y:Str} {ks:List (Option Ka)} {vs:List Ka} {l:List (Str × Str)}:PE X k (tC (.str x))->PE X v (tC (.str y))->lB X ks vs l->lB X (some k::ks) (v::vs) ((x,y)::l)
theorem lB.all{ks vs l}(h:lB X ks vs l):ks.all (·.isSome)=true/\ks.length=vs.length/\ks.length=l.length:=by
 induction h with
 |nil=>exact⟨rfl,rfl,rfl⟩
 |cons _ _ _ a=>exact⟨by simpa using a.1,by simpa using a.2.1,by simpa using a.2.2⟩
end
noncomputable def rA(o:Int->Int->Int)(i:Nat)(ρ:Ev)(x d:D):M Fl:=λc=>match x,d with
 | .int a,.int b=>.ok (.nx (ρ.set i (some (.int (o a b))))) c
 |_,_=>.bad
noncomputable def yw(o:Int->Int->Int)(i:Nat)(f:Ev->M D):Ev->M Fl:=λa=>match a[i]? with
 |some (some x)=>xs a (f a) (rA o i a x)
 |_=>λ_=>.bad
theorem mL{o:Int->Int->Int}{i:Nat}{f:Ev->M D}{ρ:Ev}{σ:Ya}{x:D}(h:ρ[i]?=some (some x)):yw o i f ρ σ=yl ρ (rA o i ρ x) (f ρ σ):=by
 unfold yw;rw[h];exact jp ..
@[simp] theorem J9(o:Int->Int->Int)(i:Nat)(ρ:Ev)(a b:Int)(σ:Ya):rA o i ρ (.int a) (.int b) σ=.ok (.nx (ρ.set i (some (.int (o a b))))) σ:=nr rfl
section
variable{T:Tb}{X:Cx}{e:Ka}{f:Ev->M D}{pos:Ke}
theorem AO{i:Nat}{x:Str}{h:Ke}{n:Nk}{o:Int->Int->Int}(A:NH X n (yN o))(hN:X.N.Nodup)(z:X.N[i]?=some x)(E:Loc X.env.scope x)(u:FE T X e f)(w:X.fn x=true\/X.env.scope.names.lookup x=some .local:=by first|exact .inl rfl|exact .inr rfl|assumption) :
  FS T X (.AugAssign (.Name x h) n e pos) (yw o i f):=by
 intro c s st H D I C;refine K0 hN z E u A w c s st H D I ?_;obtain⟨G,r,K,k,B,hp⟩:=C;unfold yw at hp;cases j:r[i]? with
 |none=>rw[j]at hp;exact hp.elim
 |some q=>
  cases q with
  |none=>rw[j]at hp;exact hp.elim
  |some d=>
   rw[j]at hp;obtain⟨v,h1,m⟩:=k.2 i d j;refine⟨v,h1,G,r,K,k,B,hp.xs k λy L J O M _ t F p l=>?_⟩;cases d with
   |int a=>
    cases y with
    |int b=>
     rw[Rep]at m p;subst m p;exact⟨a,b,rfl,rfl,Kb.here (g:=Hl.nx (st.set i (some (.int (o a b))))) l F ((k.mono t).set i (by rw[Rep]))⟩
    |_=>exact l.elim
   |_=>exact l.elim
end
end L4
namespace L4
open PySem PySem.Spec PySem.Calls PyProof.Rows L2
section
variable{T:Tb}{X:Cx}
end
end L4
namespace L4
open PySem PySem.Spec PyProof.Rows L2
noncomputable def yx(o:D->List D->M D)(m:M (List D))(x:D):M D:=λa=>match ll a x with
 |some _=>Xc m (o x) a
 |none=>.bad
noncomputable def mF(o:D->List D->M D)(f:Ev->M D)(fs:Ev->M (List D)):Ev->M D:=λa=>Xc (f a) (yx o (fs a))
noncomputable def UN:V->List V->Hp->VK->Prop:=λx c H Q=>∃ a b k d,x=.ref a/\c=[kV k,d]/\H a=some (.dK b)/\b.length<sizeLine/\
 (∀ v,Cn b k=some v->Q v H)/\(Cn b k=none->Q d (upd H a (.dK (ko b k d))))
noncomputable def Ot(x:D)(xs:List D):M D:=λb=>match x,xs with
 | .ref n,[y,d]=>(match qp y with
  |some k=>(match b[n]? with
   |some (.Db a)=>if a.length<Rh then (match bp a k with
    |some e=>.ok e b
    |none=>.ok d (b.set n (.Db (uh a k d))))else .bad
   |_=>.bad)
  |none=>.bad)
 |_,_=>.bad
section
variable{T:Tb}{X:Cx}{o e:Ka}{es:List Ka}{f:Ev->M D}{fs:Ev->M (List D)}{name:Str}{apos cpos:Ke}{id:String}{r:V->List V->Hp->VK->Prop}{g:D->List D->M D}
theorem mZ:Vt X "dict.setdefault" UN:=by
 intro j s st H x J v G Q I D C h;obtain⟨a,b,k,d,rfl,rfl,i,E,h1,o⟩:=h;cases D;obtain⟨u,r,rfl,B,l⟩:=C.two;obtain⟨z,hd,m,rel,g⟩:=BQ I.cc i;have A:m.length<=sizeLine:=by rw[<-rel.length];exact z
 have f:(ko b k d).length<=sizeLine:=by have:=HG b k d;omega
 refine e8 fm g.typeIs PySem.F.entry_dict_setdefault (PySem.F.args_dict_setdefault_3 _ _ _) (kt_meets_setdefault (zl X.prog X.w) a (cz B) hd r) ⟨m,g,A,λw y=>?_,λhn n c t=>?_⟩
 ·have q:=rel.val k;rw[y]at q;cases e:Cn b k with
  |none=>rw[e]at q;exact absurd q (by simp[mo])
  |some x=>rw[e]at q;exact⟨x,H,I.tok _,q,h1 x e⟩
 ·have q:=rel.val k;rw[hn]at q;cases e:Cn b k with
  |some x=>rw[e]at q;exact absurd q (by simp[mo])
  |none=>
   have p:∃ q,n.get? a=some q:=let ⟨q,_,_,hq,_⟩:=c;⟨q,hq⟩;exact⟨d,_,jI I (by rw[i];exact True.intro) t p (ZF f hd (rel.put k l) c),l,o e⟩
theorem vM{p:Addr}{kvs:List (Key × V)}{b:List (Addr × vc)}{σ:St}{H:Hp}{s:aa}(I:Inv X b σ H s)(d:Rd H p (.dK kvs)):s.TypeIs (.ref p) "dict"/\∀ a,pb p=.ref a->∃ ob,s.heap.get? a=some ob/\ob.dict=none:=by
 obtain⟨_,_,_,_,o,_,_,e,ex,_⟩:=bv I.cc d;refine⟨⟨o,e,ex.1⟩,λa c=>?_⟩;cases c;exact⟨o,e,ex.2.1⟩
noncomputable def k6(r:V->List V->Hp->VK->Prop)(to:TE):TE:=λd H Q=>to d H λx c=>(∃ a b,x=.ref a/\Rd c a (.dK b))/\r x [] c Q
noncomputable def vR(r:V->List V->Hp->VK->Prop)(to:TE)(t:TA):TE:=λd H Q=>to d H λx c=>(∃ a b,x=.ref a/\Rd c a (.dK b))/\t d c λxs e=>r x xs e Q
theorem LP{to:TE}(m:jn "dict")(slot:Slot "dict" name id)(e:Sq (.builtin id)=pure (.type "method_descriptor"))(hm:Vt X id r)(k:PE X o to)
  (c:Zd o name X.env (bc o X.env)=bc o X.env:=by rfl) (d:(apos.endLine == cpos.line)=true:=by rfl):PE X (.Call (.Attribute o name apos) [] [] cpos) (k6 r to):=by
 intro b s g H Q I h;refine wpAny_Call_method0_late c d (Od (k b s g H _ I h) λv s1 ⟨x,H1,f,p,ty,n⟩=>?_);obtain⟨a,l,rfl,j⟩:=ty;cases p;obtain⟨h1,i⟩:=vM f j;exact⟨"dict",id,m,slot,e,h1,i,pi rfl (PySem.evalArgs_none (hm b s1 g H1 (.ref a) [] (.ref a) [] Q f rfl .nil n))⟩
theorem G4{to:TE}{t:TA}(A:jn "dict")(slot:Slot "dict" name id)(i:Sq (.builtin id)=pure (.type "method_descriptor"))(hm:Vt X id r)(w:PE X o to)(q:PA X (e::es) t)
  (d:Zd o name X.env (bc o X.env)=bc o X.env:=by rfl)
  (g:((Mc cpos (ua (e::es) X.env)).all (λx=>!x.1) && (Wn cpos (Ai [] X.env)).all (λx=>x.1.isSome)
   && decide ((e::es).length+([]:List xj).length+(if ([]:List xj).isEmpty then 0 else 1)<30))=true:=by rfl)
  (f:(apos.endLine == cpos.line)=true:=by rfl) (y:ua (e::es) X.env=(false,bc e X.env)::ua es X.env:=by rfl) (c:(Mc cpos (ua es X.env)).any (·.1)=false:=by rfl) :
  PE X (.Call (.Attribute o name apos) (e::es) [] cpos) (vR r to t):=by
 intro b s j H Q I h;refine qu d g f rfl (Od (w b s j H _ I h) λv s1 ⟨x,H1,k,D,ty,B⟩=>?_);obtain⟨a,z,rfl,u⟩:=ty;cases D;obtain⟨h1,p⟩:=vM k u;refine⟨"dict",id,A,slot,i,h1,p,?_⟩;have l:=q cpos b s1 j H1 _ k B;rw[y]at l ⊢;refine pi (by show (false || (Mc cpos (ua es X.env)).any (·.1))=false;rw[c]<;>rfl) (cj ?_);exact Od l λus s2 ⟨F,m,n,E,C⟩=>hm b s2 j m (.ref a) F (.ref a) us Q n rfl E C
theorem sX(M:jn "dict")(slot:Slot "dict" name id)(p:Sq (.builtin id)=pure (.type "method_descriptor"))(hm:Vt X id r)(K:NA T r g)(G:FE T X o f)(F:FA T X (e::es) fs)
  (c:Zd o name X.env (bc o X.env)=bc o X.env:=by rfl)
  (i:((Mc cpos (ua (e::es) X.env)).all (λx=>!x.1) && (Wn cpos (Ai [] X.env)).all (λx=>x.1.isSome)
   && decide ((e::es).length+([]:List xj).length+(if ([]:List xj).isEmpty then 0 else 1)<30))=true:=by rfl)
  (d:(apos.endLine == cpos.line)=true:=by rfl) (n:ua (e::es) X.env=(false,bc e X.env)::ua es X.env:=by rfl) (b:(Mc cpos (ua es X.env)).any (·.1)=false:=by rfl) :
  FE T X (.Call (.Attribute o name apos) (e::es) [] cpos) (mF g f fs):=by
 intro j s st H Q I h;refine G4 M slot p hm G F c i d n b j s st H Q I ?_;obtain⟨S,A,U,w,J,hp⟩:=h;refine⟨S,A,U,w,J,hp.bind λx l q v V _ D z y k=>?_⟩;unfold yx at k;cases m:ll l x with
 |none=>rw[m]at k;exact k.elim
 |some xs=>
  rw[m]at k;obtain⟨a,P,rfl,h1,W⟩:=lx z y m;refine⟨⟨a,P,rfl,h1⟩,q,A,l,w.mono D,z,k.bind λC u t R B _ E O L N=>?_⟩;exact K _ t B u x C (.ref a) R Q O (Rep.mono E _ _ y) L N
theorem P6:NA T UN Ot:=by
 intro E F H K x xs v L Q r p q h;cases x with
 |ref n=>
  match xs with
  |[]=>exact h.elim
  |[_]=>exact h.elim
  |[y,d]=>
   rw[Ua]at q;obtain⟨w,z,rfl,I,A⟩:=q;rw[Ua]at A;obtain⟨s,g,rfl,B,C⟩:=A;rw[Ua]at C;subst C;unfold Ot at h;cases m:qp y with
   |none=>simp only[m]at h;exact h.elim
   |some k=>
    simp only[m]at h;cases b:K[n]? with
    |none=>simp only[b]at h;exact h.elim
    |some ob=>
     cases ob with
     |Db f=>
      simp only[b]at h;by_cases hc:f.length<Rh
      ·rw[da hc]at h;obtain⟨a,rfl,hn,l,u,g2⟩:=r.at p b;obtain rfl:=Lz I m;have i:l.length=f.length:=by unfold yj at g2;exact(Paired.length g2).symm
       refine⟨a,l,k,s,rfl,rfl,u,by rw[i];exact RN hc,λv e=>?_,λe=>?_⟩
       ·rcases vB g2 k with⟨j,g⟩|⟨G,J,j,g,D⟩
        ·rw[g]at e;cases e
        ·rw[g]at e;cases e;rw[j]at h;exact Kb.here h r D
       ·rcases vB g2 k with⟨j,g⟩|⟨G,J,j,g,D⟩
        ·rw[j]at h;have t:=r.write (o:=.dK (ko l k s)) (ob:=.Db (uh f k d)) hn ⟨_,Og,by
          have ex:Ext F H F (upd H a (.dK (ko l k s))):=Iv (Ma hn) u (λ_ z=>by cases z) (λ_ _ z=>by cases z);exact gP (yj.mono ex g2) k (Rep.mono ex _ _ B)⟩
         exact h _ _ _ t.1 t.2 (Rep.mono t.1 _ _ B)
        ·rw[g]at e;cases e
      ·rw[ga hc]at h;exact h.elim
     |lst M=>simp only[b]at h;exact h.elim
     |ins c fs=>simp only[b]at h;exact h.elim
     |Cf _=>simp only[b]at h;exact h.elim
     |yk _=>simp only[b]at h;exact h.elim
  |_::_::_::_=>exact h.elim
 |_=>exact h.elim
end
noncomputable def iw(σ:Ya)(x:D):List D->Option (List Bool)
 |[]=>some []
 |y::a=>match jj σ 7 y x,iw σ x a with
  |some b,some bs=>some (b::bs)
  |_,_=>none
noncomputable def jA(a:Bool)(x y:D):M D:=λb=>match vj b y with
 |some xs=>(match iw b x xs with
  |some bs=>.ok (.bl (if a then !(bs.any id)else bs.any id)) b
  |none=>.bad)
 |none=>.bad
theorem MO{σ:Ya}{x:D}:∀ {xs:List D} {bs:List Bool},iw σ x xs=some bs->bs.length=xs.length/\∀ (j:Nat) (d:D) (b:Bool),xs[j]?=some d->bs[j]?=some b->jj σ 7 d x=some b
 |[],bs,h=>by cases h;exact⟨rfl,λj d b h=>by simp at h⟩
 |y::g,bs,h=>by
  unfold iw at h;cases a:jj σ 7 y x with
  |none=>rw[a]at h;cases h
  |some i=>
   cases c:iw σ x g with
   |none=>rw[a,c]at h;cases h
   |some e=>
    rw[a,c]at h;cases h;obtain⟨h1,f⟩:=MO c;refine⟨by simp[h1],λj d b hd hb=>?_⟩;cases j with
    |zero=>simp at hd hb;subst hd;subst hb;exact a
    |succ j=>exact f j d b (by simpa using hd) (by simpa using hb)
open Classical in
noncomputable def Bs(its:List Value)(bs:List Bool)(u:Value):Bool:=decide (∃ j:Nat,its[j]?=some u/\bs[j]?=some true)
theorem YB{its:List Value}{bs:List Bool}{u:Value}:Bs its bs u=true ↔ ∃ j:Nat,its[j]?=some u/\bs[j]?=some true:=by unfold Bs;exact @wo _ (Classical.propDecidable _)
theorem XM{its:List Value}{bs:List Bool}(f:bs.length=its.length):its.toArray.any (Bs its bs)=bs.any id:=by
 rw[show its.toArray.any (Bs its bs)=its.any (Bs its bs) by simp,aw,Uu,Uu];constructor
 ·rintro ⟨u,_,e⟩;obtain⟨j,_,h⟩:=YB.mp e;exact⟨true,Ma h,rfl⟩
 ·rintro ⟨b,hb,d⟩;cases (show b=true from d);obtain⟨j,c,h⟩:=Vr hb;have a:j<its.length:=by omega
  exact⟨its[j],Vu a,YB.mpr ⟨j,by simp[a],by simp[c,h]⟩⟩
theorem xX{A:Ia}{s:aa}{x:Value}{its:List Value}{bs:List Bool}(g:bs.length=its.length)(h:∀ (j:Nat) (u:Value) (b:Bool),its[j]?=some u->bs[j]?=some b->gd A s u x b)(w:Value)(f:w∈its):gd A s w x (Bs its bs w):=by
 cases e:Bs its bs w with
 |true=>obtain⟨j,h1,c⟩:=YB.mp e;exact h j w true h1 c
 |false=>
  obtain⟨j,a,rfl⟩:=Vr f;have hb:j<bs.length:=by omega
  have d:bs[j]=false:=by
   cases q:bs[j]with
   |false=>rfl
   |true=>exact absurd (YB.mpr ⟨j,Lc a,by rw[Lc hb,q]⟩) (by rw[e];decide)
  exact h j _ false (Lc a) (by rw[Lc hb,d])
section
variable{T:Tb}{X:Cx}
theorem fR(C:T.K=X.K)(M:X.A.units+9<cLine){i:List (Addr × vc)}{s:aa}{st:St}{H:Hp}{μ:List Addr}{σ:Ya}(I:Inv X i st H s)(r:Rel T μ H σ){x y:D}{v u:V}{l n:Value}(E:Rep T μ H x v)(hy:Rep T μ H y u)(G:Zc v l)(F:Zc u n)
  {xs:List D} {bs:List Bool} (e:vj σ y=some xs) (B:iw σ x xs=some bs) {Q:Value->aa->Prop} :
  (Q (.bool (bs.any id)) s->wpAny (model X.prog X.w) X.A (Ib .In l n) Q X.xe s)/\(Q (.bool (!bs.any id)) s->wpAny (model X.prog X.w) X.A (Ib .NotIn l n) Q X.xe s):=by
 obtain⟨p,L,rfl,h1,f⟩:=px r hy e;rw[C]at f;obtain⟨N,hb⟩:=MO B;cases F;have h:∀ {a:List Value},Ud L a->(bs.length=a.length/\∀ w∈a,gd X.A.in1 s w l (Bs a bs w)):=fun {a} q=>by
  have l1:=h1.length;have l2:=q.length;have g:bs.length=a.length:=by omega
  refine⟨g,xX g λj w b c m=>?_⟩;obtain⟨z,o,J⟩:=fD q c;obtain⟨d,t,rd⟩:=IH h1 o;exact UD I r 7 X.A.in1 d x z v w l b (by show X.A.units+1+7+1<cLine;omega) rd E J G (hb j d b t m)
 rcases f with f|f
 ·obtain⟨a,q,pl,_⟩:=L2.Inv.list I f;obtain⟨g,k⟩:=h q;refine⟨λhq=>Su (Bs a bs) pl.isList (λw c=>k w (by simpa using c)) ?_,λhq=>SeqAt.notIn_listAt (Bs a bs) pl.isList (λw c=>k w (by simpa using c)) ?_⟩<;>rw[XM g]<;>exact hq
 ·obtain⟨a,q,pl,_⟩:=L2.Inv.tuple I f;obtain⟨g,k⟩:=h q;refine⟨λhq=>ou (Bs a bs) pl (λw c=>k w (by simpa using c)) ?_,λhq=>SeqAt.notIn_tupleAt (Bs a bs) pl (λw c=>k w (by simpa using c)) ?_⟩<;>rw[XM g]<;>exact hq
theorem J5(d:T.K=X.K)(f:X.A.units+9<cLine):Nh X (Ib .In) (rD T (jA false)):=by
 intro b s st H v u l k Q I j i h;obtain⟨E,m,c,x,y,r,g,hy,hp⟩:=h;unfold jA at hp;cases e:vj c y with
 |none=>rw[e]at hp;exact hp.elim
 |some xs=>
  rw[e]at hp;dsimp only at hp;cases a:iw c x xs with
  |none=>rw[a]at hp;exact hp.elim
  |some bs=>
   rw[a]at hp;exact(fR d f I r g hy j i e a).1 ⟨.bl (bs.any id),H,I,rfl,Kb.here hp r (by rw[Rep];rfl)⟩
end
section
variable{T:Tb}{X:Cx}
end
section
variable{T:Tb}{X:Cx}{tg iter:Ka}{f:Ev->M D}
end
section
variable{T:Tb}{X:Cx}{o e:Ka}{es:List Ka}{f:Ev->M D}{fs:Ev->M (List D)}{name:Str}{apos cpos:Ke}{id:String}{r:V->List V->Hp->VK->Prop}{g:D->List D->M D}
end
noncomputable def Ak:Ev->M Fl:=λ_ _=>.bad
section
variable{X:Cx}{pins:List (Addr × vc)}{σ:St}{H:Hp}{s:aa}{h':Heap}
theorem MA{H:Hp}{a b:Addr}{u:HO}(e:H b=some u)(n:H a=none):b≠a:=λz=>by rw[z,n]at e;cases e
theorem _root_.L2.Inv.fu{t':Nat}{its:List Addr}{p:Addr}{o:HO}(I:Inv X pins σ H s)(k:∀ b u,b ∉ its->s.heap.get? b=some u->h'.get? b=some u)(d:∀ b∈its,Vl X pins H b)(hp:s.heap.objs.size<=p)(f:Fi X.prog X.w (upd H p o) h' p o) :
  Inv X pins σ (upd H p o) { s with heap:=h',toks:=t' }:=by
 have hn:H p=none:=I.cc.fresh hp;have a:∀ b u,H b=some u->b ∉ its:=λb u e z=>by rw[(d b z).1]at e;cases e
 refine I.step (g':=s.gens) (d':=s.drawn) (ch:=its) (λb hb=>?_) (λb o _ _ hc e _=>k b o hc e) (λb o _ _ hc e _=>⟨o.slots,k b o hc e⟩) (λb u _ q n=>by rw[yd (Ea (Ha (va q) hp))];exact n)
  (λb o hc e=>⟨o,k b o hc e⟩) (λb xs q=>by rw[yd (MA q hn)];exact q) (λb u xs q=>by rw[yd (MA q hn)];exact q) (λb B q=>⟨#[],by rw[yd (MA q hn),q];simp⟩) (λm hm=>?_) (λb u e=>?_) I.bare
 ·obtain⟨y,i,A,j,l,t⟩:=d b hb;exact⟨j,i,l,t⟩
 ·obtain⟨o,h,g,x,r⟩:=hm;exact⟨o,h,g,k _ o (λz=>(d _ z).2.1 rfl) x,r⟩
 ·by_cases hb:b=p
  ·subst hb;rw[Og]at e;cases e;exact f
  ·rw[yd hb]at e;refine(I.cc b u e).Oj (λc v hc q=>k c v ?_ q) (λc q=>by rw[yd (MA q hn)];exact q) λc xs q=>by rw[yd (MA q hn)];exact q
   rcases hc with z|z
   ·rw[z];exact a b u e
   ·exact a c _ z
theorem _root_.L2.Inv.cu{t':Nat}{its:List Addr}(I:Inv X pins σ H s)(k:∀ b u,b ∉ its->s.heap.get? b=some u->h'.get? b=some u)(d:∀ b∈its,Vl X pins H b):Inv X pins σ H { s with heap:=h',toks:=t' }:=by
 have a:∀ b u,H b=some u->b ∉ its:=λb u e z=>by rw[(d b z).1]at e;cases e
 refine I.step (g':=s.gens) (d':=s.drawn) (ch:=its) (λb hb=>?_) (λb o _ _ hc e _=>k b o hc e) (λb o _ _ hc e _=>⟨o.slots,k b o hc e⟩) (λb u _ q n=>n)
  (λb o hc e=>⟨o,k b o hc e⟩) (λb xs q=>q) (λb u xs q=>q) (λb x q=>⟨#[],by rw[q];simp⟩) (λm hm=>?_) (λb u e=>?_) I.bare
 ·obtain⟨t,h,w,i,j,l⟩:=d b hb;exact⟨i,h,j,l⟩
 ·obtain⟨o,g,f,p,r⟩:=hm;exact⟨o,g,f,k _ o (λz=>(d _ z).2.1 rfl) p,r⟩
 ·refine(I.cc b u e).Oj (λc v hc q=>k c v ?_ q) (λ_ q=>q) λ_ _ q=>q;rcases hc with z|z
  ·rw[z];exact a b u e
  ·exact a c _ z
end
theorem Oo{h:Heap}{a b:Addr}{o i:vc}{n g:String}(e:h.get? a=some o)(f:h.get? b=some i)(c:o.cls=.type n)(d:i.cls=.type g)(hn:n≠g):a≠b:=λz=>by
 subst z;rw[e]at f;cases f;rw[c]at d;injection d with q;exact hn q
noncomputable def ML(K:W.Frag)(l:Addr):It:=
 ⟨λi H=>∃ xs x,Qe K H l xs/\xs[i]?=some x,λi H v a=>∃ p x,H p=none/\v=.ref p/\(∀ xs,Qe K H l xs->xs[i]?=some x)/\a=upd H p (.tup [.int i,x]),λi H=>∃ xs,Qe K H l xs/\i=xs.length⟩
noncomputable def UJ(K:W.Frag)(l m:Addr):It:=
 ⟨λi H=>∃ xs a x y,Qe K H l xs/\Qe K H m a/\xs[i]?=some x/\a[i]?=some y,λi H v b=>∃ p x y,H p=none/\v=.ref p/\(∀ xs,Qe K H l xs->xs[i]?=some x)/\(∀ a,Qe K H m a->a[i]?=some y)/\b=upd H p (.tup [x,y]),
  λi H=>∃ xs a,Qe K H l xs/\Qe K H m a/\i=min xs.length a.length⟩
theorem IZ{P:wa}{w:Ja}{K:PySem.W.Frag}{g:List Ka}{kk:Nat}{D:Ke}(l e it:Addr):Turn P w K (.Tuple g kk D) (ML K l) [e,it] e (λi h=>(∃ a,IsEnum h e it i a)/\h.IsListIter it l i) where
 mem:=by simp
 obj:=λi h st b hb=>by
  obtain⟨⟨a,s1⟩,o,s2,c,d⟩:=st;simp only[La,Nd,vm]at hb;rcases hb with rfl|rfl
  ·exact⟨_,s1,λv z=>by cases z⟩
  ·exact⟨o,s2,λv z=>by rw[d]at z;cases z⟩
 keep:=λi h G st k=>by
  obtain⟨⟨a,s1⟩,s2⟩:=st;exact⟨⟨a,k e (by simp) _ s1⟩,s2.at λo q=>k it (by simp) o q⟩
 item:=by
  intro X M R L hc i C s σ H E I J st O;subst M R L;obtain⟨xs,x,hq,S⟩:=O;obtain⟨f,Z,p,hz⟩:=I.list hq;obtain⟨u,hu,ru⟩:=Z.get S;obtain⟨⟨a,s1⟩,s2⟩:=st;obtain⟨oa,ea,ca,_⟩:=id p.isList;obtain⟨ob,F,cb,_⟩:=id s2;have V:l≠e:=Oo ea s1 ca rfl (by decide);have Y:l≠it:=Oo ea F ca cb (by decide);have U:e≠it:=Oo s1 F rfl cb (by decide);have W:=WalksT.enumerate (prog:=X.prog) (w:=X.w) (A:=X.A) (I.ok.hd hc) e it l U V Y f.toArray;have hi:i<f.toArray.size:=by
   have:=(na.mp hu).1;simpa using this
  refine W.item i s _ E hi ⟨⟨a,s1⟩,s2,p.isList⟩ λT a0 G tk N hT n j hk=>?_;obtain⟨t,y,hy,rfl⟩:=N;have ey:y=u:=by
   have:f.toArray[i]?=some u:=by simpa using hu
   rw[this]at hy;cases hy;rfl
  subst ey;refine⟨.ref T,rfl,W.go g kk D i T { s with heap:=G,toks:=tk } _ E j λh2 hS B=>?_⟩;have r:=W.apart i T G j;have m:h2.IsTuple T #[.int i t,y]:=by
   obtain⟨o,e1,c1⟩:=n;exact⟨o,B T o r e1,c1⟩
  have hn:H T=none:=I.cc.fresh hT;refine⟨.ref T,upd H T (.tup [.int i,x]),I.fu (o:=.tup [.int i,x]) (λb o hb q=>B b o hb (hk b o hb q)) J hT ?_,rfl,⟨T,x,hn,rfl,λys hy=>by rw[I.Sj hy hq];exact S,rfl⟩,⟨hS.1,hS.2.1⟩,λb hb=>?_⟩
  ·exact⟨(show (2:Nat)<=sizeLine by decide),[.int i t,y],.cons ⟨t,rfl⟩ (.cons ru .nil),m⟩
  ·rw[yd (λz=>r (by rw[<-z];exact hb))];exact(J b hb).1
 done:=by
  intro X M R L hc i C s σ H E I J st O;subst M R L;obtain⟨xs,hq,S⟩:=O;obtain⟨f,Z,p,hz⟩:=I.list hq;obtain⟨⟨a,s1⟩,s2⟩:=st;have hl:=Z.length;exact wpAny_pyNext_enum_end (I.ok.hd hc) s1 s2 p.isList (by simp;omega) λG F=>⟨rfl,I.cu (t':=s.toks) (λb o hb q=>F b o (λz=>hb (by simp[z])) q) J⟩
 self:=λA i s Q E st h=>by
  obtain⟨⟨a,s1⟩,s2⟩:=st;exact nz s1 h
theorem SM{h:Heap}{l m z TI TO q r:Addr}{k1 k2:Nat}{xs ys:Array Value}{a b c d:Value}{f:Value}(s:TI≠TO)(t:q≠r)(u:h.IsList l xs)(v:h.IsList m ys)(s1:IsZip h z TI TO f)(s2:oJ h TI a b)(s3:oJ h TO c d)(w:h.IsListIter q l k1)(x:h.IsListIter r m k2):ZipApart z TI TO q r l m:=by
 obtain⟨y,o,k,_⟩:=u;obtain⟨A,p,n,_⟩:=v;obtain⟨B,i,e,_⟩:=w;obtain⟨C,j,g,_⟩:=x;exact⟨Oo s2 s1 rfl rfl (by decide),Oo s3 s1 rfl rfl (by decide),Oo i s1 e rfl (by decide),Oo j s1 g rfl (by decide),s,Oo s2 i rfl e (by decide),Oo s2 j rfl g (by decide),Oo s3 i rfl e (by decide),Oo s3 j rfl g (by decide),t,
  Oo o s1 k rfl (by decide),Oo o s3 k rfl (by decide),Oo o i k e (by decide),Oo o j k g (by decide),Oo p s1 n rfl (by decide),Oo p s3 n rfl (by decide),Oo p i n e (by decide),Oo p j n g (by decide)⟩
theorem NS{P:wa}{w:Ja}{K:PySem.W.Frag}{B:List Ka}{kk:Nat}{Y:Ke}(l m z TI TO f g:Addr)(d1:TI≠TO)(d2:f≠g) :
  Turn P w K (.Tuple B kk Y) (UJ K l m) [z,TI,TO,f,g] z (λi h=>IsZip h z TI TO .none/\oJ h TI (.ref f) (.ref g)/\(∃ a b,oJ h TO a b)/\h.IsListIter f l i/\h.IsListIter g m i) where
 mem:=by simp
 obj:=λi h st b hb=>by
  obtain⟨s1,s2,⟨a,c,j⟩,⟨o4,n,c4,d4⟩,⟨o5,r,c5,d5⟩⟩:=st;simp only[La,Nd,vm]at hb;rcases hb with rfl|rfl|rfl|rfl|rfl
  ·exact⟨_,s1,λv z=>by cases z⟩
  ·exact⟨_,s2,λv z=>by cases z⟩
  ·exact⟨_,j,λv z=>by cases z⟩
  ·exact⟨o4,n,λv z=>by rw[d4]at z;cases z⟩
  ·exact⟨o5,r,λv z=>by rw[d5]at z;cases z⟩
 keep:=λi h Z st k=>by
  obtain⟨s1,s2,⟨a,c,j⟩,n,r⟩:=st;exact⟨k z (by simp) _ s1,k TI (by simp) _ s2,⟨a,c,k TO (by simp) _ j⟩,n.at λo q=>k f (by simp) o q,r.at λo q=>k g (by simp) o q⟩
 item:=by
  intro X hP hw hK hc i V s σ H E I hf st hg;subst hP hw hK;obtain⟨xs,ys,x,y,hq,t,hx,hy⟩:=hg;obtain⟨e,rv,p,S⟩:=I.list hq;obtain⟨d,G,U,a2⟩:=I.list t;obtain⟨u,hu,ru⟩:=rv.get hx;obtain⟨u2,N,a4⟩:=G.get hy;obtain⟨s1,s2,⟨a,c,j⟩,n,r⟩:=st;have D:=SM d1 d2 p.isList U.isList s1 s2 j n r;have W:=gy (prog:=X.prog) (w:=X.w) (A:=X.A) (I.ok.hd hc) z TI TO f g l m D e.toArray d.toArray;have hi:i<min e.toArray.size d.toArray.size:=by
   have h1:=(na.mp hu).1;have h2:=(na.mp N).1;simp;omega
  refine W.item i s _ E hi ⟨s1,s2,⟨a,c,j⟩,n,r,p.isList,U.isList⟩ λT a5 Z tk a0 hT L C hk=>?_;obtain⟨v1,v2,O,R,rfl⟩:=a0;have e1:v1=u:=by
   have:e.toArray[i]?=some u:=by simpa using hu
   rw[this]at O;cases O;rfl
  have e2:v2=u2:=by
   have:d.toArray[i]?=some u2:=by simpa using N
   rw[this]at R;cases R;rfl
  subst e1;subst e2;refine⟨.ref T,rfl,W.go B kk Y i T { s with heap:=Z,toks:=tk } _ E C λh2 J M=>?_⟩;have a1:=W.apart i T Z C;have F:h2.IsTuple T #[v1,v2]:=by
   obtain⟨o,e1,c1⟩:=L;exact⟨o,M T o a1 e1,c1⟩
  have hn:H T=none:=I.cc.fresh hT;have sub:∀ b,b ∉ [z,TI,TO,f,g]->b ∉ [z,TO,f,g]:=λb hb hm=>hb (by simp at hm ⊢;rcases hm with h|h|h|h<;>simp[h]);have a3:∀ b∈[z,TI,TO,f,g],b<s.heap.objs.size:=λb hb=>by
   simp only[La,Nd,vm]at hb;rcases hb with rfl|rfl|rfl|rfl|rfl
   ·exact va s1
   ·exact va s2
   ·exact va j
   ·obtain⟨o,q,_⟩:=n;exact va q
   ·obtain⟨o,q,_⟩:=r;exact va q
  refine⟨.ref T,upd H T (.tup [x,y]),I.fu (o:=.tup [x,y]) (λb o hb q=>M b o (sub b hb) (hk b o (sub b hb) q)) hf hT ?_,rfl,⟨T,x,y,hn,rfl,λzs S=>by rw[I.Sj S hq];exact hx,λzs S=>by rw[I.Sj S t];exact hy,rfl⟩,⟨J.1,J.2.1,J.2.2.1,J.2.2.2.1,J.2.2.2.2.1⟩,λb hb=>?_⟩
  ·exact⟨(show (2:Nat)<=sizeLine by decide),[v1,v2],.cons ru (.cons a4 .nil),F⟩
  ·rw[yd (Ea (Ha (a3 b hb) hT))];exact(hf b hb).1
 done:=by
  intro X hP hw hK hc i V s σ H E I hf st hg;subst hP hw hK;obtain⟨xs,ys,hq,t,hx⟩:=hg;obtain⟨e,rv,p,S⟩:=I.list hq;obtain⟨d,G,U,a2⟩:=I.list t;obtain⟨s1,s2,⟨a,c,j⟩,n,r⟩:=st;have D:=SM d1 d2 p.isList U.isList s1 s2 j n r;have W:=gy (prog:=X.prog) (w:=X.w) (A:=X.A) (I.ok.hd hc) z TI TO f g l m D e.toArray d.toArray;have hl:=rv.length;have a6:=G.length;have ei:i=min e.toArray.size d.toArray.size:=by simp;omega
  subst ei;have sub:∀ b,b ∉ [z,TI,TO,f,g]->b ∉ [z,TO,f,g]:=λb hb hm=>hb (by simp at hm ⊢;rcases hm with h|h|h|h<;>simp[h]);exact W.done s _ E ⟨s1,s2,⟨a,c,j⟩,n,r,p.isList,U.isList⟩ λZ tk hk=>⟨rfl,I.cu (t':=tk) (λb o hb q=>hk b o (sub b hb) q) hf⟩
 self:=λA i s Q E st h=>xB st.1 h
noncomputable abbrev NX:=Nat->Ya->Option (Option D)
noncomputable def Ps(T:Tb)(c:List Addr)(f:Hp)(nx:NX)(J:It):Prop:=∀ a H e i,Ext c f a H->Rel T a H e->match nx i e with
 |none=>True
 |some none=>J.stop i H
 |some (some d)=>J.go i H/\∀ x b,J.vy i H x b->Ext a H a b/\Rel T a b e/\Rep T a b d x
noncomputable def kX(T:Tb)(X:Cx)(f:Ev->M NX):TI:=λst H R=>∃ a b c,gh T a H b st/\Rel T a H c/\Kb T (XE X st) (Ps T) a H (f b c) R
noncomputable abbrev Bw(T:Tb)(X:Cx)(tg a:Ka)(f:Ev->M NX):Prop:=PI X tg a (kX T X f)
noncomputable def ip(nx:NX)(tg:D->Ev->Option Ev)(body:Ev->M Fl):Nat->Nat->Ev->M Fl
 |0,_,_=>bad
 |k+1,i,c=>λb=>match nx i b with
  |none=>.bad
  |some none=>.ok (.nx c) b
  |some (some d)=>match tg d c with
   |none=>.bad
   |some a=>Xc (body a) (Lu (ip nx tg body k (i+1))) b
noncomputable def aG(tg:D->Ev->Option Ev)(body:Ev->M Fl)(ρ:Ev)(nx:NX):M Fl:=ip nx tg body 1001 0 ρ
noncomputable def Wq(src:Ev->M NX)(tg:D->Ev->Option Ev)(body:Ev->M Fl):Ev->M Fl:=λa=>xs a (src a) (aG tg body a)
section
variable{T:Tb}{X:Cx}{tgt iter:Ka}{body:List Stmt}{src:Ev->M NX}{t:D->Ev->Option Ev}{g:Ev->M Fl}{pos:Ke}
theorem eB(hp:Yo (model X.prog X.w) X.A X.env X.xe)(hc:X.calm=true)(hi:Bw T X tgt iter src)(hg:FG T X tgt t)(hb:Do T X body g)
  (hs:∀ x,Ag iter X.env x=pure x:=by intro _;rfl):FS T X (.For tgt iter body [] pos) (Wq src t g):=by
 intro v s st H D I hq;refine sK hp hc hi hg hb hs v s st H D I ?_;obtain⟨b,e,q,K,hr,hp⟩:=hq;refine⟨b,e,q,K,hr,hp.xs K λnx C c J F _ Y r1 q1 p1=>?_⟩;have P:Kb T EN (Rk T) c F (ip nx t g 1001 0 e C) (Jj X D):=p1;refine⟨λi m l r=>∃ b e q,Ext c F b r/\gh T b r e l/\Rel T b r q/\Kb T EN (Rk T) b r (ip nx t g m i e q) (Jj X D),⟨1001,c,e,C,Ext.refl _ _,K.mono Y,r1,P⟩,?_⟩;rintro i m l r ⟨p,z,f,ex,u,U,a⟩;cases m with
 |zero=>exact a.elim
 |succ m=>
  unfold ip at a;have E:=q1 p r f i ex U;cases G:nx i f with
  |none=>simp only[G]at a;exact a.elim
  |some o=>
   cases o with
   |none=>
    simp only[G]at a E;exact .inl ⟨E,Kb.here (g:=Hl.nx l) a U u⟩
   |some d=>
    simp only[G]at a E;obtain⟨N,hy⟩:=E;refine .inr ⟨N,λn j=>∃ b e q,Ext c F b j/\gh T b j e n/\Rel T b j q/\Kb T EN (Rk T) b j (ip nx t g m (i+1) e q) (Jj X D),λn j h=>⟨m,Oc _,h⟩,λx j y=>?_⟩;obtain⟨k,V,hx⟩:=hy x j y;cases O:t d z with
    |none=>simp only[O]at a;exact a.elim
    |some B=>
     simp only[O]at a;exact⟨p,f,z,d,B,u.mono k,V,hx,O,λn L=>⟨p,B,f,L,V,(Kb.mono k a).bind λfl S Q gl H4 _ Z W q4 p4=>FF W q4 p4 λR a0 M p5=>⟨Q,R,S,(ex.trans k).trans Z,M,W,p5⟩⟩⟩
end
noncomputable def Dv(a:D):NX:=λi b=>match kh b a with
 |some xs=>(match xs[i]? with
  |some x=>some (some (.tup [.int (i:Int),x]))
  |none=>if i=xs.length then some none else none)
 |none=>none
noncomputable def vI(a b:D):NX:=λi d=>match kh d a with
 |some xs=>(match kh d b with
  |some c=>(match xs[i]? with
   |some x=>(match c[i]? with
    |some y=>some (some (.tup [x,y]))
    |none=>if i=min xs.length c.length then some none else none)
   |none=>if i=min xs.length c.length then some none else none)
  |none=>none)
 |none=>none
noncomputable def Uy(d:D):M NX:=λa=>match kh a d with
 |some _=>.ok (Dv d) a
 |none=>.bad
noncomputable def iI(f:Ev->M D):Ev->M NX:=λa=>Xc (f a) Uy
noncomputable def rH(a b:D):M NX:=λc=>match kh c a with
 |some _=>(match kh c b with
  |some _=>.ok (vI a b) c
  |none=>.bad)
 |none=>.bad
noncomputable def aQ(m:M D)(a:D):M NX:=Xc m (rH a)
noncomputable def pD(f g:Ev->M D):Ev->M NX:=λa=>Xc (f a) (aQ (g a))
section
variable{T:Tb}{X:Cx}{elts:List Ka}{kk:Nat}{p0 p pos:Ke}{f g:Ev->M D}
theorem B6:bootBuiltins "enumerate" = some (.type "enumerate"):=by decide +kernel
theorem e6:bootBuiltins "zip" = some (.type "zip"):=by decide +kernel
noncomputable def W1(K:W.Frag)(b:TA):TI:=λd H R=>b d H λc a=>∃ l xs,c=[.ref l]/\Qe K a l xs/\R (ML K l) a
theorem B1{a:Ka}{i:TA}(n:Gl X "enumerate")(hm:X.mg "enumerate" = none)(m:PA X [a] i)(o:ua [a] X.env=[(false,bc a X.env)]:=by rfl):PI X (.Tuple elts kk p0) (.Call (.Name "enumerate" p) [a] [] pos) (W1 X.K i):=by
 intro d s x H R I h;refine Call_ (jw I n hm B6 (Ie (Od (m pos d s x H _ I h) λus s1 ⟨C,H1,f,v,u⟩=>?_) o rfl));obtain⟨l,xs,e,hq,q⟩:=u;subst e;cases v with
 |cons r w=>
  cases w;cases r;obtain⟨t,B,pl,A⟩:=f.list hq;refine call_enumerate_list pl.isList λz g j y k=>nz g ?_;refine⟨s1.heap.objs.size+1,[s1.heap.objs.size+1,s1.heap.objs.size],_,_,H1,rfl,f.kept (t':=s1.toks) k,IZ l _ _,⟨⟨_,g⟩,j⟩,λb hb=>?_,q⟩;have c:s1.heap.objs.size<=b:=by simp at hb;rcases hb with rfl|rfl<;>omega
  exact f.Qp c (f.cc.fresh c)
theorem QW{e:Ka}(J:Gl X "enumerate")(hm:X.mg "enumerate" = none)(h:FE T X e f)(u:ua [e] X.env=[(false,bc e X.env)]:=by rfl):Bw T X (.Tuple elts kk p0) (.Call (.Name "enumerate" p) [e] [] pos) (iI f):=by
 intro k s st H R I M;refine B1 J hm (Av h Ux u) u k s st H R I ?_;obtain⟨P,U,V,G,L,hp⟩:=M;refine⟨P,U,V,G,L,hp.bind λd r Q v Y _ e1 B A j=>?_⟩;unfold Uy at j;cases m:kh r d with
 |none=>rw[m]at j;exact j.elim
 |some ds=>
  rw[m]at j;obtain⟨l,O,rfl,h1,h2⟩:=B.ls A m;refine⟨l,O,rfl,Qe.of h1,Kb.here (R:=Ps T) j B λS D t i ex C=>?_⟩;unfold Dv;cases n:kh t d with
  |none=>trivial
  |some xs=>
   obtain⟨l',ws,E,h3,h4⟩:=C.ls (Rep.mono ex _ _ A) n;cases E;have b:Qe X.K D l ws:=Qe.of h3;dsimp only;cases F:xs[i]? with
   |none=>
    dsimp only;by_cases o:i=xs.length
    ·rw[da o];exact⟨ws,b,by rw[o];exact h4.length⟩
    ·rw[ga o];trivial
   |some Z=>
    obtain⟨x,w,N⟩:=h4.get F;refine⟨⟨ws,x,b,w⟩,λz W y=>?_⟩;obtain⟨q,x',a,rfl,c,rfl⟩:=y;have g:=c ws b;rw[w]at g;cases g;refine⟨Sk a,C.fresh a,?_⟩;rw[Rep];exact⟨q,_,rfl,Og,Ua.cons (by rw[Rep]) (Ua.cons (Rep.mono (Sk a) _ _ N) Ua.nil)⟩
noncomputable def H5(K:W.Frag)(b:TA):TI:=λe H R=>b e H λc a=>∃ l m xs d,c=[.ref l,.ref m]/\Qe K a l xs/\Qe K a m d/\R (UJ K l m) a
theorem EU{a b:Ka}{t:TA}(A:Gl X "zip")(hm:X.mg "zip" = none)(z:PA X [a,b] t)(B:ua [a,b] X.env=[(false,bc a X.env),(false,bc b X.env)]:=by rfl)(f:ua [b] X.env=[(false,bc b X.env)]:=by rfl):PI X (.Tuple elts kk p0) (.Call (.Name "zip" p) [a,b] [] pos) (H5 X.K t):=by
 intro g s L H R I h;refine Call_ (jw I A hm e6 (Ie (Od (z pos g s L H _ I h) λus s1 ⟨Q,H1,c,G,E⟩=>?_) (by rw[B,f]) (by rw[f];rfl)));obtain⟨l,m,xs,S,e,hq,i,q⟩:=E;subst e;cases G with
 |cons r k=>
  cases k with
  |cons F k=>
   cases k;cases r;cases F;obtain⟨D,P,pl,O⟩:=c.list hq;obtain⟨o,J,j,C⟩:=c.list i;refine call_zip_2 pl.isList j.isList λN n u v w x M y=>xB n ?_;refine⟨s1.heap.objs.size+4,[s1.heap.objs.size+4,s1.heap.objs.size+2,s1.heap.objs.size+3,s1.heap.objs.size,s1.heap.objs.size+1],_,_,H1,rfl,c.kept (t':=s1.toks) y,NS l m (s1.heap.objs.size+4) (s1.heap.objs.size+2) (s1.heap.objs.size+3) s1.heap.objs.size (s1.heap.objs.size+1) (show (s1.heap.objs.size+2:Nat)≠s1.heap.objs.size+3 by omega) (show (s1.heap.objs.size:Nat)≠s1.heap.objs.size+1 by omega),⟨n,u,⟨_,_,v⟩,w,x⟩,λb hb=>?_,q⟩;have d:s1.heap.objs.size<=b:=by simp at hb;rcases hb with rfl|rfl|rfl|rfl|rfl<;>omega
   exact c.Qp d (c.cc.fresh d)
theorem lZ{e a:Ka}(hg:Gl X "zip")(hm:X.mg "zip" = none)(h:FE T X e f)(h':FE T X a g)(Y:ua [e,a] X.env=[(false,bc e X.env),(false,bc a X.env)]:=by rfl)(t:ua [a] X.env=[(false,bc a X.env)]:=by rfl) :
  Bw T X (.Tuple elts kk p0) (.Call (.Name "zip" p) [e,a] [] pos) (pD f g):=by
 intro B s st H R I hw;refine EU hg hm (Av h (Av h' Ux t) (by rw[Y,t])) Y t B s st H R I ?_;obtain⟨μ,ρ,σ,W,hr,hp⟩:=hw;refine⟨μ,ρ,σ,W,hr,hp.bind λd P O v H1 _ e1 r1 q1 p1=>⟨O,ρ,P,W.mono e1,r1,p1.bind λS D a2 v2 H2 _ e2 L q2 k=>?_⟩⟩;unfold rH at k;cases G:kh D d with
 |none=>rw[G]at k;exact k.elim
 |some ds=>
  rw[G]at k;dsimp only at k;cases n:kh D S with
  |none=>rw[n]at k;exact k.elim
  |some a1=>
   rw[n]at k;have C:=Rep.mono e2 _ _ q1;obtain⟨l,vs,rfl,h1,h2⟩:=L.ls C G;obtain⟨m,ws,rfl,h3,h4⟩:=L.ls q2 n;refine⟨l,m,vs,ws,rfl,Qe.of h1,Qe.of h3,Kb.here (R:=Ps T) k L λa3 Q E i ex M=>?_⟩;unfold vI;cases fl:kh E d with
   |none=>trivial
   |some xs=>
    obtain⟨l',us,a,h5,U⟩:=M.ls (Rep.mono ex _ _ C) fl;cases a;dsimp only;cases J:kh E S with
    |none=>trivial
    |some N=>
     obtain⟨m',us2,a,h7,V⟩:=M.ls (Rep.mono ex _ _ q2) J;cases a;have c:Qe X.K Q l us:=Qe.of h5;have j:Qe X.K Q m us2:=Qe.of h7;have l1:=U.length;have l2:=V.length;dsimp only;cases ei:xs[i]? with
     |none=>
      dsimp only;by_cases r:i=min xs.length N.length
      ·rw[da r];exact⟨us,us2,c,j,by rw[r,l1,l2]⟩
      ·rw[ga r];trivial
     |some d'=>
      dsimp only;cases F:N[i]? with
      |none=>
       dsimp only;by_cases r:i=min xs.length N.length
       ·rw[da r];exact⟨us,us2,c,j,by rw[r,l1,l2]⟩
       ·rw[ga r];trivial
      |some a0=>
       obtain⟨x,Z,rx⟩:=U.get ei;obtain⟨y,hy,ry⟩:=V.get F;refine⟨⟨us,us2,x,y,c,j,Z,hy⟩,λz H' yy=>?_⟩;obtain⟨q,x',y',b,rfl,u,o,rfl⟩:=yy;have w:=u us c;rw[Z]at w;cases w;have A:=o us2 j;rw[hy]at A;cases A;refine⟨Sk b,M.fresh b,?_⟩;rw[Rep];exact⟨q,_,rfl,Og,Ua.cons (Rep.mono (Sk b) _ _ rx) (Ua.cons (Rep.mono (Sk b) _ _ ry) Ua.nil)⟩
end
open PySem.Builtin.Str (occurrences partsBetween subAt)
end L4
namespace L4
open PySem PySem.Spec PyProof.Rows L2
section
variable{T:Tb}{X:Cx}{a b c:Ka}{fa fb fc:Ev->M D}{pos:Ke}
end
noncomputable def BP(ρ:Ev)(c:Nat)(f:Str)(x:D)(a:Int)(y:D):M Fl:=λd=>match y with
 | .int b=>(match x with
  | .ref n=>(match d[n]? with
   |some (.ins e fs)=>if (e == c && decide (fs.length<1000))=true then .ok (.nx ρ) (d.set n (.ins c (dn f (.int (a+b)) fs)))else .bad
   |_=>.bad)
  |_=>.bad)
 |_=>.bad
noncomputable def Iz(ρ:Ev)(cs:List Nat)(f:Str)(d:Ev->M D)(x:D):M Fl:=λb=>match Ym b x with
 |some (c,fs)=>if cs.contains c=true then (match fs.lookup f with
  |some (.int a)=>xs ρ (d ρ) (BP ρ c f x a) b
  |_=>.bad)else .bad
 |none=>.bad
noncomputable def fF(cs:List Nat)(f:Str)(c b:Ev->M D):Ev->M Fl:=λa=>xs a (b a) (Iz a cs f c)
section
variable{T:Tb}{X:Cx}
theorem HV{o e:Ka}{f:Str}{W V:Ev->M D}{N B:Ke}{cs:List Nat}(hK:T.K=X.K)(hc:Rm T cs f)(ho:FE T X o V)(hv:FE T X e W):FS T X (.AugAssign (.Attribute o f B) .Add e N) (fF cs f W V):=by
 intro A s st H D I hq;refine uW ho hv cW A s st H D I ?_;obtain⟨μ,ρ,σ,u,hr,hp⟩:=hq;refine⟨μ,ρ,σ,u,hr,hp.xs u λx E Q vo H1 _ G r1 q1 d=>?_⟩;unfold Iz at d;cases J:Ym E x with
 |none=>rw[J]at d;exact d.elim
 |some p=>
  obtain⟨c,fs⟩:=p;rw[J]at d;dsimp only at d;by_cases l:cs.contains c=true
  ·rw[da l]at d;obtain⟨a,dx,vs,rfl,h1,h2⟩:=sy r1 q1 J;cases L:fs.lookup f with
   |none=>rw[L]at d;exact d.elim
   |some y=>
    rw[L]at d;cases y with
    |int i=>
     obtain⟨w,h3,h4⟩:=(GA h2).1 _ L;obtain⟨Y,Z⟩:=hc c l;rw[hK]at Y Z;refine⟨a,_,dx,vs,w,rfl,h1,Y,Z,h3,Q,ρ,E,u.mono G,r1,d.xs (u.mono G) λz R C vz S _ U r2 q2 b=>?_⟩;unfold BP at b;cases z with
     |int j=>
      refine⟨i,j,Fp h4,Fp q2,?_⟩;have O:=Rep.mono U _ _ q1;cases x with
      |ref n=>
       dsimp only at b;cases k:R[n]? with
       |none=>rw[k]at b;exact b.elim
       |some ob=>
        rw[k]at b;cases ob with
        |lst _=>exact b.elim
        |Db _=>exact b.elim
        |Cf _=>exact b.elim
        |yk _=>exact b.elim
        |ins F q=>
         dsimp only at b;by_cases h:(F == c && decide (q.length<1000))=true
         ·rw[da h]at b;rw[Ba,Pd,Wf]at h;obtain⟨v,hl⟩:=h;subst v;obtain⟨a',ea,hn,g,m,r,t⟩:=r2.at O k;cases ea;have ex:Ext C S C (upd S a (.ins (T.ca F) g (Sm f (.int (i+j)) m))):=Iv (Ma hn) r (λ_ z=>by cases z) (λ_ _ z=>by cases z);have P:=r2.write (o:=.ins (T.ca F) g (Sm f (.int (i+j)) m)) (ob:=.ins F (dn f (.int (i+j)) q)) hn ⟨g,_,Og,OI (by rw[Rep]) (Cr.mono ex t)⟩;exact⟨g,m,r,by rw[<-t.length];exact hl,b _ (.nx st) _ P.1 P.2 ((u.mono G).mono U |>.mono P.1)⟩
         ·rw[ga h]at b;exact b.elim
      |_=>exact b.elim
     |_=>exact b.elim
    |_=>exact d.elim
  ·rw[ga l]at d;exact d.elim
noncomputable def Jy(y x:D):M D:=λb=>match qp y with
 |some k=>(match ll b x with
  |some a=>.ok (.bl (!(bp a k).isSome)) b
  |none=>.bad)
 |none=>.bad
noncomputable def vJ:R2:=λy x H Q=>∃ a o,x=.ref a/\Si H a y o/\Q (.bl (!o.isSome)) H
theorem GQ(f:X.A.units+9<cLine):Nh X (Ib .NotIn) vJ:=by
 intro b s st H y x i u Q I e d h;obtain⟨a,o,rfl,g,q⟩:=h;obtain rfl:u=pb a:=d;exact eV (by omega) I g e λj c=>⟨.bl (!o.isSome),H,c,rfl,q⟩
theorem GM:al T vJ Jy:=by
 intro E n H l y x u v Q r q p h;unfold Jy at h;cases c:qp y with
 |none=>rw[c]at h;exact h.elim
 |some k=>
  rw[c]at h;dsimp only at h;cases b:ll l x with
  |none=>rw[b]at h;exact h.elim
  |some i=>
   rw[b]at h;obtain⟨a,j,rfl,h1,g⟩:=lx r p b;obtain rfl:=Lz q c;refine⟨a,Cn j k,rfl,Si.kr h1,Kb.here h r ?_⟩;rw[Rep];rcases vB g k with⟨e,f⟩|⟨d,w,e,f,m⟩
   ·rw[e,f];rfl
   ·rw[e,f];rfl
noncomputable def Bu(T:Tb)(P:wa)(w:Ja)(mg:Str->Option Value)(base:Heap)(k:Nat)(f:Addr)(ps:List Str)(b:List Value)(fn:List D->M D):Prop:=
 ∃ a,Iq T.K a ps []/\Iq T.K a ps b/\Xg P w T.K mg base (Al P w) k f a ps (Qo T ps.length fn)
structure ut(K:W.Frag)(C:Addr)(x qual:Str)(st:Stmt)(ps:List Str)(dv:List Value)(f:Addr):Prop where
 ex:∃ fd,(∃ (oc:Value) (od:Option Addr) (dV kV doc pm:Value) (an:Option Addr) (cdv ct:Value) (osl:Array (Option Value)),
  fd=W.fnOf x qual (Gn st) (pj st) (Kc st) dV kV doc pm an cdv ct/\K.lookup f=some ⟨oc,od,.func fd,osl⟩/\W.codeIn K cdv qual=true)/\Iq K fd ps []/\Iq K fd ps dv
end
section
variable{P:wa}{w:Ja}{K:W.Frag}{mg:Str->Option Value}{base:Heap}{ca:Nat->Addr}{tx:Tx}
theorem A0{k:Nat}{C f:Addr}{x qual:Str}{st:Stmt}{ps N:List Str}{c:List Value}{g:Ev->M Fl}(h:ut K C x qual st ps c f)(S:Aa N ps (Kc st))
  (hb:∀ (a:Value) (A:Ia) (outer:List yg) (s:aa) (H:Hp) (E:XK),Ld k (A.deeper (Bg qual (Kc st) s.heap.objs.size f a))->Do ⟨K,ca,tx⟩ (Ip (Al P w) P w K mg base N qual (Kc st) f a A outer s H E) (pj st) g) :
  Bu ⟨K,ca,tx⟩ P w mg base (k+1) f ps c (run N.length g):=by
 obtain⟨n,⟨o,p,m,kV,i,q,l,a,ct,j,rfl,lk,b⟩,d,e⟩:=h.ex;exact⟨_,d,e,Gy lk b S (hb a)⟩
theorem Bu.hide{T:Tb}{k:Nat}{f:Addr}{ps:List Str}{a:List Value}{fn:List D->M D}(h:Bu T P w mg base k f ps a fn):Bu T P w mg base k f ps a (L4.hide fn):=by rw[Gs];exact h
theorem Bu.db{T:Tb}{k:Nat}{f:Addr}{ps:List Str}{a:List Value}{fn:List D->M D}(h:Bu T P w mg base k f ps a fn):Bu T P w mg base k f ps a (λb=>L4.db (fn b)):=by
 obtain⟨c,h1,d,h3⟩:=h;exact⟨c,h1,d,GC h3⟩
theorem y4{C f t:Addr}{x qual:Str}{st:Stmt}{ps:List Str}{h:List Value}{u p:Value}{od e q:Option Addr}{i r:Array (Option Value)}{kV b g a ct:Value}{m:Nat}
  (hb:∀ (t:Addr) (kV b g:Value) (e:Option Addr) (a ct:Value) (s:aa) (o:vc) (n:Nat) (us:List Value),s.heap.get? t=some o->o.data=.seq h.toArray n->((us++[]).length=ps.length->Tf s (W.fnOf x qual (Gn st) (pj st) (Kc st) (.ref t) kV b g e a ct) ⟨us,[]⟩ (ps.zip (us++[])))/\
   ((us++h).length=ps.length->Tf s (W.fnOf x qual (Gn st) (pj st) (Kc st) (.ref t) kV b g e a ct) ⟨us,[]⟩ (ps.zip (us++h))))
  (l:K.lookup f=some ⟨u,od,.func (W.fnOf x qual (Gn st) (pj st) (Kc st) (.ref t) kV b g e a ct),i⟩)
  (c:W.codeIn K a qual=true) (d:K.lookup t=some ⟨p,q,.seq h.toArray m,r⟩):ut K C x qual st ps h f:=
 ⟨⟨_,⟨u,od,_,kV,b,g,e,a,ct,i,rfl,l,c⟩,λs us j k=>(hb t kV b g e a ct s _ m us (j _ _ d) rfl).1 k,λs us j k=>(hb t kV b g e a ct s _ m us (j _ _ d) rfl).2 k⟩⟩
end
section
variable{T:Tb}{X:Cx}
end
section
variable{T:Tb}{X:Cx}
end
noncomputable def Iu(ix:List Nat)(ρ:Ev):Ev:=none::none::ix.map λi=>(ρ[i]?).getD none
noncomputable def Ix(ix:List Nat)(st:St):St:=none::none::ix.map λi=>(st[i]?).getD none
theorem L1{T:Tb}{μ:List Addr}{H:Hp}{ρ:Ev}{st:St}(ix:List Nat)(h:gh T μ H ρ st):gh T μ H (Iu ix ρ) (Ix ix st):=by
 have q:=JJ ix h;refine⟨by simp[Iu,Ix],λi d e=>?_⟩;cases i with
 |zero=>simp[Iu]at e
 |succ j=>exact q.2 j d e
section
variable{X:Cx}{pins:List (Addr × vc)}{st:St}{H:Hp}{s:aa}{x z0:Str}{M':List Str}{ix:List Nat}{scope:Scope}{fp:List Addr}
theorem S0(I:Inv X pins st H s)(L:Im X x M' ix scope)(g:∀ b∈fp,Vl X pins H b/\b<s.heap.objs.size){h':Heap}{t':Nat}{m:Str->Option Value}(J:h'.Ns s.heap.objs.size m)
  (C:∀ b o,s.heap.get? b=some o->h'.get? b=some o) :
  Inv (Es X (x::z0::M') scope (oi X.env scope.names []) s.heap.objs.size s H fp) [] (Ix ix st) H { s with heap:=h',toks:=t' }:=by
 have sub:∀ n c,(oi X.env scope.names []).lookup n=some c->X.env.cells.lookup n=some c:=λn c e=>CI X.env scope.names [] n c (λ_ _ q=>by simp at q) e;have A:∀ n c,X.env.cells.lookup n=some c->c<s.heap.objs.size:=λn c e=>by obtain⟨v,z⟩:=I.cell n c e;exact z.lt
 have fresh:H s.heap.objs.size=none:=I.cc.fresh (za _);refine⟨⟨I.ok.mod,L.kind,I.ok.glob,I.ok.blt,za _,λa b c h1 d=>I.ok.inj a b c (sub a c h1) (sub b c d),λa W=>?_,λa c h=>(by cases h),I.ok.hd,I.ok.frames,.inl rfl,λb hb=>⟨Ea (g b hb).2,λa c e=>?_⟩,λb o e=>I.bs b o e,Sb I.ok.Uq I.sz,λb o e hb=>?_,λb hb z=>?_,I.stack,I.Yj⟩,
  rfl,I.bare,Un.kept C,⟨m,J,λi y v S D e3=>?_⟩,λa c e=>?_,fresh,λa c e=>I.dg a c (sub a c e),λp hp=>absurd (show p∈([]:List (Addr × vc))from hp) (by simp),I.cc.kept C,?_⟩
 ·
  have F:(scope.names.map λ(n,k)=>if (k == lb && X.env.scope.kind == .function && X.env.kindOf n == some .cell)then (n,Fc)else (n,k)).lookup a=some .cell\/(scope.names.map λ(n,k)=>if (k == lb && X.env.scope.kind == .function && X.env.kindOf n == some .cell)then (n,Fc)else (n,k)).lookup a=some .free:=W;have P:scope.names.lookup a=some .free:=by
   rcases F with z|z
   ·obtain⟨Z,h1,d⟩:=SE z;rcases d with d|⟨d,_⟩
    ·subst d;exact absurd rfl (zz L _ (Nu h1))
    ·rw[d]at h1;exact h1
   ·obtain⟨Z,h1,d⟩:=SE z;rcases d with d|⟨_,d⟩
    ·rw[<-d]at h1;exact h1
    ·cases d
  exact xA X.env scope.names [] a (Nu P) (Lx I L _ (Nu P) rfl)
 ·exact(g b hb).1.2.2.2.2.1 a c (sub a c e)
 ·rcases(g b hb).1.2.2.2.1 with z|z
  ·exact I.ok.Tp b o e z
  ·exact absurd (Ha (va e) (Sb I.ok.Uq z)) (pd _)
 ·rcases La.mp (I.wq b z)with q|q
  ·exact(g b hb).1.2.1 q
  ·exact(g b hb).1.2.2.1 q
 ·
  cases i with
  |zero=>simp[Ix]at D
  |succ i=>
  cases i with
  |zero=>simp[Ix]at D
  |succ j=>
   have r:M'[j]?=some y:=S;have f:(ix.map λi=>(st[i]?).getD none)[j]?=some (some v):=D;rw[Ab]at f;cases E:ix[j]? with
   |none=>rw[E]at f;cases f
   |some w=>
    rw[E]at f;have B:(st[w]?).getD none=some v:=ub f;have T:st[w]?=some (some v):=by
     cases q:st[w]? with
     |none=>rw[q]at B;cases B
     |some o=>rw[q]at B;exact rc some B
    have U:X.N[w]?=some y:=by
     have z:=rc (λl=>l[j]?) L.at_;simp only[Ab,E,r,Hf]at z;exact ub z
    have q:=Vb.mp L.wD y (Ma r);simp only[Ba,Tg]at q;have Q:X.env.scope.names.lookup y=some .cell\/X.env.scope.names.lookup y=some .free:=by
     rcases q.1 with z|z
     ·exact .inl (eq_of_beq z)
     ·exact .inr (eq_of_beq z)
    have M:scope.names.lookup y=some .free:=eq_of_beq q.2;obtain⟨m0,Y,G⟩:=I.loc;obtain⟨u,ru,lu⟩:=G w y v U T (by rcases Q with z|z;exact .inr (.inl z);exact .inr (.inr z));refine⟨u,ru,.inr ⟨PP (env:=X.env) M,?_⟩⟩;rcases lu with⟨z,_⟩|⟨_,c,V,zc⟩
    ·rcases Q with k|k
     ·rw[show X.env.kindOf y=X.env.scope.names.lookup y from rfl,k]at z;cases z
     ·rw[show X.env.kindOf y=X.env.scope.names.lookup y from rfl,k]at z;cases z
    ·obtain⟨R,t⟩:=xA X.env scope.names [] y (Nu M) (Lx I L _ (Nu M) rfl);have O:=sub y R t;rw[V]at O;cases O;obtain⟨o,K,hd⟩:=zc;exact⟨c,t,o,C _ _ K,hd⟩
 ·obtain⟨v,o,K,hd⟩:=I.cell a c (sub a c e);exact⟨v,o,C _ _ K,hd⟩
 ·simp[Ix,Es];have z:=rc List.length L.at_;simpa using z
end
section
variable{T:Tb}{X:Cx}
end
noncomputable def Js(l:List Int):List Int:=l.mergeSort λa b=>decide (a<=b)
theorem By(l:List Int):(Js l).Perm l:=List.mergeSort_perm l _
theorem VL(l:List Int):(Js l).Pairwise (·<=·):=by
 have:=List.pairwise_mergeSort (le:=λa b:Int=>decide (a<=b)) (λa b c h1 d=>by simp at *;omega) (λa b=>by simp;omega) l;exact this.imp λh=>by simpa using h
theorem MG:∀ {l m:List Int},l.Perm m->l.Pairwise (·<=·)->m.Pairwise (·<=·)->l=m
 |[],m,h,_,_=>by rw[List.nil_perm]at h;exact h.symm
 |a::l,[],h,_,_=>by have:=h.length_eq;simp at this
 |a::l,b::m,h,h1,c=>by
  rw[List.pairwise_cons]at h1 c;have d:a∈b::m:=h.subset Pa;have hb:b∈a::l:=h.symm.subset Pa;have e:a=b:=by
   rcases La.mp d with e|d
   ·exact e
   ·rcases La.mp hb with e|hb
    ·exact e.symm
    ·have:=h1.1 b hb;have:=c.1 a d;omega
  subst e;rw[MG (f8 h) h1.2 c.2]
noncomputable def HI(K:W.Frag):List V->Hp->VK->Prop:=λxs H Q=>∃ (p:Addr) (is:List Int),xs=[.ref p]/\Qe K H p (is.map V.int)/\is.length<64/\∀ l,H l=none->Q (.ref l) (upd H l (.lst ((Js is).map V.int)))
section
variable{T:Tb}{X:Cx}
theorem uV:kn X (.builtin "sorted") (HI X.K):=by
 intro f s x H xs v Q I r h;obtain⟨p,is,rfl,hq,b,q⟩:=h;obtain⟨u,rfl,o⟩:=js r;cases o;obtain⟨c,g,pl,t⟩:=I.list hq;have a:=g.length;rw[Ub]at a;refine sorted_ints pl.isList (NO g) (by omega) λout d i j k=>?_;obtain⟨e,m⟩:=sortedAll_at s.heap c out;have l:d=Js is:=MG (j.trans (By is).symm) k (VL is);subst l;have n:=(By is).length_eq;exact⟨.ref (s.heap.objs.size+1),_,I.laid (t':=s.toks) (λ_ _=>sortedAll_old) (zn _) (show Fi X.prog X.w _ _ _ (.lst ((Js is).map V.int))from⟨by rw[Ub,n];exact Sb (yf b) (by decide),out.toList,e,Az i,by rw[Oq];exact m⟩),rfl,q _ (I.cc.fresh (zn _))⟩
noncomputable def vH(xs:List D):M D:=λa=>match xs with
 |[x]=>(match kh a x with
  |some b=>(match As b with
   |some is=>if is.length<64 then bA ((Js is).map D.int) a else .bad
   |none=>.bad)
  |none=>.bad)
 |_=>.bad
theorem MF{μ:List Addr}{H:Hp}:∀ a:List Int,Ua T μ H (a.map D.int) (a.map V.int)
 |[]=>Ua.nil
 |i::a=>Ua.cons (by rw[Rep]) (MF a)
theorem fU(k:T.K=X.K):Bq T (HI X.K) vH:=by
 intro E o H j xs n Q r p h
 match xs with
 |[]=>exact h.elim
 |[x]=>
  rw[Ua]at p;obtain⟨v,w,rfl,g,c⟩:=p;rw[Ua]at c;subst c;unfold vH at h;cases e:kh j x with
  |none=>simp only[e]at h;exact h.elim
  |some i=>
   simp only[e]at h;cases a:As i with
   |none=>simp only[a]at h;exact h.elim
   |some is=>
    simp only[a]at h;by_cases hc:is.length<64
    ·rw[da hc]at h;obtain⟨b,m,rfl,h1,d⟩:=r.ls g e;obtain rfl:=MC d a;exact⟨b,is,rfl,Qe.of h1,hc,λl f=>qE h r (MF _) f⟩
    ·rw[ga hc]at h;exact h.elim
 |_::_::_=>exact h.elim
noncomputable def apart(n:Nat):D->Bool
 | .ref m=>!(m == n)
 |_=>true
end
theorem WV:bootBuiltins "sorted" = some (.builtin "sorted"):=by decide +kernel
theorem AM:∀ {a:List Key} {vs:List Value},vs.length=a.length->(∀ (j:Nat) (v:Value) (k:Key),vs[j]?=some v->a[j]?=some k->Zc (kV k) v)->Ud (a.map kV) vs
 |[],[],_,_=>.nil
 |[],_::_,h,_=>by simp at h
 |_::_,[],h,_=>by simp at h
 |k::a,v::vs,h,b=>.cons (b 0 v k rfl rfl) (AM (by simpa using h) λj v k c d=>b (j+1) v k c d)
theorem E6{P:wa}{w:Ja}{k:Key}{v:Value}(h:(zl P w).is k v=true):Zc (kV k) v:=by
 rw[WT]at h;rcases Bt h with⟨i,t,rfl,rfl⟩|⟨x,t,rfl,rfl⟩
 ·exact⟨t,rfl⟩
 ·exact⟨t,rfl⟩
theorem LK:∀ {kvs:List (Key × V)} {ws:List (Key × Value)},KV kvs ws->ws.map (·.1)=kvs.map (·.1)
 |[],_,h=>by cases h;rfl
 |p::kvs,_,h=>by
  cases h with
  |cons q h=>simp only[Za];rw[LK h,q.1]
section
variable{T:Tb}{X:Cx}
noncomputable def Gu:Key->D
 | .inl i=>.int i
 | .inr x=>.str x
end
end L4
namespace L4
open PySem PySem.Spec PySem.Calls PySem.W PyProof.Rows PyProof.V
theorem zU{prog:wa}{w:Ja}{A:Ia}{E:Value->aa->Prop}{s:aa}{R:List Value->aa->Prop}{t:String}{r d:Addr}{n:Nat}{P:Nat->Value->Prop}{p:Heap->Prop}
  (K:KdlSrc prog w t r d n P p) (u:A.handled=none) (cc:p s.heap) (hn:n<=sizeLine)
  (k:∀ (h':Heap) (tk:Nat) (a:Array Value),(∀ b o,s.heap.get? b=some o->h'.get? b=some o)->s.heap.objs.size<=h'.objs.size->r8 P a n->R a.toList { s with heap:=h',toks:=tk }) :
  wpAny (model prog w) A (collect (.ref r)) R E s:=by
 have lt:=K.there _ cc;let S:Addr:=s.heap.objs.size;let Z:jy->aa->Prop:=λq m=>∃ (h':Heap) (tk:Nat) (a:Array Value) (c:Nat),q=.ok (.ret (.ref S))/\m={ s with heap:=h',toks:=tk }/\(∀ b o,s.heap.get? b=some o->h'.get? b=some o)/\
  h'.get? S=some { cls:=.type "list",dict:=none,data:=.seq a c,slots:=#[] }/\r8 P a n
 have h:∀ {h':Heap} {tk c:Nat} {a:Array Value},(∀ b o,s.heap.get? b=some o->h'.get? b=some o)->h'.get? S=some { cls:=.type "list",dict:=none,data:=.seq a c,slots:=#[] }->r8 P a n->R a.toList { s with heap:=h',toks:=tk }:=
  λkp g i=>k _ _ _ kp (yf (va g)) i
 have j:(s.heap.push { cls:=.type "list",data:=.seq ([]:List Value).toArray }).get? S=some { cls:=.type "list",data:=.seq #[] }:=Xa _ rfl;have run:=kdl_extend (A:=A) (s:={ s with heap:=s.heap.push { cls:=.type "list",data:=.seq ([]:List Value).toArray } }) (R:=Z) K u (K.keep _ _ cc λb _ o e=>la _ e) S (og lt.1) (og lt.2) (.ref S) 0 j
  (λh' tk a c kp g i=>⟨h',tk,a,c,rfl,rfl,λb o e=>kp b o (Ea (va e)) (la _ e),g,i⟩) hn
 unfold collect;refine ba (wpAny_runValue (zh entry_proto_collect' ?_));rw[cf PySem.F.plain_proto_collect _];show wpAny _ A.in1 (newList [] >>= λl=>again (.builtin "list.__iadd__" ⟨[l,.ref r],[]⟩)) _ _ s;refine ba (Ce (ra ⟨Ki xo _,zh entry_list_iadd' ?_⟩));rw[cf xo _];show wpAny _ A.in1 (OE (.ref S) (.ref r) (.ref S)) _ _ _;refine Rb run (λf m x=>?_) (λe m x=>by obtain⟨_,_,_,_,z,_⟩:=x;cases z);cases f with
 |done f=>
  obtain⟨h',tk,a,c,e,rfl,kp,g,i⟩:=x;cases e;exact ba (Zx g (ra (h kp g i)))
 |again v=>
  refine⟨x.1,Jh x.2 λq s2 y=>?_⟩;obtain⟨h',tk,a,c,rfl,rfl,kp,g,i⟩:=y;exact ba (Zx g (ra (h kp g i)))
end L4
namespace L4
open PySem PySem.Spec PyProof.Rows L2
noncomputable def MH:List V->Hp->VK->Prop:=λxs H Q=>∃ (a:Addr) (b:List (Key × V)) (is:List Int),xs=[.ref a]/\Rd H a (.dK b)/\b.map (·.1)=is.map Sum.inl/\is.length<64/\∀ l,H l=none->Q (.ref l) (upd H l (.lst ((Js is).map V.int)))
theorem JQ:∀ {a:List Int} {vs:List Value},Ud ((a.map (Sum.inl:Int->Key)).map kV) vs->ml vs a
 |[],_,h=>by cases h;exact .nil
 |i::a,_,h=>by
  cases h with
  |cons q h=>
   obtain⟨t,rfl⟩:=q;exact .cons i t (JQ h)
section
variable{T:Tb}{X:Cx}
theorem lW(hc:X.calm=true):kn X (.builtin "sorted") MH:=by
 intro K s σ H xs us Q I r h;obtain⟨a,kvs,is,rfl,S,g,p,q⟩:=h;obtain⟨u,rfl,rx⟩:=js r;cases rx;obtain⟨z,hd,l,rel,O⟩:=bv I.cc S;obtain⟨ep,t⟩:=O.dictAt;have F:=LK rel;have Z:l.length=kvs.length:=by have:=rc List.length F;simpa using this
 have Y:kvs.length=is.length:=by have:=rc List.length g;simpa using this
 have hn:l.length<=sizeLine:=by omega
 refine Calls.call_function_entry kind_sorted plain_sorted entry_sorted (args_sorted1 _) ?_;unfold zu.«sorted»;refine ba (m:=checkCount "sorted" 1 1 _) (ra ?_);refine ba (zU (A:=X.A.in1) (W.kdl_dict (knd:=zl X.prog X.w) (kvs:=l) (ep:=ep) hd) (I.ok.hd hc) t hn λn tk c kp i d=>?_);have G:c.toList.length=l.length:=by rw[Rg];exact d.1
 have J:Ud ((l.map (·.1)).map kV) c.toList:=AM (by rw[Ub];exact G) λj v k P D=>by
  obtain⟨k',x,hx,y⟩:=d.2 j v (by rw[<-Array.getElem?_toList];exact P);rw[Ab,hx]at D;cases D;exact E6 y
 rw[F,g]at J;have T:=JQ J;refine ba (eR ?_ (by rw[G];exact hn));have f:(n.push (Qk "list" c.toList.toArray 0)).get? n.objs.size=some (Qk "list" c.toList.toArray 0):=Xa _ rfl;refine ba (Ad (Wo slot_list_sort ⟨_,f,rfl⟩ entry_list_sort (list_sort_tree f T (by omega) λout C L M N=>⟨_,rfl,?_⟩) (args_list_sort _)));refine ra ⟨_,rfl,?_⟩;have R:C=Js is:=MG (M.trans (By is).symm) N (VL is);subst R;have B:=(By is).length_eq;obtain⟨e,U⟩:=sortedHeap_at (out:=out) f;exact⟨.ref n.objs.size,_,I.laid (t':=tk) (λb o E=>by
  have lt:b<n.objs.size:=va (kp b o E);rw[sortedHeap_old (Ea lt) (by rw[size_push'];exact Ph lt)];exact la _ (kp b o E)) i (show Fi X.prog X.w _ _ _ (.lst ((Js is).map V.int))from⟨by rw[Ub,B];exact Sb (yf p) (by decide),out.toList,e,Az L,by rw[Oq];exact U⟩),rfl,q _ (I.cc.fresh i)⟩
noncomputable def Nw:List (Key × D)->Option (List Int)
 |[]=>some []
 |(.inl i,_)::r=>(Nw r).map (i::·)
 |_::_=>none
theorem yO{μ:List Addr}{H:Hp}:∀ {kvs:List (Key × D)} {us:List (Key × V)} {is:List Int},yj T μ H kvs us->Nw kvs=some is->us.map (·.1)=is.map Sum.inl
 |[],_,is,h,e=>by unfold yj at h;cases h;cases e;rfl
 |(k,d)::kvs,_,is,h,e=>by
  unfold yj at h;cases h with
  |cons q h=>
   cases k with
   |inr x=>cases e
   |inl i=>
    unfold Nw at e;cases a:Nw kvs with
    |none=>rw[a]at e;cases e
    |some b=>
     rw[a]at e;cases e;simp only[Za];rw[yO h a,<-q.1]
noncomputable def JC(xs:List D):M D:=λb=>match xs with
 |[x]=>(match ll b x with
  |some a=>(match Nw a with
   |some is=>if is.length<64 then bA ((Js is).map D.int) b else .bad
   |none=>.bad)
  |none=>.bad)
 |_=>.bad
theorem HW:Bq T MH JC:=by
 intro E n H k xs m Q r p h
 match xs with
 |[]=>exact h.elim
 |[x]=>
  rw[Ua]at p;obtain⟨v,w,rfl,i,d⟩:=p;rw[Ua]at d;subst d;unfold JC at h;cases e:ll k x with
  |none=>simp only[e]at h;exact h.elim
  |some c=>
   simp only[e]at h;cases b:Nw c with
   |none=>simp only[b]at h;exact h.elim
   |some is=>
    simp only[b]at h;by_cases hc:is.length<64
    ·rw[da hc]at h;obtain⟨a,j,rfl,f,g2⟩:=lx r i e;exact⟨a,j,is,rfl,f,yO g2 b,hc,λl g=>qE h r (MF _) g⟩
    ·rw[ga hc]at h;exact h.elim
 |_::_::_=>exact h.elim
noncomputable def jP(K:W.Frag):List V->Hp->VK->Prop:=λxs H Q=>HI K xs H Q\/MH xs H Q
theorem tY(hc:X.calm=true):kn X (.builtin "sorted") (jP X.K):=by
 intro a s c H xs b Q I r h;rcases h with h|h
 ·exact uV a s c H xs b Q I r h
 ·exact lW hc a s c H xs b Q I r h
noncomputable def Ay(xs:List D):M D:=λa=>match xs with
 |[x]=>(match kh a x with
  |some _=>vH [x] a
  |none=>JC [x] a)
 |_=>.bad
theorem P7(d:T.K=X.K):Bq T (jP X.K) Ay:=by
 intro E c H a xs b Q r p h
 match xs with
 |[]=>exact h.elim
 |[x]=>
  unfold Ay at h;cases e:kh a x with
  |some f=>simp only[e]at h;exact .inl (fU d E c H a [x] b Q r p h)
  |none=>simp only[e]at h;exact .inr (HW E c H a [x] b Q r p h)
 |_::_::_=>exact h.elim
end
section
variable{T:Tb}{X:Cx}
end
end L4
namespace L2
open PySem PySem.Spec PyProof.Rows
end L2
namespace L4
open PySem PySem.Spec PyProof.Rows L2
section
variable{T:Tb}{X:Cx}
inductive aF(T:Tb)(X:Cx):List (Option Ka)->List Ka->List Key->(Ev->M (List D))->Prop
 |nil:aF T X [] [] [] Oa
 |cons {k v:Ka} {kk:Key} {f:Ev->M D} {ks:List (Option Ka)} {vs:List Ka} {kks:List Key} {fs:Ev->M (List D)} (hk:FE T X k (eC (Gu kk))) (hv:FE T X v f) (r:aF T X ks vs kks fs):aF T X (some k::ks) (v::vs) (kk::kks) (qa f fs)
end
section
variable{T:Tb}{X:Cx}{pins:List (Addr × vc)}{st:St}{H:Hp}{s:aa}
variable{N':List Str}{scope:Scope}{cl:List (Str × Addr)}{H3:Hp}{s3:aa}{fp:List Addr}{xe:Value->aa->Prop}
end
section
variable{T:Tb}{X:Cx}
end
section
variable{ρ:Ev}{σ:Ya}
end
end L4
namespace L4
open PySem PySem.Spec PyProof.Rows L2 Builtin Builtin.Str
section
variable{T:Tb}{X:Cx}{a b e o:Ka}{fa fb f:Ev->M D}{pos apos cpos:Ke}
end
section
variable{ρ:Ev}{σ:Ya}
end
end L4
namespace L4
open PySem PySem.Spec PyProof.Rows L2
section
variable{T:Tb}{X:Cx}
end
section
variable{ρ:Ev}{σ:Ya}
end
section
variable{prog:wa}{w:Ja}{A:Ia}{E:Value->aa->Prop}{h:Heap}{g:Array Rq}{d:jJ}{t:Nat}{os:t8}
variable{nm qn:Str}{C N:Addr}{bs bm bmB:List Value}{hdct:Bool}{sn:List Str}{sub:List Value}{ab:Bool}{col:Option Bool}{dd:Option Addr}{k0 k1 k2 k3 k5:Option Value}{B newId initId:String}
end
section
variable{T:Tb}{X:Cx}{pins:List (Addr × vc)}{st:St}{H:Hp}{s:aa}
end
section
variable{X:Cx}
end
section
variable{prog:wa}{w:Ja}{A:Ia}{E:Value->aa->Prop}{h:Heap}{g:Array Rq}{d:jJ}{t:Nat}{os:t8}{K:W.Frag}
variable{nm qn:Str}{C N x:Addr}{bs bm bmB:List Value}{sn:List Str}{sub:List Value}{ab:Bool}{col:Option Bool}{dd:Option Addr}{k0 k1 k2 k3 k5:Option Value}{B newId sa owner:String}{name:Str}{v:Value}{o:vc}{vs:Array Value}
end
section
variable{X:Cx}
end
section
variable{P:wa}{w:Ja}{K:W.Frag}{mg:Str->Option Value}{base:Heap}
end
section
variable{M:Lk}{A:Ia}{E:Value->aa->Prop}{s:aa}{env:yg}
variable{nm qn:Str}{C N:Addr}{bs bm:List Value}{hdct:Bool}{sn:List Str}{sub:List Value}{ab:Bool}{col:Option Bool}{dd:Option Addr}{k0 k1 k2 k3 k5:Option Value}{newId:String}
end
section
variable{T:Tb}{X:Cx}
end
end L4
namespace L4
open PySem PySem.Spec PySem.Calls PyProof.Rows PySem.Builtin PySem.Builtin.ObjectAttr L2
section
variable{prog:wa}{w:Ja}{A:Ia}{E:Value->aa->Prop}{s:aa}{K:W.Frag}{C ea dN:Addr}{hp:Heap}{n:Nat}{Mo:Lk}
end
section
variable{T:Tb}{X:Cx}
end
section
variable{ρ:Ev}{σ:Ya}
end
end L4
namespace HT
open PySem Builtin
open Sem (wp)
end HT
namespace L4
open PySem PySem.Spec PyProof.Rows L2
end L4
namespace L4
open PySem
noncomputable def uy(xs:Array Nat):Prop:=∀ i k:Nat,∀ a b:Nat,i<k->xs[i]?=some a->xs[k]?=some b->a<b
noncomputable def Cut(xs:Array Nat)(j p:Nat):Prop:=p<=xs.size/\(∀ i a:Nat,i<p->xs[i]?=some a->a<j)/\∀ i a:Nat,p<=i->xs[i]?=some a->j<=a
theorem CY{xs:Array Nat}(m:uy xs)(j:Nat):∀ (c b hi:Nat),hi - b<=c->b<=hi->hi<=xs.size->(∀ i a:Nat,i<b->xs[i]?=some a->a<j)->(∀ i a:Nat,hi<=i->xs[i]?=some a->j<=a)->Cut xs j (Zn xs j c b hi):=by
 intro c;induction c with
 |zero=>
  intro b hi h1 q h3 h4 h;have e:b=hi:=by omega
  subst e;exact⟨h3,h4,h⟩
 |succ f o=>
  intro b hi h1 q h3 h4 h;unfold Zn;by_cases l:b<hi
  ·rw[da l];dsimp only;have hm:(b+hi) / 2<hi:=by omega
   have r:b<=(b+hi) / 2:=by omega
   have n:(b+hi) / 2<xs.size:=by omega
   have g:xs[(b+hi) / 2]?=some xs[(b+hi) / 2]:=yh n;have p:xs.getD ((b+hi) / 2) j=xs[(b+hi) / 2]:=by simp[Array.getD,n]
   rw[p];by_cases hc:xs[(b+hi) / 2]<j
   ·rw[da hc];refine o _ _ (by omega) (by omega) h3 (λi a k d=>?_) h;by_cases e:i=(b+hi) / 2
    ·subst e;rw[g]at d;cases d;exact hc
    ·have:=m i ((b+hi) / 2) a _ (by omega) d g;omega
   ·rw[ga hc];refine o _ _ (by omega) (by omega) (by omega) h4 (λi a k d=>?_);by_cases e:i=(b+hi) / 2
    ·subst e;rw[g]at d;cases d;omega
    ·have:=m ((b+hi) / 2) i _ a (by omega) g d;omega
  ·rw[ga l];have e:b=hi:=by omega
   subst e;exact⟨h3,h4,h⟩
theorem g5{xs:Array Nat}(c:uy xs)(j:Nat):Cut xs j (zm xs j):=by
 unfold zm;exact CY c j _ _ _ (by omega) (by omega) (za _) (λi a h=>by omega) (λi a h b=>by
  have:=(Vc.mp b).1;omega)
theorem zW{xs:Array Nat}{p x:Nat}(hp:p<=xs.size)(i:Nat):(Ij xs p x)[i]?=if i<p then xs[i]? else if i=p then some x else xs[i - 1]?:=by
 unfold Ij;have s1:(xs.extract 0 p).size=p:=by simp;omega
 rw[Array.getElem?_append,Array.size_push,s1];by_cases h1:i<p
 ·rw[da (by omega),da h1,ur,ga (by rw[s1];omega),Zp];simp;omega
 ·rw[ga h1];by_cases a:i=p
  ·subst a;rw[da (by omega),da rfl,ur,da (by rw[s1])]
  ·rw[ga (by omega),ga a,Zp];by_cases h3:i - 1<xs.size
   ·rw[da (by omega)];congr 1;omega
   ·rw[ga (by omega),Array.getElem?_eq_none (by omega)]
theorem uT{xs:Array Nat}{p x:Nat}(g:uy xs)(hc:Cut xs x p)(hn:¬ xs[p]?=some x):uy (Ij xs p x):=by
 have n:∀ i a:Nat,p<=i->xs[i]?=some a->x<a:=λi a o c=>by
  have h1:=hc.2.2 i a o c;rcases Nat.lt_or_ge x a with h|h
  ·exact h
  ·have e:a=x:=by omega
   subst e;by_cases l:i=p
   ·subst l;exact absurd c hn
   ·have q:=(Vc.mp c).1;have hp:p<xs.size:=by omega
    have m:xs[p]?=some xs[p]:=yh hp;have:=g p i _ _ (by omega) m c;have:=hc.2.2 p _ (za _) m;omega
 intro i k a b j c d;rw[zW hc.1]at c d;by_cases h1:i<p
 ·rw[da h1]at c;by_cases f:k<p
  ·rw[da f]at d;exact g i k a b j c d
  ·rw[ga f]at d;by_cases h3:k=p
   ·rw[da h3]at d;cases d;exact hc.2.1 i a h1 c
   ·rw[ga h3]at d;exact g i (k - 1) a b (by omega) c d
 ·rw[ga h1]at c;have f:¬ k<p:=by omega
  rw[ga f,ga (by omega)]at d;by_cases h3:i=p
  ·rw[da h3]at c;cases c;exact n (k - 1) b (by omega) d
  ·rw[ga h3]at c;exact g (i - 1) (k - 1) a b (by omega) c d
structure dr(b:Bool)(t:Eg):Prop where
 led:t.led = !b
 eH:uy t.place
 MN:t.dummies=#[]
theorem hX(j:Nat):Xu #[] j=false:=by
 unfold Xu;simp
theorem dr.put{b:Bool}{t:Eg}(h:dr b t){j:Nat}(hn:¬ t.place[zm t.place j]?=some j):dr b (t.put j).1:=by
 unfold SetTable.put;dsimp only;refine⟨h.led,uT h.eH (g5 h.eH j) hn,?_⟩;rw[h.MN,hX];rfl
theorem dr.plain{b p:Bool}{t:Eg}(h:dr b t):dr b { t with plain:=p }:=⟨h.led,h.eH,h.MN⟩
theorem gU(n:Nat):uy (Array.range n):=by
 intro i k a c e b d;have l1:=(Vc.mp b).1;have l2:=(Vc.mp d).1;simp only[Array.size_range]at l1 l2;simp[l1]at b;simp[l2]at d;omega
theorem dr.bB{b:Bool}{t:Eg}(h:dr b t)(n:Nat):dr b (t.standIn n):=⟨h.led,gU n,rfl⟩
theorem dr.or{b:Bool}{t:Eg}(h:dr b t)(n:Nat):dr b (t.orStandIn n):=by
 unfold SetTable.orStandIn;split
 ·exact h
 ·exact h.bB n
theorem dr.fresh(b:Bool):dr b (ft 0 0 (!b)):=⟨rfl,λi k a c _ d _=>by simp[ft]at d,rfl⟩
end L4
namespace L4
open PySem PySem.Spec PyProof.Rows
section
variable{prog:wa}{w:Ja}{K:Type}[DecidableEq K][BEq K][LawfulBEq K]{knd:KeyKind prog w K}{A:Ia}{E:Value->aa->Prop}{s:aa}{b:Bool}{a:Addr}{k:K}{x:Value}
end
section
variable{prog:wa}{w:Ja}{A:Ia}
variable{E:Value->aa->Prop}{s:aa}
end
section
variable{prog:wa}{w:Ja}{A:Ia}{E:Value->aa->Prop}{s:aa}
set_option maxHeartbeats 3200000 in
end
noncomputable def YF(h:Heap)(a:Addr)(b:Array (Int × Value))(ep:Nat)(t:Eg):Prop:=∃ o,h.get? a=some o/\o.ExactSet/\o.data=.set b ep t
noncomputable def Yz(h:Heap)(I a:Addr)(first:Value)(i n ep:Nat):Prop:=∃ o,h.get? I=some o/\o.cls=.type "set_iterator"/\o.data=.fields #[first,pe i,.ref a,pe n,pe ep]
section
variable{prog:wa}{w:Ja}{A:Ia}{E:Value->aa->Prop}{s:aa}{I a:Addr}{es:Array (Int × Value)}{ep:Nat}{t:Eg}{i:Nat}
theorem Yz.ty{first:Value}{n:Nat}(h:Yz s.heap I a first i n ep):s.TypeIs (.ref I) "set_iterator":=let ⟨o,h1,b,_⟩:=h;⟨o,h1,b⟩
end
section
variable{prog:wa}{w:Ja}{A:Ia}{E:Value->aa->Prop}{s:aa}{a:Addr}{es:Array (Int × Value)}{ep:Nat}{t:Eg}{i:Nat}
end
section
variable{prog:wa}{w:Ja}{A:Ia}{E:Value->aa->Prop}{s:aa}{I a p:Addr}{es:Array (Int × Value)}{ep:Nat}{t:Eg}{i:Nat}
noncomputable def dF(h:Heap)(p:Addr)(ps:List Nat):Prop:=∃ o n,h.get? p=some o/\o.data=.seq (ps.map λ(i:Nat)=>pe i).toArray n
end
section
variable{prog:wa}{w:Ja}{A:Ia}{I a p:Addr}{es:Array (Int × Value)}{ep:Nat}{t:Eg}
theorem Yz.keep{h h':Heap}{first:Value}{i n:Nat}(x:Yz h I a first i n ep)(k:∀ o,h.get? I=some o->h'.get? I=some o):Yz h' I a first i n ep:=let ⟨o,e,r⟩:=x;⟨o,k o e,r⟩
theorem YF.keep{h h':Heap}(x:YF h a es ep t)(k:∀ o,h.get? a=some o->h'.get? a=some o):YF h' a es ep t:=let ⟨o,e,r⟩:=x;⟨o,k o e,r⟩
theorem dF.keep{h h':Heap}{ps:List Nat}(x:dF h p ps)(k:∀ o,h.get? p=some o->h'.get? p=some o):dF h' p ps:=let ⟨o,n,e,r⟩:=x;⟨o,n,k o e,r⟩
end
end L4
namespace L4
open PySem PySem.Spec PySem.Calls PySem.W PyProof.Rows PyProof.V
section
variable{prog:wa}{w:Ja}{A:Ia}{E:Value->aa->Prop}{s:aa}{a:Addr}{es:Array (Int × Value)}{ep:Nat}{t:Eg}
end
end L4
namespace L4
open PySem PySem.Spec PyProof.Rows L2
section
variable{T:Tb}{X:Cx}
noncomputable def yhq(x:D)(xs:List D):M D:=λa=>match x,xs with
 | .ref n,[]=>(match a[n]? with
  |some (.Db _)=>.ok .zb (a.set n (.Db []))
  |_=>.bad)
 |_,_=>.bad
noncomputable def FD(ds:List D):M D:=λb=>match ds with
 |[x]=>(match ll b x with
  |some a=>.ok (.ref b.length) (b++[.Db a])
  |none=>.bad)
 |_=>.bad
theorem uR:Bq T XG FD:=by
 intro E j H k e n Q r p h
 match e with
 |[]=>exact h.elim
 |[x]=>
  unfold FD at h;dsimp only at h;cases b:ll k x with
  |none=>rw[b]at h;exact h.elim
  |some g=>
   rw[b]at h;rw[Ua]at p;obtain⟨v,m,rfl,i,c⟩:=p;rw[Ua]at c;subst c;obtain⟨a,d,rfl,h1,f⟩:=lx r i b;refine⟨a,d,rfl,h1,λl hn=>?_⟩;exact h (j++[l]) (.ref l) _ (Hv hn) (r.push hn ⟨d,Og,Paired.Gp f λ_ _ z=>⟨z.1,Rep.mono (Hv hn) _ _ z.2⟩⟩) (iB r)
 |_::_::_=>exact h.elim
end
section
variable{X:Cx}{pins:List (Addr × vc)}{σ:St}{H:Hp}{s:aa}
theorem _root_.L2.Inv.freeze{a:Addr}{kvs:List (Key × V)}{od:vc}(I:Inv X pins σ H s)(hd:H a=some (.dK kvs))(e:s.heap.get? a=some od):Inv X pins σ (upd H a (.db od (.dK kvs))) s:=by
 have ne:∀ b u,H b=some u->u≠.dK kvs->b≠a:=λb u q n z=>by rw[z,hd]at q;exact n (ub q).symm
 refine I.step (g':=s.gens) (d':=s.drawn) (t':=s.toks) (h':=s.heap) (ch:=[]) (λ_ z=>nomatch z) (λb o _ _ _ q _=>q) (λb o _ _ _ q _=>⟨o.slots,q⟩) (λb o _ q n=>?_) (λb o _ q=>⟨o,q⟩)
  (λb xs q=>by rw[yd (ne b _ q (λz=>by cases z))];exact q) (λb u xs q=>by rw[yd (ne b _ q (λz=>by cases z))];exact q) (λb d q=>⟨#[],by rw[yd (ne b _ q (λz=>by cases z)),q];simp⟩) (λm hm=>hm) (λb u q=>?_) I.bare
 ·rw[yd (λz=>by rw[z,hd]at n;cases n)];exact n
 ·by_cases hb:b=a
  ·subst hb;rw[Og]at q;cases q;exact⟨e,I.cc b _ hd⟩
  ·rw[yd hb]at q;exact(I.cc b u q).Oj (λc v _ z=>z) (λc z=>by rw[yd (ne c _ z (λy=>by cases y))];exact z) λc xs z=>by rw[yd (ne c _ z (λy=>by cases y))];exact z
theorem xG{a:Addr}{kvs:List (Key × V)}{od:vc}(I:Inv X pins σ H s)(hd:H a=some (.db od (.dK kvs))):∃ vs b ep,KV kvs vs/\od.data=.dict b ep/\s.heap.DictAt (zl X.prog X.w) a vs ep:=by
 obtain⟨e,_,_,vs,rel,o,b,ep,d,ex,c,r⟩:=I.cc a _ hd;rw[e]at d;cases d;exact⟨vs,b,ep,rel,c,od,b,e,ex,c,r⟩
end
noncomputable def Itm(d:Addr)(od:vc)(kvs:List (Key × V)):It:=
 ⟨λi H=>H d=some (.db od (.dK kvs))/\∃ x,kvs[i]?=some x,λi H v a=>∃ p k x,H p=none/\v=.ref p/\kvs[i]?=some (k,x)/\a=upd H p (.tup [kV k,x]),λi H=>H d=some (.db od (.dK kvs))/\i=kvs.length⟩
theorem sJ{c:Type}:∀ {kvs:List (c × V)} {vs:List (c × Value)} (r:KV kvs vs) (i:Nat) {k:c} {x:V},kvs[i]?=some (k,x)->∃ u,vs[i]?=some (k,u)/\Zc x u
 |_,_,.nil,i,_,_,h=>by simp at h
 |_,_,.cons (b:=q) a b,0,k,x,h=>by
  simp only[ji,Ug]at h;obtain⟨d,e⟩:=a;rw[h]at d e;exact⟨q.2,by simp only[ji,Ug];exact MQ d.symm rfl,e⟩
 |_,_,.cons a b,i+1,k,x,h=>by
  simp only[aq]at h ⊢;exact sJ b i h
theorem wS{P:wa}{w:Ja}{k:Key}{v:Value}(h:(zl P w).is k v=true):Zc (kV k) v:=by
 rcases Bt (k:=k) (v:=v) h with⟨i,t,rfl,rfl⟩|⟨x,t,rfl,rfl⟩
 ·exact⟨t,rfl⟩
 ·exact⟨t,rfl⟩
theorem dS{P:wa}{w:Ja}{K:W.Frag}{f:List Ka}{kk:Nat}{J:Ke}(d it:Addr)(od:vc)(kvs:List (Key × V))(Y:d≠it){R:Array HB}{ep:Nat}(l:od.data=.dict R ep) :
  Turn P w K (.Tuple f kk J) (Itm d od kvs) [it] it (λi h=>∃ ok c,IsItemIter h it d i kvs.length ep ok c) where
 mem:=by simp
 obj:=λi h st b hb=>by
  obtain⟨ok,c,s1⟩:=st;obtain rfl:b=it:=by simpa using hb
  exact⟨_,s1,λv z=>by cases z⟩
 keep:=λi h L st k=>by
  obtain⟨ok,c,s1⟩:=st;exact⟨ok,c,k it (by simp) _ s1⟩
 item:=by
  intro X B G y hc i n s σ H E I p st D;subst B G y;obtain⟨hd,⟨k,x⟩,N⟩:=D;obtain⟨vs,t,r,rel,e,hm⟩:=xG I hd;rw[l]at e;cases e;obtain⟨u,hu,ru⟩:=sJ rel i N;obtain⟨ok,c,s1⟩:=st;rw[rel.length]at s1;refine wpAny_pyNext_items_item s1 hm hu λa L j Z T a0 U=>?_;have g:s.heap.objs.size≠it:=og (va s1);refine⟨.ref s.heap.objs.size,rfl,wpAny_letOwnedTupleGo_items Z λS F m=>?_⟩;have hn:H s.heap.objs.size=none:=I.cc.fresh (za _);have C:S.get? s.heap.objs.size=some { cls:=.type "tuple",data:=.seq #[a,u] }:=m.extBut _ _ g T;refine⟨.ref s.heap.objs.size,upd H s.heap.objs.size (.tup [kV k,x]),I.fu (t':=s.toks) (o:=.tup [kV k,x]) (its:=[it]) (λb o hb q=>m.extBut b o (λz=>hb (by simp[z])) (U b o (λz=>hb (by simp[z])) q)) p (za _) ?_,rfl,⟨_,k,x,hn,rfl,N,rfl⟩,⟨a,u,by rw[rel.length];exact F⟩,λb hb=>?_⟩
  ·exact⟨(show (2:Nat)<=sizeLine by decide),[a,u],.cons (wS j) (.cons ru .nil),⟨_,C,rfl,_,rfl⟩⟩
  ·obtain rfl:b=it:=by simpa using hb
   rw[yd (λz=>g z.symm)];exact(p b hb).1
 done:=by
  intro X B G y hc i n s σ H E I p st D;subst B G y;obtain⟨hd,M⟩:=D;obtain⟨vs,t,r,rel,e,hm⟩:=xG I hd;rw[l]at e;cases e;obtain⟨ok,c,s1⟩:=st;rw[rel.length]at s1 M;exact wpAny_pyNext_items_end (I.ok.hd hc) s1 hm (by rw[M];simp) λL O=>⟨rfl,I.cu (t':=s.toks) (its:=[it]) (λb o hb q=>O b o (λz=>hb (by simp[z])) q) p⟩
 self:=λA i s Q E st h=>by
  obtain⟨ok,c,s1⟩:=st;exact W.kcp_self s1 h
noncomputable def jm(l a:Addr):Heap->Prop:=λh=>h.IsItemsView l a
noncomputable def LY:V->List V->Hp->VK->Prop:=λx xs H Q=>∃ a b,x=.ref a/\xs=[]/\Rd H a (.dK b)/\∀ l,H l=none->Q (.ref l) (upd H l (.ext (jm l a)))
theorem ZD{H:Hp}{a:Addr}{o:HO}(h:H a=some o):upd H a o=H:=by
 funext b;unfold upd;split
 ·next e=>rw[e,h]
 ·rfl
theorem fH(h:Heap)(o:vc)(a:o.data≠.freed):(h.push o).get? h.objs.size=some o:=by
 obtain⟨c,d,x,b⟩:=o;simp[Heap.get?,Heap.push];cases x<;>first|rfl|exact absurd rfl a
section
variable{T:Tb}{X:Cx}{elts:List Ka}{kk:Nat}{p0:Ke}
theorem lP:Vt X "dict.items" LY:=by
 intro f s st H x t v r Q I l j h;obtain⟨a,i,rfl,rfl,g,q⟩:=h;cases l;cases j;obtain⟨z,hd,m,rel,d⟩:=bv I.cc g;refine e8 Kh d.typeIs PySem.F.entry_dict_items (PySem.F.args_dict_items_1 _) (meets_dict_items (zl X.prog X.w) a hd) ⟨⟨m,d⟩,?_⟩;refine⟨.ref s.heap.objs.size,_,I.laid (t':=s.toks) (o:=.ext (jm s.heap.objs.size a)) (λb o e=>la _ e) (za _) ?_,rfl,q _ (I.cc.fresh (za _))⟩;refine⟨⟨_,fH _ _ (λz=>by cases z),rfl,rfl⟩,⟨_,fH _ _ (λz=>by cases z)⟩,λh1 n p k=>?_⟩;obtain⟨o,e,c⟩:=p;exact⟨o,k o e,c⟩
noncomputable def oZ(e:TE):TI:=λf H R=>e f H λv c=>∃ l a b,v=.ref l/\c l=some (.ext (jm l a))/\Rd c a (.dK b)/\∀ d,c a=some (.dK b)\/c a=some (.db d (.dK b))->R (Itm a d b) (upd c a (.db d (.dK b)))
theorem BM{f:Ka}{p:TE}(y:PE X f p):PI X (.Tuple elts kk p0) f (oZ p):=by
 intro i s r H R I h;refine Od (y i s r H _ I h) λv s1 ⟨x,H1,j,D,C⟩=>?_;obtain⟨l,a,c,rfl,A,d,q⟩:=C;cases D;obtain⟨g,n,k⟩:∃ g,(H1 a=some (.dK c)\/H1 a=some (.db g (.dK c)))/\Inv X i r (upd H1 a (.db g (.dK c))) s1:=by
  rcases d with d|⟨g,d⟩
  ·obtain⟨_,_,E,rel,o,w,u,e,_⟩:=j.cc a _ d;exact⟨o,.inl d,j.freeze d e⟩
  ·exact⟨g,.inr d,by rw[ZD d];exact j⟩
 obtain⟨E,w,u,rel,t,hm⟩:=xG k Og;have B:s1.heap.IsItemsView l a:=(j.cc l _ A).1;have m:a≠s1.heap.objs.size:=Ea hm.lt_size;refine wpAny_pyIter_items B hm ?_;refine⟨s1.heap.objs.size,[s1.heap.objs.size],_,Itm a g c,_,rfl,k.kept (t':=s1.toks) (λb o e=>la _ e),dS a _ g c m t,⟨.none,.none,by rw[rel.length];exact fH _ _ (λz=>by cases z)⟩,λb hb=>?_,q g n⟩;obtain rfl:b=s1.heap.objs.size:=by simpa using hb
 exact k.Qp (za _) (k.cc.fresh (za _))
noncomputable def ar(a:List (Key × D)):NX:=λi _=>match a[i]? with
 |some p=>some (some (.tup [Gu p.1,p.2]))
 |none=>if i=a.length then some none else none
noncomputable def gB(d:D):M NX:=λb=>match d with
 | .Db a xs=>if a.length=xs.length then .ok (ar (a.zip xs)) b else .bad
 |_=>.bad
noncomputable def Du(f:Ev->M D):Ev->M NX:=λa=>Xc (f a) gB
theorem qM{μ:List Addr}{H:Hp}(k:Key):Rep T μ H (Gu k) (kV k):=by
 cases k<;>(unfold Gu kV;rw[Rep])
theorem ZL{μ:List Addr}{H:Hp}{a:Addr}{od:vc}{kvs:List (Key × V)}(c:H a=some (.dK kvs)):Ext μ H μ (upd H a (.db od (.dK kvs))):=by
 have ne:∀ b u,H b=some u->u≠.dK kvs->b≠a:=λb u q n z=>by rw[z,c]at q;exact n (ub q).symm
 refine⟨⟨[],by simp⟩,λp xs h=>by rw[yd (ne p _ h (λz=>by cases z))];exact h,λp o u h=>by rw[yd (ne p _ h (λz=>by cases z))];exact h,λp o h n=>⟨?_,n⟩⟩;by_cases e:p=a
 ·subst e;rw[c]at h;cases h;exact⟨_,Og,.inr (.inl ⟨od,kvs,rfl,rfl⟩)⟩
 ·exact⟨o,by rw[yd e];exact h,.inl rfl⟩
theorem dH{c d:Type}{R:c->d->Prop}:∀ {xs:List c} {ys:List d},Paired R xs ys->∀ (i:Nat) {x:c},xs[i]?=some x->∃ y,ys[i]?=some y/\R x y
 |_,_,.nil,i,_,h=>by simp at h
 |_,_,.cons a b,0,x,h=>by
  simp only[ji,Ug]at h ⊢;subst h;exact⟨_,rfl,a⟩
 |_,_,.cons a b,i+1,x,h=>by
  simp only[aq]at h ⊢;exact dH b i h
theorem YH{e:Ka}{f:Ev->M D}{j k:Ke}(h:FE T X e f)(m:Zd e "items" X.env (bc e X.env)=bc e X.env:=by rfl)(o:(j.endLine == k.line)=true:=by rfl) :
  Bw T X (.Tuple elts kk p0) (.Call (.Attribute e "items" j) [] [] k) (Du f):=by
 intro G s st H R I hw;refine BM (LP Lh Kh yo lP h m o) G s st H R I ?_;obtain⟨μ,ρ,σ,hE,hr,hp⟩:=hw;refine⟨μ,ρ,σ,hE,hr,hp.bind λd σ1 c v g _ e1 r1 Y w=>?_⟩;unfold gB at w;cases d with
 |Db J xs=>
  dsimp only at w;by_cases W:J.length=xs.length
  ·rw[da W]at w;rw[Rep]at Y;obtain⟨a,kvs,rfl,hn,n,N,O⟩:=Y;refine⟨⟨a,kvs,rfl,n⟩,a,kvs,rfl,rfl,n,λl t=>?_⟩;have P:a≠l:=by rcases n with n|⟨_,n⟩<;>exact Ro n t
   have L:Rd (upd g l (.ext (jm l a))) a (.dK kvs):=by unfold Rd;rw[yd P];exact n
   refine⟨l,a,kvs,rfl,Og,L,λod A=>?_⟩;have x1:Ext c g c (upd g l (.ext (jm l a))):=Sk t;have x:Rel T c (upd g l (.ext (jm l a))) σ1:=r1.fresh t;obtain⟨x2,Q⟩:Ext c g c (upd (upd g l (.ext (jm l a))) a (.db od (.dK kvs)))/\Rel T c (upd (upd g l (.ext (jm l a))) a (.db od (.dK kvs))) σ1:=by
    rcases A with A|A
    ·have y:=ZL (μ:=c) (od:=od) A;exact⟨x1.trans y,x.keep y (λb hb=>yd (λz=>hn (by rw[<-z];exact hb))) (x.tb.out (λb hb=>yd hb) (.inr ⟨_,A⟩))⟩
    ·rw[ZD A];exact⟨x1,x⟩
   have h3:upd (upd g l (.ext (jm l a))) a (.db od (.dK kvs)) a=some (.db od (.dK kvs)):=Og;generalize upd (upd g l (.ext (jm l a))) a (.db od (.dK kvs))=H3 at *;refine Kb.here (R:=Ps T) (Kb.mono x2 w) Q λS U a0 i ex r2=>?_;have V:U a=some (.db od (.dK kvs)):=ex.db _ _ _ h3;have E:yj T S U (J.zip xs) kvs:=yj.mono (x2.trans ex) (oC N O);unfold ar;cases ei:(J.zip xs)[i]? with
   |none=>
    dsimp only;by_cases K:i=(J.zip xs).length
    ·rw[da K];exact⟨V,by rw[K];exact Paired.length E⟩
    ·rw[ga K];trivial
   |some p=>
    obtain⟨q,hq,C,Z⟩:=dH E i ei;refine⟨⟨V,q,hq⟩,λz H' y=>?_⟩;obtain⟨r,k',x',u,rfl,B,rfl⟩:=y;rw[hq]at B;cases B;dsimp only at C Z;refine⟨Sk u,r2.fresh u,?_⟩;rw[Rep,C];exact⟨r,_,rfl,Og,Ua.cons (qM _) (Ua.cons (Rep.mono (Sk u) _ _ Z) Ua.nil)⟩
  ·rw[ga W]at w;exact w.elim
 |_=>exact w.elim
end
noncomputable def wk(nx:NX)(n:Nat)(tg:D->Ev->Option Ev)(fi:Ev->M Bool)(fe:Ev->M D):Nat->Nat->Ev->M Unit
 |0,_,_=>bad
 |k+1,i,e=>λb=>match nx i b with
  |none=>.bad
  |some none=>.ok () b
  |some (some d)=>match tg d e with
   |none=>.bad
   |some a=>Xc (En (fi a)) (λc=>if c=true then Xc (En (fe a)) λy=>Xc (il (.ref n) [y]) λ_=>wk nx n tg fi fe k (i+1) a else wk nx n tg fi fe k (i+1) a) b
noncomputable def YI(tg:D->Ev->Option Ev)(fi:Ev->M Bool)(fe:Ev->M D)(ρ:Ev)(nx:NX):M D:=λa=>
 Xc (wk nx a.length tg fi fe 1001 0 ρ) (λ_=>ret (.ref a.length)) (a++[.lst []])
noncomputable def rn(src:Ev->M NX)(ix:List Nat)(tg:D->Ev->Option Ev)(fi:Ev->M Bool)(fe:Ev->M D):Ev->M D:=λa=>Xc (src a) (YI tg fi fe (Iu ix a))
section
variable{T:Tb}{X:Cx}
theorem LJ{E:XK}{a5 W a3:Ka}{a6:List Ka}{scope:Scope}{b2:Ke}{x z0:Str}{M':List Str}{ix:List Nat}{tg:D->Ev->Option Ev}{fi:Ev->M Bool}{fe:Ev->M D}
  {b0:List (Addr × vc)} {st:St} {R:Hp} {s3:aa} {t:Heap} {t':Nat} {m:Str->Option Value} {fp:List Addr} {it D0:Addr} {tn:Nat->Heap->Prop} {J:It} {nx:NX} {G:List Addr} {b6:Ya} {ρ:Ev} {n:Nat} {Q:VK}
  (hc:X.calm=true) (L:Im X x M' ix scope)
  (d1:∀ cl C s₀ H₀ ex,FG T (Es X (x::z0::M') scope cl C s₀ H₀ ex) a3 tg)
  (c8:∀ cl C s₀ H₀ ex,Nz T (Es X (x::z0::M') scope cl C s₀ H₀ ex) a6 fi)
  (b9:∀ cl C s₀ H₀ ex,FE T (Es X (x::z0::M') scope cl C s₀ H₀ ex) a5 fe)
  (I3:Inv X b0 st R s3) (c0:∀ b∈fp,Vl X b0 R b/\b<s3.heap.objs.size) (d0:t.Ns s3.heap.objs.size m) (kp:∀ b o,s3.heap.get? b=some o->t.get? b=some o)
  (TT:Turn X.prog X.w X.K a3 J fp it tn) (a9:tn 0 t) (so:Ps T G R nx J) (hE:gh T G R ρ st) (r3:Rel T G R b6) (hn:G[n]?=some D0)
  (p3:Kb T E (Rep T) G R (Xc (wk nx n tg fi fe 1001 0 (Iu ix ρ)) (λ_=>ret (.ref n)) b6) Q) {RR:jy->aa->Prop}
  (c6:∀ (s6:aa) (j:Hp) (m6:Str->Option Value),s6.heap.Ns s3.heap.objs.size m6->j s3.heap.objs.size=none->Un (Yi X.stack) fp R j s3.heap s6.heap->s6.os=s3.os->ci X.prog X.w j s6.heap->zg s6.gens->Q (.ref D0) j->RR (.ok .next) s6) :
  codeAny (model X.prog X.w) X.A (.compStart (.ListComp a5 [⟨a3,W,a6,0⟩] scope b2) 0 (.ref it) (.ref D0) (compEnvC scope (oi X.env scope.names []) s3.heap.objs.size X.env))
   RR { s3 with heap:=t,toks:=t' }:=by
 have I4:=S0 (z0:=z0) (h':=t) (t':=t') I3 L c0 d0 kp;let Y:Cx:=Es X (x::z0::M') scope (oi X.env scope.names []) s3.heap.objs.size s3 R fp;have a2:∀ {j:Hp},(∀ b∈fp,j b=none)->∀ b∈fp,Vl Y [] j b:=fun {j} hn b hb=>⟨hn b hb,(I4.ok.wx b hb).1,I4.ok.Lp b hb,.inl hb,(I4.ok.wx b hb).2,λp hp=>absurd (show p∈([]:List (Addr × vc))from hp) (by simp)⟩
 have Xl:codeAny (model X.prog X.w) X.A (.compLoop (.ListComp a5 [⟨a3,W,a6,0⟩] scope b2) 0 (.ref it) (.ref D0) Y.env) RR { s3 with heap:=t,toks:=t' }:=by
  refine codeAny_loop rfl (λk s'=>∃ i f j σ' q B,Inv Y [] B j s'/\tn i s'.heap/\(∀ b∈fp,j b=none)/\Ext G R f j/\gh T f j q B/\Rel T f j σ'/\
   Kb T E (Rep T) f j (Xc (wk nx n tg fi fe k i q) (λ_=>ret (.ref n)) σ') Q) ?_ 1001 ⟨0,G,R,b6,Iu ix ρ,Ix ix st,I4,a9,λb hb=>(c0 b hb).1.1,Ext.refl _ _,L1 ix hE,r3,p3⟩
  rintro k s' ⟨i,f,j,σ',q,B,I',c2,b7,ex',hE',r',p'⟩;show wpAny _ X.A ((compTurn (.ListComp a5 [⟨a3,W,a6,0⟩] scope b2) 0 (.ref it) (.ref D0) Y.env).onRaise (λx=>do vg x Y.env;theTreesLotGoes x)) _ _ s';refine wpAny_noted ?_;rw[compTurn_list];refine Rb (E:=λ_ _=>False) ?_ (λ_ _ z=>z) (λ_ _ z=>z.elim);refine ba (Rr ?_);cases k with
  |zero=>exact p'.elim
  |succ k=>
   have a8:=so f j σ' i ex' r';cases en:nx i σ' with
   |none=>
    have e1:wk nx n tg fi fe (k+1) i q σ'=.bad:=by unfold wk;simp only[en]
    rw[VC (m':=bad) e1]at p';exact p'.elim
   |some od=>
    rw[en]at a8;cases od with
    |none=>
     have e1:wk nx n tg fi fe (k+1) i q σ'=.ok () σ':=by unfold wk;simp only[en]
     rw[VC (m':=ret ()) e1]at p';refine ba (Od (TT.done Y rfl rfl rfl hc i [] s' B j (λ_ _=>False) I' (a2 b7) c2 a8) λr s6 ⟨er,I6⟩=>?_);subst er;refine ra ?_;obtain⟨m6,c9,_⟩:=I6.loc;exact c6 s6 j m6 c9 I6.free I6.base I6.os I6.cc I6.bare (Kb.here p' r' (by rw[Rep];exact⟨_,rfl,ex'.get hn⟩))
    |some d=>
     refine ba (Od (TT.item Y rfl rfl rfl hc i [] s' B j (λ_ _=>False) I' (a2 b7) c2 a8.1) λr s6 ⟨u,er,h6⟩=>?_);subst er;refine ba (Od h6 λ_ s7 ⟨xv,H7,I7,r7,y7,b5,c7⟩=>?_);obtain⟨b1,d2,hd⟩:=a8.2 xv H7 y7;replace p':=Kb.mono b1 p';replace hE':=hE'.mono b1;replace ex':=ex'.trans b1;replace r':=d2;cases et:tg d q with
     |none=>
      have e1:wk nx n tg fi fe (k+1) i q σ'=.bad:=by unfold wk;simp only[en,et]
      rw[VC (m':=bad) e1]at p';exact p'.elim
     |some h=>
      have e1:wk nx n tg fi fe (k+1) i q σ'=Xc (En (fi h)) (λc=>if c=true then Xc (En (fe h)) λy=>Xc (il (.ref n) [y]) λ_=>wk nx n tg fi fe k (i+1) h else wk nx n tg fi fe k (i+1) h) σ':=by
       conv=>lhs;unfold wk
       simp only[en,et]
      rw[VC e1,JG]at p';have c4:=I7.pinned (a2 c7) (TT.obj _ _ b5);refine ba (Od (d1 _ _ _ _ _ _ s7 B H7 xv u (λF H8=>H8=H7/\gh T f H7 h F) c4 r7 ⟨f,σ',q,d,h,hE',r',hd,et,λF V=>⟨rfl,V⟩⟩) λ_ s8 ⟨F,H8,I8,c5,V⟩=>?_);subst c5;refine ba (Od (c8 _ _ _ _ _ _ s8 F H8 (λc H9=>∃ N P,Ext f H8 N H9/\Rel T N H9 P/\Kb T E (Rep T) N H9 (Xc (if c=true then Xc (En (fe h)) λy=>Xc (il (.ref n) [y]) λ_=>wk nx n tg fi fe k (i+1) h else wk nx n tg fi fe k (i+1) h) (λ_=>ret (.ref n)) P) Q) I8
       ⟨f,h,σ',V,r',p'.wt λc P N c' H9 _ e9 r9 q9 p9=>by cases q9;exact⟨N,P,e9,r9,p9⟩⟩) λc s9 ⟨H9,I9,N,P,e9,r9,p9⟩=>?_)
      have U:∀ {a1:aa} {l:Hp} {a:List Addr} {g:Ya},Inv Y ([]++iA fp s7.heap) F l a1->Ext f H8 a l->Rel T a l g->Kb T E (Rep T) a l (Xc (wk nx n tg fi fe k (i+1) h) (λ_=>ret (.ref n)) g) Q->
        ∃ m,m<k+1/\∃ i f j σ' q B,Inv Y [] B j a1/\tn i a1.heap/\(∀ b∈fp,j b=none)/\Ext G R f j/\gh T f j q B/\Rel T f j σ'/\Kb T E (Rep T) f j (Xc (wk nx n tg fi fe m i q) (λ_=>ret (.ref n)) σ') Q:=by
       intro a1 l a g S O a0 Z;refine⟨k,Oc _,i+1,a,l,g,h,F,S.Qj,TT.keep _ _ _ b5 (λb hb o e=>(S.pin (b,o) (Na _ (Na _ (xE hb e)))).1),λb hb=>?_,ex'.trans O,V.mono O,a0,Z⟩;obtain⟨o,e,_⟩:=TT.obj _ _ b5 b hb;exact(S.pin (b,o) (Na _ (Na _ (xE hb e)))).2.1
      cases c with
      |false=>
       rw[ga Wa]at p9;exact ra ⟨rfl,U I9 e9 r9 p9⟩
      |true=>
       rw[da rfl,JG]at p9;refine ba (ba (Od (b9 _ _ _ _ _ _ s9 F H9 (λv I=>∃ y s H,Ext f H8 s I/\Rel T s I H/\Rep T s I y v/\Kb T E (Rep T) s I (Xc (il (.ref n) [y]) (λ_=>Xc (wk nx n tg fi fe k (i+1) h) (λ_=>ret (.ref n))) H) Q) I9
        ⟨N,h,P,V.mono e9,r9,p9.wt λy H s v I _ a4 b4 b3 a7=>⟨y,s,H,e9.trans a4,b4,b3,by rw[JG]at a7;exact a7⟩⟩) λw d3 ⟨v,I,c3,c1,y,s,H,a4,b4,b3,a7⟩=>?_))
       have b8:=SR (Q:=λ_ l=>∃ a g,Ext f H8 a l/\Rel T a l g/\Kb T E (Rep T) a l (Xc (wk nx n tg fi fe k (i+1) h) (λ_=>ret (.ref n)) g) Q) b4 ((ex'.trans a4).get hn) b3
        (a7.bind λ_ g a d4 l _ O a0 d5 Z=>⟨a,g,a4.trans O,a0,Z⟩)
       refine ba (Od (nB (X:=Y) _ d3 F I (.ref D0) [v] (.ref D0) [w] _ c3 rfl (.cons c1 .nil) b8) λ_ a1 ⟨d4,l,S,_,a,g,O,a0,Z⟩=>?_);exact ra (ra ⟨rfl,U S O a0 Z⟩)
 exact codeAny_compStart_list Xl (TT.self X.A 0 _ _ _ a9 Xl)
theorem Ct{u f t:Ka}{G:List Ka}{scope:Scope}{a0:Ke}{x z0:Str}{M':List Str}{ix:List Nat}{src:Ev->M NX}{tg:D->Ev->Option Ev}{fi:Ev->M Bool}{fe:Ev->M D}
  (hc:X.calm=true) (L:Im X x M' ix scope) (E:Bw T X t f src)
  (Y:∀ cl C s₀ H₀ ex,FG T (Es X (x::z0::M') scope cl C s₀ H₀ ex) t tg)
  (S:∀ cl C s₀ H₀ ex,Nz T (Es X (x::z0::M') scope cl C s₀ H₀ ex) G fi)
  (z:∀ cl C s₀ H₀ ex,FE T (Es X (x::z0::M') scope cl C s₀ H₀ ex) u fe)
  (hs:∀ y,Ag f X.env y=pure y:=by intro _;rfl) :
  FE T X (.ListComp u [⟨t,f,G,0⟩] scope a0) (rn src ix tg fi fe):=by
 intro l s st H Q I h;obtain⟨N,ρ,σ,hE,hr,hp⟩:=h;rw[eval_ListComp];refine Wr (use:=none) rfl hs (DH X.env scope (Lx I L)) L.kind (λy hy e=>?_) ?_
 ·have q:=Vb.mp L.names y hy;rw[e]at q;simp only[nq,yp,dk]at q;exact eq_of_beq q
 have h1:=E l s st H (λJ g=>∃ nx a c,Ext N H a g/\Rel T a g c/\Ps T a g nx J/\Kb T (XE X st) (Rep T) a g (Xc (wk nx c.length tg fi fe 1001 0 (Iu ix ρ)) (λ_=>ret (.ref c.length)) (c++[Ob.lst []])) Q) I
  ⟨N,ρ,σ,hE,hr,hp.bind λnx a2 a1 J H1 _ e1 r1 q1 p1=>⟨nx,a1,a2,e1,r1,q1,p1⟩⟩
 refine Od h1 λv s1 h2=>Od h2 λa3 s2 h3=>?_;obtain⟨it,fp,tn,J,g,rfl,I2,TT,K,f2,nx,a,c,O,r2,so,p2⟩:=h3;refine Ce (Kk (zz L) (by intro y hy;simp at hy) (λF j k=>?_) L.kind);have I3:=I2.vx (ys:=[]) (its:=[]) (t':=s2.toks) .nil (by simp);have w:g s2.heap.objs.size=none:=I2.cc.fresh (za _);have r3:=r2.push (p:=s2.heap.objs.size) (o:=.lst []) (ob:=.lst []) w ⟨[],Og,Ua.nil⟩;have m:Ext a g (a++[s2.heap.objs.size]) (upd g s2.heap.objs.size (.lst [])):=Hv w;have W:s2.heap.objs.size<(s2.heap.push { cls:=.type "list",data:=.seq ([]:List Value).toArray }).objs.size:=by rw[eg];exact Oc _
 have kp:∀ b o,(s2.heap.push { cls:=.type "list",data:=.seq ([]:List Value).toArray }).get? b=some o->F.get? b=some o:=λb o e=>k.extBut b o (Ea (va e)) (la _ e);have d:∀ b∈fp,Vl X l (upd g s2.heap.objs.size (.lst [])) b/\b<(s2.heap.push { cls:=.type "list",data:=.seq ([]:List Value).toArray }).objs.size:=λb hb=>by
  obtain⟨o,e,_⟩:=TT.obj 0 _ K b hb;have lt:=va e;exact⟨⟨by rw[yd (Ea lt)];exact(f2 b hb).1,(f2 b hb).2⟩,Nq lt W⟩
 refine LJ (s3:={ s2 with heap:=s2.heap.push { cls:=.type "list",data:=.seq ([]:List Value).toArray },toks:=s2.toks }) (n:=c.length) (D0:=s2.heap.objs.size) hc L Y S z I3 d j kp TT (TT.keep 0 _ _ K λb hb o e=>kp b o (la _ e))
  (λN H σ i ex r=>so N H σ i (m.trans ex) r) ((hE.mono O).mono m) r3 (by rw[<-r2.len];simp) (p2.mono m) (λs6 H' m6 U P Z V A R hq=>⟨m6,U,λh7 B=>?_⟩)
 have hu:=EV Z B (za _);have I7:=L2.Inv.Wt (s':={ s6 with heap:=h7 }) (ch:=fp) I3 V hu (TV A B P) R (λb hb=>⟨(d b hb).1.2.2.2.1,(d b hb).1.2.1,(d b hb).1.2.2.2.2.1,(d b hb).1.2.2.2.2.2⟩);exact⟨.ref s2.heap.objs.size,H',I7,rfl,hq⟩
end
noncomputable def cB(K:W.Frag)(mg:Str->Option Value)(x:Str)(ss:List Str):Prop:=∃ a,mg x=some (.ref a)/\Vy K a ss
noncomputable def Gx:List Value->List Str->Bool
 |[],[]=>true
 | .str y _::a,x::ss=>(y == x) && Gx a ss
 |_,_=>false
noncomputable def ZG(K:W.Frag)(a:Addr)(ss:List Str):Bool:=match K.lookup a with
 |some o=>(o.cls == .type "tuple") && (match o.data with
  | .seq b _=>decide (b.size<=sizeLine) && Gx b.toList ss
  |_=>false)
 |none=>false
theorem mP:∀ {vs:List Value} {ss:List Str},Gx vs ss=true->Ud (ss.map V.str) vs
 |[],[],_=>.nil
 |[],_::_,h=>by simp[Gx]at h
 |v::vs,[],h=>by cases v<;>simp[Gx]at h
 |v::vs,x::ss,h=>by
  cases v with
  |str y t=>
   simp only[Gx,Ba]at h;obtain rfl:=eq_of_beq h.1;exact .cons ⟨t,rfl⟩ (mP h.2)
  |_=>simp[Gx]at h
theorem Vy.of{K:W.Frag}{a:Addr}{ss:List Str}(h:ZG K a ss=true):Vy K a ss:=by
 unfold ZG at h;cases e:K.lookup a with
 |none=>rw[e]at h;cases h
 |some o=>
  rw[e]at h;simp only[Ba]at h;obtain⟨h1,b⟩:=h;cases c:o.data with
  |seq d n=>
   rw[c]at b;simp only[Ba,Pd]at b;exact⟨o,d,n,e,eq_of_beq h1,c,b.1,mP b.2⟩
  |_=>rw[c]at b;cases b
noncomputable def XC(a:Bool)(ss:List Str)(x:D):M D:=λb=>match x with
 | .str z=>.ok (.bl (if a then !wy (.str z) (ss.map V.str)else wy (.str z) (ss.map V.str))) b
 |_=>.bad
section
variable{T:Tb}{X:Cx}{e:Ka}{f:Ev->M D}{x:Str}{p pos:Ke}{ss:List Str}
theorem gT(ss:List Str):(ss.map V.str).all qi=true:=by simp[qi]
theorem S3{a:Addr}(j:Vy X.K a ss){b:Bool}{st:St}{H:Hp}{Q:VK}(h:tF T X (Wc (XC b ss) f) st H Q):Qy (pE X.K b) (tF T X f) (tC (.ref a)) st H Q:=by
 obtain⟨m,o,p,i,k,hp⟩:=h;refine⟨m,o,p,i,k,hp.bind λd q n v g _ r l e c=>?_⟩;show pE X.K b v (.ref a) g Q;cases d with
 |str z=>rw[Rep]at e;subst e;exact⟨a,ss.map V.str,rfl,.inr (.inr j),rfl,gT ss,Kb.here c l (by rw[Rep])⟩
 |_=>exact c.elim
theorem DS(l:Gl X x)(i:cB X.K X.mg x ss)(c:FE T X e f)(hd:(x == ("__debug__" : Str))=false:=by decide):FT T X (.Compare e [.In] [.Name x p] pos) (eT (Wc (XC false ss) f)):=by
 obtain⟨a,hm,j⟩:=i;intro b s st H Q I h;refine KL iN c (CF l hm (v:=.ref a) rfl hd) rfl b s st H Q I ?_;refine S3 j ?_;obtain⟨t,w,y,c,m,hp⟩:=h;refine⟨t,w,y,c,m,hp.bind λd z u v A _ B r n o=>?_⟩;obtain⟨k,g,q⟩:=NI n o;exact⟨k,g,q.here r rfl⟩
end
section
variable{T:Tb}{X:Cx}
end
theorem qW{K:W.Frag}{mg:Str->Option Value}{h:Heap}{x:Str}{C:Addr}{ss:List Str}(X:K.In h)(G:h.Ns mainGlobals mg)(a:W.nsIn K mainGlobals x=some (some (.ref C)))(b:ZG K C ss=true):cB K mg x ss:=⟨C,W.mg_of X G a,Vy.of b⟩
section
variable{T:Tb}{X:Cx}
end
section
variable{T:Tb}{X:Cx}
end
section
variable{prog:wa}{w:Ja}{A:Ia}{E:Value->aa->Prop}{l q I S:Addr}{n:Nat}{P:Nat->Value->Prop}{R:jy->aa->Prop}{Q:Value->aa->Prop}
theorem jW(G:Nat->Value->Int->aa->Prop)(hh:A.handled=none)(Y:l≠I)(H:S≠I)(a6:l≠S)
  (hl:∀ j d a s,G j d a s->∃ vs:List Value,vs.length=n/\(∀ (j:Nat) v,vs[j]?=some v->P j v)/\s.heap.IsList l vs.toArray)
  (B:∀ j d a s h' tk,G j d a s->(∀ b o,b≠I->b≠S->s.heap.get? b=some o->h'.get? b=some o)->G j d a { s with heap:=h',toks:=tk })
  (a4:∀ j d a s v oI oS,G j d a s->P j v->s.heap.get? I=some oI->s.heap.get? S=some oS->(∀ v,oI.data≠.cell v)->(∀ v,oS.data≠.cell v)->
   wpAny (model prog w) A.in1 (call (.ref q) [v]) (λx s'=>∃ k t,x=.int k t/\s'.heap.get? I=some oI/\s'.heap.get? S=some oS/\G (j+1) (if k<a then v else d) (if k<a then k else a) s') (λ_ _=>False) s)
  (hR:∀ d a s,G n d a s->R (.ok (.ret d)) s) :
  ∀ (r j:Nat) (s:aa) (d:Value) (a:Int) (tb:g8) (c:Nat),n - j=r->j<=n->G j d a s->s.heap.get? S=some (Qk "list" #[d,.int a tb] c)->s.heap.IsListIter I l j->
   codeAny (model prog w) A (.builtin "min.loop" ⟨[.ref I,.ref q,.ref S],[]⟩) R s:=by
 have p:(toString "min"++toString ".loop" : String) = "min.loop":=by decide
 intro r;induction r with
 |zero=>
  intro j s d a tb c hr hj g U hit;have V:j=n:=by omega
  obtain⟨vs,O,a2,K⟩:=hl j d a s g;have W:=Qn (prog:=prog) (w:=w) (A:=A.in1) hh I l Y vs.toArray;have N:vs.toArray.size=n:=(pa ..).trans O;refine zh Xh ?_;rw[cf Uc _];show wpAny _ A.in1 (JB (.ref S) >>= _) _ _ _;refine ba (Pq U rfl ?_);show wpAny _ A.in1 (tryCatch (pyNext (.ref I)) _ >>= _) _ _ _;refine ba (Jf (W.done _ _ _ ⟨by rw[N,<-V];exact hit,K⟩ λh' a3 J=>?_));have m:∀ b o,b≠I->s.heap.get? b=some o->h'.get? b=some o:=λb o n e=>J b o (by simpa using n) e;have D:=m S _ H U;have s1:=ki h' S (rf λ_=>(#[]:Array Value));show wpAny _ A.in1 (updateSeq S (λ_=>#[]) >>= _) _ _ _;refine ba ?_;refine bq D rfl (ba (zp (ra ?_)));subst V;exact hR d a _ (B _ _ _ s _ _ g λb o n1 n2 e=>by rw[s1.2 b n2];exact m b o n1 e)
 |succ r ih=>
  intro j s d a tb c hr hj g U hit;have L:j<n:=by omega
  obtain⟨vs,O,a2,K⟩:=hl j d a s g;have W:=Qn (prog:=prog) (w:=w) (A:=A.in1) hh I l Y vs.toArray;have N:vs.toArray.size=n:=(pa ..).trans O;refine zh Xh ?_;rw[cf Uc _];show wpAny _ A.in1 (JB (.ref S) >>= _) _ _ _;refine ba (Pq U rfl ?_);show wpAny _ A.in1 (tryCatch (pyNext (.ref I)) _ >>= _) _ _ _;refine ba (Jf (W.item j _ _ _ (by rw[N];exact L) ⟨hit,K⟩ λv h' a3 hP a1 J=>?_));have m:∀ b o,b≠I->s.heap.get? b=some o->h'.get? b=some o:=λb o n e=>J b o (by simpa using n) e;have hv:P j v:=a2 j v (by simpa using hP);obtain⟨Q,Z,a0,M⟩:=id a1.1;have g1:=B _ _ _ s h' a3 g λb o n1 n2 e=>m b o n1 e;have D:=m S _ H U;show wpAny _ A.in1 (tryCatch (vf [v] (call (.ref q) [v])) _ >>= _) _ _ _;refine ba (Jf (Ad (Rb (a4 j d a _ v Q _ g1 hv Z D (λv z=>by rw[M]at z;cases z) (λv z=>by cases z)) (λx u he=>?_) λ_ _ hF=>hF.elim)));obtain⟨y,C,rfl,T,E,g2⟩:=he;have X:u.heap.IsListIter I l (j+1):=⟨Q,T,a0,M⟩
  show wpAny _ A.in1 (tryCatch (vf [v,.int y C] (dw .Lt (.int y C) (.int a tb) >>= _)) _ >>= _) _ _ _;refine ba (Jf (Ad (ba (CmpOf.ints_lt (prog:=prog) (w:=w) (A:=A.in1) (P:=λ(i:Nat) v=>∃ t,v=.int (if i=0 then y else a) t) (λi=>if i=0 then y else a) (λi v h=>h) 0 1 _ _ _ _ _ ⟨C,rfl⟩ ⟨tb,rfl⟩ ?_))));refine ba (Ad (Yc ?_));refine ba (zp (ra ?_));show wpAny _ _ _ _ _ _;by_cases f:y<a
  ·have s1:=ki u.heap S (rf λ_=>#[v,.int y C]);obtain⟨c2,a5⟩:∃ c2,(u.heap.update S (rf λ_=>#[v,.int y C])).get? S=some (Qk "list" #[v,.int y C] c2):=⟨_,ME E λ_=>#[v,.int y C]⟩
   rw[da f,da f]at g2;simp only[f,decide_true,ag,Uw,ui];refine ba ?_;refine bq E rfl (ba (zp ?_));rw[p];refine ra ⟨Ki Uc _,ih (j+1) _ v y C c2 (by omega) L (B _ _ _ u _ _ g2 λb o n1 n2 e=>by rw[s1.2 b n2];exact e) a5 ⟨Q,(s1.2 I H.symm).trans T,a0,M⟩⟩
  ·rw[ga f,ga f]at g2;simp only[f,decide_false,rh,ui,ag,Uw];refine ba (zp ?_);rw[p];exact ra ⟨Ki Uc _,ih (j+1) _ d a tb c (by omega) L (B _ _ _ u _ _ g2 λb o _ _ e=>e) E X⟩
theorem mU(U:aa->Prop)(G:Addr->Addr->Nat->Value->Int->aa->Prop){s:aa}(hh:A.handled=none)(g0:U s){vs:List Value}(a8:vs.length=n)(a7:∀ (j:Nat) v,vs[j]?=some v->P j v)(h:s.heap.IsList l vs.toArray)(L:0<n)
  (X:∀ s h' tk,U s->(∀ b o,s.heap.get? b=some o->h'.get? b=some o)->U { s with heap:=h',toks:=tk })
  (first:∀ (I S:Addr) (s1:aa) v oI i,s.heap.objs.size<=I->s.heap.objs.size<=S->S≠I->(∃ s0,U s0/\(∀ b o,b≠I->s0.heap.get? b=some o->s1.heap.get? b=some o)/\(s1={ s0 with heap:=s1.heap,toks:=s1.toks }))->P 0 v->s1.heap.get? I=some oI->s1.heap.get? S=some i->(∀ v,oI.data≠.cell v)->(∀ v,i.data≠.cell v)->
   wpAny (model prog w) A.in1 (call (.ref q) [v]) (λx m=>∃ k t,x=.int k t/\m.heap.get? I=some oI/\m.heap.get? S=some i/\G I S 1 v k m) (λ_ _=>False) s1)
  (hl:∀ I S j c a s,G I S j c a s->∃ vs:List Value,vs.length=n/\(∀ (j:Nat) v,vs[j]?=some v->P j v)/\s.heap.IsList l vs.toArray)
  (K:∀ I S j c a s h' tk,G I S j c a s->(∀ b o,b≠I->b≠S->s.heap.get? b=some o->h'.get? b=some o)->G I S j c a { s with heap:=h',toks:=tk })
  (T:∀ I S j c a s v oI i,G I S j c a s->P j v->s.heap.get? I=some oI->s.heap.get? S=some i->(∀ v,oI.data≠.cell v)->(∀ v,i.data≠.cell v)->
   wpAny (model prog w) A.in1 (call (.ref q) [v]) (λx m=>∃ k t,x=.int k t/\m.heap.get? I=some oI/\m.heap.get? S=some i/\G I S (j+1) (if k<a then v else c) (if k<a then k else a) m) (λ_ _=>False) s)
  (hQ:∀ I S c a s,G I S n c a s->Q c s) :
  wpAny (model prog w) A (call (.builtin "min") [.ref l] [(rg "key",.ref q)]) Q E s:=by
 have d:(toString "min"++toString ".loop" : String) = "min.loop":=by decide
 obtain⟨ol,a5,_⟩:=id h;have J:l<s.heap.objs.size:=va a5;refine kmk_tree PySem.F.kind_min PySem.F.plain_min PySem.F.entry_min (kmk_min_key _ _) ?_;show wpAny _ A.in1 (ej "min" ["key", "default"] 0 ⟨[],[(rg "key",.ref q)]⟩ >>= _) _ _ s;refine ba (wpAny_of_eq (show ej "min" ["key", "default"] 0 ⟨[],[(rg "key",.ref q)]⟩=pure [some (.ref q),none]from rfl) ?_);refine ba (ra ?_);refine ba (Pn h ?_);refine ba (eR ?_ (Sr _));rw[d];have Z:(s.heap.push { cls:=.type "list_iterator",data:=.fields #[.ref l,.int 0 0] }).objs.size=s.heap.objs.size+1:=size_push' ..;have H:l≠s.heap.objs.size:=Ea J;have f:(s.heap.push { cls:=.type "list_iterator",data:=.fields #[.ref l,.int 0 0] }).objs.size≠s.heap.objs.size:=by rw[Z];exact og (Oc _)
 have a3:l≠(s.heap.push { cls:=.type "list_iterator",data:=.fields #[.ref l,.int 0 0] }).objs.size:=by rw[Z];exact Ea (Ph J)
 have B:s.heap.objs.size<=(s.heap.push { cls:=.type "list_iterator",data:=.fields #[.ref l,.int 0 0] }).objs.size:=by rw[Z];exact zn _
 refine ra ⟨Ki Uc _,?_⟩;have gI:((s.heap.push { cls:=.type "list_iterator",data:=.fields #[.ref l,.int 0 0] }).push (Qk "list" #[] 0)).get? s.heap.objs.size=some { cls:=.type "list_iterator",data:=.fields #[.ref l,.int 0 0] }:=
  la _ (Xa _ rfl)
 have gS:((s.heap.push { cls:=.type "list_iterator",data:=.fields #[.ref l,.int 0 0] }).push (Qk "list" #[] 0)).get? (s.heap.push { cls:=.type "list_iterator",data:=.fields #[.ref l,.int 0 0] }).objs.size=some (Qk "list" #[] 0):=Xa _ rfl;have D:∀ b o,s.heap.get? b=some o->((s.heap.push { cls:=.type "list_iterator",data:=.fields #[.ref l,.int 0 0] }).push (Qk "list" #[] 0)).get? b=some o:=λb o e=>la _ (la _ e);generalize (s.heap.push { cls:=.type "list_iterator",data:=.fields #[.ref l,.int 0 0] }).objs.size=S at *;generalize ((s.heap.push { cls:=.type "list_iterator",data:=.fields #[.ref l,.int 0 0] }).push (Qk "list" #[] 0))=hp at *;have W:=Qn (prog:=prog) (w:=w) (A:=A.in1) hh s.heap.objs.size l H vs.toArray;have a6:vs.toArray.size=n:=(pa ..).trans a8;refine zh Xh ?_;rw[cf Uc _];show wpAny _ A.in1 (JB (.ref _) >>= _) _ _ _;refine ba (Pq gS rfl ?_);show wpAny _ A.in1 (tryCatch (pyNext (.ref s.heap.objs.size)) _ >>= _) _ _ _;refine ba (Jf (W.item 0 _ _ _ (by rw[a6];exact L) ⟨⟨_,gI,rfl,rfl⟩,h.at λo e=>D _ _ e⟩ λv h' a9 hP O a2=>?_));have C:∀ b o,b≠s.heap.objs.size->hp.get? b=some o->h'.get? b=some o:=λb o n e=>a2 b o (by simpa using n) e;have hv:P 0 v:=a7 0 v (by simpa using hP);obtain⟨R,M,a4,N⟩:=id O.1;have a0:=C S _ f gS;show wpAny _ A.in1 (tryCatch (vf [v] (call (.ref q) [v])) _ >>= _) _ _ _;refine ba (Jf (Ad (Rb (first s.heap.objs.size S _ v R _ (za _) B f ⟨{ s with heap:=hp,toks:=s.toks },X s hp _ g0 D,λb o n e=>C b o n e,rfl⟩ hv M a0 (λv z=>by rw[N]at z;cases z) (λv z=>by cases z)) (λx p he=>?_) λ_ _ hF=>hF.elim)));obtain⟨r,u,rfl,Y,y,g2⟩:=he;have s1:=ki p.heap S (rf λ_=>#[v,.int r u]);obtain⟨V,a1⟩:∃ V,(p.heap.update S (rf λ_=>#[v,.int r u])).get? S=some (Qk "list" #[v,.int r u] V):=⟨_,ME y λ_=>#[v,.int r u]⟩
 show wpAny _ A.in1 (updateSeq S (λ_=>#[v,.int r u]) >>= _) _ _ _;refine ba ?_;refine bq y rfl ?_;rw[d];exact ra ⟨Ki Uc _,jW (G _ _) hh H f a3 (hl _ _) (K _ _) (T _ _) (λc a s g=>hQ _ _ c a s g) _ 1 _ v r u V rfl L (K _ _ _ _ _ p _ _ g2 λb o n1 n2 e=>by rw[s1.2 b n2];exact e) a1 ⟨R,(s1.2 _ f.symm).trans Y,a4,N⟩⟩
end
noncomputable def Pz(X:Cx)(A:Ia)(a:List Str)(qual:Str)(scope:Scope)(q:Addr)(cd:Value)(cl:List (Str × Addr))(s₀:aa)(H₀:Hp):Cx:=
 { X with A:=A.deeper (W.envX qual scope s₀.heap.objs.size q cd cl),N:=a,s₀:=s₀,H₀:=H₀,env:=W.envX qual scope s₀.heap.objs.size q cd cl,outer:=X.stack,stack:=W.envX qual scope s₀.heap.objs.size q cd cl::X.stack,ex:=[],fn:=λ_=>false,calm:=true,pn:=[],xe:=λ_ _=>False }
noncomputable def sG(ix:List Nat)(d:D)(ρ:Ev):Ev:=some d::ix.map λi=>(ρ[i]?).getD none
noncomputable def JA(ix:List Nat)(v:V)(st:St):St:=some v::ix.map λi=>(st[i]?).getD none
theorem I0{T:Tb}{μ:List Addr}{H:Hp}{ρ:Ev}{st:St}{d:D}{v:V}(ix:List Nat)(h:gh T μ H ρ st)(hd:Rep T μ H d v):gh T μ H (sG ix d ρ) (JA ix v st):=by
 have z:=(JJ ix h).set 0 hd;exact z
section
variable{X:Cx}{pins:List (Addr × vc)}{st:St}{H:Hp}{s:aa}{x:Str}{M':List Str}{ix:List Nat}{scope:Scope}{A:Ia}{qual:Str}{q:Addr}{cd:Value}{v:V}{u:Value}
theorem D7(I:Inv X pins st H s)(L:Im X x M' ix scope)(hx:scope.names.lookup x=some .local)(W:A.frames=some X.stack)(E:A.handled=none)(rv:Zc v u){h':Heap}{t':Nat}{m:Str->Option Value}(G:h'.Ns s.heap.objs.size m)(hm:m x=some u)
  (B:∀ b o,s.heap.get? b=some o->h'.get? b=some o) :
  Inv (Pz X A (x::M') qual scope q cd (oi X.env scope.names []) s H) [] (JA ix v st) H { s with heap:=h',toks:=t' }:=by
 have sub:∀ n c,(oi X.env scope.names []).lookup n=some c->X.env.cells.lookup n=some c:=λn c e=>CI X.env scope.names [] n c (λ_ _ q=>by simp at q) e;have fresh:H s.heap.objs.size=none:=I.cc.fresh (za _);have g:∀ b:Addr,b ∉ (Pz X A (x::M') qual scope q cd (oi X.env scope.names []) s H).ex:=λb z=>absurd (show b∈([]:List Addr)from z) (by simp);refine⟨⟨I.ok.mod,L.kind,rfl,rfl,za _,λa b c h1 V=>I.ok.inj a b c (sub a c h1) (sub b c V),λa Y=>?_,λa c h=>(by cases h),λ_=>E,iq W,.inr ⟨rfl,rfl⟩,λb hb=>absurd hb (g b),λb o e=>I.bs b o e,Sb I.ok.Uq I.sz,λb o e=>g b,λb hb=>absurd hb (g b),I.stack,I.Yj⟩,
  rfl,I.bare,Un.kept B,⟨m,G,λi y v' M O e3=>?_⟩,λa c e=>?_,fresh,λa c e=>I.dg a c (sub a c e),λp hp=>absurd (show p∈([]:List (Addr × vc))from hp) (by simp),I.cc.kept B,?_⟩
 ·have D:scope.names.lookup a=some .cell\/scope.names.lookup a=some .free:=Y;rcases D with z|z
  ·exact absurd rfl (zz L _ (Nu z))
  ·exact xA X.env scope.names [] a (Nu z) (Lx I L _ (Nu z) rfl)
 ·cases i with
  |zero=>
   have f:some x=some y:=M;have d:some (some v)=some (some v'):=O;cases f;cases d;exact⟨u,rv,.inl ⟨hx,hm⟩⟩
  |succ j=>
   have f:M'[j]?=some y:=M;have d:(ix.map λi=>(st[i]?).getD none)[j]?=some (some v'):=O;rw[Ab]at d;cases C:ix[j]? with
   |none=>rw[C]at d;cases d
   |some t=>
    rw[C]at d;have w:(st[t]?).getD none=some v':=ub d;have S:st[t]?=some (some v'):=by
     cases q:st[t]? with
     |none=>rw[q]at w;cases w
     |some o=>rw[q]at w;exact rc some w
    have T:X.N[t]?=some y:=by
     have z:=rc (λl=>l[j]?) L.at_;simp only[Ab,C,f,Hf]at z;exact ub z
    have q:=Vb.mp L.wD y (Ma f);simp only[Ba,Tg]at q;have Q:X.env.scope.names.lookup y=some .cell\/X.env.scope.names.lookup y=some .free:=by
     rcases q.1 with z|z
     ·exact .inl (eq_of_beq z)
     ·exact .inr (eq_of_beq z)
    have K:scope.names.lookup y=some .free:=eq_of_beq q.2;obtain⟨m0,Z,F⟩:=I.loc;obtain⟨u2,ru,lu⟩:=F t y v' T S (by rcases Q with z|z;exact .inr (.inl z);exact .inr (.inr z));refine⟨u2,ru,.inr ⟨.inr K,?_⟩⟩;rcases lu with⟨z,_⟩|⟨_,c,U,zc⟩
    ·rcases Q with k|k
     ·rw[show X.env.kindOf y=X.env.scope.names.lookup y from rfl,k]at z;cases z
     ·rw[show X.env.kindOf y=X.env.scope.names.lookup y from rfl,k]at z;cases z
    ·obtain⟨R,r⟩:=xA X.env scope.names [] y (Nu K) (Lx I L _ (Nu K) rfl);have P:=sub y R r;rw[U]at P;cases P;obtain⟨o,J,hd⟩:=zc;exact⟨c,r,o,B _ _ J,hd⟩
 ·obtain⟨v,o,J,hd⟩:=I.cell a c (sub a c e);exact⟨v,o,B _ _ J,hd⟩
 ·have z:=rc List.length L.at_;simp[JA,Pz];simpa using z
theorem B4{name:Str}{a:Arguments}{body:Ka}{B d:Value}{c:Addr}{t:TE}{Q:VK}(I:Inv X pins st H s)(L:Im X x M' ix scope)(D:scope.names.lookup x=some .local)(K:A.frames=some X.stack)(n:A.handled=none)(m:A.depth<recursionLimit)
  (M:s.heap.get? q=some (W.kla_obj name qual a body scope (oi X.env scope.names []) B c d)) (k:s.heap.CodeRec (.ref c) qual)
  (f:bindArgs (W.kla_fn name qual a body scope (oi X.env scope.names []) B (.ref c) d) ⟨[u],[]⟩=pure [(x,u)]) (l:scope.isCoroutine=false) (h:scope.isGenerator=false) (O:Zc v u)
  (hb:PE (Pz X A (x::M') qual scope q (.ref c) (oi X.env scope.names []) s H) body t) (N:t (JA ix v st) H Q) :
  wpAny (model X.prog X.w) A (call (.ref q) [u]) (λr E=>CE X.stack X.prog X.w H s Q r E) (λ_ _=>False) s:=by
 refine Lq (W.kla_callFunE (o:=W.kla_obj name qual a body scope (oi X.env scope.names []) B c d) m M rfl l h rfl k ?_);rw[f];refine ra (Kk (zz L) (λy hy=>?_) (λj p i=>⟨?_,?_⟩) L.kind)
 ·have e:y=(x,u):=by simpa using hy
  subst e;exact D
 ·exact(I.nolimit).fresh _ i
 ·have g:∀ b o,s.heap.get? b=some o->j.get? b=some o:=λb o e=>i.extBut b o (Ea (va e)) (la _ e);show codeAny _ _ (.expr body (W.envX qual scope s.heap.objs.size q (.ref c) (oi X.env scope.names []))) _ _;refine W.kla_codeExpr ?_;have G:=D7 (A:=A) (qual:=qual) (q:=q) (cd:=.ref c) (t':=s.toks+1) I L D K n O p (by simp) g;refine Rb (hb [] _ (JA ix v st) H Q G N) (λR E z=>?_) λ_ _ z=>z.elim;obtain⟨P,F,J,C,hq⟩:=z;exact⟨P,F,J.os,J.bare,J.base,J.cc,C,hq⟩
end
noncomputable def ZA(K:W.Frag)(c P:Addr):Bool:=match K.lookup c with
 |some o=>(match o.cls,o.data with
  | .type n,.fields a=>n == "code" && (match (a[11]?:Option Value)with|some (.ref p)=>p == P|_=>false) && (match a.getD 11 .none with | .ref p=>p == P|_=>false) && (match a.getD 18 .none with | .str _ _=>true|_=>false) &&
   (match a.getD 7 .none with | .int _ _=>true|_=>false) && (match a.getD 9 .none with | .bool _=>true|_=>false) && (match a.getD 10 .none with | .int _ _=>true|_=>false) && (c != P)
  |_,_=>false)
 |none=>false
theorem ZS{K:W.Frag}{h:Heap}{c P:Addr}(X:K.In h)(e:ZA K c P=true):W.CodeHd h c P:=by
 unfold ZA at e;split at e
 ·next o r=>
  split at e
  ·next n C hc hd=>
   simp only[Ba]at e;obtain⟨⟨⟨⟨⟨⟨⟨j,a⟩,b⟩,d⟩,f⟩,g⟩,i⟩,k⟩:=e;split at a;case h_2=>cases a
   next D l=>
   split at b;case h_2=>cases b
   next E h3=>
   split at d;case h_2=>cases d
   next v z h4=>
   split at f;case h_2=>cases f
   next w A m=>
   split at g;case h_2=>cases g
   next x p=>
   split at i;case h_2=>cases i
   next y B q=>
   have t:=eq_of_beq a;have u:=eq_of_beq b;subst t;subst u;have s:=eq_of_beq j;subst s;exact⟨o,C,v,z,w,A,x,y,B,X _ _ r,hc,hd,l,h3,h4,m,p,q,by simpa using k⟩
  ·cases e
 ·cases e
theorem qS{X:Cx}{d:List (Addr × vc)}{st:St}{H:Hp}{s:aa}{P c':Addr}{ps more:Array Value}{qual:Str}{h':Heap}{tk:Nat}(I:Inv X d st H s)(a:H P=some (.Ol ps))(m:Heap.ExtBut P s.heap h')(h:s.heap.objs.size<=c')(D:c'<h'.objs.size)
  (i:Ks qual c' h') (j:h'.get? P=some (W.tabObj (ps++more))) :
  Inv X d st (upd (upd H P (.Ol (ps++more))) c' (.ext (Ks qual c'))) { s with heap:=h',toks:=tk }:=by
 have f:H c'=none:=I.cc.fresh h;have r:c'≠P:=λz=>by rw[z,a]at f;cases f
 have p:∀ b,H b=none->b≠P:=λb n z=>by rw[z,a]at n;cases n
 have l:∀ b u,H b=some u->b≠P->upd (upd H P (.Ol (ps++more))) c' (.ext (Ks qual c')) b=some u:=λb u e n=>by
  rw[yd (Ro e f),yd n];exact e
 have F:upd (upd H P (.Ol (ps++more))) c' (.ext (Ks qual c')) P=some (.Ol (ps++more)):=by rw[yd r.symm,Og]
 refine I.un (h':=h') (t':=tk) ⟨λb o e n _ _=>m b o (p b n) e,λb o e n _ _=>⟨o.slots,m b o (p b n) e⟩,λb o e n _=>?_,λb o e _=>?_,λb xs e=>l b _ e (λz=>by rw[z,a]at e;cases e),λb o u e=>l b _ e (λz=>by rw[z,a]at e;cases e),λb J e=>?_⟩ λb u e=>?_
 ·have:b≠c':=λz=>by subst z;exact absurd (va e) (fJ.mpr h)
  rw[yd this,yd (p b n)];exact n
 ·by_cases hb:b=P
  ·subst hb;exact⟨_,j⟩
  ·exact⟨o,m b o hb e⟩
 ·by_cases hb:b=P
  ·subst hb;rw[a]at e;cases e;exact⟨more,F⟩
  ·exact⟨#[],by rw[Array.append_empty];exact l b _ e hb⟩
 ·by_cases g:b=c'
  ·subst g;rw[Og]at e;cases e;obtain⟨o,G,t,h1,C,h3⟩:=i;exact⟨⟨o,G,t,h1,C,h3⟩,⟨o,h1⟩,λa1 a2 ⟨E,w,t',x,A,B⟩ k=>⟨E,w,t',k _ x,A,B⟩⟩
  ·rw[yd g]at e;by_cases hb:b=P
   ·subst hb;rw[Og]at e;cases e;exact j
   ·rw[yd hb]at e;refine(I.cc b u e).Oj (λc v hc q=>m c v ?_ q) (λc q=>l c _ q (λz=>by rw[z,a]at q;cases q)) λc xs q=>l c _ q (λz=>by rw[z,a]at q;cases q);rcases hc with z|z
    ·rw[z];exact hb
    ·intro y;rw[y,a]at z;cases z
section
variable{T:Tb}{X:Cx}{pins:List (Addr × vc)}{st:St}{H:Hp}{s:aa}{μ:List Addr}{σ:Ya}{x:Str}{M':List Str}{ix:List Nat}{scope:Scope}{params:Arguments}{body:Ka}{pos:Ke}{c:Addr}{t:Tab}
structure Hw(T:Tb)(X:Cx)(t:Tab)(c:Addr)(pos:Ke):Prop where
 mem:t∈T.tx.qm
 inj:∀ t'∈T.tx.qm,t'.P=t.P->t'=t
 code:X.env.code=.ref c
 hd:ZA X.K c t.P=true
 line:t.line=pos.line
 col:t.col=pos.col
 qual:t.qual=X.env.qual++"<lambda>"
 bm:X.mg "__builtins__" = some (.ref T.tx.bm)
 bb:T.tx.bm≠builtinsNs
theorem j4(I:Inv X pins st H s)(L:Im X x M' ix scope)(r:Rel T μ H σ)(f:Hw T X t c pos)(F:defaultsOf params X.env=([],[])) :
  wpAny (model X.prog X.w) X.A (bc (.Lambda params body scope pos) X.env) (λv s'=>∃ q d g l,v=.ref q/\Inv X ((q,W.kla_obj "<lambda>" t.qual params body scope (oi X.env scope.names []) ((X.mg "__name__").getD .none) d g)::pins) st l s'/\Ext μ H μ l/\Rel T μ l σ/\d ∉ μ/\l d=some (.ext (Ks t.qual d))) X.xe s:=by
 obtain⟨⟨b1,b3,S⟩,R,ps,y,a7⟩:=r.tb t f.mem;have i:s.heap.get? t.P=some (W.tabObj ps):=I.cc _ _ y;have k:s.heap.Ns mainGlobals X.mg:=I.ok.mod.glob.keeps I.bk;have a0:mainGlobals≠t.P:=λz=>by
  obtain⟨o,es,ep,e,hd,_⟩:=k;rw[z,i]at e;cases e;cases hd
 obtain⟨_,⟨ob,O,o2,o3,o4⟩,_⟩:=I.cc _ _ S;have D:T.tx.bm≠t.P:=λz=>by rw[z,i]at O;cases O;cases o2
 have U:T.tx.bm≠mainGlobals:=λz=>by
  obtain⟨o,es,ep,e,hd,_⟩:=k;rw[z,e]at O;cases O;rw[hd]at o4;cases o4
 have hB:s.heap.BuiltinsAt X.mg t.P:=⟨T.tx.bm,ob,f.bm,f.bb,U,D,O,o2,o3,o4⟩
 have E:=DH X.env scope (Lx I L);have C:W.CodeHd s.heap c t.P:=(ZS I.ok.mod.qw f.hd).keeps I.bk;have pinned:∀ {h':Heap} {tk:Nat} {l:Hp} {o:vc},Inv X pins st l { s with heap:=h',toks:=tk }->o.isFreed=false->(∀ v,o.data≠.cell v)->Inv X ((h'.objs.size,o)::pins) st l { s with heap:=h'.push o,toks:=tk }:=fun {h' tk l o} J hf hc=>by
  have J2:=J.kept (h':=h'.push o) (t':=tk) λb u e=>la _ e;refine J2.Oi λp hp=>?_;rcases La.mp hp with rfl|hp
  ·exact⟨Xa _ hf,J.cc.fresh (za _),og J.lt,J.DA (za _),hc⟩
  ·exact J2.pin p (Na _ hp)
 refine W.kla_eval F ?_;rw[<-f.qual];rcases a7 with rfl|⟨Q,rfl,V,Y⟩
 ·refine W.kla_makeFunction (mg:=X.mg) E I.ok.glob k f.code C i trivial rfl a0 hB λd g h' tk hx G a6 K a8=>?_;have Z:Ks t.qual d h':=by
   obtain⟨c2,o,vs,tt,e,h1,h2,h3⟩:=K;cases e;exact⟨o,vs,tt,h1,h2,h3⟩
  have J:=qS (tk:=tk) I y hx G a6 Z a8;have j:H d=none:=I.cc.fresh G;have a9:d≠t.P:=λz=>by rw[z,y]at j;cases j
  have m:d ∉ μ:=λz=>by obtain⟨u,N,_⟩:=r.mem z;rw[j]at N;cases N
  have B:∀ b u,H b=some u->b≠t.P->upd (upd H t.P (.Ol (#[]++#[pe pos.line,pe pos.col,.ref d]))) d (.ext (Ks t.qual d)) b=some u:=λb u e n=>by
   rw[yd (Ro e j),yd n];exact e
  have uP:upd (upd H t.P (.Ol (#[]++#[pe pos.line,pe pos.col,.ref d]))) d (.ext (Ks t.qual d)) t.P=some (.Ol (#[]++#[pe pos.line,pe pos.col,.ref d])):=by rw[yd a9.symm,Og]
  have uc:upd (upd H t.P (.Ol (#[]++#[pe pos.line,pe pos.col,.ref d]))) d (.ext (Ks t.qual d)) d=some (.ext (Ks t.qual d)):=Og;have e:Ext μ H μ (upd (upd H t.P (.Ol (#[]++#[pe pos.line,pe pos.col,.ref d]))) d (.ext (Ks t.qual d))):=by
   refine⟨⟨[],by simp⟩,λp xs h=>B p _ h (λz=>by rw[z,y]at h;cases h),λp o u h=>B p _ h (λz=>by rw[z,y]at h;cases h),λp o h n=>⟨?_,n⟩⟩;by_cases hp:p=t.P
   ·subst hp;rw[y]at h;cases h;exact⟨_,uP,.inr (.inr ⟨_,_,rfl,rfl⟩)⟩
   ·exact⟨o,B p o h hp,.inl rfl⟩
  refine⟨_,d,g,_,rfl,pinned J rfl (λv z=>by cases z),e,r.keep e (λa ha=>?_) λt' M=>?_,m,uc⟩
  ·obtain⟨u,N,_⟩:=r.mem ha;rw[N];exact B a u N λz=>R (by rw[<-z];exact ha)
  ·obtain⟨⟨a1,b0,a2⟩,a3,qs,a4,a5⟩:=r.tb t' M;refine⟨⟨a1,b0,B _ _ a2 D⟩,a3,?_⟩;by_cases hp:t'.P=t.P
   ·have et:=f.inj t' M hp;subst et;exact⟨_,uP,.inr ⟨d,by rw[f.line,f.col];rfl,m,uc⟩⟩
   ·refine⟨qs,B _ _ a4 hp,a5.imp id λ⟨c3,z1,z2,z3⟩=>⟨c3,z1,z2,B _ _ z3 (λz=>by rw[z,y]at z3;cases z3)⟩⟩
 ·refine W.kla_makeFunctionHit (mg:=X.mg) (cv:=.ref Q) E I.ok.glob k f.code C i ?_ ?_ hB λg h' tk hk b2=>?_
  ·exact trivial
  ·rw[f.line,f.col];show codeAmong pos [pe pos.line,pe pos.col,.ref Q]=_;simp[codeAmong,pe]
  ·have J:=I.kept (h':=h') (t':=tk) hk;exact⟨_,Q,g,H,rfl,pinned J rfl (λv z=>by cases z),Ext.refl _ _,r,V,Y⟩
end
noncomputable def Fu(fe:Ev->M D)(rest:Ev):List D->D->Int->M D
 |[],b,_=>ret b
 |d::ds,b,a=>Xc (En (fe (some d::rest))) λk=>match k with
  | .int k=>if k<a then Fu fe rest ds d k else Fu fe rest ds b a
  |_=>bad
noncomputable def mx(fe:Ev->M D)(rest:Ev)(ds:List D):M D:=match ds with
 |[.lst (x::xs)]=>Xc (En (fe (some x::rest))) λk=>match k with
  | .int k=>Fu fe rest xs x k
  |_=>bad
 |_=>bad
noncomputable def JD(ix:List Nat)(fe:Ev->M D)(fs:Ev->M (List D)):Ev->M D:=λa=>Xc (fs a) (mx fe (ix.map λi=>(a[i]?).getD none))
theorem HM{X:Cx}{a:List (Addr × vc)}{st:St}{H:Hp}{s:aa}{h':Heap}{t':Nat}{i j:Addr}(I:Inv X a st H s)(k:∀ b o,b≠i->b≠j->s.heap.get? b=some o->h'.get? b=some o)(f:Vl X a H i)(g:Vl X a H j):Inv X a st H { s with heap:=h',toks:=t' }:=by
 have d:∀ b u,H b=some u->b≠i/\b≠j:=λb u e=>⟨(λz=>by rw[z,f.1]at e;cases e),(λz=>by rw[z,g.1]at e;cases e)⟩
 have l:∀ {b:Addr},b ∉ [i,j]->b≠i/\b≠j:=fun {b} h=>⟨λz=>h (by simp[z]),λz=>h (by simp[z])⟩
 refine I.step (g':=s.gens) (d':=s.drawn) (ch:=[i,j]) (λb hb=>?_) (λb o _ _ hc e _=>k b o (l hc).1 (l hc).2 e) (λb o _ _ hc e _=>⟨o.slots,k b o (l hc).1 (l hc).2 e⟩) (λ_ _ _ _ n=>n)
  (λb o hc e=>⟨o,k b o (l hc).1 (l hc).2 e⟩) (λ_ _ e=>e) (λ_ _ _ e=>e) (λb x e=>⟨#[],by rw[e];simp⟩) (λm hm=>?_) (λb u e=>?_) I.bare
 ·have e:b=i\/b=j:=by simpa using hb
  rcases e with rfl|rfl
  ·exact⟨f.2.2.2.1,f.2.1,f.2.2.2.2.1,f.2.2.2.2.2⟩
  ·exact⟨g.2.2.2.1,g.2.1,g.2.2.2.2.1,g.2.2.2.2.2⟩
 ·obtain⟨o,t,p,w,r⟩:=hm;exact⟨o,t,p,k _ o (He f.2.1) (He g.2.1) w,r⟩
 ·refine(I.cc b u e).Oj (λc v hc q=>?_) (λ_ q=>q) λ_ _ q=>q;rcases hc with z|z
  ·rw[z]at q ⊢;exact k b v (d b u e).1 (d b u e).2 q
  ·exact k c v (d c _ z).1 (d c _ z).2 q
section
variable{T:Tb}{X:Cx}
theorem tJ{e body:Ka}{f:Arguments}{scope:Scope}{b1 a5 kp p:Ke}{x:Str}{M':List Str}{ix:List Nat}{fs:Ev->M (List D)}{fe:Ev->M D}{t:Tab}{c:Addr}{k:Nat}
  (K:Ld (k+2) X.A) (L:Im X x M' ix scope) (hx:scope.names.lookup x=some .local) (Lm:Hw T X t c b1) (hg:Gl X "min") (hm:X.mg "min" = none)
  (c1:defaultsOf f X.env=([],[])) (d1:scope.isCoroutine=false) (c2:scope.isGenerator=false)
  (b5:∀ (cl:List (Str × Addr)) (pm cd G u:Value),bindArgs (W.kla_fn "<lambda>" t.qual f body scope cl pm cd G) ⟨[u],[]⟩=pure [(x,u)])
  (ha:FA T X [e] fs)
  (hb:∀ (A:Ia) (q:Addr) (cd:Value) (s₀:aa) (H₀:Hp),Ld k (A.deeper (W.envX t.qual scope s₀.heap.objs.size q cd (oi X.env scope.names [])))->FE T (Pz X A (x::M') t.qual scope q cd (oi X.env scope.names []) s₀ H₀) body fe)
  (he:Mc a5 (ua [e] X.env)=(false,bc e X.env)::Mc a5 (ua [] X.env):=by rfl)
  (a8:(Mc a5 (ua [e] X.env)).any (·.1)=false:=by rfl) :
  FE T X (.Call (.Name "min" p) [e] [⟨some "key",.Lambda f body scope b1,kp⟩] a5) (JD ix fe fs):=by
 intro l s st H Q I h;refine af (jw I hg hm (show bootBuiltins "min" = some (.builtin "min")from rfl) ?_);obtain⟨μ,ρ,σ,hE,hr,hp⟩:=h;refine callWith_kw (Od (ha a5 l s st H (λvs H1=>∃ E a7 ds,Ext μ H E H1/\Rel T E H1 a7/\Ua T E H1 ds vs/\Kb T (XE X st) (Rep T) E H1 (mx fe (ix.map λi=>(ρ[i]?).getD none) ds a7) Q) I ⟨μ,ρ,σ,hE,hr,hp.bind λds a7 E vs H1 _ e1 r1 q1 p1=>⟨E,a7,ds,e1,r1,q1,p1⟩⟩) λus s1 ⟨vs,H1,I1,rv,E,a7,ds,e1,r1,q1,p1⟩=>kws_cons (Od (j4 I1 L r1 Lm c1) λlv s2 ⟨q,c',G,Y,c5,I2,e2,r2,c8,c9⟩=>kws_nil ?_)) he a8;subst c5;show wpAny _ _ (call (.builtin "min") us [(rg "key",.ref q)]) _ _ _;have c6:gh T E Y ρ st:=(hE.mono e1).mono e2;generalize b7:(ix.map λi=>(ρ[i]?).getD none)=rest at *;obtain⟨Z,xs,rfl⟩:∃ Z xs,ds=[.lst (Z::xs)]:=by
  unfold mx at p1;split at p1
  ·exact⟨_,_,rfl⟩
  ·exact p1.elim
 rw[Ua]at q1;obtain⟨v0,rr,rfl,q2,q3⟩:=q1;rw[Ua]at q3;subst q3;rw[Rep]at q2;obtain⟨a,ws,rfl,c0,c7,d3⟩:=q2;obtain⟨u0,rfl,d4⟩:=Ud.one rv;obtain rfl:u0=.ref a:=d4;have p2:=Kb.mono e2 p1;have b0:Y a=some (.lst ws):=(e2.bi _ _ c7 c0).1;have a4:Ua T E Y (Z::xs) ws:=Ua.mono e2 _ _ d3;have a0:(Z::xs).length=ws.length:=a4.length;have lst:∀ {H':Hp} {s':aa} {pn:List (Addr × vc)},Inv X pn st H' s'->H' a=some (.lst ws)->∃ N:List Value,N.length=ws.length/\(∀ (j:Nat) v,N[j]?=some v->∃ w,ws[j]?=some w/\Zc w v)/\s'.heap.IsList a N.toArray:=fun {H' s' pn} J z=>by
  obtain⟨_,N,n,rv,ho⟩:=J.cc _ _ z;refine⟨N,rv.length.symm,λj v hv=>?_,⟨_,ho,rfl,⟨_,rfl⟩⟩⟩;have hj:j<ws.length:=by rw[rv.length];exact(na.mp hv).1
  obtain⟨u,hu,ru⟩:=rv.get (i:=j) (x:=ws[j]) (by simp[hj]);rw[hv]at hu;cases hu;exact⟨ws[j],by simp[hj],ru⟩
 have one:∀ {C:List Addr} {H':Hp} {F:Ya} {s':aa} {d:D} {w:V} {v:Value} {I S:Addr} {oI oS:vc} {kk:Int->M D},Inv X ((q,W.kla_obj "<lambda>" t.qual f body scope (oi X.env scope.names []) ((X.mg "__name__").getD .none) c' G)::l) st H' s'->Ext E Y C H'->Rel T C H' F->Rep T C H' d w->Zc w v->
   Vl X ((q,W.kla_obj "<lambda>" t.qual f body scope (oi X.env scope.names []) ((X.mg "__name__").getD .none) c' G)::l) H' I->Vl X ((q,W.kla_obj "<lambda>" t.qual f body scope (oi X.env scope.names []) ((X.mg "__name__").getD .none) c' G)::l) H' S->
   s'.heap.get? I=some oI->s'.heap.get? S=some oS->(∀ v,oI.data≠.cell v)->(∀ v,oS.data≠.cell v)->
   Kb T (XE X st) (Rep T) C H' (Xc (En (fe (some d::rest))) (λk=>match k with | .int k=>kk k|_=>bad) F) Q->
   wpAny (model X.prog X.w) X.A.in1 (call (.ref q) [v]) (λy s''=>∃ k t',y=.int k t'/\s''.heap.get? I=some oI/\s''.heap.get? S=some oS/\∃ m B r,Inv X ((q,W.kla_obj "<lambda>" t.qual f body scope (oi X.env scope.names []) ((X.mg "__name__").getD .none) c' G)::l) st B s''/\Ext C H' m B/\Rel T m B r/\
    Vl X ((q,W.kla_obj "<lambda>" t.qual f body scope (oi X.env scope.names []) ((X.mg "__name__").getD .none) c' G)::l) B I/\Vl X ((q,W.kla_obj "<lambda>" t.qual f body scope (oi X.env scope.names []) ((X.mg "__name__").getD .none) c' G)::l) B S/\Kb T (XE X st) (Rep T) m B (kk k r) Q) (λ_ _=>False) s':=by
  intro C H' F s' d w v I S oI oS kk J ex r' rd d5 fI fS gI gS cI cS po;generalize c3:W.kla_obj "<lambda>" t.qual f body scope (oi X.env scope.names []) ((X.mg "__name__").getD .none) c' G=O at *;have b6:s'.heap.CodeRec (.ref c') t.qual:=by
   obtain⟨⟨o,d6,tt,h1,h2,h3⟩,_⟩:=J.cc _ _ (ex.bi _ _ c9 c8).1;exact⟨c',o,d6,tt,rfl,h1,h2,h3⟩
  have hq:=(J.pin (q,O) (Na _ (.head _))).1;have J2:Inv X ((I,oI)::(S,oS)::(q,O)::l) st H' s':=J.Oi λp hp=>by
   rcases La.mp hp with rfl|hp
   ·exact⟨gI,fI.1,fI.2.1,fI.2.2.1,cI⟩
   ·rcases La.mp hp with rfl|hp
    ·exact⟨gS,fS.1,fS.2.1,fS.2.2.1,cS⟩
    ·exact J.pin p (Na _ hp)
  have hd:X.A.in1.handled=none:=K.hd;refine Rb (B4 (A:=X.A.in1) (t:=tF T _ fe) (v:=w) (Q:=λy B=>∃ k m r,y=.int k/\Ext C H' m B/\Rel T m B r/\Kb T (XE X st) (Rep T) m B (kk k r) Q) J2 L hx J.ok.frames hd (Ld.in1 K).depth (by rw[<-c3]at hq;exact hq) b6 (b5 _ _ _ _ _) d1 c2 d5 (hb _ _ _ _ _ ((Ld.in1 K).deeper _)) ⟨C,sG ix d ρ,F,I0 ix (c6.mono ex) rd,r',?_⟩) (λy s'' d0=>?_) λ_ _ z=>z
  ·unfold sG;rw[b7];refine po.wt λy r m g B _ b2 b8 c4 a9=>?_;cases y with
   |int k=>
    rw[Rep]at c4;exact⟨k,m,r,c4,b2,b8,a9⟩
   |_=>exact a9.elim
  ·obtain⟨yv,B,J3,ry,k,m,r,rfl,b2,b8,a9⟩:=J2.after d0;obtain⟨t',rfl⟩:=ry;have pI:=J3.pin (I,oI) (Na _ (.head _));have pS:=J3.pin (S,oS) (Na _ (.tail _ (.head _)));have J4:Inv X ((q,O)::l) st B s'':=J3.Oi λp hp=>J3.pin p (Na _ (.tail _ (.tail _ hp)));exact⟨k,t',rfl,pI.1,pS.1,m,B,r,J4,b2,b8,⟨pI.2.1,fI.2⟩,⟨pS.2.1,fS.2⟩,a9⟩
 obtain⟨N,hn,hP,d2⟩:=lst I2 b0;generalize c3:W.kla_obj "<lambda>" t.qual f body scope (oi X.env scope.names []) ((X.mg "__name__").getD .none) c' G=O at *;refine mU (n:=ws.length) (P:=λj v=>∃ w,ws[j]?=some w/\Zc w v) (λs'=>Inv X ((q,O)::l) st Y s')
  (λI S j vb kb s'=>Vl X ((q,O)::l) Y I/\Vl X ((q,O)::l) Y S/\∃ C H' F b wb,Inv X ((q,O)::l) st H' s'/\Ext E Y C H'/\Rel T C H' F/\Rep T C H' b wb/\Zc wb vb/\Vl X ((q,O)::l) H' I/\Vl X ((q,O)::l) H' S/\Kb T (XE X st) (Rep T) C H' (Fu fe rest ((Z::xs).drop j) b kb F) Q)
  K.hd I2 hn hP d2 (by rw[<-a0];simp) (λs0 h' tk g k=>g.kept k) ?_ ?_ ?_ ?_ ?_
 ·
  intro I S s3 v oI oS hI hS d7 ⟨s0,g0,hk,es⟩ ⟨w,hw,a6⟩ gI gS cI cS;have fI:Vl X ((q,O)::l) Y I:=I2.Qp hI (I2.cc.fresh hI);have fS:Vl X ((q,O)::l) Y S:=I2.Qp hS (I2.cc.fresh hS);have J:Inv X ((q,O)::l) st Y s3:=by
   rw[es];exact HM g0 (λb o n _ e=>hk b o n e) fI fS
  have rd:∃ w',ws[0]?=some w'/\Rep T E Y Z w':=a4.get (i:=0) rfl;obtain⟨w',a3,rd⟩:=rd;rw[hw]at a3;cases a3;refine Rb (one (kk:=λk=>Fu fe rest xs Z k) J (Ext.refl _ _) r2 rd a6 fI fS gI gS cI cS p2) (λy s4 z=>?_) λ_ _ z=>z;obtain⟨k,t',rfl,b3,b4,m,B,r,J4,e4,r4,f1,f2,p4⟩:=z;exact⟨k,t',rfl,b3,b4,fI,fS,m,B,r,Z,w,J4,e4,r4,Rep.mono e4 _ _ rd,a6,f1,f2,p4⟩
 ·intro I S j vb kb s' ⟨_,_,C,H',F,b,wb,J,ex,r',rb,U,f1,f2,p'⟩;exact lst J (ex.bi _ _ b0 c0).1
 ·intro I S j vb kb s' h' tk ⟨a1,a2,C,H',F,b,wb,J,ex,r',rb,U,f1,f2,p'⟩ k;exact⟨a1,a2,C,H',F,b,wb,HM J k f1 f2,ex,r',rb,U,f1,f2,p'⟩
 ·intro I S j vb kb s' v oI oS ⟨a1,a2,C,H',F,b,wb,J,ex,r',rb,U,f1,f2,p'⟩ ⟨w,hw,a6⟩ gI gS cI cS;have hj:j<(Z::xs).length:=by rw[a0];exact(na.mp hw).1
  obtain⟨w',a3,rd⟩:=a4.get (i:=j) (d:=(Z::xs)[j]) (by rw[Lc hj]);rw[hw]at a3;cases a3;rw[Ah hj]at p';generalize (Z::xs)[j]=d at *;generalize d8:(Z::xs).drop (j+1)=b9 at *;unfold Fu at p';refine Rb (one (kk:=λk=>if k<kb then Fu fe rest b9 d k else Fu fe rest b9 b kb) J ex r' (Rep.mono ex _ _ rd) a6 f1 f2 gI gS cI cS p') (λy s4 z=>?_) λ_ _ z=>z;obtain⟨k,t',rfl,b3,b4,m,B,r,J4,e4,r4,f3,f4,p4⟩:=z;refine⟨k,t',rfl,b3,b4,a1,a2,m,B,r,?_⟩;by_cases hk:k<kb
  ·rw[da hk]at p4;rw[da hk,da hk];exact⟨d,w,J4,ex.trans e4,r4,Rep.mono (ex.trans e4) _ _ rd,a6,f3,f4,p4⟩
  ·rw[ga hk]at p4;rw[ga hk,ga hk];exact⟨b,wb,J4,ex.trans e4,r4,Rep.mono e4 _ _ rb,U,f3,f4,p4⟩
 ·intro I S vb kb s' ⟨_,_,C,H',F,b,wb,J,ex,r',rb,U,f1,f2,p'⟩;rw[<-a0,List.drop_length]at p';have q':Q wb H':=Kb.here (R:=Rep T) p' r' rb;exact⟨wb,H',J.Oi (λp hp=>J.pin p (Na _ (.tail _ hp))),U,q'⟩
end
noncomputable def Gv(K:W.Frag)(x:Str):Addr:=((W.tabIn K x).getD (0,0)).1
noncomputable def jv(K:W.Frag)(x:Str):Addr:=((W.tabIn K x).getD (0,0)).2
noncomputable def Tv(K:W.Frag):Addr:=match W.nsIn K mainGlobals "__builtins__" with
 |some (some (.ref a))=>a
 |_=>0
theorem VZ{K:W.Frag}{x:Str}(h:(W.tabIn K x).isSome=true):W.tabIn K x=some (Gv K x,jv K x):=by
 unfold Gv jv;cases e:W.tabIn K x with
 |none=>rw[e]at h;cases h
 |some p=>rfl
noncomputable def BG(K:W.Frag)(xs:List Str):Bool:=
 W.noTabs K && (match W.nsIn K mainGlobals "__builtins__" with
  |some (some (.ref a))=>(K.lookup a).isNone && (a != builtinsNs)
  |_=>false) && xs.all λx=>(W.tabIn K x).isSome && ZA K (Gv K x) (jv K x)
structure Uv(K:W.Frag)(xs:List Str):Prop where
 no:W.noTabs K=true
 bm:W.nsIn K mainGlobals "__builtins__" = some (some (.ref (Tv K)))
 bk:K.lookup (Tv K)=none
 bb:Tv K≠builtinsNs
 tab:∀ x∈xs,W.tabIn K x=some (Gv K x,jv K x)
 hd:∀ x∈xs,ZA K (Gv K x) (jv K x)=true
theorem BZ{K:W.Frag}{xs:List Str}(h:BG K xs=true):Uv K xs:=by
 unfold BG at h;rw[Ba,Ba]at h;obtain⟨⟨h1,b⟩,h3⟩:=h;split at b
 ·next a e=>
  have c:Tv K=a:=by unfold Tv;rw[e]
  rw[Ba]at b;refine⟨h1,by rw[c];exact e,by rw[c];exact Tn.mp b.1,by rw[c];simpa using b.2,λx d=>?_,λx d=>?_⟩
  ·have z:=Vb.mp h3 x d;rw[Ba]at z;exact VZ z.1
  ·have z:=Vb.mp h3 x d;rw[Ba]at z;exact z.2
 ·cases b
noncomputable def LD(K:W.Frag)(mg:Str->Option Value)(x:Str)(st:Stmt)(ps:List Str):Prop:=
 ∃ f a,mg x=some (.ref f)/\gw K x x st f a/\(∀ b:List Value,b.length=ps.length->bindArgs a ⟨b,[]⟩=pure (ps.zip b))/\a.code=.ref (Gv K x)
theorem l3{K:W.Frag}{mg:Str->Option Value}{h:Heap}{x:Str}{st:Stmt}{ps xs:List Str}(X:K.In h)(G:h.Ns mainGlobals mg)(c:lg K mg x st ps)(e:Uv K xs)(g:x∈xs):LD K mg x st ps:=by
 obtain⟨f,k,hm,F,hb⟩:=c;obtain⟨l,m,kV,b,n,j,a,ct,i,rfl,lk,d⟩:=F.ex;exact⟨f,_,hm,F,hb,W.law_code X G (e.tab x g) hm (X _ _ lk) rfl⟩
theorem BN{P:wa}{w:Ja}{K:W.Frag}{mg:Str->Option Value}{base:Heap}{ca:Nat->Addr}{tx:Tx}{k:Nat}{x:Str}{st:Stmt}{ps N:List Str}{g:Ev->M Fl}(h:LD K mg x st ps)(S:Aa N ps (Kc st))
  (hb:∀ (f:Addr) (A:Ia) (outer:List yg) (s:aa) (H:Hp) (E:XK),Ld k (A.deeper (Bg x (Kc st) s.heap.objs.size f (.ref (Gv K x))))->Do ⟨K,ca,tx⟩ (Ip (Al P w) P w K mg base N x (Kc st) f (.ref (Gv K x)) A outer s H E) (pj st) g) :
  Pb ⟨K,ca,tx⟩ P w mg base (k+1) x ps (run N.length g):=by
 obtain⟨f,l,hm,F,b,hc⟩:=h;obtain⟨m,n,kV,d,o,j,a,ct,i,rfl,lk,c⟩:=F.ex;have e:a=.ref (Gv K x):=hc;subst e;exact⟨f,_,hm,F.kp,b,Gy lk c S (hb f)⟩
theorem R7{P:wa}{w:Ja}{K:W.Frag}{mg mb:Str->Option Value}{k:Nat}{fa a:Addr}{fd:Qd}{x:Str}{s₁:aa}{vs:List Value}{ns:List Int}{ca:Nat->Addr}{tx:Tx}{fn:List D->M D}{ob:vc}
  (KX:K.In s₁.heap) (a8:s₁.heap.Ns mainGlobals mg) (hb:s₁.heap.Ns builtinsNs mb) (a4:∀ x:Str,x ≠ "__name__"->mb x=bootBuiltins x) (S:s₁.heap.NoLimit) (hg:s₁.gens=#[])
  (C:s₁.heap.get? a=some { cls:=.type "list",data:=.seq vs.toArray }) (hi:ml vs ns) (hl:ns.length<=63) (hr:Ld k Dg)
  (hK:W.noTabs K=true) (i:s₁.heap.get? tx.bm=some ob) (Q:ob.cls=.type "module") (a5:ob.dict=some builtinsNs) (J:ob.data=.plain) (a3:K.lookup tx.bm=none)
  (O:∀ t∈tx.qm,∃ c,W.CodeHd s₁.heap c t.P/\s₁.heap.get? t.P=some (W.tabObj #[]))
  (F:∀ base:Heap,Xg P w K mg base (Al P w) k fa fd [x] (Qo ⟨K,ca,tx⟩ 1 fn)) (I:∀ (s:aa) (u:Value),Tf s fd ⟨[u],[]⟩ [(x,u)])
  (tr:∀ ns:List Int,ns.length<=63->∃ σ,fn [.ae ns] []=.ok (.bl true) σ) :
  codeAny (model P w) Dg (.call (.ref fa) ⟨[.ref a],[]⟩) (λr y=>r=.ok (.ret (.bool true))/\OldK s₁.heap y.heap/\y.os=s₁.os/\zg y.gens) s₁:=by
 have rv:=Az hi;have T:=hi.length;have R:ns.length<=sizeLine:=Sb hl (by decide);have A:∀ G:Bool,(G=true->K.lookup a=none)->(G=false->K.lookup a=some { cls:=.type "list",data:=.seq vs.toArray })->
   codeAny (model P w) Dg (.call (.ref fa) ⟨[.ref a],[]⟩) (λr y=>r=.ok (.ret (.bool true))/\OldK s₁.heap y.heap/\y.os=s₁.os/\zg y.gens) s₁:=by
  intro G a6 a7;obtain⟨H,c1,c2,c3,U⟩:∃ H:Hp,(∀ t∈tx.qm,H t.P=some (.Ol #[]))/\(H tx.bm=some (.db ob (.ext (SC tx.bm))))/\(G=true->H a=some (.db { cls:=.type "list",data:=.seq vs.toArray } (.lst (ns.map V.int))))/\
    ∀ b u,H b=some u->(u=.Ol #[]/\∃ t∈tx.qm,b=t.P)\/(b=tx.bm/\u=.db ob (.ext (SC tx.bm)))\/(b=a/\G=true/\u=.db { cls:=.type "list",data:=.seq vs.toArray } (.lst (ns.map V.int))):=by
   refine⟨λb=>if b=tx.bm then some (.db ob (.ext (SC tx.bm)))else if b=a then (if G=true then some (.db { cls:=.type "list",data:=.seq vs.toArray } (.lst (ns.map V.int)))else none)else if b∈tx.qm.map (·.P)then some (.Ol #[])else none,λt f=>?_,da rfl,λh=>?_,λb u e=>?_⟩
   ·obtain⟨c,_,j⟩:=O t f;have n1:t.P≠tx.bm:=λz=>by rw[z,i]at j;cases j;cases Q
    have n2:t.P≠a:=λz=>by rw[z,C]at j;cases j
    dsimp only;rw[ga n1,ga n2,da (Cc.mpr ⟨t,f,rfl⟩)]
   ·have n1:a≠tx.bm:=λz=>by rw[z,i]at C;cases C;cases J
    dsimp only;rw[ga n1,da rfl,da h]
   ·dsimp only at e;split at e
    ·next a1=>cases e;exact .inr (.inl ⟨a1,rfl⟩)
    ·split at e
     ·next a2=>
      split at e
      ·next h=>cases e;exact .inr (.inr ⟨a2,h,rfl⟩)
      ·cases e
     ·split at e
      ·next hm=>cases e;obtain⟨t,f,rfl⟩:=Cc.mp hm;exact .inl ⟨rfl,t,f,rfl⟩
      ·cases e
  have cc:ci P w H s₁.heap:=λb u e=>by
   rcases U b u e with⟨rfl,t,f,rfl⟩|⟨rfl,rfl⟩|⟨rfl,_,rfl⟩
   ·obtain⟨c,_,j⟩:=O t f;exact j
   ·exact⟨i,⟨ob,i,Q,a5,J⟩,⟨ob,i⟩,λh1 Z ⟨o,e1,B⟩ k=>⟨o,k _ e1,B⟩⟩
   ·exact⟨C,by rw[Ub];exact R,vs,_,rv,C⟩
  have g:∀ {b:Addr} {o:vc},s₁.heap.get? b=some o->H b=none->(br s₁.heap H).get? b=some o:=λe n=>IL e n;have b0:∀ {b:Addr} {o:vc} {Y:Array HB} {X:Nat},s₁.heap.get? b=some o->o.data=.dict Y X->H b=none:=fun {b o Y X} e d=>by
   cases q:H b with
   |none=>rfl
   |some u=>
    rcases U b u q with⟨_,t,f,rfl⟩|⟨rfl,_⟩|⟨rfl,_,_⟩
    ·obtain⟨c,_,j⟩:=O t f;rw[j]at e;cases e;cases d
    ·rw[i]at e;cases e;rw[J]at d;cases d
    ·rw[C]at e;cases e;cases d
  have N:∀ {b:Addr} {m:Str->Option Value},s₁.heap.Ns b m->(br s₁.heap H).Ns b m:=fun {b m} ⟨o,Y,X,e,d,r⟩=>⟨o,Y,X,g e (b0 e d),d,r⟩
  have a0:K.In (br s₁.heap H):=λb o e=>g (KX b o e) (by
   cases q:H b with
   |none=>rfl
   |some u=>
    rcases U b u q with⟨_,t,f,rfl⟩|⟨rfl,_⟩|⟨rfl,h,_⟩
    ·obtain⟨c,_,j⟩:=O t f;have B:=KX _ _ e;rw[j]at B;cases B;have Z:=Vb.mp hK (t.P,_) (W.mem_of_lookupK e);exact absurd (show false=true from Z) Wa
    ·rw[a3]at e;cases e
    ·rw[a6 h]at e;cases e)
  have hM:Mod K mg (br s₁.heap H):=⟨a0,N a8,⟨mb,N hb,a4⟩,let ⟨mc,h1,Z⟩:=S;⟨mc,N h1,Z⟩⟩
  have e0:nl P w K mg (br s₁.heap H) Dg [] s₁ H:=⟨rfl,hM,λb o e=>vL e,Jq (rO _ _),trivial,λb hb=>absurd (show b∈([]:List Addr)from hb) (by simp),cc,.of_eq hg⟩
  have hS:kE K H a ns:=by
   cases G with
   |true=>exact .inl ⟨_,c3 rfl⟩
   |false=>exact .inr ⟨_,vs.toArray,_,a7 rfl,rfl,rfl,rfl,by rw[pa,T];exact R,by simpa using rv⟩
  obtain⟨σ,ef⟩:=tr ns hl;have a9:Qo ⟨K,ca,tx⟩ 1 fn [.ref a] H (λv _=>v=.bl true) λ_ _ _=>False:=by
   refine⟨[],[],[.ae ns],Ua.cons (by rw[Rep];exact⟨a,rfl,hS⟩) Ua.nil,rfl,⟨rfl,List.nodup_nil,λn o q=>by simp at q,λt f=>⟨⟨by simp,ob,c2⟩,by simp,#[],c1 t f,.inl rfl⟩⟩,?_⟩;rw[ef];intro b1 v H' _ _ r;rw[Rep]at r;exact r
  refine Jh ((F _).run Dg [] s₁ H ⟨[.ref a],[]⟩ [.ref a] [.ref a] _ _ hr e0 (I s₁ (.ref a)) (.cons rfl .nil) a9) λr y h=>?_;cases r with
  |error e=>obtain⟨_,_,_,_,z⟩:=h;exact z.elim
  |ok f2=>
   cases f2 with
   |next=>exact False.elim h
   |brk=>exact False.elim h
   |cont=>exact False.elim h
   |ret u=>
    obtain⟨v,H',os,bare,un,p,r',q⟩:=h;have q':v=.bl true:=q;subst q';obtain rfl:u=kf true:=r';have E:∀ b o,s₁.heap.get? b=some o->(¬ ∃ t∈tx.qm,b=t.P)->y.heap.get? b=some o:=λb o e n=>by
     cases q:H b with
     |none=>exact un.keep b o e q (by intro z;exact absurd (show b∈([]:List Addr)from z) (by simp)) (by simp)
     |some u=>
      rcases U b u q with⟨_,z⟩|⟨rfl,rfl⟩|⟨rfl,_,rfl⟩
      ·exact absurd z n
      ·obtain⟨B,_⟩:=p _ _ (un.ah _ _ _ q);rw[i]at e;cases e;exact B
      ·obtain⟨B,_⟩:=p _ _ (un.ah _ _ _ q);rw[C]at e;cases e;exact B
    have l:∀ t∈tx.qm,∃ ps,y.heap.get? t.P=some (W.tabObj ps):=λt f=>by
     obtain⟨more,z⟩:=un.Gh _ _ (c1 t f);exact⟨_,p _ _ z⟩
    refine⟨rfl,⟨λb o e=>?_,λb o e=>?_⟩,os,bare⟩
    ·by_cases hb:∃ t∈tx.qm,b=t.P
     ·obtain⟨t,f,rfl⟩:=hb;obtain⟨c,hc,j⟩:=O t f;obtain⟨ps,L⟩:=l t f;rw[j]at e;cases e;exact .inr (.inl ⟨(hc.tab j).isCodeTable,rfl,#[],ps,rfl,by rw[Array.empty_append];exact L⟩)
     ·exact .inl (E b o e hb)
    ·by_cases hb:∃ t∈tx.qm,b=t.P
     ·obtain⟨t,f,rfl⟩:=hb;obtain⟨ps,L⟩:=l t f;exact⟨_,L⟩
     ·exact⟨o,E b o e hb⟩
 cases hk:K.lookup a with
 |some o=>
  have e:=KX a o hk;rw[C]at e;cases e;exact A false (λh=>by cases h) λ_=>hk
 |none=>exact A true (λ_=>hk) λh=>by cases h
theorem iV{l:W.OpenLaw}{q:wa}{i:List Str}{J:(Str->Option Value)->Heap->Prop}{B:Ja->Heap->Prop}{d:DefRec}{K:lJ->W.Frag}{k:Nat}{x:Str}{fn:List D->M D}(xs:List Str)
  (hn:l.most=some 63) (v:d.params.defaults=[]) (hr:Ld k Dg) (hY:∀ (w:Ja) (h:Heap),B w h->(K w.params).In h)
  (Z:∀ w:Ja,BG (K w.params) xs=true) (n:(xs.all λx=>((recsOf q).find? λe=>e.name == x).isSome)=true)
  (F:∀ (w:Ja) (mg:Str->Option Value) (h:Heap),(K w.params).In h->h.Ns mainGlobals mg->Uv (K w.params) xs->∃ ca qm,(∀ t∈qm,∃ x∈xs,t.P=jv (K w.params) x)/\aJ ⟨K w.params,ca,⟨qm,Tv (K w.params)⟩⟩ l.prog w mg k d.name [x] fn)
  (tr:∀ ns:List Int,ns.length<=63->∃ σ,fn [.ae ns] []=.ok (.bl true) σ) :
  W.WalkO q i J B l.row.toRowW d [] (λf I=>PySem.call f I):=by
 refine Att.kl hn v λw s₀ H mg mb fa o pm cd S a I ns G Y ho hd a0 A m c j hg=>?_;have p:=hY w _ Y;have TT:=BZ (Z w);obtain⟨ca,qm,hP,f0,U,E,V,X⟩:=F w mg _ p G.T.g TT;rw[A]at E;cases E;obtain⟨bm,ob,L,b2,N,O,Q,R⟩:=G.T.bmain;have C:=W.mg_of p G.T.g TT.bm;rw[L]at C;cases C;refine R7 (tx:=⟨qm,Tv (K w.params)⟩) (ca:=ca) (ob:=ob) p G.T.g G.T.b G.T.builtins G.T.nolimit hg m c j hr TT.no N O Q R TT.bk (λt ht=>?_) X (λs u=>.of_eq (V [u] rfl)) tr;obtain⟨y,hy,e⟩:=hP t ht;have z:=Vb.mp n y hy;obtain⟨d',r⟩:=qe.mp z;have:=W.tab_of G.T p r (TT.tab y hy);rw[e];exact⟨_,this.1,this.2⟩
theorem Y6{a b:Tab}{bm:Addr}(h:(a.P == b.P)=false):∀ t∈(⟨[a,b],bm⟩:Tx).qm,∀ t'∈(⟨[a,b],bm⟩:Tx).qm,t'.P=t.P->t'=t:=by
 have n:a.P≠b.P:=by simpa using h
 intro t d t' c e;simp only[La,Nd,vm]at d c;rcases d with rfl|rfl<;>rcases c with rfl|rfl
 ·rfl
 ·exact absurd e.symm n
 ·exact absurd e n
 ·rfl
noncomputable def Rx(x:D)(xs:List D):M D:=λa=>match x,xs with
 | .ref n,[y]=>(match Wg a n with
  |some b=>(match kh a y with
   |some zs=>if b.length+zs.length<=Rh then .ok .zb (a.set n (.lst (b++zs)))else .bad
   |none=>.bad)
  |none=>.bad)
 |_,_=>.bad
section
variable{T:Tb}
theorem J6:NA T wO Rx:=by
 intro E l H m x xs v c Q r p q h;cases x with
 |ref n=>
  match xs with
  |[]=>exact h.elim
  |[y]=>
   rw[Ua]at q;obtain⟨w,z,rfl,s,i⟩:=q;rw[Ua]at i;subst i;unfold Rx at h;cases d:Wg m n with
   |none=>simp only[d]at h;exact h.elim
   |some k=>
    simp only[d]at h;cases e:kh m y with
    |none=>simp only[e]at h;exact h.elim
    |some zs=>
     simp only[e]at h;by_cases hc:k.length+zs.length<=Rh
     ·rw[da hc]at h;obtain⟨a,c,rfl,hn,h1,g⟩:=r.lst p d;obtain⟨b,f,rfl,h3,h4⟩:=r.ls s e;have j:=r.write (o:=.lst (c++f)) (ob:=.lst (k++zs)) hn ⟨_,Og,by
       have ex:Ext l H l (upd H a (.lst (c++f))):=Iv (Ma hn) h1 (λ_ z=>by cases z) (λ_ _ z=>by cases z);exact Ua.append (Ua.mono ex _ _ g) (Ua.mono ex _ _ h4)⟩
      exact⟨a,b,c,f,rfl,rfl,h1,h3,by rw[<-g.length,<-h4.length];exact bx hc,h _ _ _ j.1 j.2 (by rw[Rep])⟩
     ·rw[ga hc]at h;exact h.elim
  |_::_::_=>exact h.elim
 |_=>exact h.elim
end
section
variable{T:Tb}{X:Cx}
end
section
variable{X:Cx}{pins:List (Addr × vc)}{st:St}{H:Hp}{s:aa}{x z0 z1:Str}{M':List Str}{ix:List Nat}{scope:Scope}{fp:List Addr}
end
section
variable{T:Tb}{X:Cx}
end
section
variable{T:Tb}{X:Cx}{pins:List (Addr × vc)}{st:St}{H:Hp}{s:aa}{μ:List Addr}{σ:Ya}
end
section
variable{T:Tb}{X:Cx}
end
section
variable{T:Tb}{X:Cx}{x y:Str}{p pos:Ke}{ss:List Str}
theorem YP(d:Gl X x)(b:cB T.K X.mg x ss)(hd:(x == ("__debug__" : Str))=false:=by decide):FE T X (.Name x p) (eC (.gt ss)):=by
 obtain⟨a,hm,c⟩:=b;exact My (CF d hm (v:=.ref a) rfl hd) λ_ _=>by rw[Rep];exact⟨a,rfl,c⟩
theorem Pb.alias{P:wa}{w:Ja}{mg:Str->Option Value}{base:Heap}{k:Nat}{ps:List Str}{fn:List D->M D}(h:Pb T P w mg base k x ps fn)(e:mg y=mg x):Pb T P w mg base k y ps fn:=by
 obtain⟨f,a,h1,b⟩:=h;exact⟨f,a,e.trans h1,b⟩
end
section
variable{T:Tb}{μ μ':List Addr}{H H':Hp}{σ:Ya}{a:Addr}
mutual
theorem Rep.chg(j:∀ b,b≠a->H' b=H b)(l:a∈μ)(h1:∀ xs,H a≠some (.tup xs))(r:∀ o xs,H a≠some (.db o (.lst xs))):∀ (d:D) (v:V),Rep T μ H d v->Rep T μ H' d v
 | .zb,v,h=>by simpa [Rep]using h
 | .bl b,v,h=>by simpa [Rep]using h
 | .int i,v,h=>by simpa [Rep]using h
 | .str x,v,h=>by simpa [Rep]using h
 | .tup ds,v,h=>by
  rw[Rep]at h ⊢;obtain⟨p,m,g,e,k⟩:=h;exact⟨p,m,g,by rw[j p (λz=>h1 _ (by rw[<-z];exact e))];exact e,Ua.chg j l h1 r ds m k⟩
 | .ae ns,v,h=>by
  rw[Rep]at h ⊢;obtain⟨p,g,e⟩:=h;refine⟨p,g,?_⟩;rcases e with⟨o,e⟩|e
  ·exact .inl ⟨o,by rw[j p (λz=>r _ _ (by rw[<-z];exact e))];exact e⟩
  ·exact .inr e
 | .ref n,v,h=>by rw[Rep]at h ⊢;exact h
 | .lst ds,v,h=>by
  rw[Rep]at h ⊢;obtain⟨p,m,g,f,e,k⟩:=h;exact⟨p,m,g,f,by rw[j p (λz=>f (by rw[z];exact l))];exact e,Ua.chg j l h1 r ds m k⟩
 | .Db C ds,v,h=>by
  rw[Rep]at h ⊢;obtain⟨p,m,g,f,e,s,k⟩:=h;exact⟨p,m,g,f,by unfold Rd at e ⊢;rw[j p (λz=>f (by rw[z];exact l))];exact e,s,Ua.chg j l h1 r ds _ k⟩
 | .obj c ns ds,v,h=>by
  rw[Rep]at h ⊢;obtain⟨p,y,m,g,f,e,s,k⟩:=h;exact⟨p,y,m,g,f,by rw[j p (λz=>f (by rw[z];exact l))];exact e,s,Ua.chg j l h1 r ds _ k⟩
 | .Kr c,v,h=>by
  rw[Rep]at h ⊢;obtain⟨p,w,g,f,e,k⟩:=h;refine⟨p,w,g,f,by rw[j p (λz=>f (by rw[z];exact l))];exact e,λn q=>?_⟩;obtain⟨t,A,u,B⟩:=k n q;exact⟨t,A,u,by rw[j t (λz=>u (by rw[z];exact l))];exact B⟩
 | .gt ss,v,h=>by rw[Rep]at h ⊢;exact h
theorem Ua.chg(f:∀ b,b≠a->H' b=H b)(e:a∈μ)(h1:∀ xs,H a≠some (.tup xs))(c:∀ o xs,H a≠some (.db o (.lst xs))):∀ (ds:List D) (vs:List V),Ua T μ H ds vs->Ua T μ H' ds vs
 |[],vs,h=>by simpa [Ua]using h
 |d::ds,vs,h=>by
  rw[Ua]at h ⊢;obtain⟨v,r,g,i,j⟩:=h;exact⟨v,r,g,Rep.chg f e h1 c d v i,Ua.chg f e h1 c ds r j⟩
end
theorem ZB{c:Type}(f:∀ b,b≠a->H' b=H b)(e:a∈μ)(h1:∀ xs,H a≠some (.tup xs))(d:∀ o xs,H a≠some (.db o (.lst xs))){xs:List (c × D)}{ys:List (c × V)}(h:Paired (λ(p:c × D) (q:c × V)=>p.1=q.1/\Rep T μ H p.2 q.2) xs ys) :
  Paired (λ(p:c × D) (q:c × V)=>p.1=q.1/\Rep T μ H' p.2 q.2) xs ys:=L2.Paired.Gp h λp q z=>⟨z.1,Rep.chg f e h1 d _ _ z.2⟩
theorem Go.chg(d:∀ b,b≠a->H' b=H b)(g:a∈μ)(h1:∀ xs,H a≠Option.some (.tup xs))(f:∀ o xs,H a≠Option.some (.db o (.lst xs))){b:Addr}(hb:b≠a):∀ {o:Ob},Go T μ H b o->Go T μ H' b o
 | .lst ds,⟨e,h,r⟩=>⟨e,(d b hb).trans h,Ua.chg d g h1 f _ _ r⟩
 | .Db i,⟨e,h,r⟩=>⟨e,(d b hb).trans h,ZB d g h1 f r⟩
 | .ins c fs,⟨j,e,h,r⟩=>⟨j,e,(d b hb).trans h,ZB d g h1 f r⟩
 | .Cf i,⟨k,e,h,r⟩=>⟨k,e,(d b hb).trans h,ZB d g h1 f r⟩
 | .yk l,⟨e,h,r⟩=>⟨e,(d b hb).trans h,r⟩
theorem Rel.chg(r:Rel T μ H σ)(d:∀ b,b≠a->H' b=H b){n:Nat}(hn:μ[n]?=some a)(h1:∀ xs,H a≠some (.tup xs))(e:∀ o xs,H a≠some (.db o (.lst xs))){ob:Ob}(f:Go T μ H' a ob):Rel T μ H' (σ.set n ob):=by
 have c:=Ma hn;refine⟨by simp[r.len],r.nd,λm x h=>?_,r.tb.out d (.inl c)⟩;rw[qc]at h;by_cases hm:n=m
 ·subst hm;rw[da rfl]at h;split at h
  ·cases h;exact⟨a,hn,f⟩
  ·cases h
 ·rw[ga hm]at h;obtain⟨b,h3,h4⟩:=r.obs m x h;exact⟨b,h3,h4.chg d c h1 e (λz=>hm (by subst z;exact UI r.nd hn h3))⟩
end
theorem _root_.L2.Inv.Qv{X:Cx}{d:List (Addr × vc)}{st:St}{H:Hp}{s:aa}{a:Addr}{od:vc}{kvs:List (Key × V)}(I:Inv X d st H s)(hd:H a=some (.db od (.dK kvs)))(h0:∀ o u,X.H₀ a≠some (.db o u)):Inv X d st (upd H a (.dK kvs)) s:=by
 have ne:∀ b u,H b=some u->(∀ o w,u≠.db o w)->b≠a:=λb u q n z=>by rw[z,hd]at q;exact n _ _ (ub q).symm
 refine⟨I.ok,I.os,I.bare,⟨I.base.keep,I.base.slot,λb o e n g=>?_,I.base.there,λb xs e=>?_,λb o u e=>?_,λb h e=>?_⟩,I.loc,I.cell,?_,λx c e=>?_,λp hp=>?_,λb u e=>?_,I.len⟩
 ·have:=I.base.free b o e n g;rw[yd (λz=>by rw[z,hd]at this;cases this)];exact this
 ·have:=I.base.Uh b xs e;rw[yd (ne b _ this (λ_ _ z=>by cases z))];exact this
 ·have:=I.base.ah b o u e;rw[yd (λz=>h0 o u (by rw[<-z];exact e))];exact this
 ·obtain⟨more,this⟩:=I.base.Gh b h e;exact⟨more,by rw[yd (ne b _ this (λ_ _ z=>by cases z))];exact this⟩
 ·rw[yd (λz=>by have:=I.free;rw[z,hd]at this;cases this)];exact I.free
 ·have:=I.dg x c e;rw[yd (λz=>by rw[z,hd]at this;cases this)];exact this
 ·obtain⟨i,f,j⟩:=I.pin p hp;exact⟨i,by rw[yd (λz=>by rw[z,hd]at f;cases f)];exact f,j⟩
 ·by_cases hb:b=a
  ·subst hb;rw[Og]at e;cases e;exact(I.cc b _ hd).2
  ·rw[yd hb]at e;refine(I.cc b u e).Oj (λc v _ z=>z) (λc z=>?_) λc xs z=>?_
   ·rw[yd (ne c _ z (λ_ _ y=>by cases y))];exact z
   ·rw[yd (ne c _ z (λ_ _ y=>by cases y))];exact z
section
variable{T:Tb}{X:Cx}{elts:List Ka}{kk:Nat}{p0:Ke}
theorem GG{μ:List Addr}{H:Hp}{a:Addr}{od:vc}{kvs:List (Key × V)}{f:List (Key × D)}(h3:H a=some (.db od (.dK kvs)))(n:yj T μ H f kvs):Ps T μ H (ar f) (Itm a od kvs):=by
 intro h j s i ex o;have k:j a=some (.db od (.dK kvs)):=ex.db _ _ _ h3;have e:yj T h j f kvs:=yj.mono ex n;unfold ar;cases m:f[i]? with
 |none=>
  dsimp only;by_cases g:i=f.length
  ·rw[da g];exact⟨k,by rw[g];exact Paired.length e⟩
  ·rw[ga g];trivial
 |some p=>
  obtain⟨q,hq,d,l⟩:=dH e i m;refine⟨⟨k,q,hq⟩,λz t y=>?_⟩;obtain⟨r,u,v,b,rfl,c,rfl⟩:=y;rw[hq]at c;cases c;dsimp only at d l;refine⟨Sk b,o.fresh b,?_⟩;rw[Rep,d];exact⟨r,_,rfl,Og,Ua.cons (qM _) (Ua.cons (Rep.mono (Sk b) _ _ l) Ua.nil)⟩
noncomputable def SD(d:D):M NX:=λb=>match d with
 | .Db c xs=>if c.length=xs.length then .ok (ar (c.zip xs)) b else .bad
 | .ref n=>(match b[n]? with
  |some (.Db a)=>.ok (ar a) (b.set n (.Cf a))
  |some (.Cf a)=>.ok (ar a) b
  |_=>.bad)
 |_=>.bad
noncomputable def lD(f:Ev->M D):Ev->M NX:=λa=>Xc (f a) SD
theorem K1{e:Ka}{f:Ev->M D}{u w:Ke}(h:FE T X e f)(C:Zd e "items" X.env (bc e X.env)=bc e X.env:=by rfl)(E:(u.endLine == w.line)=true:=by rfl) :
  Bw T X (.Tuple elts kk p0) (.Call (.Attribute e "items" u) [] [] w) (lD f):=by
 intro N s st H R I hw;refine BM (LP Lh Kh yo lP h C E) N s st H R I ?_;obtain⟨μ,ρ,σ,hE,hr,hp⟩:=hw;refine⟨μ,ρ,σ,hE,hr,hp.bind λd σ1 c v j _ e1 P V p=>?_⟩;unfold SD at p;cases d with
 |Db ks xs=>
  dsimp only at p;by_cases Y:ks.length=xs.length
  ·rw[da Y]at p;rw[Rep]at V;obtain⟨a,i,rfl,hn,q,S,U⟩:=V;refine⟨⟨a,i,rfl,q⟩,a,i,rfl,rfl,q,λl g=>?_⟩;have t:a≠l:=by rcases q with q|⟨_,q⟩<;>exact Ro q g
   have Q:Rd (upd j l (.ext (jm l a))) a (.dK i):=by unfold Rd;rw[yd t];exact q
   refine⟨l,a,i,rfl,Og,Q,λod m=>?_⟩;have A:Ext c j c (upd j l (.ext (jm l a))):=Sk g;have k:Rel T c (upd j l (.ext (jm l a))) σ1:=P.fresh g;obtain⟨Z,W⟩:Ext c j c (upd (upd j l (.ext (jm l a))) a (.db od (.dK i)))/\Rel T c (upd (upd j l (.ext (jm l a))) a (.db od (.dK i))) σ1:=by
    rcases m with m|m
    ·have y:=ZL (μ:=c) (od:=od) m;exact⟨A.trans y,k.keep y (λb hb=>yd (λz=>hn (by rw[<-z];exact hb))) (k.tb.out (λb hb=>yd hb) (.inr ⟨_,m⟩))⟩
    ·rw[ZD m];exact⟨A,k⟩
   exact Kb.here (R:=Ps T) (Kb.mono Z p) W (GG Og (yj.mono Z (oC S U)))
  ·rw[ga Y]at p;exact p.elim
 |ref n=>
  dsimp only at p;cases O:σ1[n]? with
  |none=>rw[O]at p;exact p.elim
  |some o=>
   rw[O]at p;obtain⟨a,rfl,hn,L⟩:=P.at V O;cases o with
   |Db i=>
    obtain⟨vs,B,G⟩:=L;have q:Rd j a (.dK vs):=.inl B;refine⟨⟨a,vs,rfl,q⟩,a,vs,rfl,rfl,q,λl g=>?_⟩;have t:a≠l:=Ro B g;have r:upd j l (.ext (jm l a)) a=some (.dK vs):=by rw[yd t];exact B
    refine⟨l,a,vs,rfl,Og,.inl r,λod _=>?_⟩;have A:Ext c j c (upd j l (.ext (jm l a))):=Sk g;have k:Rel T c (upd j l (.ext (jm l a))) σ1:=P.fresh g;have K:Ext c (upd j l (.ext (jm l a))) c (upd (upd j l (.ext (jm l a))) a (.db od (.dK vs))):=Iv (Ma hn) r (λ_ z=>by cases z) (λ_ _ z=>by cases z);have x:yj T c (upd (upd j l (.ext (jm l a))) a (.db od (.dK vs))) i vs:=yj.mono (A.trans K) G;have wr:=k.write (o:=.db od (.dK vs)) (ob:=.Cf i) hn ⟨od,vs,Og,x⟩ (λkv z=>by rw[O]at z;cases z);exact Kb.here (R:=Ps T) (Kb.mono (A.trans K) p) wr.2 (GG Og x)
   |Cf i=>
    obtain⟨J,vs,B,G⟩:=L;have q:Rd j a (.dK vs):=.inr ⟨J,B⟩;refine⟨⟨a,vs,rfl,q⟩,a,vs,rfl,rfl,q,λl g=>?_⟩;have t:a≠l:=Ro B g;have r:upd j l (.ext (jm l a)) a=some (.db J (.dK vs)):=by rw[yd t];exact B
    refine⟨l,a,vs,rfl,Og,.inr ⟨J,r⟩,λod m=>?_⟩;have A:Ext c j c (upd j l (.ext (jm l a))):=Sk g;have k:Rel T c (upd j l (.ext (jm l a))) σ1:=P.fresh g;rcases m with m|m
    ·rw[r]at m;cases m
    ·rw[ZD m];exact Kb.here (R:=Ps T) (Kb.mono A p) k (GG m (yj.mono A G))
   |_=>exact p.elim
 |_=>exact p.elim
noncomputable def kA{c:Type}(ok:c->Bool)(n:Nat):Out c->Out c
 | .ok a σ=>if ok a=true then (match σ[n]? with
  |some (.Cf b)=>.ok a (σ.set n (.Db b))
  |_=>.bad)else .bad
 |_=>.bad
noncomputable def aE{α:Type}(ok:α->Bool)(m:M D)(g:M α):M α:=λa=>match m a with
 | .ok (.ref n) _=>(match a[n]? with
  |some (.Db _)=>kA ok n (g a)
  |_=>g a)
 |_=>g a
noncomputable def DG:Fl->Bool
 | .xc _ _=>false
 |_=>true
noncomputable def cC(f:Ev->M D)(g:Ev->M Fl):Ev->M Fl:=λa=>aE DG (f a) (g a)
theorem pU{μ μ':List Addr}{H b:Hp}{a:Addr}{d vs:List (Key × V)}{od:vc}(ex:Ext μ H μ' b)(c:a∈μ)(e:H a=some (.dK d))(f:b a=some (.db od (.dK vs))):Ext μ H μ' (upd b a (.dK vs)):=by
 refine⟨ex.pre,λp xs h=>?_,λp o u h=>?_,λp o h n=>?_⟩
 ·rw[yd (λz=>by rw[z,e]at h;cases h)];exact ex.tup p xs h
 ·rw[yd (λz=>by rw[z,e]at h;cases h)];exact ex.db p o u h
 ·rw[yd (λz=>n (by rw[z];exact c))];exact ex.keep p o h n
theorem m4{l s:Type}{E:XK}{R:List Addr->Hp->l->s->Prop}{ok:l->Bool}{μ:List Addr}{H:Hp}{n:Nat}{a:Addr}{q:List (Key × V)}{o:Out l}{Q:s->Hp->Prop}(hn:μ[n]?=some a)(y:H a=some (.dK q))
  (w:∀ (μ':List Addr) (c:Hp) (d:l) (g:s) (od:vc) (vs:List (Key × V)),a∈μ'->c a=some (.db od (.dK vs))->ok d=true->R μ' c d g->R μ' (upd c a (.dK vs)) d g) (h:Kb T E R μ H (kA ok n o) Q) :
  Kb T E R μ H o (λg c=>∃ od vs,c a=some (.db od (.dK vs))/\Q g (upd c a (.dK vs))/\∃ μ' d,ok d=true/\R μ' c d g):=by
 cases o with
 |bad=>exact h
 |ex x k=>exact h.elim
 |ok d k=>
  unfold kA at h;dsimp only at h;by_cases cc:ok d=true
  ·rw[da cc]at h;cases m:k[n]? with
   |none=>rw[m]at h;exact h.elim
   |some B=>
    rw[m]at h;cases B with
    |Cf A=>
     intro μ' g c ex r v;obtain⟨C,i,od,vs,j,p⟩:=r.obs n _ m;have e:=ex.get hn;rw[e]at i;cases i;have f:a∈μ':=Ma e;have u:∀ b,b≠a->upd c a (.dK vs) b=c b:=λb hb=>yd hb;have t:∀ xs,c a≠some (.tup xs):=λxs z=>by rw[j]at z;cases z
     have g2:∀ o xs,c a≠some (.db o (.lst xs)):=λo xs z=>by rw[j]at z;cases z
     exact⟨od,vs,j,h μ' g _ (pU ex (Ma hn) y j) (r.chg u e t g2 ⟨vs,Og,ZB u f t g2 p⟩) (w μ' c d g od vs f j cc v),μ',d,cc,v⟩
    |_=>exact h.elim
  ·rw[ga cc]at h;exact h.elim
theorem DD{μ':List Addr}{c:Hp}{a:Addr}{od:vc}{vs:List (Key × V)}(e:a∈μ')(f:c a=some (.db od (.dK vs)))(d:D)(v:V)(h:Rep T μ' c d v):Rep T μ' (upd c a (.dK vs)) d v:=
 Rep.chg (λb hb=>yd hb) e (λxs z=>by rw[f]at z;cases z) (λo xs z=>by rw[f]at z;cases z) d v h
theorem iU{s:Stmt}{f:Ev->M D}{g:Ev->M Fl}(h:FS T X s g):FS T X s (cC f g):=by
 intro m sh st H D I hq;obtain⟨C,F,G,J,B,hp⟩:=hq;have plain:Kb T EN (Rk T) C H (g F G) (Jj X D)->wpAny (model X.prog X.w) X.A (exec s X.env) (SP X m D) X.xe sh:=λq=>h m sh st H D I ⟨C,F,G,J,B,q⟩;unfold cC aE at hp;split at hp
 ·rename_i n _ _
  split at hp
  ·rename_i O L
   obtain⟨a,hn,Q,K,_⟩:=B.obs n _ L;have h0:∀ o u,X.H₀ a≠some (.db o u):=λo u z=>by have:=I.base.ah a o u z;rw[K]at this;cases this
   have q:=m4 hn K (λE e d gl k c p j cc l=>by
    cases d with
    |xc _ _=>cases cc
    |nx y=>cases gl<;>first|exact l.elim|exact⟨l.1,λi d q=>let ⟨v,t,x⟩:=l.2 i d q;⟨v,t,DD p j _ _ x⟩⟩
    |bk y=>cases gl<;>first|exact l.elim|exact⟨l.1,λi d q=>let ⟨v,t,x⟩:=l.2 i d q;⟨v,t,DD p j _ _ x⟩⟩
    |ct y=>cases gl<;>first|exact l.elim|exact⟨l.1,λi d q=>let ⟨v,t,x⟩:=l.2 i d q;⟨v,t,DD p j _ _ x⟩⟩
    |rt R=>cases gl<;>first|exact l.elim|exact DD p j _ _ l) hp
   refine Rb (h m sh st H ⟨λb e=>∃ k c,e a=some (.db k (.dK c))/\D.nx b (upd e a (.dK c)),λv e=>∃ k c,e a=some (.db k (.dK c))/\D.rt v (upd e a (.dK c)),λb e=>∃ k c,e a=some (.db k (.dK c))/\D.bk b (upd e a (.dK c)),λb e=>∃ k c,e a=some (.db k (.dK c))/\D.ct b (upd e a (.dK c))⟩ I ⟨C,F,G,J,B,q.imp λgl e z=>?_⟩) (λN S z=>?_) λ_ _ z=>z
   ·obtain⟨k,c,j,hq,E,d,cc,l⟩:=z;cases gl with
    |nx b=>exact⟨k,c,j,hq⟩
    |rt v=>exact⟨k,c,j,hq⟩
    |bk b=>exact⟨k,c,j,hq⟩
    |ct b=>exact⟨k,c,j,hq⟩
    |xc b cls fd=>cases d<;>first|exact l.elim|cases cc
   ·cases N with
    |next=>obtain⟨b,e,r,k,c,j,hq⟩:=z;exact⟨b,_,r.Qv j h0,hq⟩
    |brk=>obtain⟨b,e,r,k,c,j,hq⟩:=z;exact⟨b,_,r.Qv j h0,hq⟩
    |cont=>obtain⟨b,e,r,k,c,j,hq⟩:=z;exact⟨b,_,r.Qv j h0,hq⟩
    |ret u=>obtain⟨v,b,e,r,P,k,c,j,hq⟩:=z;exact⟨v,b,_,r.Qv j h0,P,hq⟩
  ·exact plain hp
 ·exact plain hp
end
end L4
namespace L4
open PySem PySem.Spec PyProof.Rows L2
section
variable{T:Tb}{X:Cx}{tg:Ka}
end
section
variable{T:Tb}{X:Cx}
theorem Wk{a:List Stmt}:Do T X a Ak:=λpins s st H D I ⟨b,c,σ,_,_,hp⟩=>hp.elim
end
open Classical in
noncomputable def oO(μ μ' b:List Addr):Prop:=(∃ r,μ'=μ++r)/\(∀ (n:Nat) (a:Addr),μ[n]?=some a->b[n]?=some a)/\∀ a∈b,a∈μ'
section
variable{T:Tb}{μ μ' μ2:List Addr}{H H':Hp}{σ σ':Ya}
mutual
theorem BH.down(e:oO μ μ' μ2):∀ (d:D) (v0 v:V),Rep T μ H d v0->Rep T μ' H' d v->Rep T μ2 H' d v
 | .zb,v0,v,_,h=>by simpa [Rep]using h
 | .bl b,v0,v,_,h=>by simpa [Rep]using h
 | .int i,v0,v,_,h=>by simpa [Rep]using h
 | .str x,v0,v,_,h=>by simpa [Rep]using h
 | .tup ds,v0,v,c,h=>by
  rw[Rep]at h c ⊢;obtain⟨p,j,h1,f,h3⟩:=h;obtain⟨E,g,_,_,s⟩:=c;exact⟨p,j,h1,f,Ep.down e ds g j s h3⟩
 | .ae ns,v0,v,_,h=>by rw[Rep]at h ⊢;exact h
 | .ref n,v0,v,c,h=>by
  rw[Rep]at h c ⊢;obtain⟨a,h1,f⟩:=h;obtain⟨b,_,m⟩:=c;refine⟨a,h1,?_⟩;have h3:=e.2.1 _ _ m;obtain⟨⟨r,rfl⟩,_⟩:=e;rw[qb (na.mp m).1]at f;rw[m]at f;cases f;exact h3
 | .lst ds,v0,v,c,h=>by
  rw[Rep]at h c ⊢;obtain⟨a,j,h1,f,h3,h4⟩:=h;obtain⟨_,g,_,_,_,l⟩:=c;exact⟨a,j,h1,λz=>f (e.2.2 _ z),h3,Ep.down e ds g j l h4⟩
 | .Db C ds,v0,v,c,h=>by
  rw[Rep]at h c ⊢;obtain⟨a,j,h1,f,h3,o,h4⟩:=h;obtain⟨_,g,_,_,_,_,l⟩:=c;exact⟨a,j,h1,λz=>f (e.2.2 _ z),h3,o,Ep.down e ds _ _ l h4⟩
 | .obj k ns ds,v0,v,c,h=>by
  rw[Rep]at h c ⊢;obtain⟨a,w,j,h1,f,h3,o,h4⟩:=h;obtain⟨_,_,g,_,_,_,_,l⟩:=c;exact⟨a,w,j,h1,λz=>f (e.2.2 _ z),h3,o,Ep.down e ds _ _ l h4⟩
 | .Kr k,v0,v,_,h=>by
  rw[Rep]at h ⊢;obtain⟨a,u,h1,f,h3,h4⟩:=h;exact⟨a,u,h1,λz=>f (e.2.2 _ z),h3,λn q=>let ⟨t,y,A,B⟩:=h4 n q;⟨t,y,λz=>A (e.2.2 _ z),B⟩⟩
 | .gt ss,v0,v,_,h=>by rw[Rep]at h ⊢;exact h
theorem Ep.down(e:oO μ μ' μ2):∀ (ds:List D) (a vs:List V),Ua T μ H ds a->Ua T μ' H' ds vs->Ua T μ2 H' ds vs
 |[],a,vs,_,h=>by simpa [Ua]using h
 |d::ds,a,vs,c,h=>by
  rw[Ua]at h c ⊢;obtain⟨v,r,h1,g,h3⟩:=h;obtain⟨i,r0,_,b,f⟩:=c;exact⟨v,r,h1,BH.down e d i v b g,Ep.down e ds r0 r f h3⟩
end
end
end L4
namespace L4
open PySem PySem.Spec PyProof.Rows L2
section
variable{P:wa}{w:Ja}{K:W.Frag}{mg:Str->Option Value}{base:Heap}{T:Tb}
end
section
variable{T:Tb}{X:Cx}
end
section
variable{T:Tb}{X:Cx}{tg:Ka}
end
section
variable{T:Tb}{X:Cx}
end
noncomputable def YD(dds ds:List D):M (List D):=ret (ds++dds)
noncomputable def Ey(dds:List D)(fs:Ev->M (List D)):Ev->M (List D):=λa=>Xc (fs a) (YD dds)
section
variable{T:Tb}{X:Cx}
theorem IV{k c:Nat}{ps:List Str}{a:List Value}{dvs:List V}{dds:List D}{fn:List D->M D}{x:Str}{p b:Ke}{e:Ka}{g:List Ka}{fs:Ev->M (List D)}{f:Addr}{B:Qd}(hm:X.mg x=some (.ref (T.ca c)))(l:Mk T.K (T.ca c) f)(hb:Iq T.K B ps a)
  (C:Xg X.prog X.w T.K X.mg X.base (Al X.prog X.w) k f B ps (Qo T ps.length fn)) (P:Ud dvs a) (n:∀ μ H,Ua T μ H dds dvs) (G:T.K=X.K) (O:Ld (k+1) X.A) (N:Gl X x)
  (J:FA T X (e::g) fs) (m:(x == ("__debug__" : Str))=false:=by decide) (L:ua (e::g) X.env=(false,bc e X.env)::ua g X.env:=by rfl) (t:(Mc b (ua g X.env)).any (·.1)=false:=by rfl) :
  FE T X (.Call (.Name x p) (e::g) [] b) (Qr c ps.length fn (Ey dds fs)):=by
 rw[G]at l C hb;intro h s st H Q I hq;obtain⟨μ,i,σ,F,u,hp⟩:=hq;have o:Kb T (XE X st) (Rep T) μ H (Xc (fs i) (λds=>pp c ps.length fn (ds++dds)) σ) Q:=by
  have:Qr c ps.length fn (Ey dds fs) i σ=Xc (fs i) (λds=>pp c ps.length fn (ds++dds)) σ:=by
   unfold Qr Ey YD Xc;cases fs i σ<;>rfl
  rw[<-this];exact hp
 refine af (Ny I N hm ?_ m);refine W.callWith_K (h₀:=X.base) I.ok.mod.qw l.kp (Od (J b h s st H (λy d=>∀ x j,d x=none->d j=none->j≠x->Qo T ps.length fn (.ref x::(y++dvs)) (upd (upd d j (.own x)) x (.ins (T.ca c) j [])) (λv E=>v=.zb/\Q (.ref x) E) (XE X st)) I ⟨μ,i,σ,F,u,o.bind λds Z Y y d _ e1 U R S=>?_⟩) λus s1 ⟨y,d,z,r,q⟩=>⟨z.Gj,?_⟩) L t
 ·have:=NL U (Ua.append R (n _ _)) S;rw[Ji]at this;exact this
 ·exact gN (ds:=a) (dvs:=dvs) l C O hb P z r q
theorem nU{k c:Nat}{ps:List Str}{l a:List Value}{dvs:List V}{dds:List D}{fn:List D->M D}{x:Str}{p d:Ke}{e:Ka}{b:List Ka}{fs:Ev->M (List D)}{f:Addr}(hm:X.mg x=some (.ref (T.ca c)))(o:Mk T.K (T.ca c) f)(h:Bu T X.prog X.w X.mg X.base k f ps l fn)(hd:a=[]\/a=l)(v:Ud dvs a)(i:∀ μ H,Ua T μ H dds dvs)(n:T.K=X.K)(u:Ld (k+1) X.A)(t:Gl X x)
  (q:FA T X (e::b) fs) (g:(x == ("__debug__" : Str))=false:=by decide) (s:ua (e::b) X.env=(false,bc e X.env)::ua b X.env:=by rfl) (j:(Mc d (ua b X.env)).any (·.1)=false:=by rfl) :
  FE T X (.Call (.Name x p) (e::b) [] d) (Qr c ps.length fn (Ey dds fs)):=by
 obtain⟨y,hb,r,m⟩:=h;exact IV hm o (by rcases hd with rfl|rfl<;>assumption) m v i n u t q g s j
end
structure qA(P:wa)(w:Ja)(K:W.Frag)(mg:Str->Option Value)(base:Heap)(k:Nat)(f:Addr)(fd:Qd)(ps:List Str)(sp:Sp):Prop where
 len:∀ vs H Q E,sp vs H Q E->vs.length=ps.length
 run:∀ (A:Ia) (outer:List yg) (s:aa) (H:Hp) (args:Args) (us:List Value) (vs:List V) (Q:VK) (E:XK),Ld k { A with handled:=none }->nl P w K mg base A outer s H->Tf s fd args (ps.zip us)->Ud vs us->sp vs H Q E->
  codeAny (model P w) A (.call (.ref f) args) (CR (Al P w) outer P w H s Q E) s
section
variable{P:wa}{w:Ja}{K:W.Frag}{mg:Str->Option Value}{base:Heap}{ca:Nat->Addr}{tx:Tx}{T:Tb}{k:Nat}{f:Addr}{ps:List Str}
noncomputable def nH(T:Tb)(P:wa)(w:Ja)(mg:Str->Option Value)(base:Heap)(k:Nat)(x:Str)(ps:List Str)(fn:List D->M D):Prop:=
 ∃ f b,mg x=some (.ref f)/\W.keepIn T.K (.ref f)=true/\(∀ a:List Value,a.length=ps.length->bindArgs b ⟨a,[]⟩=pure (ps.zip a))/\qA P w T.K mg base k f b ps (Qo T ps.length fn)
theorem nH.hide{k:Nat}{x:Str}{ps:List Str}{fn:List D->M D}(h:nH T P w mg base k x ps fn):nH T P w mg base k x ps (L4.hide fn):=by rw[Gs];exact h
end
section
variable{T:Tb}{X:Cx}
open Classical in
open Classical in
end
section
variable{T:Tb}{X:Cx}
open Classical in
theorem BR{c:List Addr}{f:Hp}{src:Src}{J:It}(h:Mv T c f src J):Ps T c f src.nx J:=λk H g i ex r=>by
 have q:=h k H g i ex r;cases e:src.nx i g with
 |none=>trivial
 |some o=>
  rw[e]at q;cases o with
  |none=>exact q
  |some d=>exact⟨q.1,λx j y=>let ⟨a,b⟩:=q.2 x j y;by subst a;exact⟨Ext.refl _ _,r,b⟩⟩
noncomputable def tK(s:Src):M NX:=ret s.nx
noncomputable def toN(f:Ev->M Src):Ev->M NX:=λa=>Xc (f a) tK
theorem Jt{tg a:Ka}{f:Ev->M Src}(h:FI T X tg a f):Bw T X tg a (toN f):=by
 intro b s st H R I e;obtain⟨l,n,o,c,d,hp⟩:=e;exact h b s st H R I ⟨l,n,o,c,d,hp.bind λk p m J q _ r j i g=>Kb.here g j (BR i)⟩
theorem pY{w f t:Ka}{F:List Ka}{scope:Scope}{O G py:Ke}{x y z0:Str}{i:Nat}{M':List Str}{ix:List Nat}{src:Ev->M NX}{tg:D->Ev->Option Ev}{fi:Ev->M Bool}{fe:Ev->M D}
  (hN:X.N.Nodup) (hi:X.N[i]?=some y) (hx:Loc X.env.scope y)
  (hc:X.calm=true) (L:Im X x M' ix scope) (W:Bw T X t f src)
  (b4:∀ cl C s₀ H₀ ex,FG T (Es X (x::z0::M') scope cl C s₀ H₀ ex) t tg)
  (a7:∀ cl C s₀ H₀ ex,Nz T (Es X (x::z0::M') scope cl C s₀ H₀ ex) F fi)
  (U:∀ cl C s₀ H₀ ex,FE T (Es X (x::z0::M') scope cl C s₀ H₀ ex) w fe)
  (hs:∀ y,Ag f X.env y=pure y:=by intro _;rfl)
  (b2:dj (.ListComp w [⟨t,f,F,0⟩] scope O) (some (.Name y py)) G.line X.env=pure true:=by rfl)
  (hf:X.fn y=true\/X.env.scope.names.lookup y=some .local:=by first|exact .inl rfl|exact .inr rfl|assumption) :
  FS T X (.Assign [.Name y py] (.ListComp w [⟨t,f,F,0⟩] scope O) G) (Ue i (rn src ix tg fi fe)):=by
 intro m s st H D I h;obtain⟨μ,ρ,σ,hE,hr,b0⟩:=h;have hp:Kb T (XE X st) (Rep T) μ H (rn src ix tg fi fe ρ σ) (λv R=>D.nx (st.set i (some v)) R):=b0.xs hE λd a3 a2 v R _ e1 r1 q1 p1=>Kb.here (g:=Hl.nx (st.set i (some v))) p1 r1 ((hE.mono e1).set i q1);rw[exec_Assign_Name_used _ _ _ _ b2];refine ba (Rr (ba ?_));show wpAny _ X.A (do let _ <-comprehension (.ListComp w [⟨t,f,F,0⟩] scope O) scope X.env _ (newList []) false (bc f X.env) (some (Zh (.Name y py) X.env))) _ _ s;refine ba (Rb (Wr (use:=some (Zh (.Name y py) X.env)) (Q:=λ_ s'=>SP X m D .next s') rfl hs (DH X.env scope (Lx I L)) L.kind (λy hy e=>?_)
  ?_) (λ_ s' hq=>ra (ra hq)) λ_ _ e=>e)
 ·have q:=Vb.mp L.names y hy;rw[e]at q;simp only[nq,yp,dk]at q;exact eq_of_beq q
 have h1:=W m s st H (λJ u=>∃ nx j k,Ext μ H j u/\Rel T j u k/\Ps T j u nx J/\Kb T (XE X st) (Rep T) j u (Xc (wk nx k.length tg fi fe 1001 0 (Iu ix ρ)) (λ_=>ret (.ref k.length)) (k++[Ob.lst []])) (λv R=>D.nx (st.set i (some v)) R)) I
  ⟨μ,ρ,σ,hE,hr,hp.bind λnx a3 a2 J R _ e1 r1 q1 p1=>⟨nx,a2,a3,e1,r1,q1,p1⟩⟩
 refine Od h1 λv s1 h2=>Od h2 λb7 s2 h3=>?_;obtain⟨it,fp,tn,J,u,rfl,I2,TT,a1,f2,nx,j,k,a4,r2,so,p2⟩:=h3;refine Ce (Kk (zz L) (by intro y hy;simp at hy) (λY B E=>?_) L.kind);have P:=I2.vx (ys:=[]) (its:=[]) (t':=s2.toks) .nil (by simp);have S:u s2.heap.objs.size=none:=I2.cc.fresh (za _);have r3:=r2.push (p:=s2.heap.objs.size) (o:=.lst []) (ob:=.lst []) S ⟨[],Og,Ua.nil⟩;have K:Ext j u (j++[s2.heap.objs.size]) (upd u s2.heap.objs.size (.lst [])):=Hv S;have b3:s2.heap.objs.size<(s2.heap.push { cls:=.type "list",data:=.seq ([]:List Value).toArray }).objs.size:=by rw[eg];exact Oc _
 have kp:∀ b o,(s2.heap.push { cls:=.type "list",data:=.seq ([]:List Value).toArray }).get? b=some o->Y.get? b=some o:=λb o e=>E.extBut b o (Ea (va e)) (la _ e);have l:∀ b∈fp,Vl X m (upd u s2.heap.objs.size (.lst [])) b/\b<(s2.heap.push { cls:=.type "list",data:=.seq ([]:List Value).toArray }).objs.size:=λb hb=>by
  obtain⟨o,e,_⟩:=TT.obj 0 _ a1 b hb;have lt:=va e;exact⟨⟨by rw[yd (Ea lt)];exact(f2 b hb).1,(f2 b hb).2⟩,Nq lt b3⟩
 refine LJ (s3:={ s2 with heap:=s2.heap.push { cls:=.type "list",data:=.seq ([]:List Value).toArray },toks:=s2.toks }) (n:=k.length) (D0:=s2.heap.objs.size) hc L b4 a7 U P l B kp TT (TT.keep 0 _ _ a1 λb hb o e=>kp b o (la _ e))
  (λμ H σ i ex r=>so μ H σ i (K.trans ex) r) ((hE.mono a4).mono K) r3 (by rw[<-r2.len];simp) (p2.mono K) (λs6 H' m6 a8 a5 b5 a9 V a6 hq=>?_)
 have I6:=L2.Inv.Wt (s':=s6) (ch:=fp) P a9 b5 V a6 (λb hb=>⟨(l b hb).1.2.2.2.1,(l b hb).1.2.1,(l b hb).1.2.2.2.2.1,(l b hb).1.2.2.2.2.2⟩);have a0:X.env.locals<(s2.heap.push { cls:=.type "list",data:=.seq ([]:List Value).toArray }).objs.size:=P.lt;have Z:∀ z c,X.env.cells.lookup z=some c->c<(s2.heap.push { cls:=.type "list",data:=.seq ([]:List Value).toArray }).objs.size:=λz c e=>by
  obtain⟨v,q⟩:=P.cell z c e;exact q.lt
 show wpAny _ X.A (Zh (.Name y py) X.env (.ref s2.heap.objs.size)) _ _ s6;refine iz (KP (v:=.ref s2.heap.objs.size) I6 hN hi hx rfl (λs7 I7 ⟨a,sb,ha⟩=>?_) hf);have b6:a≠(s2.heap.push { cls:=.type "list",data:=.seq ([]:List Value).toArray }).objs.size:=by
  rcases ha with rfl|ha
  ·exact Ea a0
  ·exact Ea (Z _ _ ha)
 refine⟨m6,a8.sameBut sb (He b6),λh8 b1=>?_⟩;refine⟨st.set i (some (.ref s2.heap.objs.size)),H',?_,hq⟩;exact I7.turned (t':=s7.toks) (it:=(s2.heap.push { cls:=.type "list",data:=.seq ([]:List Value).toArray }).objs.size) (λb o hb e=>(b1.2 b hb).trans e) a5 (og a0) (.inr (Sb P.sz (za _))) (λz c e=>Ea (Z z c e)) (λp hp=>Ea (va (P.pin p hp).1))
end
section
variable{P:wa}{w:Ja}
noncomputable def KS(h0 h:Heap):Prop:=∀ b o a n,h0.get? b=some o->o.data=.seq a n->h.get? b=some o
theorem KS.keeps{h0 h h':Heap}{d:Addr}{o:vc}{es ep}(x:KS h0 h)(g:h.get? d=some o)(hd:o.data=.dict es ep)(i:uf d h h'):KS h0 h':=λb j f n e a=>by
 have q:=x b j f n e a;have c:b≠d:=by
  rintro rfl;rw[g]at q;cases q;rw[hd]at a;exact nomatch a
 exact(i.2 b c).trans q
noncomputable def NT(P:wa)(w:Ja)(h0:Heap):Nat->Value->Int->Nat->Prop
 |0,v,x,n=>∃ k,(zl P w).is k v=true/\x=(zl P w).hash k/\n=1
 |d+1,v,x,n=>(∃ k,(zl P w).is k v=true/\x=(zl P w).hash k/\n=1)\/
  ∃ a o b m,∃ c:List (Value × Int × Nat),v=.ref a/\h0.get? a=some o/\o.cls=.type "tuple"/\o.data=.seq b m/\b.toList=c.map (·.1)/\(∀ p∈c,NT P w h0 d p.1 p.2.1 p.2.2)/\
   x=reduceHash (KB (c.map (·.2.1)))/\n=(c.map (·.2.2)).sum+1
structure NQ(P:wa)(w:Ja)(h0:Heap)(a0:Addr)(x0:Int)(n0:Nat)(t:Key):Prop where
 nt:NT P w h0 5 (.ref a0) x0 n0
 hd:∃ o v0 its m,h0.get? a0=some o/\o.cls=.type "tuple"/\o.data=.seq its m/\its.toList.head?=some v0/\(zl P w).is t v0=true
end
section
variable{T:Tb}{X:Cx}
open Classical in
end
structure Br(K:W.Frag)(C:Addr):Prop where
 f:W.findIn K (.ref C) "__eq__" = some (some (.builtin "object.__eq__"))
 o:W.mroIn K C (.type "object")=some true
section
variable{prog:wa}{w:Ja}{K:W.Frag}{A:Ia}{E:Value->aa->Prop}{h:Heap}{g:Array Rq}{d:jJ}{t:Nat}{os:t8}{x y C D:Addr}{ox oy:vc}
theorem QX{M:Lk}{r:Option Value}{name:Str}{Q:Option Value->aa->Prop}(X:K.In h)(f:W.findIn K (.ref C) name=some r)(a:h.get? x=some ox)(hc:ox.cls=.ref C)(hq:Q r ⟨h,g,d,t,os⟩):wpAny M A (specialOf (.ref x) name) Q E ⟨h,g,d,t,os⟩:=by
 unfold specialOf;repeat (first|(with_reducible refine yi a ?_;rw[hc])|(with_reducible refine W.Looks.at (W.looks_findIn X f) ?_)|wp_step)
 exact hq
theorem OM(X:K.In h)(c:Br K C)(m:h.get? x=some ox)(hc:ox.cls=.ref C)(hy:h.get? y=some oy)(i:x≠y){Q:Value->aa->Prop}(hq:Q .notImplemented ⟨h,g,d,t,os⟩) :
  wpAny (model prog w) A (call (.builtin "object.__eq__") [.ref x,.ref y]) Q E ⟨h,g,d,t,os⟩:=by
 refine Lq (codeAny_call_builtin iJ.eq.plain F.cmpEntry_eq ?_);have j:=F.cmpArgs_eq (.ref x) (.ref y);have f:=W.looks_mroIn (M:=model prog w) X c.o;have b:ox.cls≠.type "tuple":=by rw[hc];intro e;cases e
 simp only[checkBuiltinCall,F.cmpKind_eq,F.cmpSplit_eq];refine ba ?_;unfold isInstance;have p:∀ (k:Unit->aa->Prop),k () ⟨h,g,d,t,os⟩->wpAny (model prog w) A (match cq "object.__eq__" with|some sig=>Ao "object.__eq__" sig ⟨[.ref x,.ref y],[]⟩|none=>pure ()) k E ⟨h,g,d,t,os⟩:=λk l=>by
  cases a:cq "object.__eq__" with
  |none=>exact ra l
  |some sig=>
   simp only[argsOk,a]at j;have n:Ao "object.__eq__" sig ⟨[.ref x,.ref y],[]⟩=pure ():=j;show wpAny _ A (Ao "object.__eq__" sig ⟨[.ref x,.ref y],[]⟩) k E _;rw[n];exact ra l
 repeat (first|(with_reducible refine yi m ?_;rw[hc])|(with_reducible refine W.Looks.at f ?_)|(with_reducible refine xu i m hy b ?_)|wp_step)
 exact hq
theorem ZN(X:K.In h)(c:Br K C)(b:h.get? x=some ox)(hc:ox.cls=.ref C)(hy:h.get? y=some oy)(a:x≠y){Q:Option Value->aa->Prop}(hq:Q none ⟨h,g,d,t,os⟩) :
  wpAny (model prog w) A (tryCompare (.ref x) "__eq__" (.ref y)) Q E ⟨h,g,d,t,os⟩:=by
 simp only[tryCompare];refine ba ?_;simp only[callSpecialIfBound?,bindSpecialIfBound?];refine Ad (ba (ba (QX X c.f b hc ?_)));simp only[iJ.eq.bind];refine ba (wpAny_askSetting (wpAny_ite ?_));split
 ·exact ba (ra (ra (ba (OM X c b hc hy a (ra (ra hq))))))
 ·exact Jf (ba (ra (ra (ba (OM X c b hc hy a (ra (ra hq)))))))
theorem K4(X:K.In h)(c:Br K C)(m:Br K D)(n:W.mroIn K D (.ref C)=some false)(i:h.get? x=some ox)(hc:ox.cls=.ref C)(hy:h.get? y=some oy)(a:oy.cls=.ref D)(f:C≠D)(o:A.units<cLine){Q:Value->aa->Prop}(hq:Q (.bool false) ⟨h,g,d,t,os⟩) :
  wpAny (model prog w) A (Ib .Eq (.ref x) (.ref y)) Q E ⟨h,g,d,t,os⟩:=by
 have b:x≠y:=λe=>by
  subst e;rw[i]at hy;cases hy;rw[hc]at a;cases a;exact f rfl
 have k:ox.cls≠.type "tuple":=by rw[hc];intro e;cases e
 have l:=W.looks_mroIn (M:=model prog w) X n;have j:(pb C != pb D)=true:=by simp[f]
 show wpAny (model prog w) A (dw .Eq (.ref x) (.ref y)) Q E _;simp only[dw,cmpInfo_Eq,oneThing_ref];repeat (first|with_reducible refine wpAny_cRoomFor o ?_|(with_reducible refine yi i ?_;rw[hc])|(with_reducible refine yi hy ?_;rw[a])|(rw[j,da rfl];with_reducible refine ba (W.Looks.at l ?_))|(with_reducible refine W.Looks.at l ?_)|(with_reducible refine ZN X c i hc hy b ?_)|(with_reducible refine ZN X m hy a i (He b) ?_)|(with_reducible refine xu b i hy k ?_)|wp_step)
 exact hq
end
noncomputable def vK(K:W.Frag):R2:=λv u H Q=>∃ x y C D a b fs gs,v=.ref x/\u=.ref y/\H x=some (.ins C a fs)/\H y=some (.ins D b gs)/\Br K C/\Br K D/\W.mroIn K D (.ref C)=some false/\C≠D/\Q (.bl false) H
noncomputable def ZC(K:W.Frag)(ca:Nat->Addr)(l:List (Nat × Nat)):Prop:=∀ p∈l,Br K (ca p.1)/\Br K (ca p.2)/\W.mroIn K (ca p.2) (.ref (ca p.1))=some false/\ca p.1≠ca p.2
noncomputable def qB(l:List (Nat × Nat))(x y:D):M D:=λa=>match Ym a x,Ym a y with
 |some (c,_),some (d,_)=>if (c,d)∈l then .ok (.bl false) a else .bad
 |_,_=>.bad
theorem W6{K:W.Frag}{ca:Nat->Addr}:ZC K ca []:=λ_ h=>nomatch h
theorem uI{K:W.Frag}{ca:Nat->Addr}{c d:Nat}{l:List (Nat × Nat)}(a:Br K (ca c))(b:Br K (ca d))(m:W.mroIn K (ca d) (.ref (ca c))=some false)(n:ca c≠ca d)(r:ZC K ca l):ZC K ca ((c,d)::l):=λp hp=>by
 rcases La.mp hp with rfl|hp
 ·exact⟨a,b,m,n⟩
 ·exact r p hp
section
variable{T:Tb}{X:Cx}
theorem V3(z:X.A.units+9<cLine):Nh X (Ib .Eq) (vK X.K):=by
 intro b s st H v u n r Q I p o h;obtain⟨x,y,C,D,f,i,fs,gs,rfl,rfl,h1,j,c,e,l,a,q⟩:=h;obtain rfl:n=pb x:=p;obtain rfl:r=pb y:=o;obtain⟨_,_,_,m,_⟩:=(show Fi X.prog X.w H s.heap x (.ins C f fs)from I.cc x _ h1)
 obtain⟨_,_,_,hy,_⟩:=(show Fi X.prog X.w H s.heap y (.ins D i gs)from I.cc y _ j)
 have k:=I.Gj;obtain⟨h,g,d,t,os⟩:=s;exact K4 k c e l m rfl hy rfl a (by omega) ⟨.bl false,H,I,rfl,q⟩
theorem aZ{K:W.Frag}{l:List (Nat × Nat)}(o:ZC K T.ca l):al T (vK K) (qB l):=by
 intro E C H g x y u v Q r q p h;unfold qB at h;cases e:Ym g x with
 |none=>rw[e]at h;exact h.elim
 |some i=>
  cases f:Ym g y with
  |none=>rw[e,f]at h;exact h.elim
  |some j=>
   obtain⟨c,fs⟩:=i;obtain⟨d,gs⟩:=j;rw[e,f]at h;dsimp only at h;by_cases hm:(c,d)∈l
   ·rw[da hm]at h;obtain⟨a,k,s,rfl,h1,_⟩:=sy r q e;obtain⟨b,m,t,rfl,n,_⟩:=sy r p f;obtain⟨w,z,A,B⟩:=o (c,d) hm;exact⟨a,b,_,_,k,m,s,t,rfl,rfl,h1,n,w,z,A,B,Kb.here h r (by rw[Rep])⟩
   ·rw[ga hm]at h;exact h.elim
end
noncomputable def Mz(x y:D):M D:=λa=>match x,y with
 | .gt ss,.gt c=>(match wn (jj a 0) (ss.map D.str) (c.map D.str)with
  |some b=>.ok (.bl b) a
  |none=>.bad)
 |_,_=>.bad
theorem iZ{T:Tb}{X:Cx}(o:T.K=X.K)(N:X.A.units+9<cLine):Nh X (Ib .Eq) (rD T Mz):=by
 intro a s st H v u g R Q I F C h;obtain⟨E,μ,M,x,y,r,d,hy,hp⟩:=h;unfold Mz at hp;cases x with
 |gt ss=>
  cases y with
  |gt f=>
   dsimp only at hp;cases e:wn (jj M 0) (ss.map D.str) (f.map D.str)with
   |none=>rw[e]at hp;exact hp.elim
   |some b=>
    rw[e]at hp;rw[Rep]at d hy;obtain⟨p,rfl,h1⟩:=d;obtain⟨q,rfl,c⟩:=hy;rw[o]at h1 c;cases F;cases C;obtain⟨O,t,G,_⟩:=L2.Inv.tuple I (.inr h1);obtain⟨P,z,J,_⟩:=L2.Inv.tuple I (.inr c);obtain⟨n,g2⟩:=ZE (A:=X.A.in1) (λx y v w g L b i j k l m=>UD I r 0 X.A.in1 x y v w g L b (by show X.A.units+1+0+1<cLine;omega) i j k l m) (iD (T:=T) (μ:=μ) (H:=H) ss) (iD f) t z e;have B:mh X.A s (.ref p) (.ref q) b:=by rw[g2];exact .tuples G J (by omega) n
    exact B X.prog X.w X.xe (EP X a st Q) ⟨.bl b,H,I,rfl,Kb.here hp r (by rw[Rep])⟩
  |_=>exact hp.elim
 |_=>exact hp.elim
end L4
set_option maxHeartbeats 0
namespace K46
open PySem PySem.Spec PyProof.Rows L2 L4
noncomputable def top(i:Nat):Stmt:=PySem.Challenge.pw_sidebook_k46_amid_a_payment.main.body.getD i (.Pass ⟨0,0,0,0⟩)
noncomputable def qC(K:W.Frag):Tab:=⟨jv K "least_fate",266,35, "least_fate.<locals>.<lambda>"⟩
noncomputable def ND(K:W.Frag):Tab:=⟨jv K "paper",281,27, "paper.<locals>.<lambda>"⟩
noncomputable def tx(K:W.Frag):Tx:=⟨[qC K,ND K],Tv K⟩
theorem HL(K:W.Frag):qC K∈(tx K).qm:=(.head _)
theorem DN(K:W.Frag):ND K∈(tx K).qm:=(.tail _ (.head _))
theorem w1(K:W.Frag):∀ t∈(tx K).qm,∃ x∈[("least_fate" : Str),("paper" : Str)],t.P=jv K x:=by
 intro t a;have h:t∈[qC K,ND K]:=a;simp only[La,Nd,vm]at h;rcases h with rfl|rfl
 ·exact⟨"least_fate",by simp,rfl⟩
 ·exact⟨"paper",by simp,rfl⟩
structure Txt(K:W.Frag)(mg:Str->Option Value)(ca:Nat->Addr):Prop where
 Ga:lg K mg "_law_cell_at" (top 91) ["_law_script", "_law_k"]
 ng:lg K mg "is_whole" (top 7) ["thing"]
 Xb:lg K mg "is_between" (top 8) ["thing", "least", "most"]
 gf:lg K mg "check_span" (top 81) ["hand", "every", "pots"]
 Hc:bg K (ca 9) "learn" "Keeper.learn" (sg (top 89) 2) ["self", "words"] (ca 22)
 Pc:bg K (ca 9) "hold" "Keeper.hold" (sg (top 89) 1) ["self", "account", "claim", "seen"] (ca 21)
 Dh:lg K mg "is_day" (top 11) ["thing"]
 Pg:lg K mg "is_word" (top 10) ["thing"]
 Of:lg K mg "is_amount" (top 13) ["thing"]
 kg:lg K mg "is_side" (top 9) ["thing"]
 xf:lg K mg "is_tie" (top 24) ["thing"]
 gg:lg K mg "are_ties" (top 26) ["thing"]
 jf:lg K mg "are_shares" (top 25) ["thing"]
 We:lg K mg "is_number" (top 12) ["thing"]
 ud:lg K mg "is_stand" (top 27) ["thing"]
 Yf:zH K mg "stand" (top 28) ["number", "shares", "ties"] [.none]
 Pi:lg K mg "first" (top 29) ["left", "right"]
 Ui:bg K (ca 4) "__init__" "Account.__init__" (sg (top 52) 0) ["self", "pot", "side", "mine", "grant", "may", "strikes"] (ca 10)
 Xd:lg K mg "first_account" (top 56) ["pot", "side", "left", "right"]
 Op:ut K (ca 9) "__init__" "Keeper.__init__" (sg (top 89) 0) ["self", "hand", "every", "pots", "words"] [.none] (ca 20)
 Kf:lg K mg "_law_pots" (top 93) ["_law_sides", "_law_coins"]
 Yg:lg K mg "is_pot" (top 14) ["thing"]
 Md:lg K mg "is_of_a_side" (top 43) ["thing"]
 Fe:lg K mg "is_thing" (top 44) ["thing"]
 Ff:lg K mg "is_agree" (top 46) ["thing"]
 Xe:lg K mg "is_strike" (top 47) ["thing"]
 Ic:lg K mg "has_its_parts" (top 48) ["letter"]
 Dc:lg K mg "is_letter" (top 49) ["thing"]
 kc:bg K (ca 9) "holds" "Keeper.holds" (sg (top 89) 12) ["self", "pot"] (ca 32)
 jb:bg K (ca 5) "word" "Calm.word" (sg (top 53) 0) ["self"] (ca 13)
 Bb:bg K (ca 6) "word" "Offered.word" (sg (top 54) 0) ["self"] (ca 15)
 Cb:bg K (ca 7) "word" "Waiting.word" (sg (top 55) 0) ["self"] (ca 17)
 Mg:lg K mg "deals" (top 30) ["one"]
 Dd:lg K mg "is_stand_of" (top 31) ["thing", "coin"]
 ja:bg K (ca 4) "agree_of" "Account.agree_of" (sg (top 52) 1) ["self", "side", "one"] (ca 11)
 ig:lg K mg "offered" (top 57) ["account", "shares", "ties"]
 vd:lg K mg "shown_in_time" (top 37) ["tie", "shown"]
 Le:lg K mg "lot_of_paid" (top 61) ["view", "seen", "tie"]
 df:lg K mg "lot_of_due" (top 62) ["view", "seen", "tie"]
 Eh:lg K mg "lot_of" (top 63) ["view", "pot", "tie"]
 Ge:lg K mg "read_stand" (top 64) ["view", "pot", "one"]
 Pf:lg K mg "read_pots" (top 65) ["view"]
 je:lg K mg "all_choices" (top 66) ["readings"]
 ye:lg K mg "lots_by_word" (top 68) ["reads"]
 fg:lg K mg "fates_of" (top 69) ["lots"]
 sd:lg K mg "comes_by_fate" (top 70) ["lot", "fate", "every"]
 Ed:lg K mg "sum_by_fate" (top 71) ["lots", "fate", "every"]
 ff:LD K mg "least_fate" (top 72) ["lots", "every"]
 Ch:lg K mg "sum_of" (top 73) ["reads", "by_word", "fates", "every"]
 ce:lg K mg "least_paper" (top 74) ["reads", "chosen", "every"]
 Qc:lg K mg "chosen_readings" (top 67) ["readings", "chosen"]
 Mi:LD K mg "paper" (top 75) ["view"]
 qh:lg K mg "worth" (top 76) ["view"]
 Me:lg K mg "stands_told" (top 82) ["account", "claim"]
 yq:bg K (ca 8) "__init__" "View.__init__" (sg (top 60) 0) ["self", "every", "look", "words", "pots"] (ca 19)
 md:bg K (ca 9) "words" "Keeper.words" (sg (top 89) 3) ["self"] (ca 23)
 nc:bg K (ca 9) "view_by" "Keeper.view_by" (sg (top 89) 7) ["self", "accounts"] (ca 27)
 Cd:bg K (ca 9) "view" "Keeper.view" (sg (top 89) 8) ["self"] (ca 28)
 Qb:bg K (ca 9) "worth" "Keeper.worth" (sg (top 89) 9) ["self"] (ca 29)
 Fb:bg K (ca 9) "is_good" "Keeper.is_good" (sg (top 89) 11) ["self", "account", "allowance"] (ca 31)
 Ec:bg K (ca 9) "take_ask" "Keeper.take_ask" (sg (top 89) 16) ["self", "letter"] (ca 36)
 ve:lg K mg "is_following" (top 51) ["thing", "one"]
 Ca:bg K (ca 4) "strike_of" "Account.strike_of" (sg (top 52) 2) ["self", "side", "one"] (ca 12)
 Jc:bg K (ca 5) "taken" "Calm.taken" (sg (top 53) 1) ["self", "letter"] (ca 14)
 lc:bg K (ca 6) "taken" "Offered.taken" (sg (top 54) 1) ["self", "letter"] (ca 16)
 jc:bg K (ca 7) "taken" "Waiting.taken" (sg (top 55) 1) ["self", "letter"] (ca 18)
 Wb:bg K (ca 9) "is_as_asked" "Keeper.is_as_asked" (sg (top 89) 17) ["self", "letter"] (ca 37)
 Zb:bg K (ca 9) "take_step" "Keeper.take_step" (sg (top 89) 18) ["self", "letter"] (ca 38)
 yb:bg K (ca 9) "take" "Keeper.take" (sg (top 89) 15) ["self", "letter"] (ca 35)
 Ve:lg K mg "_law_put" (top 92) ["_law_keeper", "_law_side", "_law_coins", "_law_tie", "_law_halfway"]
 Nc:bg K (ca 9) "account" "Keeper.account" (sg (top 89) 6) ["self", "pot"] (ca 26)
 wc:bg K (ca 9) "given" "Keeper.given" (sg (top 89) 5) ["self"] (ca 25)
 Ee:lg K mg "following" (top 33) ["one", "shares", "ties"]
 Nf:lg K mg "with_more" (top 32) ["shares", "side", "amount"]
 Zg:lg K mg "tied" (top 35) ["one", "payer", "amount", "word", "day"]
 Rc:lg K mg "stand_wished" (top 86) ["account", "wish", "known"]
 we:lg K mg "allowance_of" (top 87) ["wish"]
 jg:lg K mg "step_to" (top 88) ["account", "one"]
 Jb:bg K (ca 9) "wish_for" "Keeper.wish_for" (sg (top 89) 14) ["self", "one", "wish"] (ca 34)
 Gc:bg K (ca 9) "wish" "Keeper.wish" (sg (top 89) 13) ["self", "wish"] (ca 33)
 fo:lg K mg "law" (top 94) ["_law_script"]
 Bi:mg "worth_worth" = mg "worth"
 zw:mg "all" = none
 Xt:mg "bool" = none
 bu:mg "dict" = none
 Vp:mg "enumerate" = none
 Fw:mg "int" = none
 Tc:mg "isinstance" = none
 Fg:mg "len" = none
 Co:mg "list" = none
 sA:mg "max" = none
 Iw:mg "min" = none
 pr:mg "range" = none
 zA:mg "set" = none
 qt:mg "sorted" = none
 Ew:mg "str" = none
 lr:mg "sum" = none
 Th:mg "tuple" = none
 nA:mg "zip" = none
 jx:cB K mg "FIRM" ["won", "sure", "back"]
 Nt:cB K mg "HELD" ["held"]
 gj:∃ t,mg "MOST_AMOUNT" = some (.int 1000000000000 t)
 Zm:∃ t,mg "MOST_DAY" = some (.int 1000000 t)
 Wj:∃ t,mg "MOST_EVERY" = some (.int 50 t)
 fj:∃ t,mg "MOST_NUMBER" = some (.int 1000000 t)
 cn:∃ t,mg "MOST_POT" = some (.int 2 t)
 Lg:∃ t,mg "MOST_SHARE" = some (.int 2000000000000 t)
 Yk:∃ t,mg "MOST_TIES" = some (.int 6 t)
 Tk:∃ t,mg "MOST_WORD" = some (.int 59 t)
 Fk:mg "NoStand" = some (.ref (ca 1))
 qo:W.excIn K (ca 1) kS "ValueError.__new__" = true
 Mj:W.exmOne K (.ref (ca 1)) (.ref (ca 1))=some true
 Hb:L2.jo K (ca 9)
 Am:L2.bh K (ca 9) "hand"
 Pl:L2.bh K (ca 9) "every"
 om:L2.jo K (ca 8)
 Ln:L2.bh K (ca 8) "every"
 Ri:L2.bh K (ca 9) "last_look"
 Tj:L2.bh K (ca 8) "last_look"
 Gm:L2.bh K (ca 9) "gave"
 ql:L2.bh K (ca 9) "known"
 Kn:L2.bh K (ca 8) "known"
 uj:L2.bh K (ca 9) "accounts"
 xk:L2.bh K (ca 9) "claims"
 Cm:L2.bh K (ca 9) "seen"
 Nl:L2.bh K (ca 9) "asked"
 bj:L2.bh K (ca 9) "finishing"
 Il:L2.wf K (ca 9) "learn" (ca 22)
 ie:L2.jo K (ca 7)
 Mm:L2.bh K (ca 7) "pot"
 Gd:L2.jo K (ca 6)
 Vm:L2.bh K (ca 6) "pot"
 Xf:L2.jo K (ca 5)
 Mp:L2.bh K (ca 5) "pot"
 Gf:L2.jo K (ca 4)
 Xm:L2.bh K (ca 4) "pot"
 Jm:L2.wf K (ca 9) "hold" (ca 21)
 Sl:L2.bh K (ca 7) "side"
 Tl:L2.bh K (ca 6) "side"
 Po:L2.bh K (ca 5) "side"
 xl:L2.bh K (ca 4) "side"
 Wl:L2.bh K (ca 7) "mine"
 Zl:L2.bh K (ca 6) "mine"
 No:L2.bh K (ca 5) "mine"
 Jl:L2.bh K (ca 4) "mine"
 Gk:L2.bh K (ca 7) "grant"
 Hk:L2.bh K (ca 6) "grant"
 Fn:L2.bh K (ca 5) "grant"
 Bk:L2.bh K (ca 4) "grant"
 Pm:L2.bh K (ca 7) "may"
 Um:L2.bh K (ca 6) "may"
 Rp:L2.bh K (ca 5) "may"
 Em:L2.bh K (ca 4) "may"
 wj:L2.bh K (ca 7) "strikes"
 oj:L2.bh K (ca 6) "strikes"
 Ml:L2.bh K (ca 5) "strikes"
 rj:L2.bh K (ca 4) "strikes"
 vq:mg "Calm" = some (.ref (ca 5))
 So:L2.Mk K (ca 5) (ca 10)
 du:mg "Keeper" = some (.ref (ca 9))
 Er:L2.Mk K (ca 9) (ca 20)
 El:L2.wf K (ca 9) "holds" (ca 32)
 Rl:L2.wf K (ca 7) "word" (ca 17)
 Kl:L2.wf K (ca 6) "word" (ca 15)
 Uo:L2.wf K (ca 5) "word" (ca 13)
 Pr:mg "Offered" = some (.ref (ca 6))
 Fq:L2.Mk K (ca 6) (ca 10)
 aj:L2.wf K (ca 7) "agree_of" (ca 11)
 Hg:L2.wf K (ca 6) "agree_of" (ca 11)
 Fh:L2.wf K (ca 5) "agree_of" (ca 11)
 Wi:L2.wf K (ca 4) "agree_of" (ca 11)
 Ho:L2.bh K (ca 8) "pots"
 Ax:mg "View" = some (.ref (ca 8))
 Pv:L2.Mk K (ca 8) (ca 19)
 Bl:L2.wf K (ca 9) "words" (ca 23)
 Uj:L2.wf K (ca 9) "view_by" (ca 27)
 Bm:L2.wf K (ca 9) "view" (ca 28)
 vl:L2.wf K (ca 9) "worth" (ca 29)
 Xj:L2.wf K (ca 9) "is_good" (ca 31)
 tj:L2.wf K (ca 9) "take_ask" (ca 36)
 Nr:mg "Waiting" = some (.ref (ca 7))
 qq:L2.Mk K (ca 7) (ca 10)
 Lj:L2.wf K (ca 5) "strike_of" (ca 12)
 Di:L2.wf K (ca 6) "strike_of" (ca 12)
 Ei:L2.wf K (ca 7) "strike_of" (ca 12)
 pk:L2.wf K (ca 7) "taken" (ca 18)
 Ck:L2.wf K (ca 6) "taken" (ca 16)
 Nn:L2.wf K (ca 5) "taken" (ca 14)
 Fm:L4.Br K (ca 5)
 Jp:L4.Br K (ca 6)
 Yl:W.mroIn K (ca 6) (.ref (ca 5))=some false
 Dl:(ca 5)≠(ca 6)
 Zk:L4.Br K (ca 7)
 Ql:W.mroIn K (ca 7) (.ref (ca 5))=some false
 Ll:(ca 5)≠(ca 7)
 rl:W.mroIn K (ca 5) (.ref (ca 7))=some false
 wl:(ca 7)≠(ca 5)
 ni:L2.wf K (ca 9) "is_as_asked" (ca 37)
 Vi:L2.wf K (ca 9) "take_step" (ca 38)
 Qm:L2.wf K (ca 9) "take" (ca 35)
 Vj:L2.wf K (ca 9) "account" (ca 26)
 Ul:L2.wf K (ca 9) "given" (ca 25)
 nj:L2.wf K (ca 9) "wish_for" (ca 34)
 Wm:L2.wf K (ca 9) "wish" (ca 33)
 tb:Uv K ["least_fate", "paper"]
 qO:mg "__builtins__" = some (.ref (Tv K))
 Sz:∀ t∈(tx K).qm,∀ t'∈(tx K).qm,t'.P=t.P->t'=t
seal L2.PE L2.PS L2.mr L2.PT L2.PW L2.PA L2.PI L2.PG
section
variable{P:wa}{w:Ja}{K:W.Frag}{mg:Str->Option Value}{base:Heap}{ca:Nat->Addr}
theorem Be{N P:List Str}{sc:Scope}(a:sc.kind=.function)(b:sc.isCoroutine=false)(c:sc.isGenerator=false)(h:N.Nodup/\N.take P.length=P/\(∀ x∈P,sc.names.lookup x=some .local\/sc.names.lookup x=some .cell)/\∀ y∈sc.names,y.2≠.free):Aa N P sc:=⟨a,b,c,h.1,h.2.1,h.2.2.1,h.2.2.2⟩
noncomputable abbrev nW:Stmt:=top 91
noncomputable def fM:Ev->M Fl:=
 (Nb (Bf (eT (Fa oLt (ia 1) (Bh qk (qa (ia 0) Oa)))) (zd (Fa Ta (ia 0) (ia 1))) Mf) (zd (eC (.int 0))))
noncomputable def Ga:List D->M D:=hide λa=>db (run 2 fM a)
theorem IW:Aa ["_law_script", "_law_k"] ["_law_script", "_law_k"] (Kc nW):=Be rfl rfl rfl (by decide +kernel)
theorem Pu(a:Txt K mg ca):Pb ⟨K,ca,tx K⟩ P w mg base 1 "_law_cell_at" ["_law_script", "_law_k"] Ga:=
 Pb.hide (Pb.db (Ig a.Ga IW λ_ _ _ _ _ _ _ b=>
  (Yb (Lf (Ef qy Iy (ka 1) (Hm Cq (Gq rfl) rfl a.Fg Mb (ya (ka 0) Va)) (se _)) (Bc (Bd (gc ec (ic rfl) (ka 0) (ka 1) (λ_ _=>rfl)))) Vf)
  (Bc (Bd Ra)))))
noncomputable abbrev sT:Stmt:=top 7
noncomputable def tQ:Ev->M Fl:=
 (zd (Ci (Wc (Jn .int) (ia 0)) (lC (Wc (Jn .bool) (ia 0)))))
noncomputable def ng:List D->M D:=hide λa=>db (run 1 tQ a)
theorem RW:Aa ["thing"] ["thing"] (Kc sT):=Be rfl rfl rfl (by decide +kernel)
theorem fV(a:Txt K mg ca):Pb ⟨K,ca,tx K⟩ P w mg base 1 "is_whole" ["thing"] ng:=
 Pb.hide (Pb.db (Ig a.ng RW λ_ _ _ _ _ _ _ b=>
  (Bc (Bd (Xi (At .int (ka 0) rfl a.Tc rfl a.Fw boot_int) (on (xN (At .bool (ka 0) rfl a.Tc rfl a.Xt boot_bool))))))))
noncomputable abbrev tX:Stmt:=top 8
noncomputable def UP:Ev->M Fl:=
 (zd (Ci (qd 1 ng [] (qa (ia 0) Oa)) (qI oLe oLe (ia 1) (ia 0) (ia 2))))
noncomputable def Xb:List D->M D:=hide λa=>db (run 3 UP a)
theorem PY:Aa ["thing", "least", "most"] ["thing", "least", "most"] (Kc tX):=Be rfl rfl rfl (by decide +kernel)
theorem Nv(a:Txt K mg ca):Pb ⟨K,ca,tx K⟩ P w mg base 2 "is_between" ["thing", "least", "most"] Xb:=
 Pb.hide (Pb.db (Ig a.Xb PY λ_ _ _ _ _ _ _ b=>
  (Bc (Bd (Xi (Vd (fV a) rfl (b.mono (by decide)) rfl (ya (ka 0) Va)) (on (N6 jH gF jH gF (ka 1) (ka 0) (ka 2))))))))
noncomputable abbrev M7:Stmt:=top 81
noncomputable abbrev iC:Ev->M Fl:=(Bf (Mw (eT (Fa (Sy false) (ia 0) (hH (ia 3) none (some (eC (.int 2)))))) (eT (Fa oLt (Fa Ta (ia 3) (eC (.int 4))) (Fa nh (ia 1) (eC (.int 1)))))) Ak Mf)
noncomputable def EL:Ev->M Fl:=
 (Nb (Bf (Vk (eT (qd 3 Xb [] (qa (ia 1) (qa (eC (.int 1)) (qa (eC (.int 50)) Oa)))))) Ak Mf) (vt (qj (ia 2)) (Ye 3) iC))
noncomputable def gf:List D->M D:=hide λa=>db (run 4 EL a)
theorem CO:Aa ["hand", "every", "pots", "made"] ["hand", "every", "pots"] (Kc M7):=Be rfl rfl rfl (by decide +kernel)
theorem NU(a:Txt K mg ca):Pb ⟨K,ca,tx K⟩ P w mg base 3 "check_span" ["hand", "every", "pots"] gf:=
 Pb.hide (Pb.db (Ig a.gf CO λ_ _ _ _ _ _ _ b=>
  (Yb (Lf (im (Fj (Vd (Nv a) rfl (b.mono (by decide)) rfl (ya (ka 1) (ya Ra (ya (av (u:=.int 50 (a.Wj).choose) rfl (a.Wj).choose_spec ⟨_,rfl⟩) Va)))))) Wk Vf)
  (Bc (Bv jr rfl (ap rfl (ka 2)) (Li (i:=3) CO.nd rfl (Or.inl rfl)) (Bc (Lf (L2.PW.pt (Wy (Ef iN (lS rfl false) (ka 0) (EW rfl (ka 3) fW (OX Ra)) rfl) (WH (Ef qy Iy (gc ec (ic rfl) (ka 3) Ra (λ_ _=>rfl)) (Df (Aj rfl) Fd (ka 1) Ra) (se _))))) Wk Vf)))))))
theorem Y1(a:Txt K mg ca):Rm ⟨K,ca,tx K⟩ [9] "hand":=(di (T:=⟨K,ca,tx K⟩) (c:=9) a.Hb a.Am Pp)
theorem Uz(a:Txt K mg ca):Rm ⟨K,ca,tx K⟩ [8,9] "every":=(di (T:=⟨K,ca,tx K⟩) (c:=8) a.om a.Ln (di (T:=⟨K,ca,tx K⟩) (c:=9) a.Hb a.Pl Pp))
theorem Py(a:Txt K mg ca):Rm ⟨K,ca,tx K⟩ [8,9] "last_look":=(di (T:=⟨K,ca,tx K⟩) (c:=8) a.om a.Tj (di (T:=⟨K,ca,tx K⟩) (c:=9) a.Hb a.Ri Pp))
theorem gH(a:Txt K mg ca):Rm ⟨K,ca,tx K⟩ [9] "gave":=(di (T:=⟨K,ca,tx K⟩) (c:=9) a.Hb a.Gm Pp)
theorem gz(a:Txt K mg ca):Rm ⟨K,ca,tx K⟩ [8,9] "known":=(di (T:=⟨K,ca,tx K⟩) (c:=8) a.om a.Kn (di (T:=⟨K,ca,tx K⟩) (c:=9) a.Hb a.ql Pp))
theorem fq(a:Txt K mg ca):Rm ⟨K,ca,tx K⟩ [9] "accounts":=(di (T:=⟨K,ca,tx K⟩) (c:=9) a.Hb a.uj Pp)
theorem DE(a:Txt K mg ca):Rm ⟨K,ca,tx K⟩ [9] "claims":=(di (T:=⟨K,ca,tx K⟩) (c:=9) a.Hb a.xk Pp)
theorem BF(a:Txt K mg ca):Rm ⟨K,ca,tx K⟩ [9] "seen":=(di (T:=⟨K,ca,tx K⟩) (c:=9) a.Hb a.Cm Pp)
theorem AD(a:Txt K mg ca):Rm ⟨K,ca,tx K⟩ [9] "asked":=(di (T:=⟨K,ca,tx K⟩) (c:=9) a.Hb a.Nl Pp)
theorem X6(a:Txt K mg ca):Rm ⟨K,ca,tx K⟩ [9] "finishing":=(di (T:=⟨K,ca,tx K⟩) (c:=9) a.Hb a.bj Pp)
noncomputable abbrev eZ:Stmt:=sg (top 89) 2
noncomputable abbrev wH:Ev->M Fl:=(Lr (eC (.bl true)) (Wc (yc [8,9] "known") (ia 0)) (ia 2))
noncomputable def kG:Ev->M Fl:=
 (vt (qj (ia 1)) (Ye 2) wH)
noncomputable def Hc:List D->M D:=hide (run 3 kG)
theorem TM:Aa ["self", "words", "word"] ["self", "words"] (Kc eZ):=Be rfl rfl rfl (by decide +kernel)
theorem Q0(a:Txt K mg ca):De ⟨K,ca,tx K⟩ P w mg base 1 (ca 22) ["self", "words"] Hc:=
 De.hide (jl a.Hc TM λ_ _ _ _ _ _ b=>
  (Bc (Bv jr rfl (ap rfl (ka 1)) (Li (i:=2) TM.nd rfl (Or.inl rfl)) (Bc (Qt (Jd b) jt (ge rfl (gz a) (ka 0)) (ka 2))))))
theorem P2(a:Txt K mg ca):Dk ⟨K,ca,tx K⟩ P w mg base 1 "learn" ["self", "words"] [(9,Hc)]:=(sj (T:=⟨K,ca,tx K⟩) (c:=9) a.Hb a.Il (Q0 a) (by decide) rm)
theorem Fo(a:Txt K mg ca):Rm ⟨K,ca,tx K⟩ [4,5,6,7] "pot":=(di (T:=⟨K,ca,tx K⟩) (c:=4) a.Gf a.Xm (di (T:=⟨K,ca,tx K⟩) (c:=5) a.Xf a.Mp (di (T:=⟨K,ca,tx K⟩) (c:=6) a.Gd a.Vm (di (T:=⟨K,ca,tx K⟩) (c:=7) a.ie a.Mm Pp))))
noncomputable abbrev M6:Stmt:=sg (top 89) 1
noncomputable def CP:Ev->M Fl:=
 (Nb (Lr (ia 1) (Wc (yc [9] "accounts") (ia 0)) (Wc (yc [4,5,6,7] "pot") (ia 1))) (Nb (Lr (ia 2) (Wc (yc [9] "claims") (ia 0)) (Wc (yc [4,5,6,7] "pot") (ia 1))) (Lr (ia 3) (Wc (yc [9] "seen") (ia 0)) (Wc (yc [4,5,6,7] "pot") (ia 1)))))
noncomputable def Pc:List D->M D:=hide (run 4 CP)
theorem i0:Aa ["self", "account", "claim", "seen"] ["self", "account", "claim", "seen"] (Kc M6):=Be rfl rfl rfl (by decide +kernel)
theorem sV(a:Txt K mg ca):De ⟨K,ca,tx K⟩ P w mg base 1 (ca 21) ["self", "account", "claim", "seen"] Pc:=
 De.hide (jl a.Pc i0 λ_ _ _ _ _ _ b=>
  (Yb (Qt (Jd b) (ka 1) (ge rfl (fq a) (ka 0)) (ge rfl (Fo a) (ka 1)))
  (Yb (Qt (Jd b) (ka 2) (ge rfl (DE a) (ka 0)) (ge rfl (Fo a) (ka 1)))
  (Bc (Qt (Jd b) (ka 3) (ge rfl (BF a) (ka 0)) (ge rfl (Fo a) (ka 1)))))))
theorem t6(a:Txt K mg ca):Dk ⟨K,ca,tx K⟩ P w mg base 1 "hold" ["self", "account", "claim", "seen"] [(9,Pc)]:=(sj (T:=⟨K,ca,tx K⟩) (c:=9) a.Hb a.Jm (sV a) (by decide) rm)
noncomputable abbrev TX:Stmt:=top 11
noncomputable def yP:Ev->M Fl:=
 (zd (qd 3 Xb [] (qa (ia 0) (qa (eC (.int 0)) (qa (eC (.int 1000000)) Oa)))))
noncomputable def Dh:List D->M D:=hide λa=>db (run 1 yP a)
theorem bX:Aa ["thing"] ["thing"] (Kc TX):=Be rfl rfl rfl (by decide +kernel)
theorem E2(a:Txt K mg ca):Pb ⟨K,ca,tx K⟩ P w mg base 3 "is_day" ["thing"] Dh:=
 Pb.hide (Pb.db (Ig a.Dh bX λ_ _ _ _ _ _ _ b=>
  (Bc (Bd (Vd (Nv a) rfl (b.mono (by decide)) rfl (ya (ka 0) (ya Ra (ya (av (u:=.int 1000000 (a.Zm).choose) rfl (a.Zm).choose_spec ⟨_,rfl⟩) Va))))))))
noncomputable abbrev K7:Stmt:=top 10
noncomputable def XJ:Ev->M Fl:=
 (zd (qd 3 Xb [] (qa (ia 0) (qa (eC (.int 0)) (qa (eC (.int 59)) Oa)))))
noncomputable def Pg:List D->M D:=hide λa=>db (run 1 XJ a)
theorem nY:Aa ["thing"] ["thing"] (Kc K7):=Be rfl rfl rfl (by decide +kernel)
theorem L6(a:Txt K mg ca):Pb ⟨K,ca,tx K⟩ P w mg base 3 "is_word" ["thing"] Pg:=
 Pb.hide (Pb.db (Ig a.Pg nY λ_ _ _ _ _ _ _ b=>
  (Bc (Bd (Vd (Nv a) rfl (b.mono (by decide)) rfl (ya (ka 0) (ya Ra (ya (av (u:=.int 59 (a.Tk).choose) rfl (a.Tk).choose_spec ⟨_,rfl⟩) Va))))))))
noncomputable abbrev SU:Stmt:=top 13
noncomputable def wK:Ev->M Fl:=
 (zd (qd 3 Xb [] (qa (ia 0) (qa (eC (.int 1)) (qa (eC (.int 1000000000000)) Oa)))))
noncomputable def Of:List D->M D:=hide λa=>db (run 1 wK a)
theorem jV:Aa ["thing"] ["thing"] (Kc SU):=Be rfl rfl rfl (by decide +kernel)
theorem U6(a:Txt K mg ca):Pb ⟨K,ca,tx K⟩ P w mg base 3 "is_amount" ["thing"] Of:=
 Pb.hide (Pb.db (Ig a.Of jV λ_ _ _ _ _ _ _ b=>
  (Bc (Bd (Vd (Nv a) rfl (b.mono (by decide)) rfl (ya (ka 0) (ya Ra (ya (av (u:=.int 1000000000000 (a.gj).choose) rfl (a.gj).choose_spec ⟨_,rfl⟩) Va))))))))
noncomputable abbrev Z2:Stmt:=top 9
noncomputable def FP:Ev->M Fl:=
 (zd (qd 3 Xb [] (qa (ia 0) (qa (eC (.int 0)) (qa (eC (.int 1)) Oa)))))
noncomputable def kg:List D->M D:=hide λa=>db (run 1 FP a)
theorem QS:Aa ["thing"] ["thing"] (Kc Z2):=Be rfl rfl rfl (by decide +kernel)
theorem RO(a:Txt K mg ca):Pb ⟨K,ca,tx K⟩ P w mg base 3 "is_side" ["thing"] kg:=
 Pb.hide (Pb.db (Ig a.kg QS λ_ _ _ _ _ _ _ b=>
  (Bc (Bd (Vd (Nv a) rfl (b.mono (by decide)) rfl (ya (ka 0) (ya Ra (ya Ra Va))))))))
noncomputable abbrev A5:Stmt:=top 24
noncomputable def AQ:Ev->M Fl:=
 (zd (Ci (Wc (Jn .tuple) (ia 0)) (Ci (Fa oEq (Bh qk (qa (ia 0) Oa)) (eC (.int 4))) (Ci (qd 1 kg [] (qa (Fa Ta (ia 0) (eC (.int 0))) Oa)) (Ci (qd 1 Of [] (qa (Fa Ta (ia 0) (eC (.int 1))) Oa)) (Ci (qd 1 Pg [] (qa (Fa Ta (ia 0) (eC (.int 2))) Oa)) (qd 1 Dh [] (qa (Fa Ta (ia 0) (eC (.int 3))) Oa))))))))
noncomputable def xf:List D->M D:=hide λa=>db (run 1 AQ a)
theorem JZ:Aa ["thing"] ["thing"] (Kc A5):=Be rfl rfl rfl (by decide +kernel)
theorem pJ(a:Txt K mg ca):Pb ⟨K,ca,tx K⟩ P w mg base 4 "is_tie" ["thing"] xf:=
 Pb.hide (Pb.db (Ig a.xf JZ λ_ _ _ _ _ _ _ b=>
  (Bc (Bd (Xi (At .tuple (ka 0) rfl a.Tc rfl a.Th Yh) (Xi (gk (Jg (Jd b)) Fd (Hm Cq (Gq rfl) rfl a.Fg Mb (ya (ka 0) Va)) Ra (se _)) (Xi (Vd (RO a) rfl (b.mono (by decide)) rfl (ya (gc ec (ic rfl) (ka 0) Ra (λ_ _=>rfl)) Va)) (Xi (Vd (U6 a) rfl (b.mono (by decide)) rfl (ya (gc ec (ic rfl) (ka 0) Ra (λ_ _=>rfl)) Va)) (Xi (Vd (L6 a) rfl (b.mono (by decide)) rfl (ya (gc ec (ic rfl) (ka 0) Ra (λ_ _=>rfl)) Va)) (on (Vd (E2 a) rfl (b.mono (by decide)) rfl (ya (gc ec (ic rfl) (ka 0) Ra (λ_ _=>rfl)) Va))))))))))))
noncomputable abbrev KY:Stmt:=top 26
noncomputable def JM:Ev->M Fl:=
 (Nb (Bf (Ko (Vk (eT (Wc (Jn .tuple) (ia 0)))) (eT (Fa Fz (Bh qk (qa (ia 0) Oa)) (eC (.int 6))))) Ak Mf) (Nb (Bf (Vk (eT (Bh Hx (qa (mi (rn (toN (qj (ia 0))) [] (Ye 0) eo (qd 1 xf [] (qa (ia 0) Oa)))) Oa)))) Ak Mf) (zd (Fa oEq (Wc UA (mi (rn (toN (qj (ia 0))) [] (Ye 0) eo (Fa Ta (ia 0) (eC (.int 2)))))) (Bh qk (qa (ia 0) Oa))))))
noncomputable def gg:List D->M D:=hide λa=>db (run 1 JM a)
theorem xZ:Aa ["thing"] ["thing"] (Kc KY):=Be rfl rfl rfl (by decide +kernel)
theorem GZ(a:Txt K mg ca):Pb ⟨K,ca,tx K⟩ P w mg base 5 "are_ties" ["thing"] gg:=
 Pb.hide (Pb.db (Ig a.gg xZ λ_ _ _ _ _ _ _ b=>
  (Yb (Lf (L2.PW.pt (Np (im (Fj (At .tuple (ka 0) rfl a.Tc rfl a.Th Yh))) (zr (Ef BE YC (Hm Cq (Gq rfl) rfl a.Fg Mb (ya (ka 0) Va)) (av (u:=.int 6 (a.Yk).choose) rfl (a.Yk).choose_spec ⟨_,rfl⟩) (se _))))) Wk Vf)
  (Yb (Lf (im (Fj (Hm (bN rfl) (wJ rfl) rfl a.zw boot_all (ya (mn (Ct (x:="tie") (z0:="0") (M':=[]) (ix:=[]) rfl ⟨rfl,rfl,rfl,rfl,rfl,rfl⟩ (Jt (ap rfl (ka 0))) (λ_ _ _ _ _=>Li (i:=0) (by show List.Nodup (("tie"::"0"::[]):List Str);decide +kernel) rfl (Or.inl rfl)) (λ_ _ _ _ _=>Au) (λ_ _ _ _ _=>(Vd (pJ a) rfl (b.mono (by decide)) rfl (ya (ka 0) Va))))) Va)))) Wk Vf)
  (Bc (Bd (gk (Jg (Jd b)) Fd (V4 rfl rfl rfl a.Fg rfl a.zA (mn (Ct (x:="tie") (z0:="0") (M':=[]) (ix:=[]) rfl ⟨rfl,rfl,rfl,rfl,rfl,rfl⟩ (Jt (ap rfl (ka 0))) (λ_ _ _ _ _=>Li (i:=0) (by show List.Nodup (("tie"::"0"::[]):List Str);decide +kernel) rfl (Or.inl rfl)) (λ_ _ _ _ _=>Au) (λ_ _ _ _ _=>(gc ec (ic rfl) (ka 0) Ra (λ_ _=>rfl)))))) (Hm Cq (Gq rfl) rfl a.Fg Mb (ya (ka 0) Va)) (se _))))))))
noncomputable abbrev KR:Stmt:=top 25
noncomputable def gM:Ev->M Fl:=
 (zd (Ci (Wc (Jn .tuple) (ia 0)) (Ci (Fa oEq (Bh qk (qa (ia 0) Oa)) (eC (.int 2))) (Ci (qd 3 Xb [] (qa (Fa Ta (ia 0) (eC (.int 0))) (qa (eC (.int 0)) (qa (eC (.int 2000000000000)) Oa)))) (qd 3 Xb [] (qa (Fa Ta (ia 0) (eC (.int 1))) (qa (eC (.int 0)) (qa (eC (.int 2000000000000)) Oa))))))))
noncomputable def jf:List D->M D:=hide λa=>db (run 1 gM a)
theorem N4:Aa ["thing"] ["thing"] (Kc KR):=Be rfl rfl rfl (by decide +kernel)
theorem JT(a:Txt K mg ca):Pb ⟨K,ca,tx K⟩ P w mg base 3 "are_shares" ["thing"] jf:=
 Pb.hide (Pb.db (Ig a.jf N4 λ_ _ _ _ _ _ _ b=>
  (Bc (Bd (Xi (At .tuple (ka 0) rfl a.Tc rfl a.Th Yh) (Xi (gk (Jg (Jd b)) Fd (Hm Cq (Gq rfl) rfl a.Fg Mb (ya (ka 0) Va)) Ra (se _)) (Xi (Vd (Nv a) rfl (b.mono (by decide)) rfl (ya (gc ec (ic rfl) (ka 0) Ra (λ_ _=>rfl)) (ya Ra (ya (av (u:=.int 2000000000000 (a.Lg).choose) rfl (a.Lg).choose_spec ⟨_,rfl⟩) Va)))) (on (Vd (Nv a) rfl (b.mono (by decide)) rfl (ya (gc ec (ic rfl) (ka 0) Ra (λ_ _=>rfl)) (ya Ra (ya (av (u:=.int 2000000000000 (a.Lg).choose) rfl (a.Lg).choose_spec ⟨_,rfl⟩) Va))))))))))))
noncomputable abbrev GR:Stmt:=top 12
noncomputable def UM:Ev->M Fl:=
 (zd (qd 3 Xb [] (qa (ia 0) (qa (eC (.int 0)) (qa (eC (.int 1000000)) Oa)))))
noncomputable def We:List D->M D:=hide λa=>db (run 1 UM a)
theorem nV:Aa ["thing"] ["thing"] (Kc GR):=Be rfl rfl rfl (by decide +kernel)
theorem wP(a:Txt K mg ca):Pb ⟨K,ca,tx K⟩ P w mg base 3 "is_number" ["thing"] We:=
 Pb.hide (Pb.db (Ig a.We nV λ_ _ _ _ _ _ _ b=>
  (Bc (Bd (Vd (Nv a) rfl (b.mono (by decide)) rfl (ya (ka 0) (ya Ra (ya (av (u:=.int 1000000 (a.fj).choose) rfl (a.fj).choose_spec ⟨_,rfl⟩) Va))))))))
noncomputable abbrev vY:Stmt:=top 27
noncomputable def EK:Ev->M Fl:=
 (zd (Ci (Wc (Jn .tuple) (ia 0)) (Ci (Fa oEq (Bh qk (qa (ia 0) Oa)) (eC (.int 3))) (Ci (qd 1 We [] (qa (Fa Ta (ia 0) (eC (.int 0))) Oa)) (Ci (qd 1 jf [] (qa (Fa Ta (ia 0) (eC (.int 1))) Oa)) (qd 1 gg [] (qa (Fa Ta (ia 0) (eC (.int 2))) Oa)))))))
noncomputable def ud:List D->M D:=hide λa=>db (run 1 EK a)
theorem F2:Aa ["thing"] ["thing"] (Kc vY):=Be rfl rfl rfl (by decide +kernel)
theorem rC(a:Txt K mg ca):Pb ⟨K,ca,tx K⟩ P w mg base 6 "is_stand" ["thing"] ud:=
 Pb.hide (Pb.db (Ig a.ud F2 λ_ _ _ _ _ _ _ b=>
  (Bc (Bd (Xi (At .tuple (ka 0) rfl a.Tc rfl a.Th Yh) (Xi (gk (Jg (Jd b)) Fd (Hm Cq (Gq rfl) rfl a.Fg Mb (ya (ka 0) Va)) Ra (se _)) (Xi (Vd (wP a) rfl (b.mono (by decide)) rfl (ya (gc ec (ic rfl) (ka 0) Ra (λ_ _=>rfl)) Va)) (Xi (Vd (JT a) rfl (b.mono (by decide)) rfl (ya (gc ec (ic rfl) (ka 0) Ra (λ_ _=>rfl)) Va)) (on (Vd (GZ a) rfl (b.mono (by decide)) rfl (ya (gc ec (ic rfl) (ka 0) Ra (λ_ _=>rfl)) Va)))))))))))
noncomputable abbrev BD(x q:Str)(s:Stmt)(ps:List Str):Prop:=∀ (kV b c:Value) (an:Option Addr) (a ct:Value) (us:List Value),us.length=ps.length->bindArgs (W.fnOf x q (Gn s) (pj s) (Kc s) .none kV b c an a ct) ⟨us,[]⟩=pure (ps.zip us)
noncomputable abbrev Ww:Stmt:=top 28
noncomputable def vE:Ev->M Fl:=
 (Nb (Ue 3 (Zf (qa (ia 0) (qa (ia 1) (qa (Eu (eT (Fa ms (ia 2) (eC .zb))) (Zf Oa) (ia 2)) Oa))))) (Nb (Bf (Vk (eT (qd 1 ud [] (qa (ia 3) Oa)))) (sC 1 (qa (eC (.str "number, shares and ties make no stand")) Oa)) Mf) (zd (ia 3))))
noncomputable def Yf:List D->M D:=hide λa=>db (run 4 vE a)
theorem kL:Aa ["number", "shares", "ties", "made"] ["number", "shares", "ties"] (Kc Ww):=Be rfl rfl rfl (by decide +kernel)
theorem Z1(t:Addr)(kV b f:Value)(d:Option Addr)(a ct:Value)(s:aa)(o:vc)(n:Nat)(us:List Value)(h1:s.heap.get? t=some o)(e:o.data=.seq ([Eb]:List Value).toArray n) :
  ((us++[]).length=(["number", "shares", "ties"]:List Str).length->Tf s (W.fnOf "stand" "stand" (Gn Ww) (pj Ww) (Kc Ww) (.ref t) kV b f d a ct) ⟨us,[]⟩ ((["number", "shares", "ties"]:List Str).zip (us++[])))/\
  ((us++[Eb]).length=(["number", "shares", "ties"]:List Str).length->Tf s (W.fnOf "stand" "stand" (Gn Ww) (pj Ww) (Kc Ww) (.ref t) kV b f d a ct) ⟨us,[]⟩ ((["number", "shares", "ties"]:List Str).zip (us++[Eb]))):=
 ⟨λc=>match us,(show us.length=3 by simpa using c)with|[_,_,_],_=>Kg rfl h1 e rfl rfl,λc=>match us,(show us.length=2 by simpa using c)with|[_,_],_=>Kg rfl h1 e rfl rfl⟩
theorem kQ(a:Txt K mg ca):Os ⟨K,ca,tx K⟩ P w mg base 7 "stand" ["number", "shares", "ties"] [Eb] Yf:=
 Os.hide (Os.db (OY a.Yf kL λ_ _ _ _ _ _ _ b=>
  (Yb (sf (i:=3) kL.nd rfl (Or.inl rfl) (ug (ya (ka 0) (ya (ka 1) (ya (Sx (Ef bD mE (ka 2) yt (se _)) (ug Va) (ka 2)) Va)))))
  (Yb (Lf (im (Fj (Vd (rC a) rfl (b.mono (by decide)) rfl (ya (ka 3) Va)))) (Bc (lO 1 gn rfl a.qo a.Fk rfl rfl (ya Rf Va))) Vf)
  (Bc (Bd (ka 3)))))))
noncomputable abbrev lY:Stmt:=top 29
noncomputable def NP:Ev->M Fl:=
 (zd (qd 3 Yf [.zb] (qa (eC (.int 0)) (qa (Zf (qa (ia 0) (qa (ia 1) Oa))) Oa))))
noncomputable def Pi:List D->M D:=hide λa=>db (run 2 NP a)
theorem mY:Aa ["left", "right"] ["left", "right"] (Kc lY):=Be rfl rfl rfl (by decide +kernel)
theorem GV(a:Txt K mg ca):Pb ⟨K,ca,tx K⟩ P w mg base 8 "first" ["left", "right"] Pi:=
 Pb.hide (Pb.db (Ig a.Pi mY λ_ _ _ _ _ _ _ b=>
  (Bc (Bd (dX (kQ a) rfl (b.mono (by decide)) rfl Q5 YX (ya Ra (ya (ug (ya (ka 0) (ya (ka 1) Va))) Va)))))))
theorem Yt(a:Txt K mg ca):Rm ⟨K,ca,tx K⟩ [4,5,6,7] "side":=(di (T:=⟨K,ca,tx K⟩) (c:=4) a.Gf a.xl (di (T:=⟨K,ca,tx K⟩) (c:=5) a.Xf a.Po (di (T:=⟨K,ca,tx K⟩) (c:=6) a.Gd a.Tl (di (T:=⟨K,ca,tx K⟩) (c:=7) a.ie a.Sl Pp))))
theorem fr(a:Txt K mg ca):Rm ⟨K,ca,tx K⟩ [4,5,6,7] "mine":=(di (T:=⟨K,ca,tx K⟩) (c:=4) a.Gf a.Jl (di (T:=⟨K,ca,tx K⟩) (c:=5) a.Xf a.No (di (T:=⟨K,ca,tx K⟩) (c:=6) a.Gd a.Zl (di (T:=⟨K,ca,tx K⟩) (c:=7) a.ie a.Wl Pp))))
theorem KI(a:Txt K mg ca):Rm ⟨K,ca,tx K⟩ [4,5,6,7] "grant":=(di (T:=⟨K,ca,tx K⟩) (c:=4) a.Gf a.Bk (di (T:=⟨K,ca,tx K⟩) (c:=5) a.Xf a.Fn (di (T:=⟨K,ca,tx K⟩) (c:=6) a.Gd a.Hk (di (T:=⟨K,ca,tx K⟩) (c:=7) a.ie a.Gk Pp))))
theorem Dz(a:Txt K mg ca):Rm ⟨K,ca,tx K⟩ [4,5,6,7] "may":=(di (T:=⟨K,ca,tx K⟩) (c:=4) a.Gf a.Em (di (T:=⟨K,ca,tx K⟩) (c:=5) a.Xf a.Rp (di (T:=⟨K,ca,tx K⟩) (c:=6) a.Gd a.Um (di (T:=⟨K,ca,tx K⟩) (c:=7) a.ie a.Pm Pp))))
theorem dA(a:Txt K mg ca):Rm ⟨K,ca,tx K⟩ [4,5,6,7] "strikes":=(di (T:=⟨K,ca,tx K⟩) (c:=4) a.Gf a.rj (di (T:=⟨K,ca,tx K⟩) (c:=5) a.Xf a.Ml (di (T:=⟨K,ca,tx K⟩) (c:=6) a.Gd a.oj (di (T:=⟨K,ca,tx K⟩) (c:=7) a.ie a.wj Pp))))
noncomputable abbrev iY:Stmt:=sg (top 52) 0
noncomputable def OO:Ev->M Fl:=
 (Nb (lm [4,5,6,7] "pot" (ia 1) (ia 0)) (Nb (lm [4,5,6,7] "side" (ia 2) (ia 0)) (Nb (lm [4,5,6,7] "mine" (ia 3) (ia 0)) (Nb (lm [4,5,6,7] "grant" (ia 4) (ia 0)) (Nb (lm [4,5,6,7] "may" (mi (Bh cr (qa (ia 5) Oa))) (ia 0)) (lm [4,5,6,7] "strikes" (mi (Bh cr (qa (ia 6) Oa))) (ia 0)))))))
noncomputable def Ui:List D->M D:=hide (run 7 OO)
theorem R6:Aa ["self", "pot", "side", "mine", "grant", "may", "strikes"] ["self", "pot", "side", "mine", "grant", "may", "strikes"] (Kc iY):=Be rfl rfl rfl (by decide +kernel)
theorem QA(a:Txt K mg ca):De ⟨K,ca,tx K⟩ P w mg base 1 (ca 10) ["self", "pot", "side", "mine", "grant", "may", "strikes"] Ui:=
 De.hide (jl a.Ui R6 λ_ _ _ _ _ _ b=>
  (Yb (uo rfl (Fo a) (ka 0) (ka 1))
  (Yb (uo rfl (Yt a) (ka 0) (ka 2))
  (Yb (uo rfl (fr a) (ka 0) (ka 3))
  (Yb (uo rfl (KI a) (ka 0) (ka 4))
  (Yb (uo rfl (Dz a) (ka 0) (mn (Gw sD (WB rfl) rfl a.Co Ws (ya (ka 5) Va))))
  (Bc (uo rfl (dA a) (ka 0) (mn (Gw sD (WB rfl) rfl a.Co Ws (ya (ka 6) Va)))))))))))
noncomputable abbrev v7:Stmt:=top 56
noncomputable def FL:Ev->M Fl:=
 (Nb (Ue 4 (qd 2 Pi [] (qa (ia 2) (qa (ia 3) Oa)))) (zd (mi (Qr 5 7 Ui (qa (ia 0) (qa (ia 1) (qa (ia 4) (qa (eC .zb) (qa (ij (qa (ia 4) Oa)) (qa (ij Oa) Oa))))))))))
noncomputable def Xd:List D->M D:=hide λa=>db (run 5 FL a)
theorem mQ:Aa ["pot", "side", "left", "right", "mine"] ["pot", "side", "left", "right"] (Kc v7):=Be rfl rfl rfl (by decide +kernel)
theorem qT(a:Txt K mg ca):Pb ⟨K,ca,tx K⟩ P w mg base 9 "first_account" ["pot", "side", "left", "right"] Xd:=
 Pb.hide (Pb.db (Ig a.Xd mQ λ_ _ _ _ _ _ _ b=>
  (Yb (sf (i:=4) mQ.nd rfl (Or.inl rfl) (Vd (GV a) rfl (b.mono (by decide)) rfl (ya (ka 2) (ya (ka 3) Va))))
  (Bc (Bd (mn (az (c:=5) (ps:=["self", "pot", "side", "mine", "grant", "may", "strikes"]) ⟨_,a.vq,a.So,QA a⟩ rfl (b.mono (by decide)) rfl (ya (ka 0) (ya (ka 1) (ya (ka 4) (ya yt (ya (rk (ya (ka 4) Va)) (ya (rk Va) Va)))))))))))))
noncomputable abbrev sx:Stmt:=sg (top 89) 0
noncomputable abbrev sB:Ev->M Fl:=(Bf (eT (Fa oEq (Fa Ta (ia 6) (ia 7)) (ia 1))) (xq (oh [(9,Pc)] 4 "hold" (ia 0) (qa (qd 4 Xd [] (qa (ia 5) (qa (ia 7) (qa (Fa Ta (ia 6) (eC (.int 2))) (qa (Fa Ta (ia 6) (eC (.int 3))) Oa))))) (qa (eC (.gt ["held"])) (qa (eC (.Db [] [])) Oa))))) Mf)
noncomputable abbrev WD:Ev->M Fl:=(vt (qj (Zf (qa (eC (.int 0)) (qa (eC (.int 1)) Oa)))) (Ye 7) sB)
noncomputable def BK:Ev->M Fl:=
 (Nb (xq (qd 3 gf [] (qa (ia 1) (qa (ia 2) (qa (ia 3) Oa))))) (Nb (lm [9] "hand" (ia 1) (ia 0)) (Nb (lm [8,9] "every" (ia 2) (ia 0)) (Nb (lm [8,9] "last_look" (eC (.int 0)) (ia 0)) (Nb (lm [9] "gave" (eC (.int 0)) (ia 0)) (Nb (lm [8,9] "known" Hs (ia 0)) (Nb (lm [9] "accounts" Hs (ia 0)) (Nb (lm [9] "claims" Hs (ia 0)) (Nb (lm [9] "seen" Hs (ia 0)) (Nb (lm [9] "asked" Hs (ia 0)) (Nb (lm [9] "finishing" Hs (ia 0)) (Nb (xq (oh [(9,Hc)] 2 "learn" (ia 0) (qa (Eu (eT (Fa ms (ia 4) (eC .zb))) (ij Oa) (ia 4)) Oa))) (Wq (iI (ia 3)) (zq 2 (uk (Ye 5) (uk (Ye 6) Xq))) WD)))))))))))))
noncomputable def Op:List D->M D:=hide (run 8 BK)
theorem HC:Aa ["self", "hand", "every", "pots", "words", "pot", "made", "side"] ["self", "hand", "every", "pots", "words"] (Kc sx):=Be rfl rfl rfl (by decide +kernel)
theorem tW(t:Addr)(kV b f:Value)(d:Option Addr)(a ct:Value)(s:aa)(o:vc)(n:Nat)(us:List Value)(h1:s.heap.get? t=some o)(e:o.data=.seq ([Eb]:List Value).toArray n) :
  ((us++[]).length=(["self", "hand", "every", "pots", "words"]:List Str).length->Tf s (W.fnOf "__init__" "Keeper.__init__" (Gn sx) (pj sx) (Kc sx) (.ref t) kV b f d a ct) ⟨us,[]⟩ ((["self", "hand", "every", "pots", "words"]:List Str).zip (us++[])))/\
  ((us++[Eb]).length=(["self", "hand", "every", "pots", "words"]:List Str).length->Tf s (W.fnOf "__init__" "Keeper.__init__" (Gn sx) (pj sx) (Kc sx) (.ref t) kV b f d a ct) ⟨us,[]⟩ ((["self", "hand", "every", "pots", "words"]:List Str).zip (us++[Eb]))):=
 ⟨λc=>match us,(show us.length=5 by simpa using c)with|[_,_,_,_,_],_=>Kg rfl h1 e rfl rfl,λc=>match us,(show us.length=4 by simpa using c)with|[_,_,_,_],_=>Kg rfl h1 e rfl rfl⟩
theorem GT(a:Txt K mg ca):Bu ⟨K,ca,tx K⟩ P w mg base 10 (ca 20) ["self", "hand", "every", "pots", "words"] [Eb] Op:=
 Bu.hide (A0 a.Op HC λ_ _ _ _ _ _ b=>
  (Yb (Mr (Vd (NU a) rfl (b.mono (by decide)) rfl (ya (ka 1) (ya (ka 2) (ya (ka 3) Va)))))
  (Yb (uo rfl (Y1 a) (ka 0) (ka 1))
  (Yb (uo rfl (Uz a) (ka 0) (ka 2))
  (Yb (uo rfl (Py a) (ka 0) Ra)
  (Yb (uo rfl (gH a) (ka 0) Ra)
  (Yb (uo rfl (gz a) (ka 0) Rv)
  (Yb (uo rfl (fq a) (ka 0) Rv)
  (Yb (uo rfl (DE a) (ka 0) Rv)
  (Yb (uo rfl (BF a) (ka 0) Rv)
  (Yb (uo rfl (AD a) (ka 0) Rv)
  (Yb (uo rfl (X6 a) (ka 0) Rv)
  (Yb (Mr (Cj (k:=1) (ps:=["self", "words"]) rfl (ka 0) (P2 a) (b.mono (by decide)) (ya (Sx (Ef bD mE (ka 4) yt (se _)) (rk Va) (ka 4)) Va)))
  (Bc (eB jr rfl (QW rfl a.Vp (ka 3)) (Dx rfl (Zq (Li (i:=5) HC.nd rfl (Or.inl rfl)) (Zq (Li (i:=6) HC.nd rfl (Or.inl rfl)) fx))) (Bc (Bv jr rfl (ap rfl (ug (ya Ra (ya Ra Va)))) (Li (i:=7) HC.nd rfl (Or.inl rfl)) (Bc (Lf (Ef (Jg (Jd b)) Fd (gc ec (ic rfl) (ka 6) (ka 7) (λ_ _=>rfl)) (ka 1) (se _)) (Bc (Mr (Cj (k:=1) (ps:=["self", "account", "claim", "seen"]) rfl (ka 0) (t6 a) (b.mono (by decide)) (ya (Vd (qT a) rfl (b.mono (by decide)) rfl (ya (ka 5) (ya (ka 7) (ya (gc ec (ic rfl) (ka 6) Ra (λ_ _=>rfl)) (ya (gc ec (ic rfl) (ka 6) Ra (λ_ _=>rfl)) Va))))) (ya (YP (ss:=["held"]) rfl a.Nt) (ya O0 Va)))))) Vf)))))))))))))))))))
noncomputable abbrev NW:Stmt:=top 93
noncomputable abbrev rB:Ev->M Fl:=(Nb (Ue 4 (Zf (qa (eC (.int 1)) (qa (Fa nh (eC (.int 2)) (ia 3)) Oa)))) (Nb (Bf (eT (Fa oEq (Fa Ta (ia 0) (ia 3)) (eC (.int 1)))) (Ue 4 (Zf (qa (Fa nh (eC (.int 2)) (ia 3)) (qa (eC (.int 1)) Oa)))) Mf) (xq (Mx il (ia 2) (qa (Fa nh (Fa nh (ia 4) (ia 1)) (Zf (qa (eC (.int 20)) Oa))) Oa)))))
noncomputable def dM:Ev->M Fl:=
 (Nb (Ue 2 (vw Oa)) (Nb (vt (Yy (eC (.int 2))) (Ye 3) rB) (zd (ia 2))))
noncomputable def Kf:List D->M D:=hide λa=>db (run 5 dM a)
theorem RA:Aa ["_law_sides", "_law_coins", "_law_pots_here", "_law_k", "_law_hands"] ["_law_sides", "_law_coins"] (Kc NW):=Be rfl rfl rfl (by decide +kernel)
theorem rR(a:Txt K mg ca):Pb ⟨K,ca,tx K⟩ P w mg base 1 "_law_pots" ["_law_sides", "_law_coins"] Kf:=
 Pb.hide (Pb.db (Ig a.Kf RA λ_ _ _ _ _ _ _ b=>
  (Yb (sf (i:=2) RA.nd rfl (Or.inl rfl) (xy Va))
  (Yb (Bv jr rfl (YO rfl a.pr Ra) (Li (i:=3) RA.nd rfl (Or.inl rfl)) (Yb (sf (i:=4) RA.nd rfl (Or.inl rfl) (ug (ya Ra (ya (Df (Aj rfl) Fd Ra (ka 3)) Va))))
  (Yb (Lf (Ef (Jg (Jd b)) Fd (gc ec (ic rfl) (ka 0) (ka 3) (λ_ _=>rfl)) Ra (se _)) (Bc (sf (i:=4) RA.nd rfl (Or.inl rfl) (ug (ya (Df (Aj rfl) Fd Ra (ka 3)) (ya Ra Va))))) Vf)
  (Bc (Mr (VA ze zf Af nB YA (ka 2) (ya (Df (Aj rfl) Fd (Df (Aj rfl) Fd (ka 4) (ka 1)) (ug (ya Ra Va))) Va)))))))
  (Bc (Bd (ka 2)))))))
noncomputable abbrev BS:Stmt:=top 14
noncomputable def NK:Ev->M Fl:=
 (zd (qd 3 Xb [] (qa (ia 0) (qa (eC (.int 0)) (qa (eC (.int 2)) Oa)))))
noncomputable def Yg:List D->M D:=hide λa=>db (run 1 NK a)
theorem oY:Aa ["thing"] ["thing"] (Kc BS):=Be rfl rfl rfl (by decide +kernel)
theorem MJ(a:Txt K mg ca):Pb ⟨K,ca,tx K⟩ P w mg base 3 "is_pot" ["thing"] Yg:=
 Pb.hide (Pb.db (Ig a.Yg oY λ_ _ _ _ _ _ _ b=>
  (Bc (Bd (Vd (Nv a) rfl (b.mono (by decide)) rfl (ya (ka 0) (ya Ra (ya (av (u:=.int 2 (a.cn).choose) rfl (a.cn).choose_spec ⟨_,rfl⟩) Va))))))))
noncomputable abbrev VS:Stmt:=top 43
noncomputable def AJ:Ev->M Fl:=
 (zd (Ci (Fa oEq (Bh qk (qa (ia 0) Oa)) (eC (.int 4))) (Ci (qd 1 Yg [] (qa (Fa Ta (ia 0) (eC (.int 1))) Oa)) (qd 1 kg [] (qa (Fa Ta (ia 0) (eC (.int 2))) Oa)))))
noncomputable def Md:List D->M D:=hide λa=>db (run 1 AJ a)
theorem x6:Aa ["thing"] ["thing"] (Kc VS):=Be rfl rfl rfl (by decide +kernel)
theorem FM(a:Txt K mg ca):Pb ⟨K,ca,tx K⟩ P w mg base 4 "is_of_a_side" ["thing"] Md:=
 Pb.hide (Pb.db (Ig a.Md x6 λ_ _ _ _ _ _ _ b=>
  (Bc (Bd (Xi (gk (Jg (Jd b)) Fd (Hm Cq (Gq rfl) rfl a.Fg Mb (ya (ka 0) Va)) Ra (se _)) (Xi (Vd (MJ a) rfl (b.mono (by decide)) rfl (ya (gc ec (ic rfl) (ka 0) Ra (λ_ _=>rfl)) Va)) (on (Vd (RO a) rfl (b.mono (by decide)) rfl (ya (gc ec (ic rfl) (ka 0) Ra (λ_ _=>rfl)) Va)))))))))
noncomputable abbrev U1:Stmt:=top 44
noncomputable def tH:Ev->M Fl:=
 (Nb (Bf (Ko (Vk (eT (Wc (Jn .tuple) (ia 0)))) (Ko (eT (Fa oEq (Bh qk (qa (ia 0) Oa)) (eC (.int 0)))) (Vk (eT (Wc (Jn .str) (Fa Ta (ia 0) (eC (.int 0)))))))) Ak Mf) (Nb (Bf (eT (Fa oEq (Fa Ta (ia 0) (eC (.int 0))) (eC (.str "word")))) Ak Mf) (Nb (Bf (eT (Fa oEq (Fa Ta (ia 0) (eC (.int 0))) (eC (.str "strike")))) (zd (Ci (qd 1 Md [] (qa (ia 0) Oa)) (qd 1 We [] (qa (Fa Ta (ia 0) (eC (.int 3))) Oa)))) Mf) (Nb (Bf (eT (Fa oEq (Fa Ta (ia 0) (eC (.int 0))) (eC (.str "agree")))) (zd (Ci (qd 1 Md [] (qa (ia 0) Oa)) (qd 1 ud [] (qa (Fa Ta (ia 0) (eC (.int 3))) Oa)))) Mf) (zd (eC (.bl false)))))))
noncomputable def Fe:List D->M D:=hide λa=>db (run 1 tH a)
theorem m3:Aa ["thing"] ["thing"] (Kc U1):=Be rfl rfl rfl (by decide +kernel)
theorem dL(a:Txt K mg ca):Pb ⟨K,ca,tx K⟩ P w mg base 7 "is_thing" ["thing"] Fe:=
 Pb.hide (Pb.db (Ig a.Fe m3 λ_ _ _ _ _ _ _ b=>
  (Yb (Lf (L2.PW.pt (Np (im (Fj (At .tuple (ka 0) rfl a.Tc rfl a.Th Yh))) (Np (Ef (Jg (Jd b)) Fd (Hm Cq (Gq rfl) rfl a.Fg Mb (ya (ka 0) Va)) Ra (se _)) (zr (im (Fj (At .str (gc ec (ic rfl) (ka 0) Ra (λ_ _=>rfl)) rfl a.Tc rfl a.Ew boot_str))))))) Wk Vf)
  (Yb (Lf (Ef (Jg (Jd b)) Fd (gc ec (ic rfl) (ka 0) Ra (λ_ _=>rfl)) Rf (se _)) Wk Vf)
  (Yb (Lf (Ef (Jg (Jd b)) Fd (gc ec (ic rfl) (ka 0) Ra (λ_ _=>rfl)) Rf (se _)) (Bc (Bd (Xi (Vd (FM a) rfl (b.mono (by decide)) rfl (ya (ka 0) Va)) (on (Vd (wP a) rfl (b.mono (by decide)) rfl (ya (gc ec (ic rfl) (ka 0) Ra (λ_ _=>rfl)) Va)))))) Vf)
  (Yb (Lf (Ef (Jg (Jd b)) Fd (gc ec (ic rfl) (ka 0) Ra (λ_ _=>rfl)) Rf (se _)) (Bc (Bd (Xi (Vd (FM a) rfl (b.mono (by decide)) rfl (ya (ka 0) Va)) (on (Vd (rC a) rfl (b.mono (by decide)) rfl (ya (gc ec (ic rfl) (ka 0) Ra (λ_ _=>rfl)) Va)))))) Vf)
  (Bc (Bd jt))))))))
noncomputable abbrev V2:Stmt:=top 46
noncomputable def sM:Ev->M Fl:=
 (zd (Ci (qd 1 Fe [] (qa (ia 0) Oa)) (Fa oEq (Fa Ta (ia 0) (eC (.int 0))) (eC (.str "agree")))))
noncomputable def Ff:List D->M D:=hide λa=>db (run 1 sM a)
theorem MX:Aa ["thing"] ["thing"] (Kc V2):=Be rfl rfl rfl (by decide +kernel)
theorem CJ(a:Txt K mg ca):Pb ⟨K,ca,tx K⟩ P w mg base 8 "is_agree" ["thing"] Ff:=
 Pb.hide (Pb.db (Ig a.Ff MX λ_ _ _ _ _ _ _ b=>
  (Bc (Bd (Xi (Vd (dL a) rfl (b.mono (by decide)) rfl (ya (ka 0) Va)) (on (gk (Jg (Jd b)) Fd (gc ec (ic rfl) (ka 0) Ra (λ_ _=>rfl)) Rf (se _))))))))
noncomputable abbrev wT:Stmt:=top 47
noncomputable def xQ:Ev->M Fl:=
 (zd (Ci (qd 1 Fe [] (qa (ia 0) Oa)) (Fa oEq (Fa Ta (ia 0) (eC (.int 0))) (eC (.str "strike")))))
noncomputable def Xe:List D->M D:=hide λa=>db (run 1 xQ a)
theorem vU:Aa ["thing"] ["thing"] (Kc wT):=Be rfl rfl rfl (by decide +kernel)
theorem wL(a:Txt K mg ca):Pb ⟨K,ca,tx K⟩ P w mg base 8 "is_strike" ["thing"] Xe:=
 Pb.hide (Pb.db (Ig a.Xe vU λ_ _ _ _ _ _ _ b=>
  (Bc (Bd (Xi (Vd (dL a) rfl (b.mono (by decide)) rfl (ya (ka 0) Va)) (on (gk (Jg (Jd b)) Fd (gc ec (ic rfl) (ka 0) Ra (λ_ _=>rfl)) Rf (se _))))))))
noncomputable abbrev l4:Stmt:=top 48
noncomputable def pB:Ev->M Fl:=
 (Nb (Bf (eT (Fa oEq (Fa Ta (ia 0) (eC (.int 0))) (eC (.str "offer")))) (zd (Ci (Fa oEq (Bh qk (qa (ia 0) Oa)) (eC (.int 3))) (qd 1 Ff [] (qa (Fa Ta (ia 0) (eC (.int 2))) Oa)))) Mf) (Nb (Bf (eT (Fa oEq (Fa Ta (ia 0) (eC (.int 0))) (eC (.str "accept")))) (zd (Ci (Fa oEq (Bh qk (qa (ia 0) Oa)) (eC (.int 4))) (Ci (qd 1 Ff [] (qa (Fa Ta (ia 0) (eC (.int 2))) Oa)) (qd 1 Xe [] (qa (Fa Ta (ia 0) (eC (.int 3))) Oa))))) Mf) (Nb (Bf (eT (Fa oEq (Fa Ta (ia 0) (eC (.int 0))) (eC (.str "struck")))) (zd (Ci (Fa oEq (Bh qk (qa (ia 0) Oa)) (eC (.int 3))) (qd 1 Xe [] (qa (Fa Ta (ia 0) (eC (.int 2))) Oa)))) Mf) (Nb (Bf (eT (Fa oEq (Fa Ta (ia 0) (eC (.int 0))) (eC (.str "ask")))) (zd (Ci (Fa oEq (Bh qk (qa (ia 0) Oa)) (eC (.int 4))) (qd 1 ud [] (qa (Zf (qa (eC (.int 0)) (qa (Fa Ta (ia 0) (eC (.int 2))) (qa (Fa Ta (ia 0) (eC (.int 3))) Oa)))) Oa)))) Mf) (Nb (Bf (eT (Fa oEq (Fa Ta (ia 0) (eC (.int 0))) (eC (.str "word")))) Ak Mf) (zd (eC (.bl false))))))))
noncomputable def Ic:List D->M D:=hide λa=>db (run 1 pB a)
theorem F4:Aa ["letter"] ["letter"] (Kc l4):=Be rfl rfl rfl (by decide +kernel)
theorem F6(b:Txt K mg ca):Pb ⟨K,ca,tx K⟩ P w mg base 9 "has_its_parts" ["letter"] Ic:=
 Pb.hide (Pb.db (Ig b.Ic F4 λ_ _ _ _ _ _ _ a=>
  (Yb (Lf (Ef (Jg (Jd a)) Fd (gc ec (ic rfl) (ka 0) Ra (λ_ _=>rfl)) Rf (se _)) (Bc (Bd (Xi (gk (Jg (Jd a)) Fd (Hm Cq (Gq rfl) rfl b.Fg Mb (ya (ka 0) Va)) Ra (se _)) (on (Vd (CJ b) rfl (a.mono (by decide)) rfl (ya (gc ec (ic rfl) (ka 0) Ra (λ_ _=>rfl)) Va)))))) Vf)
  (Yb (Lf (Ef (Jg (Jd a)) Fd (gc ec (ic rfl) (ka 0) Ra (λ_ _=>rfl)) Rf (se _)) (Bc (Bd (Xi (gk (Jg (Jd a)) Fd (Hm Cq (Gq rfl) rfl b.Fg Mb (ya (ka 0) Va)) Ra (se _)) (Xi (Vd (CJ b) rfl (a.mono (by decide)) rfl (ya (gc ec (ic rfl) (ka 0) Ra (λ_ _=>rfl)) Va)) (on (Vd (wL b) rfl (a.mono (by decide)) rfl (ya (gc ec (ic rfl) (ka 0) Ra (λ_ _=>rfl)) Va))))))) Vf)
  (Yb (Lf (Ef (Jg (Jd a)) Fd (gc ec (ic rfl) (ka 0) Ra (λ_ _=>rfl)) Rf (se _)) (Bc (Bd (Xi (gk (Jg (Jd a)) Fd (Hm Cq (Gq rfl) rfl b.Fg Mb (ya (ka 0) Va)) Ra (se _)) (on (Vd (wL b) rfl (a.mono (by decide)) rfl (ya (gc ec (ic rfl) (ka 0) Ra (λ_ _=>rfl)) Va)))))) Vf)
  (Yb (Lf (Ef (Jg (Jd a)) Fd (gc ec (ic rfl) (ka 0) Ra (λ_ _=>rfl)) Rf (se _)) (Bc (Bd (Xi (gk (Jg (Jd a)) Fd (Hm Cq (Gq rfl) rfl b.Fg Mb (ya (ka 0) Va)) Ra (se _)) (on (Vd (rC b) rfl (a.mono (by decide)) rfl (ya (ug (ya Ra (ya (gc ec (ic rfl) (ka 0) Ra (λ_ _=>rfl)) (ya (gc ec (ic rfl) (ka 0) Ra (λ_ _=>rfl)) Va)))) Va)))))) Vf)
  (Yb (Lf (Ef (Jg (Jd a)) Fd (gc ec (ic rfl) (ka 0) Ra (λ_ _=>rfl)) Rf (se _)) Wk Vf)
  (Bc (Bd jt)))))))))
noncomputable abbrev JW:Stmt:=top 49
noncomputable def jO:Ev->M Fl:=
 (Nb (Bf (Ko (Vk (eT (Wc (Jn .tuple) (ia 0)))) (Ko (eT (Fa oLt (Bh qk (qa (ia 0) Oa)) (eC (.int 3)))) (Vk (eT (Wc (Jn .str) (Fa Ta (ia 0) (eC (.int 0)))))))) Ak Mf) (zd (Ci (qd 1 Yg [] (qa (Fa Ta (ia 0) (eC (.int 1))) Oa)) (qd 1 Ic [] (qa (ia 0) Oa)))))
noncomputable def Dc:List D->M D:=hide λa=>db (run 1 jO a)
theorem HY:Aa ["thing"] ["thing"] (Kc JW):=Be rfl rfl rfl (by decide +kernel)
theorem vD(a:Txt K mg ca):Pb ⟨K,ca,tx K⟩ P w mg base 10 "is_letter" ["thing"] Dc:=
 Pb.hide (Pb.db (Ig a.Dc HY λ_ _ _ _ _ _ _ b=>
  (Yb (Lf (L2.PW.pt (Np (im (Fj (At .tuple (ka 0) rfl a.Tc rfl a.Th Yh))) (Np (Ef qy Iy (Hm Cq (Gq rfl) rfl a.Fg Mb (ya (ka 0) Va)) Ra (se _)) (zr (im (Fj (At .str (gc ec (ic rfl) (ka 0) Ra (λ_ _=>rfl)) rfl a.Tc rfl a.Ew boot_str))))))) Wk Vf)
  (Bc (Bd (Xi (Vd (MJ a) rfl (b.mono (by decide)) rfl (ya (gc ec (ic rfl) (ka 0) Ra (λ_ _=>rfl)) Va)) (on (Vd (F6 a) rfl (b.mono (by decide)) rfl (ya (ka 0) Va)))))))))
noncomputable abbrev l6:Stmt:=sg (top 89) 12
noncomputable def yQ:Ev->M Fl:=
 (zd (Ci (Fa Cy (ia 1) (Wc (yc [9] "accounts") (ia 0))) (Fa Mz (Fa Xk (Wc (yc [9] "claims") (ia 0)) (ia 1)) (eC (.gt ["held"])))))
noncomputable def kc:List D->M D:=hide λa=>db (run 2 yQ a)
theorem QV:Aa ["self", "pot"] ["self", "pot"] (Kc l6):=Be rfl rfl rfl (by decide +kernel)
theorem r6(a:Txt K mg ca):De ⟨K,ca,tx K⟩ P w mg base 1 (ca 32) ["self", "pot"] kc:=
 De.hide (De.db (jl a.kc QV λ_ _ _ _ _ _ b=>
  (Bc (Bd (Xi (gk (bQ (Jd b)) eM (ka 1) (ge rfl (fq a) (ka 0)) rfl) (on (gk (iZ rfl (Jd b)) Fd (yr (Jd b) (ge rfl (DE a) (ka 0)) (ka 1) (λ_ _=>rfl)) (YP (ss:=["held"]) rfl a.Nt) (se _))))))))
theorem kO(a:Txt K mg ca):Dk ⟨K,ca,tx K⟩ P w mg base 1 "holds" ["self", "pot"] [(9,kc)]:=(sj (T:=⟨K,ca,tx K⟩) (c:=9) a.Hb a.El (r6 a) (by decide) rm)
noncomputable abbrev yX:Stmt:=sg (top 53) 0
noncomputable def oA:Ev->M Fl:=
 (zd (eC (.str "calm")))
noncomputable def jb:List D->M D:=hide λa=>db (run 1 oA a)
theorem RX:Aa ["self"] ["self"] (Kc yX):=Be rfl rfl rfl (by decide +kernel)
theorem Q7(a:Txt K mg ca):De ⟨K,ca,tx K⟩ P w mg base 1 (ca 13) ["self"] jb:=
 De.hide (De.db (jl a.jb RX λ_ _ _ _ _ _ b=>
  (Bc (Bd Rf))))
noncomputable abbrev z4:Stmt:=sg (top 54) 0
noncomputable def nO:Ev->M Fl:=
 (zd (eC (.str "offered")))
noncomputable def Bb:List D->M D:=hide λa=>db (run 1 nO a)
theorem NR:Aa ["self"] ["self"] (Kc z4):=Be rfl rfl rfl (by decide +kernel)
theorem N5(a:Txt K mg ca):De ⟨K,ca,tx K⟩ P w mg base 1 (ca 15) ["self"] Bb:=
 De.hide (De.db (jl a.Bb NR λ_ _ _ _ _ _ b=>
  (Bc (Bd Rf))))
noncomputable abbrev cZ:Stmt:=sg (top 55) 0
noncomputable def iQ:Ev->M Fl:=
 (zd (eC (.str "waiting")))
noncomputable def Cb:List D->M D:=hide λa=>db (run 1 iQ a)
theorem LR:Aa ["self"] ["self"] (Kc cZ):=Be rfl rfl rfl (by decide +kernel)
theorem A7(a:Txt K mg ca):De ⟨K,ca,tx K⟩ P w mg base 1 (ca 17) ["self"] Cb:=
 De.hide (De.db (jl a.Cb LR λ_ _ _ _ _ _ b=>
  (Bc (Bd Rf))))
theorem yI(a:Txt K mg ca):Dk ⟨K,ca,tx K⟩ P w mg base 1 "word" ["self"] [(5,jb),(6,Bb),(7,Cb)]:=(sj (T:=⟨K,ca,tx K⟩) (c:=5) a.Xf a.Uo (Q7 a) (by decide) (sj (T:=⟨K,ca,tx K⟩) (c:=6) a.Gd a.Kl (N5 a) (by decide) (sj (T:=⟨K,ca,tx K⟩) (c:=7) a.ie a.Rl (A7 a) (by decide) rm)))
noncomputable abbrev XX:Stmt:=top 30
noncomputable def tM:Ev->M Fl:=
 (zd (Fa nh (Bh Qs (qa (Fa Ta (ia 0) (eC (.int 1))) Oa)) (Bh Qs (qa (mi (rn (toN (qj (Fa Ta (ia 0) (eC (.int 2))))) [] (Ye 0) eo (Fa Ta (ia 0) (eC (.int 1))))) Oa))))
noncomputable def Mg:List D->M D:=hide λa=>db (run 1 tM a)
theorem G6:Aa ["one"] ["one"] (Kc XX):=Be rfl rfl rfl (by decide +kernel)
theorem OG(a:Txt K mg ca):Pb ⟨K,ca,tx K⟩ P w mg base 1 "deals" ["one"] Mg:=
 Pb.hide (Pb.db (Ig a.Mg G6 λ_ _ _ _ _ _ _ b=>
  (Bc (Bd (Df (Aj rfl) Fd (Hm (kD rfl) (jE rfl) rfl a.lr bw (ya (gc ec (ic rfl) (ka 0) Ra (λ_ _=>rfl)) Va)) (Hm (kD rfl) (jE rfl) rfl a.lr bw (ya (mn (Ct (x:="tie") (z0:="0") (M':=[]) (ix:=[]) rfl ⟨rfl,rfl,rfl,rfl,rfl,rfl⟩ (Jt (ap rfl (gc ec (ic rfl) (ka 0) Ra (λ_ _=>rfl)))) (λ_ _ _ _ _=>Li (i:=0) (by show List.Nodup (("tie"::"0"::[]):List Str);decide +kernel) rfl (Or.inl rfl)) (λ_ _ _ _ _=>Au) (λ_ _ _ _ _=>(gc ec (ic rfl) (ka 0) Ra (λ_ _=>rfl))))) Va)))))))
noncomputable abbrev OR:Stmt:=top 31
noncomputable def lM:Ev->M Fl:=
 (zd (Ci (qd 1 ud [] (qa (ia 0) Oa)) (Fa oEq (qd 1 Mg [] (qa (ia 0) Oa)) (ia 1))))
noncomputable def Dd:List D->M D:=hide λa=>db (run 2 lM a)
theorem UY:Aa ["thing", "coin"] ["thing", "coin"] (Kc OR):=Be rfl rfl rfl (by decide +kernel)
theorem sL(a:Txt K mg ca):Pb ⟨K,ca,tx K⟩ P w mg base 7 "is_stand_of" ["thing", "coin"] Dd:=
 Pb.hide (Pb.db (Ig a.Dd UY λ_ _ _ _ _ _ _ b=>
  (Bc (Bd (Xi (Vd (rC a) rfl (b.mono (by decide)) rfl (ya (ka 0) Va)) (on (gk (Jg (Jd b)) Fd (Vd (OG a) rfl (b.mono (by decide)) rfl (ya (ka 0) Va)) (ka 1) (se _))))))))
noncomputable abbrev ZT:Stmt:=sg (top 52) 1
noncomputable def UK:Ev->M Fl:=
 (zd (Zf (qa (eC (.str "agree")) (qa (Wc (yc [4,5,6,7] "pot") (ia 0)) (qa (ia 1) (qa (ia 2) Oa))))))
noncomputable def ja:List D->M D:=hide λa=>db (run 3 UK a)
theorem GS:Aa ["self", "side", "one"] ["self", "side", "one"] (Kc ZT):=Be rfl rfl rfl (by decide +kernel)
theorem bz(a:Txt K mg ca):De ⟨K,ca,tx K⟩ P w mg base 1 (ca 11) ["self", "side", "one"] ja:=
 De.hide (De.db (jl a.ja GS λ_ _ _ _ _ _ b=>
  (Bc (Bd (ug (ya Rf (ya (ge rfl (Fo a) (ka 0)) (ya (ka 1) (ya (ka 2) Va)))))))))
theorem gO(a:Txt K mg ca):Dk ⟨K,ca,tx K⟩ P w mg base 1 "agree_of" ["self", "side", "one"] [(4,ja),(5,ja),(6,ja),(7,ja)]:=(sj (T:=⟨K,ca,tx K⟩) (c:=4) a.Gf a.Wi (bz a) (by decide) (sj (T:=⟨K,ca,tx K⟩) (c:=5) a.Xf a.Fh (bz a) (by decide) (sj (T:=⟨K,ca,tx K⟩) (c:=6) a.Gd a.Hg (bz a) (by decide) (sj (T:=⟨K,ca,tx K⟩) (c:=7) a.ie a.aj (bz a) (by decide) rm))))
noncomputable abbrev kU:Stmt:=top 57
noncomputable def AK:Ev->M Fl:=
 (Nb (Bf (Ko (eT (Fa Hi (Wc (yc [4,5,6,7] "side") (ia 0)) (eC (.int 0)))) (eT (Fa Hi (oh [(5,jb),(6,Bb),(7,Cb)] 1 "word" (ia 0) Oa) (eC (.str "calm"))))) Ak Mf) (Nb (Ue 3 (Zf (qa (Fa nh (Fa Ta (Wc (yc [4,5,6,7] "mine") (ia 0)) (eC (.int 0))) (eC (.int 1))) (qa (ia 1) (qa (ia 2) Oa))))) (Nb (Bf (Vk (eT (qd 2 Dd [] (qa (ia 3) (qa (qd 1 Mg [] (qa (Wc (yc [4,5,6,7] "mine") (ia 0)) Oa)) Oa))))) Ak Mf) (Nb (Ue 4 (mi (Qr 6 7 Ui (qa (Wc (yc [4,5,6,7] "pot") (ia 0)) (qa (Wc (yc [4,5,6,7] "side") (ia 0)) (qa (Wc (yc [4,5,6,7] "mine") (ia 0)) (qa (Wc (yc [4,5,6,7] "grant") (ia 0)) (qa (ij (qa (Wc (yc [4,5,6,7] "mine") (ia 0)) (qa (ia 3) Oa))) (qa (Wc (yc [4,5,6,7] "strikes") (ia 0)) Oa))))))))) (zd (Zf (qa (ia 4) (qa (Zf (qa (eC (.str "offer")) (qa (Wc (yc [4,5,6,7] "pot") (ia 0)) (qa (oh [(4,ja),(5,ja),(6,ja),(7,ja)] 3 "agree_of" (ia 0) (qa (eC (.int 0)) (qa (ia 3) Oa))) Oa)))) Oa))))))))
noncomputable def ig:List D->M D:=hide λa=>db (run 5 AK a)
theorem JH:Aa ["account", "shares", "ties", "one", "behind"] ["account", "shares", "ties"] (Kc kU):=Be rfl rfl rfl (by decide +kernel)
theorem bM(a:Txt K mg ca):Pb ⟨K,ca,tx K⟩ P w mg base 8 "offered" ["account", "shares", "ties"] ig:=
 Pb.hide (Pb.db (Ig a.ig JH λ_ _ _ _ _ _ _ b=>
  (Yb (Lf (L2.PW.pt (Np (Ef (ir (Jd b)) Fd (ge rfl (Yt a) (ka 0)) Ra (se _)) (zr (Ef (ir (Jd b)) Fd (Ht (k:=1) (ps:=["self"]) rfl (ka 0) (yI a) (b.mono (by decide))) Rf (se _))))) Wk Vf)
  (Yb (sf (i:=3) JH.nd rfl (Or.inl rfl) (ug (ya (Df (Aj rfl) Fd (gc ec (ic rfl) (ge rfl (fr a) (ka 0)) Ra (λ_ _=>rfl)) Ra) (ya (ka 1) (ya (ka 2) Va)))))
  (Yb (Lf (im (Fj (Vd (sL a) rfl (b.mono (by decide)) rfl (ya (ka 3) (ya (Vd (OG a) rfl (b.mono (by decide)) rfl (ya (ge rfl (fr a) (ka 0)) Va)) Va))))) Wk Vf)
  (Yb (sf (i:=4) JH.nd rfl (Or.inl rfl) (mn (az (c:=6) (ps:=["self", "pot", "side", "mine", "grant", "may", "strikes"]) ⟨_,a.Pr,a.Fq,QA a⟩ rfl (b.mono (by decide)) rfl (ya (ge rfl (Fo a) (ka 0)) (ya (ge rfl (Yt a) (ka 0)) (ya (ge rfl (fr a) (ka 0)) (ya (ge rfl (KI a) (ka 0)) (ya (rk (ya (ge rfl (fr a) (ka 0)) (ya (ka 3) Va))) (ya (ge rfl (dA a) (ka 0)) Va)))))))))
  (Bc (Bd (ug (ya (ka 4) (ya (ug (ya Rf (ya (ge rfl (Fo a) (ka 0)) (ya (Cj (k:=1) (ps:=["self", "side", "one"]) rfl (ka 0) (gO a) (b.mono (by decide)) (ya Ra (ya (ka 3) Va))) Va)))) Va)))))))))))
theorem IP(a:Txt K mg ca):Rm ⟨K,ca,tx K⟩ [8] "pots":=(di (T:=⟨K,ca,tx K⟩) (c:=8) a.om a.Ho Pp)
noncomputable abbrev R5:Stmt:=top 37
noncomputable def RP:Ev->M Fl:=
 (zd (Ci (Fa Cy (Fa Ta (ia 0) (eC (.int 2))) (ia 1)) (Fa oLt (Fa Xk (ia 1) (Fa Ta (ia 0) (eC (.int 2)))) (Fa Ta (ia 0) (eC (.int 3))))))
noncomputable def vd:List D->M D:=hide λa=>db (run 2 RP a)
theorem TW:Aa ["tie", "shown"] ["tie", "shown"] (Kc R5):=Be rfl rfl rfl (by decide +kernel)
theorem NN(b:Txt K mg ca):Pb ⟨K,ca,tx K⟩ P w mg base 1 "shown_in_time" ["tie", "shown"] vd:=
 Pb.hide (Pb.db (Ig b.vd TW λ_ _ _ _ _ _ _ a=>
  (Bc (Bd (Xi (gk (bQ (Jd a)) eM (gc ec (ic rfl) (ka 0) Ra (λ_ _=>rfl)) (ka 1) rfl) (on (gk qy Iy (yr (Jd a) (ka 1) (gc ec (ic rfl) (ka 0) Ra (λ_ _=>rfl)) (λ_ _=>rfl)) (gc ec (ic rfl) (ka 0) Ra (λ_ _=>rfl)) (se _))))))))
noncomputable abbrev F5:Stmt:=top 61
noncomputable def zev:Ev->M Fl:=
 (Nb (Bf (eT (qd 2 vd [] (qa (ia 2) (qa (ia 1) Oa)))) (zd (eC (.str "lost"))) Mf) (Nb (Bf (eT (Fa jD (Wc (yc [8,9] "last_look") (ia 0)) (Fa Ta (ia 2) (eC (.int 3))))) (zd (eC (.str "back"))) Mf) (zd (eC (.str "open")))))
noncomputable def Le:List D->M D:=hide λa=>db (run 3 zev a)
theorem gX:Aa ["view", "seen", "tie"] ["view", "seen", "tie"] (Kc F5):=Be rfl rfl rfl (by decide +kernel)
theorem w6(a:Txt K mg ca):Pb ⟨K,ca,tx K⟩ P w mg base 2 "lot_of_paid" ["view", "seen", "tie"] Le:=
 Pb.hide (Pb.db (Ig a.Le gX λ_ _ _ _ _ _ _ b=>
  (Yb (Lf (Fj (Vd (NN a) rfl (b.mono (by decide)) rfl (ya (ka 2) (ya (ka 1) Va)))) (Bc (Bd Rf)) Vf)
  (Yb (Lf (Ef xH UH (ge rfl (Py a) (ka 0)) (gc ec (ic rfl) (ka 2) Ra (λ_ _=>rfl)) (se _)) (Bc (Bd Rf)) Vf)
  (Bc (Bd Rf))))))
noncomputable abbrev U0:Stmt:=top 62
noncomputable def jQ:Ev->M Fl:=
 (Nb (Bf (eT (qd 2 vd [] (qa (ia 2) (qa (ia 1) Oa)))) (zd (eC (.str "won"))) Mf) (Nb (Bf (eT (Fa jD (Wc (yc [8,9] "last_look") (ia 0)) (Fa Ta (ia 2) (eC (.int 3))))) (zd (eC (.str "gone"))) Mf) (Nb (Bf (Mw (eT (Fa (jA false) (Fa Ta (ia 2) (eC (.int 2))) (Wc (yc [8,9] "known") (ia 0)))) (eT (Fa oLt (Fa nh (Wc (yc [8,9] "last_look") (ia 0)) (Wc (yc [8,9] "every") (ia 0))) (Fa Ta (ia 2) (eC (.int 3)))))) (zd (eC (.str "sure"))) Mf) (zd (eC (.str "hangs"))))))
noncomputable def df:List D->M D:=hide λa=>db (run 3 jQ a)
theorem D5:Aa ["view", "seen", "tie"] ["view", "seen", "tie"] (Kc U0):=Be rfl rfl rfl (by decide +kernel)
theorem zY(a:Txt K mg ca):Pb ⟨K,ca,tx K⟩ P w mg base 2 "lot_of_due" ["view", "seen", "tie"] df:=
 Pb.hide (Pb.db (Ig a.df D5 λ_ _ _ _ _ _ _ b=>
  (Yb (Lf (Fj (Vd (NN a) rfl (b.mono (by decide)) rfl (ya (ka 2) (ya (ka 1) Va)))) (Bc (Bd Rf)) Vf)
  (Yb (Lf (Ef xH UH (ge rfl (Py a) (ka 0)) (gc ec (ic rfl) (ka 2) Ra (λ_ _=>rfl)) (se _)) (Bc (Bd Rf)) Vf)
  (Yb (Lf (L2.PW.pt (Wy (Ef (J5 rfl (Jd b)) Fd (gc ec (ic rfl) (ka 2) Ra (λ_ _=>rfl)) (ge rfl (gz a) (ka 0)) rfl) (WH (Ef qy Iy (Df (Aj rfl) Fd (ge rfl (Py a) (ka 0)) (ge rfl (Uz a) (ka 0))) (gc ec (ic rfl) (ka 2) Ra (λ_ _=>rfl)) (se _))))) (Bc (Bd Rf)) Vf)
  (Bc (Bd Rf)))))))
noncomputable abbrev RV:Stmt:=top 63
noncomputable def LO:Ev->M Fl:=
 (Nb (Bf (eT (Fa oEq (Fa Ta (ia 2) (eC (.int 0))) (Fa Ta (ia 1) (eC (.int 0))))) (zd (qd 3 Le [] (qa (ia 0) (qa (Fa Ta (ia 1) (eC (.int 2))) (qa (ia 2) Oa))))) Mf) (zd (qd 3 df [] (qa (ia 0) (qa (Fa Ta (ia 1) (eC (.int 2))) (qa (ia 2) Oa))))))
noncomputable def Eh:List D->M D:=hide λa=>db (run 3 LO a)
theorem QR:Aa ["view", "pot", "tie"] ["view", "pot", "tie"] (Kc RV):=Be rfl rfl rfl (by decide +kernel)
theorem JS(a:Txt K mg ca):Pb ⟨K,ca,tx K⟩ P w mg base 3 "lot_of" ["view", "pot", "tie"] Eh:=
 Pb.hide (Pb.db (Ig a.Eh QR λ_ _ _ _ _ _ _ b=>
  (Yb (Lf (Ef (Jg (Jd b)) Fd (gc ec (ic rfl) (ka 2) Ra (λ_ _=>rfl)) (gc ec (ic rfl) (ka 1) Ra (λ_ _=>rfl)) (se _)) (Bc (Bd (Vd (w6 a) rfl (b.mono (by decide)) rfl (ya (ka 0) (ya (gc ec (ic rfl) (ka 1) Ra (λ_ _=>rfl)) (ya (ka 2) Va)))))) Vf)
  (Bc (Bd (Vd (zY a) rfl (b.mono (by decide)) rfl (ya (ka 0) (ya (gc ec (ic rfl) (ka 1) Ra (λ_ _=>rfl)) (ya (ka 2) Va)))))))))
noncomputable abbrev R3:Stmt:=top 64
noncomputable abbrev AH:Ev->M Fl:=(Nb (Ue 6 (qd 3 Eh [] (qa (ia 0) (qa (ia 1) (qa (ia 5) Oa))))) (Nb (Lr (Zf (qa (ia 6) (qa (Fa Ta (ia 5) (eC (.int 1))) (qa (Fa Ta (ia 5) (eC (.int 3))) Oa)))) (ia 4) (Fa Ta (ia 5) (eC (.int 2)))) (Bf (eT (Wc (XC false ["won", "sure", "back"]) (ia 6))) (yw (λa b=>a+b) 3 (Fa Ta (ia 5) (eC (.int 1)))) Mf)))
noncomputable def oN:Ev->M Fl:=
 (Nb (Ue 3 (Fa Ta (Fa Ta (ia 2) (eC (.int 1))) (Fa Ta (ia 1) (eC (.int 0))))) (Nb (Ue 4 Hs) (Nb (vt (qj (Fa Ta (ia 2) (eC (.int 2)))) (Ye 5) AH) (zd (Zf (qa (ia 3) (qa (ia 4) Oa)))))))
noncomputable def Ge:List D->M D:=hide λa=>db (run 7 oN a)
theorem dz:Aa ["view", "pot", "one", "firm", "lots", "tie", "lot"] ["view", "pot", "one"] (Kc R3):=Be rfl rfl rfl (by decide +kernel)
theorem tU(a:Txt K mg ca):Pb ⟨K,ca,tx K⟩ P w mg base 4 "read_stand" ["view", "pot", "one"] Ge:=
 Pb.hide (Pb.db (Ig a.Ge dz λ_ _ _ _ _ _ _ b=>
  (Yb (sf (i:=3) dz.nd rfl (Or.inl rfl) (gc ec (ic rfl) (gc ec (ic rfl) (ka 2) Ra (λ_ _=>rfl)) (gc ec (ic rfl) (ka 1) Ra (λ_ _=>rfl)) (λ_ _=>rfl)))
  (Yb (sf (i:=4) dz.nd rfl (Or.inl rfl) Rv)
  (Yb (Bv jr rfl (ap rfl (gc ec (ic rfl) (ka 2) Ra (λ_ _=>rfl))) (Li (i:=5) dz.nd rfl (Or.inl rfl)) (Yb (sf (i:=6) dz.nd rfl (Or.inl rfl) (Vd (JS a) rfl (b.mono (by decide)) rfl (ya (ka 0) (ya (ka 1) (ya (ka 5) Va)))))
  (Yb (Qt (Jd b) (ug (ya (ka 6) (ya (gc ec (ic rfl) (ka 5) Ra (λ_ _=>rfl)) (ya (gc ec (ic rfl) (ka 5) Ra (λ_ _=>rfl)) Va)))) (ka 4) (gc ec (ic rfl) (ka 5) Ra (λ_ _=>rfl)))
  (Bc (Lf (DS (ss:=["won", "sure", "back"]) rfl a.jx (ka 6)) (Bc (AO (i:=3) rJ dz.nd rfl (Or.inl rfl) (gc ec (ic rfl) (ka 5) Ra (λ_ _=>rfl)))) Vf)))))
  (Bc (Bd (ug (ya (ka 3) (ya (ka 4) Va))))))))))
noncomputable abbrev Z6:Stmt:=top 65
noncomputable abbrev GD:Ev->M Fl:=(xq (Mx il (ia 1) (qa (mi (rn (toN (qj (Fa Ta (ia 2) (eC (.int 1))))) [0,2] (Ye 0) eo (qd 3 Ge [] (qa (ia 2) (qa (ia 3) (qa (ia 0) Oa)))))) Oa)))
noncomputable def FJ:Ev->M Fl:=
 (Nb (Ue 1 (vw Oa)) (Nb (vt (qj (Wc (yc [8] "pots") (ia 0))) (Ye 2) GD) (zd (ia 1))))
noncomputable def Pf:List D->M D:=hide λa=>db (run 3 FJ a)
theorem LF:Aa ["view", "readings", "pot"] ["view"] (Kc Z6):=Be rfl rfl rfl (by decide +kernel)
theorem f5(a:Txt K mg ca):Pb ⟨K,ca,tx K⟩ P w mg base 5 "read_pots" ["view"] Pf:=
 Pb.hide (Pb.db (Ig a.Pf LF λ_ _ _ _ _ _ _ b=>
  (Yb (sf (i:=1) LF.nd rfl (Or.inl rfl) (xy Va))
  (Yb (Bv jr rfl (ap rfl (ge rfl (IP a) (ka 0))) (Li (i:=2) LF.nd rfl (Or.inr rfl)) (Bc (Mr (VA ze zf Af nB YA (ka 1) (ya (mn (Ct (x:="one") (z0:="0") (M':=["view", "pot"]) (ix:=[0,2]) rfl ⟨rfl,rfl,rfl,rfl,rfl,rfl⟩ (Jt (ap rfl (gc ec (ic rfl) (ka 2) Ra (λ_ _=>rfl)))) (λ_ _ _ _ _=>Li (i:=0) (by show List.Nodup (("one"::"0"::["view", "pot"]):List Str);decide +kernel) rfl (Or.inl rfl)) (λ_ _ _ _ _=>Au) (λ_ _ _ _ _=>(Vd (tU a) rfl (b.mono (by decide)) rfl (ya (ka 2) (ya (ka 3) (ya (ka 0) Va))))))) Va)))))
  (Bc (Bd (ka 1)))))))
noncomputable abbrev DY:Stmt:=top 66
noncomputable abbrev vv:Ev->M Fl:=(xq (Mx Rx (ia 3) (qa (mi (rn (toN (Yy (Bh qk (qa (ia 2) Oa)))) [4] (Ye 0) eo (Fa nh (ia 2) (ij (qa (ia 0) Oa))))) Oa)))
noncomputable abbrev Zy:Ev->M Fl:=(Nb (Ue 3 (vw Oa)) (Nb (vt (qj (ia 1)) (Ye 4) vv) (Ue 1 (ia 3))))
noncomputable def DQ:Ev->M Fl:=
 (Nb (Ue 1 (ij (qa (ij Oa) Oa))) (Nb (vt (qj (ia 0)) (Ye 2) Zy) (zd (ia 1))))
noncomputable def je:List D->M D:=hide λa=>db (run 5 DQ a)
theorem Oy:Aa ["readings", "choices", "stands", "longer", "chosen"] ["readings"] (Kc DY):=Be rfl rfl rfl (by decide +kernel)
theorem w4(a:Txt K mg ca):Pb ⟨K,ca,tx K⟩ P w mg base 1 "all_choices" ["readings"] je:=
 Pb.hide (Pb.db (Ig a.je Oy λ_ _ _ _ _ _ _ b=>
  (Yb (sf (i:=1) Oy.nd rfl (Or.inl rfl) (rk (ya (rk Va) Va)))
  (Yb (Bv jr rfl (ap rfl (ka 0)) (Li (i:=2) Oy.nd rfl (Or.inl rfl)) (Yb (sf (i:=3) Oy.nd rfl (Or.inl rfl) (xy Va))
  (Yb (Bv jr rfl (ap rfl (ka 1)) (Li (i:=4) Oy.nd rfl (Or.inr rfl)) (Bc (Mr (VA ze PySem.F.slot_list_extend PySem.F.type_list_extend AR J6 (ka 3) (ya (mn (Ct (x:="place") (z0:="0") (M':=["chosen"]) (ix:=[4]) rfl ⟨rfl,rfl,rfl,rfl,rfl,rfl⟩ (Jt (YO rfl a.pr (Hm Cq (Gq rfl) rfl a.Fg Mb (ya (ka 2) Va)))) (λ_ _ _ _ _=>Li (i:=0) (by show List.Nodup (("place"::"0"::["chosen"]):List Str);decide +kernel) rfl (Or.inl rfl)) (λ_ _ _ _ _=>Au) (λ_ _ _ _ _=>(Df (Aj rfl) Fd (ka 2) (rk (ya (ka 0) Va)))))) Va)))))
  (Bc (sf (i:=1) Oy.nd rfl (Or.inl rfl) (ka 3))))))
  (Bc (Bd (ka 1)))))))
noncomputable abbrev xT:Stmt:=top 68
noncomputable abbrev Xy:Ev->M Fl:=(xq (Mx il (mF Ot (ia 1) (qa (ia 3) (qa (vw Oa) Oa))) (qa (ia 4) Oa)))
noncomputable abbrev qv:Ev->M Fl:=(Wq (Du (Fa Ta (ia 2) (eC (.int 1)))) (zq 2 (uk (Ye 3) (uk (Ye 4) Xq))) Xy)
noncomputable def OP:Ev->M Fl:=
 (Nb (Ue 1 Hs) (Nb (vt (qj (ia 0)) (Ye 2) qv) (zd (ia 1))))
noncomputable def ye:List D->M D:=hide λa=>db (run 5 OP a)
theorem yA:Aa ["reads", "by_word", "read", "word", "lot"] ["reads"] (Kc xT):=Be rfl rfl rfl (by decide +kernel)
theorem XU(a:Txt K mg ca):Pb ⟨K,ca,tx K⟩ P w mg base 1 "lots_by_word" ["reads"] ye:=
 Pb.hide (Pb.db (Ig a.ye yA λ_ _ _ _ _ _ _ b=>
  (Yb (sf (i:=1) yA.nd rfl (Or.inl rfl) Rv)
  (Yb (Bv jr rfl (ap rfl (ka 0)) (Li (i:=2) yA.nd rfl (Or.inl rfl)) (Bc (eB jr rfl (YH (gc ec (ic rfl) (ka 2) Ra (λ_ _=>rfl))) (Dx rfl (Zq (Li (i:=3) yA.nd rfl (Or.inl rfl)) (Zq (Li (i:=4) yA.nd rfl (Or.inl rfl)) fx))) (Bc (Mr (VA ze zf Af nB YA (sX Lh fm PySem.F.type_dict_setdefault mZ P6 (ka 1) (ya (ka 3) (ya (xy Va) Va))) (ya (ka 4) Va)))))))
  (Bc (Bd (ka 1)))))))
noncomputable abbrev TY:Stmt:=top 69
noncomputable def iO:Ev->M Fl:=
 (zd (Fa nh (ij (qa (eC .zb) Oa)) (mi (rn (toN (qj (ia 0))) [] (Ye 0) (eT (Fa oEq (Fa Ta (ia 0) (eC (.int 0))) (eC (.str "open")))) (Fa Ta (ia 0) (eC (.int 2)))))))
noncomputable def fg:List D->M D:=hide λa=>db (run 1 iO a)
theorem g6:Aa ["lots"] ["lots"] (Kc TY):=Be rfl rfl rfl (by decide +kernel)
theorem y6(a:Txt K mg ca):Pb ⟨K,ca,tx K⟩ P w mg base 1 "fates_of" ["lots"] fg:=
 Pb.hide (Pb.db (Ig a.fg g6 λ_ _ _ _ _ _ _ b=>
  (Bc (Bd (Df (Aj rfl) Fd (rk (ya yt Va)) (mn (Ct (x:="lot") (z0:="0") (M':=[]) (ix:=[]) rfl ⟨rfl,rfl,rfl,rfl,rfl,rfl⟩ (Jt (ap rfl (ka 0))) (λ_ _ _ _ _=>Li (i:=0) (by show List.Nodup (("lot"::"0"::[]):List Str);decide +kernel) rfl (Or.inl rfl)) (λ_ _ _ _ _=>kK (Ef (Jg (Jd b)) Fd (gc ec (ic rfl) (ka 0) Ra (λ_ _=>rfl)) Rf (se _))) (λ_ _ _ _ _=>(gc ec (ic rfl) (ka 0) Ra (λ_ _=>rfl))))))))))
noncomputable abbrev X3:Stmt:=top 70
noncomputable def HK:Ev->M Fl:=
 (Nb (Bf (eT (Fa oEq (Fa Ta (ia 0) (eC (.int 0))) (eC (.str "open")))) (zd (QG (Fa ms (ia 1) (eC .zb)) (Fa Fz (ia 1) (Fa Ta (ia 0) (eC (.int 2)))))) Mf) (zd (Ci (Fa oEq (Fa Ta (ia 0) (eC (.int 0))) (eC (.str "hangs"))) (Ci (Fa xC (ia 1) (eC .zb)) (Fa oLt (Fa nh (Fa Ju (ia 1) (eC (.int 1))) (ia 2)) (Fa Ta (ia 0) (eC (.int 2))))))))
noncomputable def sd:List D->M D:=hide λa=>db (run 3 HK a)
theorem vT:Aa ["lot", "fate", "every"] ["lot", "fate", "every"] (Kc X3):=Be rfl rfl rfl (by decide +kernel)
theorem g4(b:Txt K mg ca):Pb ⟨K,ca,tx K⟩ P w mg base 1 "comes_by_fate" ["lot", "fate", "every"] sd:=
 Pb.hide (Pb.db (Ig b.sd vT λ_ _ _ _ _ _ _ a=>
  (Yb (Lf (Ef (Jg (Jd a)) Fd (gc ec (ic rfl) (ka 0) Ra (λ_ _=>rfl)) Rf (se _)) (Bc (Bd (F1 (gk bD mE (ka 1) yt (se _)) (on (gk BE YC (ka 1) (gc ec (ic rfl) (ka 0) Ra (λ_ _=>rfl)) (se _)))))) Vf)
  (Bc (Bd (Xi (gk (Jg (Jd a)) Fd (gc ec (ic rfl) (ka 0) Ra (λ_ _=>rfl)) Rf (se _)) (Xi (gk IR LU (ka 1) yt (se _)) (on (gk qy Iy (Df (Aj rfl) Fd (Df Fv Yu (ka 1) Ra) (ka 2)) (gc ec (ic rfl) (ka 0) Ra (λ_ _=>rfl)) (se _))))))))))
noncomputable abbrev JV:Stmt:=top 71
noncomputable def JL:Ev->M Fl:=
 (zd (Bh Qs (qa (mi (rn (toN (qj (ia 0))) [1,2] (Ye 0) (eT (qd 3 sd [] (qa (ia 0) (qa (ia 2) (qa (ia 3) Oa))))) (Fa Ta (ia 0) (eC (.int 1))))) Oa)))
noncomputable def Ed:List D->M D:=hide λa=>db (run 3 JL a)
theorem VW:Aa ["lots", "fate", "every"] ["lots", "fate", "every"] (Kc JV):=Be rfl rfl rfl (by decide +kernel)
theorem EO(a:Txt K mg ca):Pb ⟨K,ca,tx K⟩ P w mg base 2 "sum_by_fate" ["lots", "fate", "every"] Ed:=
 Pb.hide (Pb.db (Ig a.Ed VW λ_ _ _ _ _ _ _ b=>
  (Bc (Bd (Hm (kD rfl) (jE rfl) rfl a.lr bw (ya (mn (Ct (x:="lot") (z0:="0") (M':=["fate", "every"]) (ix:=[1,2]) rfl ⟨rfl,rfl,rfl,rfl,rfl,rfl⟩ (Jt (ap rfl (ka 0))) (λ_ _ _ _ _=>Li (i:=0) (by show List.Nodup (("lot"::"0"::["fate", "every"]):List Str);decide +kernel) rfl (Or.inl rfl)) (λ_ _ _ _ _=>kK (Fj (Vd (g4 a) rfl (b.mono (by decide)) rfl (ya (ka 0) (ya (ka 2) (ya (ka 3) Va)))))) (λ_ _ _ _ _=>(gc ec (ic rfl) (ka 0) Ra (λ_ _=>rfl))))) Va))))))
noncomputable abbrev OS:Stmt:=top 72
noncomputable def jN:Ev->M Fl:=
 (zd (JD [0,1] (qd 3 Ed [] (qa (ia 1) (qa (ia 0) (qa (ia 2) Oa)))) (qa (qd 1 fg [] (qa (ia 0) Oa)) Oa)))
noncomputable def ff:List D->M D:=hide λa=>db (run 2 jN a)
theorem OV:Aa ["lots", "every"] ["lots", "every"] (Kc OS):=Be rfl rfl rfl (by decide +kernel)
theorem MV(a:Txt K mg ca):Pb ⟨K,ca,tx K⟩ P w mg base 5 "least_fate" ["lots", "every"] ff:=
 Pb.hide (Pb.db (BN a.ff OV λ_ _ _ _ _ _ b=>
  (Bc (Bd (tJ (x:="fate") (M':=["lots", "every"]) (ix:=[0,1]) (t:=qC K) (k:=2) (b.mono (by decide)) ⟨rfl,rfl,rfl,rfl,rfl,rfl⟩ rfl ⟨(HL K),λd c=>a.Sz _ (HL K) d c,rfl,a.tb.hd _ (by decide),rfl,rfl,rfl,a.qO,a.tb.bb⟩ rfl a.Iw rfl rfl rfl (λ_ _ _ _ _=>rfl) (ya (Vd (y6 a) rfl (b.mono (by decide)) rfl (ya (ka 0) Va)) Va) (λ_ _ _ _ _ b=>(Vd (EO a) rfl (b.mono (by decide)) rfl (ya (ka 1) (ya (ka 0) (ya (ka 2) Va))))))))))
noncomputable abbrev M3:Stmt:=top 73
noncomputable abbrev HD:Ev->M Fl:=(yw (λa b=>a+b) 4 (qd 3 Ed [] (qa (ia 6) (qa (Fa Xk (ia 2) (ia 5)) (qa (ia 3) Oa)))))
noncomputable def pO:Ev->M Fl:=
 (Nb (Ue 4 (Bh Qs (qa (mi (rn (toN (qj (ia 0))) [] (Ye 0) eo (Fa Ta (ia 0) (eC (.int 0))))) Oa))) (Nb (Wq (Du (ia 1)) (zq 2 (uk (Ye 5) (uk (Ye 6) Xq))) HD) (zd (ia 4))))
noncomputable def Ch:List D->M D:=hide λa=>db (run 7 pO a)
theorem Hz:Aa ["reads", "by_word", "fates", "every", "total", "word", "lots"] ["reads", "by_word", "fates", "every"] (Kc M3):=Be rfl rfl rfl (by decide +kernel)
theorem R1(a:Txt K mg ca):Pb ⟨K,ca,tx K⟩ P w mg base 3 "sum_of" ["reads", "by_word", "fates", "every"] Ch:=
 Pb.hide (Pb.db (Ig a.Ch Hz λ_ _ _ _ _ _ _ b=>
  (Yb (sf (i:=4) Hz.nd rfl (Or.inl rfl) (Hm (kD rfl) (jE rfl) rfl a.lr bw (ya (mn (Ct (x:="read") (z0:="0") (M':=[]) (ix:=[]) rfl ⟨rfl,rfl,rfl,rfl,rfl,rfl⟩ (Jt (ap rfl (ka 0))) (λ_ _ _ _ _=>Li (i:=0) (by show List.Nodup (("read"::"0"::[]):List Str);decide +kernel) rfl (Or.inl rfl)) (λ_ _ _ _ _=>Au) (λ_ _ _ _ _=>(gc ec (ic rfl) (ka 0) Ra (λ_ _=>rfl))))) Va)))
  (Yb (eB jr rfl (YH (ka 1)) (Dx rfl (Zq (Li (i:=5) Hz.nd rfl (Or.inl rfl)) (Zq (Li (i:=6) Hz.nd rfl (Or.inl rfl)) fx))) (Bc (AO (i:=4) rJ Hz.nd rfl (Or.inl rfl) (Vd (EO a) rfl (b.mono (by decide)) rfl (ya (ka 6) (ya (yr (Jd b) (ka 2) (ka 5) (λ_ _=>rfl)) (ya (ka 3) Va)))))))
  (Bc (Bd (ka 4)))))))
noncomputable abbrev iR:Stmt:=top 74
noncomputable abbrev gE:Ev->M Fl:=(Lr (qd 2 ff [] (qa (ia 6) (qa (ia 2) Oa))) (ia 4) (ia 5))
noncomputable def DM:Ev->M Fl:=
 (Nb (Ue 3 (qd 1 ye [] (qa (ia 0) Oa))) (Nb (Ue 4 Hs) (Nb (Wq (Du (ia 3)) (zq 2 (uk (Ye 5) (uk (Ye 6) Xq))) gE) (zd (Zf (qa (qd 4 Ch [] (qa (ia 0) (qa (ia 3) (qa (ia 4) (qa (ia 2) Oa))))) (qa (ia 1) (qa (ia 4) Oa))))))))
noncomputable def ce:List D->M D:=hide λa=>db (run 7 DM a)
theorem uB:Aa ["reads", "chosen", "every", "by_word", "fates", "word", "lots"] ["reads", "chosen", "every"] (Kc iR):=Be rfl rfl rfl (by decide +kernel)
theorem bT(a:Txt K mg ca):Pb ⟨K,ca,tx K⟩ P w mg base 6 "least_paper" ["reads", "chosen", "every"] ce:=
 Pb.hide (Pb.db (Ig a.ce uB λ_ _ _ _ _ _ _ b=>
  (Yb (sf (i:=3) uB.nd rfl (Or.inl rfl) (Vd (XU a) rfl (b.mono (by decide)) rfl (ya (ka 0) Va)))
  (Yb (sf (i:=4) uB.nd rfl (Or.inl rfl) Rv)
  (Yb (eB jr rfl (YH (ka 3)) (Dx rfl (Zq (Li (i:=5) uB.nd rfl (Or.inl rfl)) (Zq (Li (i:=6) uB.nd rfl (Or.inl rfl)) fx))) (Bc (Qt (Jd b) (Vd (MV a) rfl (b.mono (by decide)) rfl (ya (ka 6) (ya (ka 2) Va))) (ka 4) (ka 5))))
  (Bc (Bd (ug (ya (Vd (R1 a) rfl (b.mono (by decide)) rfl (ya (ka 0) (ya (ka 3) (ya (ka 4) (ya (ka 2) Va))))) (ya (ka 1) (ya (ka 4) Va)))))))))))
noncomputable abbrev HS:Stmt:=top 67
noncomputable def pM:Ev->M Fl:=
 (zd (mi (rn (pD (ia 0) (ia 1)) [] (zq 2 (uk (Ye 0) (uk (Ye 1) Xq))) eo (Fa Ta (ia 0) (ia 1)))))
noncomputable def Qc:List D->M D:=hide λa=>db (run 2 pM a)
theorem V1:Aa ["readings", "chosen"] ["readings", "chosen"] (Kc HS):=Be rfl rfl rfl (by decide +kernel)
theorem Z5(a:Txt K mg ca):Pb ⟨K,ca,tx K⟩ P w mg base 1 "chosen_readings" ["readings", "chosen"] Qc:=
 Pb.hide (Pb.db (Ig a.Qc V1 λ_ _ _ _ _ _ _ b=>
  (Bc (Bd (mn (Ct (x:="stands") (z0:="place") (M':=[]) (ix:=[]) rfl ⟨rfl,rfl,rfl,rfl,rfl,rfl⟩ (lZ rfl a.nA (ka 0) (ka 1)) (λ_ _ _ _ _=>Dx rfl (Zq (Li (i:=0) (by show List.Nodup (("stands"::"place"::[]):List Str);decide +kernel) rfl (Or.inl rfl)) (Zq (Li (i:=1) (by show List.Nodup (("stands"::"place"::[]):List Str);decide +kernel) rfl (Or.inl rfl)) fx))) (λ_ _ _ _ _=>Au) (λ_ _ _ _ _=>(gc ec (ic rfl) (ka 0) (ka 1) (λ_ _=>rfl)))))))))
noncomputable abbrev t2:Stmt:=top 75
noncomputable def qK:Ev->M Fl:=
 (Nb (Ue 1 (qd 1 Pf [] (qa (ia 0) Oa))) (Nb (Ue 2 (mi (rn (toN (qj (qd 1 je [] (qa (ia 1) Oa)))) [1,0] (Ye 0) eo (qd 3 ce [] (qa (qd 2 Qc [] (qa (ia 2) (qa (ia 0) Oa))) (qa (ia 0) (qa (Wc (yc [8,9] "every") (ia 3)) Oa))))))) (zd (JD [] (Fa Ta (ia 0) (eC (.int 0))) (qa (ia 2) Oa)))))
noncomputable def Mi:List D->M D:=hide λa=>db (run 3 qK a)
theorem pH:Aa ["view", "readings", "papers"] ["view"] (Kc t2):=Be rfl rfl rfl (by decide +kernel)
theorem E3(a:Txt K mg ca):Pb ⟨K,ca,tx K⟩ P w mg base 7 "paper" ["view"] Mi:=
 Pb.hide (Pb.db (BN a.Mi pH λ_ _ _ _ _ _ b=>
  (Yb (sf (i:=1) pH.nd rfl (Or.inr rfl) (Vd (f5 a) rfl (b.mono (by decide)) rfl (ya (ka 0) Va)))
  (Yb (ZZ (pY (i:=2) pH.nd rfl (Or.inl rfl) (x:="chosen") (z0:="0") (M':=["readings", "view"]) (ix:=[1,0]) rfl ⟨rfl,rfl,rfl,rfl,rfl,rfl⟩ (Jt (ap rfl (Vd (w4 a) rfl (b.mono (by decide)) rfl (ya (ka 1) Va)))) (λ_ _ _ _ _=>Li (i:=0) (by show List.Nodup (("chosen"::"0"::["readings", "view"]):List Str);decide +kernel) rfl (Or.inl rfl)) (λ_ _ _ _ _=>Au) (λ_ _ _ _ _=>(Vd (bT a) rfl (b.mono (by decide)) rfl (ya (Vd (Z5 a) rfl (b.mono (by decide)) rfl (ya (ka 2) (ya (ka 0) Va))) (ya (ka 0) (ya (ge rfl (Uz a) (ka 3)) Va)))))))
  (Bc (Bd (tJ (x:="told") (M':=[]) (ix:=[]) (t:=ND K) (k:=0) (b.mono (by decide)) ⟨rfl,rfl,rfl,rfl,rfl,rfl⟩ rfl ⟨(DN K),λd c=>a.Sz _ (DN K) d c,rfl,a.tb.hd _ (by decide),rfl,rfl,rfl,a.qO,a.tb.bb⟩ rfl a.Iw rfl rfl rfl (λ_ _ _ _ _=>rfl) (ya (ka 2) Va) (λ_ _ _ _ _ b=>(gc ec (ic rfl) (ka 0) Ra (λ_ _=>rfl))))))))))
noncomputable abbrev V6:Stmt:=top 76
noncomputable def JP:Ev->M Fl:=
 (zd (Fa Ta (qd 1 Mi [] (qa (ia 0) Oa)) (eC (.int 0))))
noncomputable def qh:List D->M D:=hide λa=>db (run 1 JP a)
theorem yU:Aa ["view"] ["view"] (Kc V6):=Be rfl rfl rfl (by decide +kernel)
theorem pN(a:Txt K mg ca):Pb ⟨K,ca,tx K⟩ P w mg base 8 "worth" ["view"] qh:=
 Pb.hide (Pb.db (Ig a.qh yU λ_ _ _ _ _ _ _ b=>
  (Bc (Bd (gc ec (ic rfl) (Vd (E3 a) rfl (b.mono (by decide)) rfl (ya (ka 0) Va)) Ra (λ_ _=>rfl))))))
noncomputable abbrev kY:Stmt:=top 82
noncomputable def CM:Ev->M Fl:=
 (Nb (Bf (eT (Fa oEq (Fa Ta (ia 1) (eC (.int 0))) (eC (.str "held")))) (zd (Wc (yc [4,5,6,7] "may") (ia 0))) Mf) Ak)
noncomputable def Me:List D->M D:=hide λa=>db (run 2 CM a)
theorem dZ:Aa ["account", "claim"] ["account", "claim"] (Kc kY):=Be rfl rfl rfl (by decide +kernel)
theorem bU(a:Txt K mg ca):Pb ⟨K,ca,tx K⟩ P w mg base 1 "stands_told" ["account", "claim"] Me:=
 Pb.hide (Pb.db (Ig a.Me dZ λ_ _ _ _ _ _ _ b=>
  (Yb (Lf (Ef (Jg (Jd b)) Fd (gc ec (ic rfl) (ka 1) Ra (λ_ _=>rfl)) Rf (se _)) (Bc (Bd (ge rfl (Dz a) (ka 0)))) Vf)
  Wk)))
noncomputable abbrev qR:Stmt:=sg (top 60) 0
noncomputable def qN:Ev->M Fl:=
 (Nb (lm [8,9] "every" (ia 1) (ia 0)) (Nb (lm [8,9] "last_look" (ia 2) (ia 0)) (Nb (lm [8,9] "known" (mi (Bh cr (qa (ia 3) Oa))) (ia 0)) (lm [8] "pots" (mi (rn (toN (qj (ia 4))) [] (Ye 0) eo (Zf (qa (Fa Ta (ia 0) (eC (.int 0))) (qa (mi (Bh cr (qa (Fa Ta (ia 0) (eC (.int 1))) Oa))) (qa (Bh hA (qa (Fa Ta (ia 0) (eC (.int 2))) Oa)) Oa)))))) (ia 0)))))
noncomputable def yq:List D->M D:=hide (run 5 qN)
theorem yV:Aa ["self", "every", "look", "words", "pots"] ["self", "every", "look", "words", "pots"] (Kc qR):=Be rfl rfl rfl (by decide +kernel)
theorem D2(a:Txt K mg ca):De ⟨K,ca,tx K⟩ P w mg base 1 (ca 19) ["self", "every", "look", "words", "pots"] yq:=
 De.hide (jl a.yq yV λ_ _ _ _ _ _ b=>
  (Yb (uo rfl (Uz a) (ka 0) (ka 1))
  (Yb (uo rfl (Py a) (ka 0) (ka 2))
  (Yb (uo rfl (gz a) (ka 0) (mn (Gw sD (WB rfl) rfl a.Co Ws (ya (ka 3) Va))))
  (Bc (uo rfl (IP a) (ka 0) (mn (Ct (x:="pot") (z0:="0") (M':=[]) (ix:=[]) rfl ⟨rfl,rfl,rfl,rfl,rfl,rfl⟩ (Jt (ap rfl (ka 4))) (λ_ _ _ _ _=>Li (i:=0) (by show List.Nodup (("pot"::"0"::[]):List Str);decide +kernel) rfl (Or.inl rfl)) (λ_ _ _ _ _=>Au) (λ_ _ _ _ _=>(ug (ya (gc ec (ic rfl) (ka 0) Ra (λ_ _=>rfl)) (ya (mn (Gw sD (WB rfl) rfl a.Co Ws (ya (gc ec (ic rfl) (ka 0) Ra (λ_ _=>rfl)) Va))) (ya (Gw jL K6 rfl a.bu boot_dict (ya (gc ec (ic rfl) (ka 0) Ra (λ_ _=>rfl)) Va)) Va)))))))))))))
noncomputable abbrev B3:Stmt:=sg (top 89) 3
noncomputable def FN:Ev->M Fl:=
 (zd (mi (Bh Ay (qa (Wc (yc [8,9] "known") (ia 0)) Oa))))
noncomputable def md:List D->M D:=hide λa=>db (run 1 FN a)
theorem uS:Aa ["self"] ["self"] (Kc B3):=Be rfl rfl rfl (by decide +kernel)
theorem o7(a:Txt K mg ca):De ⟨K,ca,tx K⟩ P w mg base 1 (ca 23) ["self"] md:=
 De.hide (De.db (jl a.md uS λ_ _ _ _ _ _ b=>
  (Bc (Bd (mn (Hm (tY rfl) (P7 rfl) rfl a.qt L4.WV (ya (ge rfl (gz a) (ka 0)) Va)))))))
theorem fZ(a:Txt K mg ca):Dk ⟨K,ca,tx K⟩ P w mg base 1 "words" ["self"] [(9,md)]:=(sj (T:=⟨K,ca,tx K⟩) (c:=9) a.Hb a.Bl (o7 a) (by decide) rm)
noncomputable abbrev pV:Stmt:=sg (top 89) 7
noncomputable abbrev LC:Ev->M Fl:=(xq (Mx il (ia 2) (qa (Zf (qa (Wc (yc [4,5,6,7] "side") (ia 4)) (qa (qd 2 Me [] (qa (ia 4) (qa (Fa Xk (Wc (yc [9] "claims") (ia 0)) (ia 3)) Oa))) (qa (Fa Xk (Wc (yc [9] "seen") (ia 0)) (ia 3)) Oa)))) Oa)))
noncomputable def pQ:Ev->M Fl:=
 (Nb (Ue 2 (vw Oa)) (Nb (cC (ia 1) (Wq (lD (ia 1)) (zq 2 (uk (Ye 3) (uk (Ye 4) Xq))) LC)) (zd (mi (Qr 8 5 yq (qa (Wc (yc [8,9] "every") (ia 0)) (qa (Wc (yc [8,9] "last_look") (ia 0)) (qa (oh [(9,md)] 1 "words" (ia 0) Oa) (qa (ia 2) Oa)))))))))
noncomputable def nc:List D->M D:=hide λa=>db (run 5 pQ a)
theorem dD:Aa ["self", "accounts", "pots", "pot", "account"] ["self", "accounts"] (Kc pV):=Be rfl rfl rfl (by decide +kernel)
theorem CS(a:Txt K mg ca):De ⟨K,ca,tx K⟩ P w mg base 3 (ca 27) ["self", "accounts"] nc:=
 De.hide (De.db (jl a.nc dD λ_ _ _ _ _ _ b=>
  (Yb (sf (i:=2) dD.nd rfl (Or.inl rfl) (xy Va))
  (Yb (iU (eB jr rfl (K1 (ka 1)) (Dx rfl (Zq (Li (i:=3) dD.nd rfl (Or.inl rfl)) (Zq (Li (i:=4) dD.nd rfl (Or.inl rfl)) fx))) (Bc (Mr (VA ze zf Af nB YA (ka 2) (ya (ug (ya (ge rfl (Yt a) (ka 4)) (ya (Vd (bU a) rfl (b.mono (by decide)) rfl (ya (ka 4) (ya (yr (Jd b) (ge rfl (DE a) (ka 0)) (ka 3) (λ_ _=>rfl)) Va))) (ya (yr (Jd b) (ge rfl (BF a) (ka 0)) (ka 3) (λ_ _=>rfl)) Va)))) Va))))))
  (Bc (Bd (mn (az (c:=8) (ps:=["self", "every", "look", "words", "pots"]) ⟨_,a.Ax,a.Pv,D2 a⟩ rfl (b.mono (by decide)) rfl (ya (ge rfl (Uz a) (ka 0)) (ya (ge rfl (Py a) (ka 0)) (ya (Ht (k:=1) (ps:=["self"]) rfl (ka 0) (fZ a) (b.mono (by decide))) (ya (ka 2) Va))))))))))))
theorem xM(a:Txt K mg ca):Dk ⟨K,ca,tx K⟩ P w mg base 3 "view_by" ["self", "accounts"] [(9,nc)]:=(sj (T:=⟨K,ca,tx K⟩) (c:=9) a.Hb a.Uj (CS a) (by decide) rm)
noncomputable abbrev B2:Stmt:=sg (top 89) 8
noncomputable def sP:Ev->M Fl:=
 (zd (oh [(9,nc)] 2 "view_by" (ia 0) (qa (Wc (yc [9] "accounts") (ia 0)) Oa)))
noncomputable def Cd:List D->M D:=hide λa=>db (run 1 sP a)
theorem jU:Aa ["self"] ["self"] (Kc B2):=Be rfl rfl rfl (by decide +kernel)
theorem o0(a:Txt K mg ca):De ⟨K,ca,tx K⟩ P w mg base 4 (ca 28) ["self"] Cd:=
 De.hide (De.db (jl a.Cd jU λ_ _ _ _ _ _ b=>
  (Bc (Bd (Cj (k:=3) (ps:=["self", "accounts"]) rfl (ka 0) (xM a) (b.mono (by decide)) (ya (ge rfl (fq a) (ka 0)) Va))))))
theorem SS(a:Txt K mg ca):Dk ⟨K,ca,tx K⟩ P w mg base 4 "view" ["self"] [(9,Cd)]:=(sj (T:=⟨K,ca,tx K⟩) (c:=9) a.Hb a.Bm (o0 a) (by decide) rm)
noncomputable abbrev n6:Stmt:=sg (top 89) 9
noncomputable def WJ:Ev->M Fl:=
 (zd (qd 1 qh [] (qa (oh [(9,Cd)] 1 "view" (ia 0) Oa) Oa)))
noncomputable def Qb:List D->M D:=hide λa=>db (run 1 WJ a)
theorem yS:Aa ["self"] ["self"] (Kc n6):=Be rfl rfl rfl (by decide +kernel)
theorem E7(a:Txt K mg ca):De ⟨K,ca,tx K⟩ P w mg base 9 (ca 29) ["self"] Qb:=
 De.hide (De.db (jl a.Qb yS λ_ _ _ _ _ _ b=>
  (Bc (Bd (Vd (Pb.alias (pN a) a.Bi) rfl (b.mono (by decide)) rfl (ya (Ht (k:=4) (ps:=["self"]) rfl (ka 0) (SS a) (b.mono (by decide))) Va))))))
theorem VI(a:Txt K mg ca):Dk ⟨K,ca,tx K⟩ P w mg base 9 "worth" ["self"] [(9,Qb)]:=(sj (T:=⟨K,ca,tx K⟩) (c:=9) a.Hb a.vl (E7 a) (by decide) rm)
noncomputable abbrev LW:Stmt:=sg (top 89) 11
noncomputable def QJ:Ev->M Fl:=
 (Nb (Ue 3 (Bh FD (qa (Wc (yc [9] "accounts") (ia 0)) Oa))) (Nb (Lr (ia 1) (ia 3) (Wc (yc [4,5,6,7] "pot") (ia 1))) (zd (Fa jD (qd 1 qh [] (qa (oh [(9,nc)] 2 "view_by" (ia 0) (qa (ia 3) Oa)) Oa)) (Fa Ju (oh [(9,Qb)] 1 "worth" (ia 0) Oa) (ia 2))))))
noncomputable def Fb:List D->M D:=hide λa=>db (run 4 QJ a)
theorem LN:Aa ["self", "account", "allowance", "accounts"] ["self", "account", "allowance"] (Kc LW):=Be rfl rfl rfl (by decide +kernel)
theorem RS(a:Txt K mg ca):De ⟨K,ca,tx K⟩ P w mg base 10 (ca 31) ["self", "account", "allowance"] Fb:=
 De.hide (De.db (jl a.Fb LN λ_ _ _ _ _ _ b=>
  (Yb (sf (i:=3) LN.nd rfl (Or.inl rfl) (Gw jL uR rfl a.bu boot_dict (ya (ge rfl (fq a) (ka 0)) Va)))
  (Yb (Qt (Jd b) (ka 1) (ka 3) (ge rfl (Fo a) (ka 1)))
  (Bc (Bd (gk xH UH (Vd (Pb.alias (pN a) a.Bi) rfl (b.mono (by decide)) rfl (ya (Cj (k:=3) (ps:=["self", "accounts"]) rfl (ka 0) (xM a) (b.mono (by decide)) (ya (ka 3) Va)) Va)) (Df Fv Yu (Ht (k:=9) (ps:=["self"]) rfl (ka 0) (VI a) (b.mono (by decide))) (ka 2)) (se _))))))))
theorem sI(a:Txt K mg ca):Dk ⟨K,ca,tx K⟩ P w mg base 10 "is_good" ["self", "account", "allowance"] [(9,Fb)]:=(sj (T:=⟨K,ca,tx K⟩) (c:=9) a.Hb a.Xj (RS a) (by decide) rm)
noncomputable abbrev i7:Stmt:=sg (top 89) 16
noncomputable abbrev DL:Ev->M Fl:=(lE (Ue 2 (qd 3 ig [] (qa (Fa Xk (Wc (yc [9] "accounts") (ia 0)) (Fa Ta (ia 1) (eC (.int 1)))) (qa (Fa Ta (ia 1) (eC (.int 2))) (qa (Fa Ta (ia 1) (eC (.int 3))) Oa))))) [])
noncomputable abbrev OK:Ev->M Fl:=(Bf (Vk (eT (oh [(9,Fb)] 3 "is_good" (ia 0) (qa (Fa Ta (ia 2) (eC (.int 0))) (qa (eC (.int 0)) Oa))))) Ak Mf)
noncomputable abbrev pK:Ev->M Fl:=(Lr (Fa Ta (ia 2) (eC (.int 0))) (Wc (yc [9] "accounts") (ia 0)) (Fa Ta (ia 1) (eC (.int 1))))
noncomputable abbrev YK:Ev->M Fl:=(zd (ij (qa (Fa Ta (ia 2) (eC (.int 1))) Oa)))
noncomputable def IK:Ev->M Fl:=
 (Nb DL (Nb OK (Nb pK YK)))
noncomputable def Ec:List D->M D:=hide (run 3 IK)
theorem TK:Aa ["self", "letter", "step"] ["self", "letter"] (Kc i7):=Be rfl rfl rfl (by decide +kernel)
theorem O4(a:Txt K mg ca):De ⟨K,ca,tx K⟩ P w mg base 11 (ca 36) ["self", "letter"] Ec:=
 De.hide (jl a.Ec TK λ_ _ _ _ _ _ b=>
  (Yb (VM rfl rfl (λ_ _ c=>(Bc (sf (i:=2) TK.nd rfl (Or.inl rfl) (Vd (bM a) rfl (b.mono (by decide)) rfl (ya (yr (Jd b) (ge rfl (fq a) (ka 0)) (gc ec (ic rfl) (ka 1) Ra (λ_ _=>rfl)) (λ_ _=>rfl)) (ya (gc ec (ic rfl) (ka 1) Ra (λ_ _=>rfl)) (ya (gc ec (ic rfl) (ka 1) Ra (λ_ _=>rfl)) Va))))))) .nil)
  (Yb (Lf (im (Fj (Cj (k:=10) (ps:=["self", "account", "allowance"]) rfl (ka 0) (sI a) (b.mono (by decide)) (ya (gc ec (ic rfl) (ka 2) Ra (λ_ _=>rfl)) (ya Ra Va))))) Wk Vf)
  (Yb (Qt (Jd b) (gc ec (ic rfl) (ka 2) Ra (λ_ _=>rfl)) (ge rfl (fq a) (ka 0)) (gc ec (ic rfl) (ka 1) Ra (λ_ _=>rfl)))
  (Bc (Bd (rk (ya (gc ec (ic rfl) (ka 2) Ra (λ_ _=>rfl)) Va))))))))
theorem XZ(a:Txt K mg ca):Dk ⟨K,ca,tx K⟩ P w mg base 11 "take_ask" ["self", "letter"] [(9,Ec)]:=(sj (T:=⟨K,ca,tx K⟩) (c:=9) a.Hb a.tj (O4 a) (by decide) rm)
theorem GJ(a:Txt K mg ca):Dk ⟨K,ca,tx K⟩ P w mg base 1 "agree_of" ["self", "side", "one"] [(5,ja)]:=(sj (T:=⟨K,ca,tx K⟩) (c:=5) a.Xf a.Fh (bz a) (by decide) rm)
noncomputable abbrev O1:Stmt:=top 51
noncomputable def iK:Ev->M Fl:=
 (zd (Ci (qd 2 Dd [] (qa (ia 0) (qa (qd 1 Mg [] (qa (ia 1) Oa)) Oa))) (Fa oEq (Fa Ta (ia 0) (eC (.int 0))) (Fa nh (Fa Ta (ia 1) (eC (.int 0))) (eC (.int 1))))))
noncomputable def ve:List D->M D:=hide λa=>db (run 2 iK a)
theorem sU:Aa ["thing", "one"] ["thing", "one"] (Kc O1):=Be rfl rfl rfl (by decide +kernel)
theorem W5(a:Txt K mg ca):Pb ⟨K,ca,tx K⟩ P w mg base 8 "is_following" ["thing", "one"] ve:=
 Pb.hide (Pb.db (Ig a.ve sU λ_ _ _ _ _ _ _ b=>
  (Bc (Bd (Xi (Vd (sL a) rfl (b.mono (by decide)) rfl (ya (ka 0) (ya (Vd (OG a) rfl (b.mono (by decide)) rfl (ya (ka 1) Va)) Va))) (on (gk (Jg (Jd b)) Fd (gc ec (ic rfl) (ka 0) Ra (λ_ _=>rfl)) (Df (Aj rfl) Fd (gc ec (ic rfl) (ka 1) Ra (λ_ _=>rfl)) Ra) (se _))))))))
noncomputable abbrev sZ:Stmt:=sg (top 52) 2
noncomputable def QN:Ev->M Fl:=
 (zd (Zf (qa (eC (.str "strike")) (qa (Wc (yc [4,5,6,7] "pot") (ia 0)) (qa (ia 1) (qa (Fa Ta (ia 2) (eC (.int 0))) Oa))))))
noncomputable def Ca:List D->M D:=hide λa=>db (run 3 QN a)
theorem S4:Aa ["self", "side", "one"] ["self", "side", "one"] (Kc sZ):=Be rfl rfl rfl (by decide +kernel)
theorem cH(a:Txt K mg ca):De ⟨K,ca,tx K⟩ P w mg base 1 (ca 12) ["self", "side", "one"] Ca:=
 De.hide (De.db (jl a.Ca S4 λ_ _ _ _ _ _ b=>
  (Bc (Bd (ug (ya Rf (ya (ge rfl (Fo a) (ka 0)) (ya (ka 1) (ya (gc ec (ic rfl) (ka 2) Ra (λ_ _=>rfl)) Va)))))))))
theorem CT(a:Txt K mg ca):Dk ⟨K,ca,tx K⟩ P w mg base 1 "strike_of" ["self", "side", "one"] [(5,Ca)]:=(sj (T:=⟨K,ca,tx K⟩) (c:=5) a.Xf a.Lj (cH a) (by decide) rm)
noncomputable abbrev U3:Stmt:=sg (top 53) 1
noncomputable def PN:Ev->M Fl:=
 (Nb (Bf (Ko (eT (Fa Hi (Wc (yc [4,5,6,7] "side") (ia 0)) (eC (.int 1)))) (Ko (Vk (eT (qd 1 Dc [] (qa (ia 1) Oa)))) (eT (Fa Hi (Fa Ta (ia 1) (eC (.int 0))) (eC (.str "offer")))))) Ak Mf) (Nb (Ue 2 (Fa Ta (Fa Ta (ia 1) (eC (.int 2))) (eC (.int 3)))) (Nb (Ue 3 (oh [(5,ja)] 3 "agree_of" (ia 0) (qa (eC (.int 0)) (qa (ia 2) Oa)))) (Nb (Bf (Ko (eT (Fa Hi (ia 1) (Zf (qa (eC (.str "offer")) (qa (Wc (yc [4,5,6,7] "pot") (ia 0)) (qa (ia 3) Oa)))))) (Vk (eT (qd 2 ve [] (qa (ia 2) (qa (Wc (yc [4,5,6,7] "mine") (ia 0)) Oa)))))) (zd (Zf (qa (ia 0) (qa (eC .zb) Oa)))) Mf) (Nb (Ue 4 (mi (Qr 7 7 Ui (qa (Wc (yc [4,5,6,7] "pot") (ia 0)) (qa (Wc (yc [4,5,6,7] "side") (ia 0)) (qa (ia 2) (qa (ia 3) (qa (ij (qa (Wc (yc [4,5,6,7] "mine") (ia 0)) (qa (ia 2) Oa))) (qa (Wc (yc [4,5,6,7] "strikes") (ia 0)) Oa))))))))) (zd (Zf (qa (ia 4) (qa (Zf (qa (eC (.str "accept")) (qa (Wc (yc [4,5,6,7] "pot") (ia 0)) (qa (oh [(5,ja)] 3 "agree_of" (ia 0) (qa (eC (.int 1)) (qa (ia 2) Oa))) (qa (oh [(5,Ca)] 3 "strike_of" (ia 0) (qa (eC (.int 1)) (qa (Wc (yc [4,5,6,7] "mine") (ia 0)) Oa))) Oa))))) Oa)))))))))
noncomputable def Jc:List D->M D:=hide λa=>db (run 5 PN a)
theorem WC:Aa ["self", "letter", "one", "agree", "behind"] ["self", "letter"] (Kc U3):=Be rfl rfl rfl (by decide +kernel)
theorem OZ(a:Txt K mg ca):De ⟨K,ca,tx K⟩ P w mg base 11 (ca 14) ["self", "letter"] Jc:=
 De.hide (De.db (jl a.Jc WC λ_ _ _ _ _ _ b=>
  (Yb (Lf (L2.PW.pt (Np (Ef (ir (Jd b)) Fd (ge rfl (Yt a) (ka 0)) Ra (se _)) (Np (im (Fj (Vd (vD a) rfl (b.mono (by decide)) rfl (ya (ka 1) Va)))) (zr (Ef (ir (Jd b)) Fd (gc ec (ic rfl) (ka 1) Ra (λ_ _=>rfl)) Rf (se _)))))) Wk Vf)
  (Yb (sf (i:=2) WC.nd rfl (Or.inl rfl) (gc ec (ic rfl) (gc ec (ic rfl) (ka 1) Ra (λ_ _=>rfl)) Ra (λ_ _=>rfl)))
  (Yb (sf (i:=3) WC.nd rfl (Or.inl rfl) (Cj (k:=1) (ps:=["self", "side", "one"]) rfl (ka 0) (GJ a) (b.mono (by decide)) (ya Ra (ya (ka 2) Va))))
  (Yb (Lf (L2.PW.pt (Np (Ef (ir (Jd b)) Fd (ka 1) (ug (ya Rf (ya (ge rfl (Fo a) (ka 0)) (ya (ka 3) Va)))) (se _)) (zr (im (Fj (Vd (W5 a) rfl (b.mono (by decide)) rfl (ya (ka 2) (ya (ge rfl (fr a) (ka 0)) Va)))))))) (Bc (Bd (ug (ya (ka 0) (ya yt Va))))) Vf)
  (Yb (sf (i:=4) WC.nd rfl (Or.inl rfl) (mn (az (c:=7) (ps:=["self", "pot", "side", "mine", "grant", "may", "strikes"]) ⟨_,a.Nr,a.qq,QA a⟩ rfl (b.mono (by decide)) rfl (ya (ge rfl (Fo a) (ka 0)) (ya (ge rfl (Yt a) (ka 0)) (ya (ka 2) (ya (ka 3) (ya (rk (ya (ge rfl (fr a) (ka 0)) (ya (ka 2) Va))) (ya (ge rfl (dA a) (ka 0)) Va)))))))))
  (Bc (Bd (ug (ya (ka 4) (ya (ug (ya Rf (ya (ge rfl (Fo a) (ka 0)) (ya (Cj (k:=1) (ps:=["self", "side", "one"]) rfl (ka 0) (GJ a) (b.mono (by decide)) (ya Ra (ya (ka 2) Va))) (ya (Cj (k:=1) (ps:=["self", "side", "one"]) rfl (ka 0) (CT a) (b.mono (by decide)) (ya Ra (ya (ge rfl (fr a) (ka 0)) Va))) Va))))) Va))))))))))))
theorem y3(a:Txt K mg ca):Dk ⟨K,ca,tx K⟩ P w mg base 1 "agree_of" ["self", "side", "one"] [(6,ja)]:=(sj (T:=⟨K,ca,tx K⟩) (c:=6) a.Gd a.Hg (bz a) (by decide) rm)
theorem HN(a:Txt K mg ca):Dk ⟨K,ca,tx K⟩ P w mg base 1 "strike_of" ["self", "side", "one"] [(6,Ca)]:=(sj (T:=⟨K,ca,tx K⟩) (c:=6) a.Gd a.Di (cH a) (by decide) rm)
noncomputable abbrev lX:Stmt:=sg (top 54) 1
noncomputable def fK:Ev->M Fl:=
 (Nb (Ue 2 (Fa Ta (Wc (yc [4,5,6,7] "may") (ia 0)) (eC (.int 1)))) (Nb (Ue 3 (oh [(6,ja)] 3 "agree_of" (ia 0) (qa (eC (.int 1)) (qa (ia 2) Oa)))) (Nb (Bf (Ko (Vk (eT (qd 1 Dc [] (qa (ia 1) Oa)))) (eT (Fa Hi (ia 1) (Zf (qa (eC (.str "accept")) (qa (Wc (yc [4,5,6,7] "pot") (ia 0)) (qa (ia 3) (qa (oh [(6,Ca)] 3 "strike_of" (ia 0) (qa (eC (.int 1)) (qa (Wc (yc [4,5,6,7] "mine") (ia 0)) Oa))) Oa)))))))) (zd (Zf (qa (ia 0) (qa (eC .zb) Oa)))) Mf) (Nb (Ue 4 (mi (Qr 5 7 Ui (qa (Wc (yc [4,5,6,7] "pot") (ia 0)) (qa (Wc (yc [4,5,6,7] "side") (ia 0)) (qa (ia 2) (qa (ia 3) (qa (ij (qa (ia 2) Oa)) (qa (Fa nh (Wc (yc [4,5,6,7] "strikes") (ia 0)) (ij (qa (Fa Ta (Wc (yc [4,5,6,7] "mine") (ia 0)) (eC (.int 0))) Oa))) Oa))))))))) (zd (Zf (qa (ia 4) (qa (Zf (qa (eC (.str "struck")) (qa (Wc (yc [4,5,6,7] "pot") (ia 0)) (qa (oh [(6,Ca)] 3 "strike_of" (ia 0) (qa (eC (.int 0)) (qa (Wc (yc [4,5,6,7] "mine") (ia 0)) Oa))) Oa)))) Oa))))))))
noncomputable def lc:List D->M D:=hide λa=>db (run 5 fK a)
theorem zD:Aa ["self", "letter", "one", "agree", "behind"] ["self", "letter"] (Kc lX):=Be rfl rfl rfl (by decide +kernel)
theorem XY(a:Txt K mg ca):De ⟨K,ca,tx K⟩ P w mg base 11 (ca 16) ["self", "letter"] lc:=
 De.hide (De.db (jl a.lc zD λ_ _ _ _ _ _ b=>
  (Yb (sf (i:=2) zD.nd rfl (Or.inl rfl) (gc ec (ic rfl) (ge rfl (Dz a) (ka 0)) Ra (λ_ _=>rfl)))
  (Yb (sf (i:=3) zD.nd rfl (Or.inl rfl) (Cj (k:=1) (ps:=["self", "side", "one"]) rfl (ka 0) (y3 a) (b.mono (by decide)) (ya Ra (ya (ka 2) Va))))
  (Yb (Lf (L2.PW.pt (Np (im (Fj (Vd (vD a) rfl (b.mono (by decide)) rfl (ya (ka 1) Va)))) (zr (Ef (ir (Jd b)) Fd (ka 1) (ug (ya Rf (ya (ge rfl (Fo a) (ka 0)) (ya (ka 3) (ya (Cj (k:=1) (ps:=["self", "side", "one"]) rfl (ka 0) (HN a) (b.mono (by decide)) (ya Ra (ya (ge rfl (fr a) (ka 0)) Va))) Va))))) (se _))))) (Bc (Bd (ug (ya (ka 0) (ya yt Va))))) Vf)
  (Yb (sf (i:=4) zD.nd rfl (Or.inl rfl) (mn (az (c:=5) (ps:=["self", "pot", "side", "mine", "grant", "may", "strikes"]) ⟨_,a.vq,a.So,QA a⟩ rfl (b.mono (by decide)) rfl (ya (ge rfl (Fo a) (ka 0)) (ya (ge rfl (Yt a) (ka 0)) (ya (ka 2) (ya (ka 3) (ya (rk (ya (ka 2) Va)) (ya (Df (Aj rfl) Fd (ge rfl (dA a) (ka 0)) (rk (ya (gc ec (ic rfl) (ge rfl (fr a) (ka 0)) Ra (λ_ _=>rfl)) Va))) Va)))))))))
  (Bc (Bd (ug (ya (ka 4) (ya (ug (ya Rf (ya (ge rfl (Fo a) (ka 0)) (ya (Cj (k:=1) (ps:=["self", "side", "one"]) rfl (ka 0) (HN a) (b.mono (by decide)) (ya Ra (ya (ge rfl (fr a) (ka 0)) Va))) Va)))) Va)))))))))))
theorem YU(a:Txt K mg ca):Dk ⟨K,ca,tx K⟩ P w mg base 1 "strike_of" ["self", "side", "one"] [(7,Ca)]:=(sj (T:=⟨K,ca,tx K⟩) (c:=7) a.ie a.Ei (cH a) (by decide) rm)
noncomputable abbrev UW:Stmt:=sg (top 55) 1
noncomputable def BO:Ev->M Fl:=
 (Nb (Ue 2 (Fa Ta (Wc (yc [4,5,6,7] "may") (ia 0)) (eC (.int 0)))) (Nb (Bf (Ko (Vk (eT (qd 1 Dc [] (qa (ia 1) Oa)))) (eT (Fa Hi (ia 1) (Zf (qa (eC (.str "struck")) (qa (Wc (yc [4,5,6,7] "pot") (ia 0)) (qa (oh [(7,Ca)] 3 "strike_of" (ia 0) (qa (eC (.int 0)) (qa (ia 2) Oa))) Oa))))))) (zd (Zf (qa (ia 0) (qa (eC .zb) Oa)))) Mf) (Nb (Ue 3 (mi (Qr 5 7 Ui (qa (Wc (yc [4,5,6,7] "pot") (ia 0)) (qa (Wc (yc [4,5,6,7] "side") (ia 0)) (qa (Wc (yc [4,5,6,7] "mine") (ia 0)) (qa (Wc (yc [4,5,6,7] "grant") (ia 0)) (qa (ij (qa (Wc (yc [4,5,6,7] "mine") (ia 0)) Oa)) (qa (Fa nh (Wc (yc [4,5,6,7] "strikes") (ia 0)) (ij (qa (Fa Ta (ia 2) (eC (.int 0))) Oa))) Oa))))))))) (zd (Zf (qa (ia 3) (qa (eC .zb) Oa)))))))
noncomputable def jc:List D->M D:=hide λa=>db (run 4 BO a)
theorem SF:Aa ["self", "letter", "old", "behind"] ["self", "letter"] (Kc UW):=Be rfl rfl rfl (by decide +kernel)
theorem ZU(a:Txt K mg ca):De ⟨K,ca,tx K⟩ P w mg base 11 (ca 18) ["self", "letter"] jc:=
 De.hide (De.db (jl a.jc SF λ_ _ _ _ _ _ b=>
  (Yb (sf (i:=2) SF.nd rfl (Or.inl rfl) (gc ec (ic rfl) (ge rfl (Dz a) (ka 0)) Ra (λ_ _=>rfl)))
  (Yb (Lf (L2.PW.pt (Np (im (Fj (Vd (vD a) rfl (b.mono (by decide)) rfl (ya (ka 1) Va)))) (zr (Ef (ir (Jd b)) Fd (ka 1) (ug (ya Rf (ya (ge rfl (Fo a) (ka 0)) (ya (Cj (k:=1) (ps:=["self", "side", "one"]) rfl (ka 0) (YU a) (b.mono (by decide)) (ya Ra (ya (ka 2) Va))) Va)))) (se _))))) (Bc (Bd (ug (ya (ka 0) (ya yt Va))))) Vf)
  (Yb (sf (i:=3) SF.nd rfl (Or.inl rfl) (mn (az (c:=5) (ps:=["self", "pot", "side", "mine", "grant", "may", "strikes"]) ⟨_,a.vq,a.So,QA a⟩ rfl (b.mono (by decide)) rfl (ya (ge rfl (Fo a) (ka 0)) (ya (ge rfl (Yt a) (ka 0)) (ya (ge rfl (fr a) (ka 0)) (ya (ge rfl (KI a) (ka 0)) (ya (rk (ya (ge rfl (fr a) (ka 0)) Va)) (ya (Df (Aj rfl) Fd (ge rfl (dA a) (ka 0)) (rk (ya (gc ec (ic rfl) (ka 2) Ra (λ_ _=>rfl)) Va))) Va)))))))))
  (Bc (Bd (ug (ya (ka 3) (ya yt Va))))))))))
theorem iL(a:Txt K mg ca):Dk ⟨K,ca,tx K⟩ P w mg base 11 "taken" ["self", "letter"] [(5,Jc),(6,lc),(7,jc)]:=(sj (T:=⟨K,ca,tx K⟩) (c:=5) a.Xf a.Nn (OZ a) (by decide) (sj (T:=⟨K,ca,tx K⟩) (c:=6) a.Gd a.Ck (XY a) (by decide) (sj (T:=⟨K,ca,tx K⟩) (c:=7) a.ie a.pk (ZU a) (by decide) rm)))
noncomputable abbrev xV:Stmt:=sg (top 89) 17
noncomputable def ZO:Ev->M Fl:=
 (Nb (Bf (Ko (eT (Fa Hi (Fa Ta (ia 1) (eC (.int 0))) (eC (.str "offer")))) (eT (Fa Jy (Fa Ta (ia 1) (eC (.int 1))) (Wc (yc [9] "asked") (ia 0))))) (zd (eC (.bl false))) Mf) Ak)
noncomputable def Wb:List D->M D:=hide λa=>db (run 2 ZO a)
theorem YY:Aa ["self", "letter"] ["self", "letter"] (Kc xV):=Be rfl rfl rfl (by decide +kernel)
theorem CV(a:Txt K mg ca):De ⟨K,ca,tx K⟩ P w mg base 1 (ca 37) ["self", "letter"] Wb:=
 De.hide (De.db (jl a.Wb YY λ_ _ _ _ _ _ b=>
  (Yb (Lf (L2.PW.pt (Np (Ef (ir (Jd b)) Fd (gc ec (ic rfl) (ka 1) Ra (λ_ _=>rfl)) Rf (se _)) (zr (Ef (GQ (Jd b)) GM (gc ec (ic rfl) (ka 1) Ra (λ_ _=>rfl)) (ge rfl (AD a) (ka 0)) rfl)))) (Bc (Bd jt)) Vf)
  Wk)))
theorem U4(a:Txt K mg ca):Dk ⟨K,ca,tx K⟩ P w mg base 1 "is_as_asked" ["self", "letter"] [(9,Wb)]:=(sj (T:=⟨K,ca,tx K⟩) (c:=9) a.Hb a.ni (CV a) (by decide) rm)
noncomputable abbrev K3:Stmt:=sg (top 89) 18
noncomputable abbrev KM:Ev->M Fl:=(Ue 2 (Fa Ta (ia 1) (eC (.int 1))))
noncomputable abbrev BJ:Ev->M Fl:=(Ue 3 (oh [(5,Jc),(6,lc),(7,jc)] 2 "taken" (Fa Xk (Wc (yc [9] "accounts") (ia 0)) (ia 2)) (qa (ia 1) Oa)))
noncomputable abbrev NM:Ev->M Fl:=(Bf (eT (Fa (qB [(7,5),(5,7),(5,6)]) (Fa Ta (ia 3) (eC (.int 0))) (Fa Xk (Wc (yc [9] "accounts") (ia 0)) (ia 2)))) (zd (ij Oa)) Mf)
noncomputable abbrev aP:Ev->M Fl:=(Ue 4 (oh [(9,Wb)] 2 "is_as_asked" (ia 0) (qa (ia 1) Oa)))
noncomputable abbrev rQ:Ev->M Fl:=(Ue 5 (Eu (eT (ia 4)) (Fa Ta (Fa Xk (Wc (yc [9] "asked") (ia 0)) (ia 2)) (eC (.int 0))) (eC (.int 0))))
noncomputable abbrev yL:Ev->M Fl:=(Bf (Vk (eT (oh [(9,Fb)] 3 "is_good" (ia 0) (qa (Fa Ta (ia 3) (eC (.int 0))) (qa (ia 5) Oa))))) Ak Mf)
noncomputable abbrev kM:Ev->M Fl:=(Lr (Fa Ta (ia 3) (eC (.int 0))) (Wc (yc [9] "accounts") (ia 0)) (ia 2))
noncomputable abbrev WP:Ev->M Fl:=(Bf (eT (ia 4)) Ak Mf)
noncomputable abbrev VN:Ev->M Fl:=(zd (Eu (eT (Fa ms (Fa Ta (ia 3) (eC (.int 1))) (eC .zb))) (ij Oa) (ij (qa (Fa Ta (ia 3) (eC (.int 1))) Oa))))
noncomputable def WK:Ev->M Fl:=
 (Nb KM (Nb BJ (Nb NM (Nb aP (Nb rQ (Nb yL (Nb kM (Nb WP VN))))))))
noncomputable def Zb:List D->M D:=hide (run 6 WK)
theorem KA:Aa ["self", "letter", "pot", "step", "as_asked", "allowance"] ["self", "letter"] (Kc K3):=Be rfl rfl rfl (by decide +kernel)
theorem zV(a:Txt K mg ca):De ⟨K,ca,tx K⟩ P w mg base 12 (ca 38) ["self", "letter"] Zb:=
 De.hide (jl a.Zb KA λ_ _ _ _ _ _ b=>
  (Yb (sf (i:=2) KA.nd rfl (Or.inl rfl) (gc ec (ic rfl) (ka 1) Ra (λ_ _=>rfl)))
  (Yb (sf (i:=3) KA.nd rfl (Or.inl rfl) (Cj (k:=11) (ps:=["self", "letter"]) rfl (yr (Jd b) (ge rfl (fq a) (ka 0)) (ka 2) (λ_ _=>rfl)) (iL a) (b.mono (by decide)) (ya (ka 1) Va)))
  (Yb (Lf (Ef (V3 (Jd b)) (aZ (K:=K) (uI a.Zk a.Fm a.rl a.wl (uI a.Fm a.Zk a.Ql a.Ll (uI a.Fm a.Jp a.Yl a.Dl W6)))) (gc ec (ic rfl) (ka 3) Ra (λ_ _=>rfl)) (yr (Jd b) (ge rfl (fq a) (ka 0)) (ka 2) (λ_ _=>rfl)) rfl) (Bc (Bd (rk Va))) Vf)
  (Yb (sf (i:=4) KA.nd rfl (Or.inl rfl) (Cj (k:=1) (ps:=["self", "letter"]) rfl (ka 0) (U4 a) (b.mono (by decide)) (ya (ka 1) Va)))
  (Yb (sf (i:=5) KA.nd rfl (Or.inl rfl) (Sx (Fj (ka 4)) (gc ec (ic rfl) (yr (Jd b) (ge rfl (AD a) (ka 0)) (ka 2) (λ_ _=>rfl)) Ra (λ_ _=>rfl)) Ra))
  (Yb (Lf (im (Fj (Cj (k:=10) (ps:=["self", "account", "allowance"]) rfl (ka 0) (sI a) (b.mono (by decide)) (ya (gc ec (ic rfl) (ka 3) Ra (λ_ _=>rfl)) (ya (ka 5) Va))))) Wk Vf)
  (Yb (Qt (Jd b) (gc ec (ic rfl) (ka 3) Ra (λ_ _=>rfl)) (ge rfl (fq a) (ka 0)) (ka 2))
  (Yb (Lf (Fj (ka 4)) Wk Vf)
  (Bc (Bd (Sx (Ef bD mE (gc ec (ic rfl) (ka 3) Ra (λ_ _=>rfl)) yt (se _)) (rk Va) (rk (ya (gc ec (ic rfl) (ka 3) Ra (λ_ _=>rfl)) Va))))))))))))))
theorem oT(a:Txt K mg ca):Dk ⟨K,ca,tx K⟩ P w mg base 12 "take_step" ["self", "letter"] [(9,Zb)]:=(sj (T:=⟨K,ca,tx K⟩) (c:=9) a.Hb a.Vi (zV a) (by decide) rm)
noncomputable abbrev IX:Stmt:=sg (top 89) 15
noncomputable abbrev PZ:Ev->M Fl:=(Bf (Vk (eT (oh [(9,kc)] 2 "holds" (ia 0) (qa (Fa Ta (ia 1) (eC (.int 1))) Oa)))) Ak Mf)
noncomputable def jF:Ev->M Fl:=
 (Nb (Bf (Vk (eT (qd 1 Dc [] (qa (ia 1) Oa)))) Ak Mf) (Nb (Bf (eT (Fa oEq (Fa Ta (ia 1) (eC (.int 0))) (eC (.str "word")))) Ak Mf) (Nb PZ (Nb (Bf (eT (Fa oEq (Fa Ta (ia 1) (eC (.int 0))) (eC (.str "ask")))) (zd (oh [(9,Ec)] 2 "take_ask" (ia 0) (qa (ia 1) Oa))) Mf) (zd (oh [(9,Zb)] 2 "take_step" (ia 0) (qa (ia 1) Oa)))))))
noncomputable def yb:List D->M D:=hide (run 2 jF)
theorem iX:Aa ["self", "letter"] ["self", "letter"] (Kc IX):=Be rfl rfl rfl (by decide +kernel)
theorem V5(b:Txt K mg ca):De ⟨K,ca,tx K⟩ P w mg base 13 (ca 35) ["self", "letter"] yb:=
 De.hide (jl b.yb iX λ_ _ _ _ _ _ a=>
  (Yb (Lf (im (Fj (Vd (vD b) rfl (a.mono (by decide)) rfl (ya (ka 1) Va)))) Wk Vf)
  (Yb (Lf (Ef (Jg (Jd a)) Fd (gc ec (ic rfl) (ka 1) Ra (λ_ _=>rfl)) Rf (se _)) Wk Vf)
  (Yb (Lf (im (Fj (Cj (k:=1) (ps:=["self", "pot"]) rfl (ka 0) (kO b) (a.mono (by decide)) (ya (gc ec (ic rfl) (ka 1) Ra (λ_ _=>rfl)) Va)))) Wk Vf)
  (Yb (Lf (Ef (Jg (Jd a)) Fd (gc ec (ic rfl) (ka 1) Ra (λ_ _=>rfl)) Rf (se _)) (Bc (Bd (Cj (k:=11) (ps:=["self", "letter"]) rfl (ka 0) (XZ b) (a.mono (by decide)) (ya (ka 1) Va)))) Vf)
  (Bc (Bd (Cj (k:=12) (ps:=["self", "letter"]) rfl (ka 0) (oT b) (a.mono (by decide)) (ya (ka 1) Va)))))))))
theorem uC(a:Txt K mg ca):Dk ⟨K,ca,tx K⟩ P w mg base 13 "take" ["self", "letter"] [(9,yb)]:=(sj (T:=⟨K,ca,tx K⟩) (c:=9) a.Hb a.Qm (V5 a) (by decide) rm)
noncomputable abbrev nS:Stmt:=top 92
noncomputable abbrev TC:Ev->M Fl:=(Ue 5 (vw (qa (Fa Ta (ia 2) (eC (.int 0))) (qa (Fa Ta (ia 2) (eC (.int 1))) Oa))))
noncomputable abbrev OC:Ev->M Fl:=(VG (Fa Ju (Fa Ta (ia 5) (Fa Ju (eC (.int 1)) (ia 1))) (Fa Ta (ia 3) (eC (.int 1)))) (ia 5) (Fa Ju (eC (.int 1)) (ia 1)))
noncomputable abbrev uE:Ev->M Fl:=(Ue 6 (Zf (qa (eC (.int 1)) (qa (Bh EC (qa (ia 5) Oa)) (qa (Zf (qa (ia 3) Oa)) Oa)))))
noncomputable abbrev Dw:Ev->M Fl:=(Bf (eT (Fa oEq (ia 1) (eC (.int 0)))) (Nb (xq (oh [(9,yb)] 2 "take" (ia 0) (qa (Zf (qa (eC (.str "ask")) (qa (eC (.int 0)) (qa (Fa Ta (ia 6) (eC (.int 1))) (qa (Fa Ta (ia 6) (eC (.int 2))) Oa))))) Oa))) (Bf (Vk (eT (ia 4))) (xq (oh [(9,yb)] 2 "take" (ia 0) (qa (Zf (qa (eC (.str "accept")) (qa (eC (.int 0)) (qa (Zf (qa (eC (.str "agree")) (qa (eC (.int 0)) (qa (eC (.int 1)) (qa (ia 6) Oa))))) (qa (Zf (qa (eC (.str "strike")) (qa (eC (.int 0)) (qa (eC (.int 1)) (qa (eC (.int 0)) Oa))))) Oa))))) Oa))) Mf)) (Nb (xq (oh [(9,yb)] 2 "take" (ia 0) (qa (Zf (qa (eC (.str "offer")) (qa (eC (.int 0)) (qa (Zf (qa (eC (.str "agree")) (qa (eC (.int 0)) (qa (eC (.int 0)) (qa (ia 6) Oa))))) Oa)))) Oa))) (Bf (Vk (eT (ia 4))) (xq (oh [(9,yb)] 2 "take" (ia 0) (qa (Zf (qa (eC (.str "struck")) (qa (eC (.int 0)) (qa (Zf (qa (eC (.str "strike")) (qa (eC (.int 0)) (qa (eC (.int 0)) (qa (eC (.int 0)) Oa))))) Oa)))) Oa))) Mf)))
noncomputable def xP:Ev->M Fl:=
 (Nb TC (Nb OC (Nb uE Dw)))
noncomputable def Ve:List D->M D:=hide (run 7 xP)
theorem zG:Aa ["_law_keeper", "_law_side", "_law_coins", "_law_tie", "_law_halfway", "_law_split", "_law_new"] ["_law_keeper", "_law_side", "_law_coins", "_law_tie", "_law_halfway"] (Kc nS):=Be rfl rfl rfl (by decide +kernel)
theorem bW(a:Txt K mg ca):Pb ⟨K,ca,tx K⟩ P w mg base 14 "_law_put" ["_law_keeper", "_law_side", "_law_coins", "_law_tie", "_law_halfway"] Ve:=
 Pb.hide (Ig a.Ve zG λ_ _ _ _ _ _ _ b=>
  (Yb (sf (i:=5) zG.nd rfl (Or.inl rfl) (xy (ya (gc ec (ic rfl) (ka 2) Ra (λ_ _=>rfl)) (ya (gc ec (ic rfl) (ka 2) Ra (λ_ _=>rfl)) Va))))
  (Yb (yT (Df Fv Yu (gc ec (ic rfl) (ka 5) (Df Fv Yu Ra (ka 1)) (λ_ _=>rfl)) (gc ec (ic rfl) (ka 3) Ra (λ_ _=>rfl))) (ka 5) (Df Fv Yu Ra (ka 1)))
  (Yb (sf (i:=6) zG.nd rfl (Or.inl rfl) (ug (ya Ra (ya (Gw G7 (eX rfl) rfl a.Th Yh (ya (ka 5) Va)) (ya (ug (ya (ka 3) Va)) Va)))))
  (Bc (Lf (Ef (Jg (Jd b)) Fd (ka 1) Ra (se _)) (Yb (Mr (Cj (k:=13) (ps:=["self", "letter"]) rfl (ka 0) (uC a) (b.mono (by decide)) (ya (ug (ya Rf (ya Ra (ya (gc ec (ic rfl) (ka 6) Ra (λ_ _=>rfl)) (ya (gc ec (ic rfl) (ka 6) Ra (λ_ _=>rfl)) Va))))) Va)))
  (Bc (Lf (im (Fj (ka 4))) (Bc (Mr (Cj (k:=13) (ps:=["self", "letter"]) rfl (ka 0) (uC a) (b.mono (by decide)) (ya (ug (ya Rf (ya Ra (ya (ug (ya Rf (ya Ra (ya Ra (ya (ka 6) Va))))) (ya (ug (ya Rf (ya Ra (ya Ra (ya Ra Va))))) Va))))) Va)))) Vf))) (Yb (Mr (Cj (k:=13) (ps:=["self", "letter"]) rfl (ka 0) (uC a) (b.mono (by decide)) (ya (ug (ya Rf (ya Ra (ya (ug (ya Rf (ya Ra (ya Ra (ya (ka 6) Va))))) Va)))) Va)))
  (Bc (Lf (im (Fj (ka 4))) (Bc (Mr (Cj (k:=13) (ps:=["self", "letter"]) rfl (ka 0) (uC a) (b.mono (by decide)) (ya (ug (ya Rf (ya Ra (ya (ug (ya Rf (ya Ra (ya Ra (ya Ra Va))))) Va)))) Va)))) Vf)))))))))
noncomputable abbrev uY:Stmt:=sg (top 89) 6
noncomputable def dO:Ev->M Fl:=
 (Nb (Bf (eT (Fa Jy (ia 1) (Wc (yc [9] "accounts") (ia 0)))) Ak Mf) (zd (Fa Xk (Wc (yc [9] "accounts") (ia 0)) (ia 1))))
noncomputable def Nc:List D->M D:=hide λa=>db (run 2 dO a)
theorem E4:Aa ["self", "pot"] ["self", "pot"] (Kc uY):=Be rfl rfl rfl (by decide +kernel)
theorem PU(a:Txt K mg ca):De ⟨K,ca,tx K⟩ P w mg base 1 (ca 26) ["self", "pot"] Nc:=
 De.hide (De.db (jl a.Nc E4 λ_ _ _ _ _ _ b=>
  (Yb (Lf (Ef (GQ (Jd b)) GM (ka 1) (ge rfl (fq a) (ka 0)) rfl) Wk Vf)
  (Bc (Bd (yr (Jd b) (ge rfl (fq a) (ka 0)) (ka 1) (λ_ _=>rfl)))))))
theorem aY(a:Txt K mg ca):Dk ⟨K,ca,tx K⟩ P w mg base 1 "account" ["self", "pot"] [(9,Nc)]:=(sj (T:=⟨K,ca,tx K⟩) (c:=9) a.Hb a.Vj (PU a) (by decide) rm)
noncomputable abbrev dU:Stmt:=sg (top 89) 5
noncomputable def rN:Ev->M Fl:=
 (zd (Wc (yc [9] "gave") (ia 0)))
noncomputable def wc:List D->M D:=hide λa=>db (run 1 rN a)
theorem MT:Aa ["self"] ["self"] (Kc dU):=Be rfl rfl rfl (by decide +kernel)
theorem U2(a:Txt K mg ca):De ⟨K,ca,tx K⟩ P w mg base 1 (ca 25) ["self"] wc:=
 De.hide (De.db (jl a.wc MT λ_ _ _ _ _ _ b=>
  (Bc (Bd (ge rfl (gH a) (ka 0))))))
theorem zI(a:Txt K mg ca):Dk ⟨K,ca,tx K⟩ P w mg base 1 "given" ["self"] [(9,wc)]:=(sj (T:=⟨K,ca,tx K⟩) (c:=9) a.Hb a.Ul (U2 a) (by decide) rm)
noncomputable abbrev v6:Stmt:=top 33
noncomputable def NF:Ev->M Fl:=
 (zd (qd 3 Yf [] (qa (Fa nh (Fa Ta (ia 0) (eC (.int 0))) (eC (.int 1))) (qa (ia 1) (qa (ia 2) Oa)))))
noncomputable def Ee:List D->M D:=hide λa=>db (run 3 NF a)
theorem lR:Aa ["one", "shares", "ties"] ["one", "shares", "ties"] (Kc v6):=Be rfl rfl rfl (by decide +kernel)
theorem yR(a:Txt K mg ca):Pb ⟨K,ca,tx K⟩ P w mg base 8 "following" ["one", "shares", "ties"] Ee:=
 Pb.hide (Pb.db (Ig a.Ee lR λ_ _ _ _ _ _ _ b=>
  (Bc (Bd (wR (kQ a) rfl (b.mono (by decide)) rfl (ya (Df (Aj rfl) Fd (gc ec (ic rfl) (ka 0) Ra (λ_ _=>rfl)) Ra) (ya (ka 1) (ya (ka 2) Va))))))))
noncomputable abbrev BW:Stmt:=top 32
noncomputable def YL:Ev->M Fl:=
 (Nb (Bf (eT (Fa oEq (ia 1) (eC (.int 0)))) (zd (Zf (qa (Fa nh (Fa Ta (ia 0) (eC (.int 0))) (ia 2)) (qa (Fa Ta (ia 0) (eC (.int 1))) Oa)))) Mf) (zd (Zf (qa (Fa Ta (ia 0) (eC (.int 0))) (qa (Fa nh (Fa Ta (ia 0) (eC (.int 1))) (ia 2)) Oa)))))
noncomputable def Nf:List D->M D:=hide λa=>db (run 3 YL a)
theorem QY:Aa ["shares", "side", "amount"] ["shares", "side", "amount"] (Kc BW):=Be rfl rfl rfl (by decide +kernel)
theorem dW(a:Txt K mg ca):Pb ⟨K,ca,tx K⟩ P w mg base 1 "with_more" ["shares", "side", "amount"] Nf:=
 Pb.hide (Pb.db (Ig a.Nf QY λ_ _ _ _ _ _ _ b=>
  (Yb (Lf (Ef (Jg (Jd b)) Fd (ka 1) Ra (se _)) (Bc (Bd (ug (ya (Df (Aj rfl) Fd (gc ec (ic rfl) (ka 0) Ra (λ_ _=>rfl)) (ka 2)) (ya (gc ec (ic rfl) (ka 0) Ra (λ_ _=>rfl)) Va))))) Vf)
  (Bc (Bd (ug (ya (gc ec (ic rfl) (ka 0) Ra (λ_ _=>rfl)) (ya (Df (Aj rfl) Fd (gc ec (ic rfl) (ka 0) Ra (λ_ _=>rfl)) (ka 2)) Va))))))))
noncomputable abbrev WU:Stmt:=top 35
noncomputable def MD:Ev->M Fl:=
 (Nb (Ue 5 (Zf (qa (ia 1) (qa (ia 2) (qa (ia 3) (qa (ia 4) Oa)))))) (Nb (Bf (Vk (eT (qd 1 xf [] (qa (ia 5) Oa)))) (sC 1 (qa (eC (.str "payer, amount, word and day make no tie")) Oa)) Mf) (zd (qd 3 Ee [] (qa (ia 0) (qa (qd 3 Nf [] (qa (Fa Ta (ia 0) (eC (.int 1))) (qa (ia 1) (qa (Wc Bx (ia 2)) Oa)))) (qa (Fa nh (Fa Ta (ia 0) (eC (.int 2))) (Zf (qa (ia 5) Oa))) Oa)))))))
noncomputable def Zg:List D->M D:=hide λa=>db (run 6 MD a)
theorem PL:Aa ["one", "payer", "amount", "word", "day", "tie"] ["one", "payer", "amount", "word", "day"] (Kc WU):=Be rfl rfl rfl (by decide +kernel)
theorem lU(a:Txt K mg ca):Pb ⟨K,ca,tx K⟩ P w mg base 9 "tied" ["one", "payer", "amount", "word", "day"] Zg:=
 Pb.hide (Pb.db (Ig a.Zg PL λ_ _ _ _ _ _ _ b=>
  (Yb (sf (i:=5) PL.nd rfl (Or.inl rfl) (ug (ya (ka 1) (ya (ka 2) (ya (ka 3) (ya (ka 4) Va))))))
  (Yb (Lf (im (Fj (Vd (pJ a) rfl (b.mono (by decide)) rfl (ya (ka 5) Va)))) (Bc (lO 1 gn rfl a.qo a.Fk rfl rfl (ya Rf Va))) Vf)
  (Bc (Bd (Vd (yR a) rfl (b.mono (by decide)) rfl (ya (ka 0) (ya (Vd (dW a) rfl (b.mono (by decide)) rfl (ya (gc ec (ic rfl) (ka 0) Ra (λ_ _=>rfl)) (ya (ka 1) (ya (Ez Tz XA (ka 2)) Va)))) (ya (Df (Aj rfl) Fd (gc ec (ic rfl) (ka 0) Ra (λ_ _=>rfl)) (ug (ya (ka 5) Va))) Va))))))))))
noncomputable abbrev XW:Stmt:=top 86
noncomputable def sO:Ev->M Fl:=
 (Nb (Ue 3 (Wc (yc [4,5,6,7] "mine") (ia 0))) (Nb (Ue 4 (Wc (yc [4,5,6,7] "side") (ia 0))) (Nb (Bf (eT (Fa oEq (Fa Ta (ia 1) (eC (.int 0))) (eC (.str "give")))) Ak Mf) (Nb (Bf (Ko (eT (Fa oEq (Fa Ta (ia 1) (eC (.int 0))) (eC (.str "pay")))) (eT (Fa oEq (Fa Ta (ia 1) (eC (.int 0))) (eC (.str "pass"))))) (zd (qd 5 Zg [] (qa (ia 3) (qa (ia 4) (qa (Fa Ta (ia 1) (eC (.int 2))) (qa (Fa Ta (ia 1) (eC (.int 3))) (qa (Fa Ta (ia 1) (eC (.int 4))) Oa))))))) Mf) Ak))))
noncomputable def Rc:List D->M D:=hide λa=>db (run 5 sO a)
theorem bJ:Aa ["account", "wish", "known", "mine", "side"] ["account", "wish", "known"] (Kc XW):=Be rfl rfl rfl (by decide +kernel)
theorem M0(a:Txt K mg ca):Pb ⟨K,ca,tx K⟩ P w mg base 10 "stand_wished" ["account", "wish", "known"] Rc:=
 Pb.hide (Pb.db (Ig a.Rc bJ λ_ _ _ _ _ _ _ b=>
  (Yb (sf (i:=3) bJ.nd rfl (Or.inl rfl) (ge rfl (fr a) (ka 0)))
  (Yb (sf (i:=4) bJ.nd rfl (Or.inl rfl) (ge rfl (Yt a) (ka 0)))
  (Yb (Lf (Ef (Jg (Jd b)) Fd (gc ec (ic rfl) (ka 1) Ra (λ_ _=>rfl)) Rf (se _)) Wk Vf)
  (Yb (Lf (L2.PW.pt (Np (Ef (Jg (Jd b)) Fd (gc ec (ic rfl) (ka 1) Ra (λ_ _=>rfl)) Rf (se _)) (zr (Ef (Jg (Jd b)) Fd (gc ec (ic rfl) (ka 1) Ra (λ_ _=>rfl)) Rf (se _))))) (Bc (Bd (Vd (lU a) rfl (b.mono (by decide)) rfl (ya (ka 3) (ya (ka 4) (ya (gc ec (ic rfl) (ka 1) Ra (λ_ _=>rfl)) (ya (gc ec (ic rfl) (ka 1) Ra (λ_ _=>rfl)) (ya (gc ec (ic rfl) (ka 1) Ra (λ_ _=>rfl)) Va)))))))) Vf)
  Wk))))))
noncomputable abbrev Y3:Stmt:=top 87
noncomputable def DJ:Ev->M Fl:=
 (zd (Eu (Ko (eT (Fa oEq (Fa Ta (ia 0) (eC (.int 0))) (eC (.str "give")))) (eT (Fa oEq (Fa Ta (ia 0) (eC (.int 0))) (eC (.str "pay"))))) (Fa Ta (ia 0) (eC (.int 2))) (eC (.int 0))))
noncomputable def we:List D->M D:=hide λa=>db (run 1 DJ a)
theorem HR:Aa ["wish"] ["wish"] (Kc Y3):=Be rfl rfl rfl (by decide +kernel)
theorem mW(b:Txt K mg ca):Pb ⟨K,ca,tx K⟩ P w mg base 1 "allowance_of" ["wish"] we:=
 Pb.hide (Pb.db (Ig b.we HR λ_ _ _ _ _ _ _ a=>
  (Bc (Bd (Sx (L2.PW.pt (Np (Ef (Jg (Jd a)) Fd (gc ec (ic rfl) (ka 0) Ra (λ_ _=>rfl)) Rf (se _)) (zr (Ef (Jg (Jd a)) Fd (gc ec (ic rfl) (ka 0) Ra (λ_ _=>rfl)) Rf (se _))))) (gc ec (ic rfl) (ka 0) Ra (λ_ _=>rfl)) Ra)))))
noncomputable abbrev UU:Stmt:=top 88
noncomputable def VF:Ev->M Fl:=
 (Nb (Bf (eT (Fa oEq (Wc (yc [4,5,6,7] "side") (ia 0)) (eC (.int 0)))) (zd (qd 3 ig [] (qa (ia 0) (qa (Fa Ta (ia 1) (eC (.int 1))) (qa (Fa Ta (ia 1) (eC (.int 2))) Oa))))) Mf) (Nb (Ue 2 (Zf (qa (eC (.str "offer")) (qa (Wc (yc [4,5,6,7] "pot") (ia 0)) (qa (oh [(4,ja),(5,ja),(6,ja),(7,ja)] 3 "agree_of" (ia 0) (qa (eC (.int 0)) (qa (ia 1) Oa))) Oa))))) (zd (Zf (qa (Fa Ta (oh [(5,Jc),(6,lc),(7,jc)] 2 "taken" (ia 0) (qa (ia 2) Oa)) (eC (.int 0))) (qa (Zf (qa (eC (.str "ask")) (qa (Wc (yc [4,5,6,7] "pot") (ia 0)) (qa (Fa Ta (ia 1) (eC (.int 1))) (qa (Fa Ta (ia 1) (eC (.int 2))) Oa))))) Oa))))))
noncomputable def jg:List D->M D:=hide λa=>db (run 3 VF a)
theorem wQ:Aa ["account", "one", "offer"] ["account", "one"] (Kc UU):=Be rfl rfl rfl (by decide +kernel)
theorem Y4(a:Txt K mg ca):Pb ⟨K,ca,tx K⟩ P w mg base 12 "step_to" ["account", "one"] jg:=
 Pb.hide (Pb.db (Ig a.jg wQ λ_ _ _ _ _ _ _ b=>
  (Yb (Lf (Ef (Jg (Jd b)) Fd (ge rfl (Yt a) (ka 0)) Ra (se _)) (Bc (Bd (Vd (bM a) rfl (b.mono (by decide)) rfl (ya (ka 0) (ya (gc ec (ic rfl) (ka 1) Ra (λ_ _=>rfl)) (ya (gc ec (ic rfl) (ka 1) Ra (λ_ _=>rfl)) Va)))))) Vf)
  (Yb (sf (i:=2) wQ.nd rfl (Or.inl rfl) (ug (ya Rf (ya (ge rfl (Fo a) (ka 0)) (ya (Cj (k:=1) (ps:=["self", "side", "one"]) rfl (ka 0) (gO a) (b.mono (by decide)) (ya Ra (ya (ka 1) Va))) Va)))))
  (Bc (Bd (ug (ya (gc ec (ic rfl) (Cj (k:=11) (ps:=["self", "letter"]) rfl (ka 0) (iL a) (b.mono (by decide)) (ya (ka 2) Va)) Ra (λ_ _=>rfl)) (ya (ug (ya Rf (ya (ge rfl (Fo a) (ka 0)) (ya (gc ec (ic rfl) (ka 1) Ra (λ_ _=>rfl)) (ya (gc ec (ic rfl) (ka 1) Ra (λ_ _=>rfl)) Va))))) Va)))))))))
noncomputable abbrev tR:Stmt:=sg (top 89) 14
noncomputable abbrev QD:Ev->M Fl:=(Ue 3 (Fa Ta (ia 2) (eC (.int 1))))
noncomputable abbrev pC:Ev->M Fl:=(Ue 4 (Wc (yc [4,5,6,7] "side") (Fa Xk (Wc (yc [9] "accounts") (ia 0)) (ia 3))))
noncomputable abbrev PB:Ev->M Fl:=(Ue 5 (qd 1 we [] (qa (ia 2) Oa)))
noncomputable abbrev LB:Ev->M Fl:=(Ue 6 (qd 2 jg [] (qa (Fa Xk (Wc (yc [9] "accounts") (ia 0)) (ia 3)) (qa (ia 1) Oa))))
noncomputable abbrev fC:Ev->M Fl:=(Bf (Vk (eT (oh [(9,Fb)] 3 "is_good" (ia 0) (qa (Fa Ta (ia 6) (eC (.int 0))) (qa (ia 5) Oa))))) (zd (Zf (qa (eC (.bl false)) (qa (ij Oa) Oa)))) Mf)
noncomputable abbrev bC:Ev->M Fl:=(Bf (eT (Fa oEq (ia 4) (eC (.int 0)))) (Nb (Lr (Fa Ta (ia 6) (eC (.int 0))) (Wc (yc [9] "accounts") (ia 0)) (ia 3)) (fF [9] "gave" (ia 5) (ia 0))) (Lr (Zf (qa (ia 5) (qa (Fa Ta (ia 1) (eC (.int 1))) (qa (Fa Ta (ia 1) (eC (.int 2))) Oa)))) (Wc (yc [9] "asked") (ia 0)) (ia 3)))
noncomputable abbrev dE:Ev->M Fl:=(Bf (eT (Fa oEq (Fa Ta (ia 2) (eC (.int 0))) (eC (.str "settle")))) Ak Mf)
noncomputable abbrev dC:Ev->M Fl:=(zd (Zf (qa (eC (.bl true)) (qa (ij (qa (Fa Ta (ia 6) (eC (.int 1))) Oa)) Oa))))
noncomputable def ED:Ev->M Fl:=
 (Nb QD (Nb pC (Nb PB (Nb LB (Nb fC (Nb bC (Nb dE dC)))))))
noncomputable def Jb:List D->M D:=hide (run 7 ED)
theorem wz:Aa ["self", "one", "wish", "pot", "side", "allowance", "step"] ["self", "one", "wish"] (Kc tR):=Be rfl rfl rfl (by decide +kernel)
theorem PR(a:Txt K mg ca):De ⟨K,ca,tx K⟩ P w mg base 13 (ca 34) ["self", "one", "wish"] Jb:=
 De.hide (jl a.Jb wz λ_ _ _ _ _ _ b=>
  (Yb (sf (i:=3) wz.nd rfl (Or.inl rfl) (gc ec (ic rfl) (ka 2) Ra (λ_ _=>rfl)))
  (Yb (sf (i:=4) wz.nd rfl (Or.inl rfl) (ge rfl (Yt a) (yr (Jd b) (ge rfl (fq a) (ka 0)) (ka 3) (λ_ _=>rfl))))
  (Yb (sf (i:=5) wz.nd rfl (Or.inl rfl) (Vd (mW a) rfl (b.mono (by decide)) rfl (ya (ka 2) Va)))
  (Yb (sf (i:=6) wz.nd rfl (Or.inl rfl) (Vd (Y4 a) rfl (b.mono (by decide)) rfl (ya (yr (Jd b) (ge rfl (fq a) (ka 0)) (ka 3) (λ_ _=>rfl)) (ya (ka 1) Va))))
  (Yb (Lf (im (Fj (Cj (k:=10) (ps:=["self", "account", "allowance"]) rfl (ka 0) (sI a) (b.mono (by decide)) (ya (gc ec (ic rfl) (ka 6) Ra (λ_ _=>rfl)) (ya (ka 5) Va))))) (Bc (Bd (ug (ya jt (ya (rk Va) Va))))) Vf)
  (Yb (Lf (Ef (Jg (Jd b)) Fd (ka 4) Ra (se _)) (Yb (Qt (Jd b) (gc ec (ic rfl) (ka 6) Ra (λ_ _=>rfl)) (ge rfl (fq a) (ka 0)) (ka 3))
  (Bc (HV rfl (gH a) (ka 0) (ka 5)))) (Bc (Qt (Jd b) (ug (ya (ka 5) (ya (gc ec (ic rfl) (ka 1) Ra (λ_ _=>rfl)) (ya (gc ec (ic rfl) (ka 1) Ra (λ_ _=>rfl)) Va)))) (ge rfl (AD a) (ka 0)) (ka 3))))
  (Yb (Lf (Ef (Jg (Jd b)) Fd (gc ec (ic rfl) (ka 2) Ra (λ_ _=>rfl)) Rf (se _)) Wk Vf)
  (Bc (Bd (ug (ya jt (ya (rk (ya (gc ec (ic rfl) (ka 6) Ra (λ_ _=>rfl)) Va)) Va)))))))))))))
theorem DV(a:Txt K mg ca):Dk ⟨K,ca,tx K⟩ P w mg base 13 "wish_for" ["self", "one", "wish"] [(9,Jb)]:=(sj (T:=⟨K,ca,tx K⟩) (c:=9) a.Hb a.nj (PR a) (by decide) rm)
noncomputable abbrev GU:Stmt:=sg (top 89) 13
noncomputable abbrev KF:Ev->M Fl:=(Bf (eT (Fa oEq (Fa Ta (ia 1) (eC (.int 0))) (eC (.str "finish")))) Ak Mf)
noncomputable abbrev mG:Ev->M Fl:=(Ue 2 (Fa Xk (Wc (yc [9] "accounts") (ia 0)) (Fa Ta (ia 1) (eC (.int 1)))))
noncomputable abbrev vG:Ev->M Fl:=(Bf (eT (Fa Hi (oh [(5,jb),(6,Bb),(7,Cb)] 1 "word" (ia 2) Oa) (eC (.str "calm")))) Ak Mf)
noncomputable abbrev uG:Ev->M Fl:=(lE (Ue 3 (qd 3 Rc [] (qa (ia 2) (qa (ia 1) (qa (Wc (yc [8,9] "known") (ia 0)) Oa))))) (⟨(rE [(1,true)]),none,(zd (Zf (qa (eC (.bl false)) (qa (ij Oa) Oa))))⟩::[]))
noncomputable abbrev XI:Ev->M Fl:=(zd (oh [(9,Jb)] 3 "wish_for" (ia 0) (qa (ia 3) (qa (ia 1) Oa))))
noncomputable def eI:Ev->M Fl:=
 (Nb (Bf (Vk (eT (oh [(9,kc)] 2 "holds" (ia 0) (qa (Fa Ta (ia 1) (eC (.int 1))) Oa)))) Ak Mf) (Nb KF (Nb mG (Nb vG (Nb uG XI)))))
noncomputable def Gc:List D->M D:=hide (run 4 eI)
theorem fG:Aa ["self", "wish", "account", "one"] ["self", "wish"] (Kc GU):=Be rfl rfl rfl (by decide +kernel)
theorem ZR(a:Txt K mg ca):De ⟨K,ca,tx K⟩ P w mg base 14 (ca 33) ["self", "wish"] Gc:=
 De.hide (jl a.Gc fG λ_ _ _ _ _ _ b=>
  (Yb (Lf (im (Fj (Cj (k:=1) (ps:=["self", "pot"]) rfl (ka 0) (kO a) (b.mono (by decide)) (ya (gc ec (ic rfl) (ka 1) Ra (λ_ _=>rfl)) Va)))) Wk Vf)
  (Yb (Lf (Ef (Jg (Jd b)) Fd (gc ec (ic rfl) (ka 1) Ra (λ_ _=>rfl)) Rf (se _)) Wk Vf)
  (Yb (sf (i:=2) fG.nd rfl (Or.inl rfl) (yr (Jd b) (ge rfl (fq a) (ka 0)) (gc ec (ic rfl) (ka 1) Ra (λ_ _=>rfl)) (λ_ _=>rfl)))
  (Yb (Lf (Ef (ir (Jd b)) Fd (Ht (k:=1) (ps:=["self"]) rfl (ka 2) (yI a) (b.mono (by decide))) Rf (se _)) Wk Vf)
  (Yb (VM rfl rfl (λ_ _ c=>(Bc (sf (i:=3) fG.nd rfl (Or.inl rfl) (Vd (M0 a) rfl (b.mono (by decide)) rfl (ya (ka 2) (ya (ka 1) (ya (ge rfl (gz a) (ka 0)) Va))))))) (.cons rfl (by decide) (.inl a.Fk) (gZ (kW a.Mj VU)) (λ_=>(Bc (Bd (ug (ya jt (ya (rk Va) Va)))))) .nil))
  (Bc (Bd (Cj (k:=13) (ps:=["self", "one", "wish"]) rfl (ka 0) (DV a) (b.mono (by decide)) (ya (ka 3) (ya (ka 1) Va)))))))))))
theorem pZ(a:Txt K mg ca):Dk ⟨K,ca,tx K⟩ P w mg base 14 "wish" ["self", "wish"] [(9,Gc)]:=(sj (T:=⟨K,ca,tx K⟩) (c:=9) a.Hb a.Wm (ZR a) (by decide) rm)
noncomputable abbrev Q4:Stmt:=top 94
noncomputable abbrev u1:Ev->M Fl:=(Ue 1 (qd 2 Ga [] (qa (ia 0) (qa (eC (.int 0)) Oa))))
noncomputable abbrev u2:Ev->M Fl:=(Ue 2 (ij (qa (Fa io (ia 1) (eC (.int 2))) (qa (Fa io (Fa Sv (ia 1) (eC (.int 2))) (eC (.int 2))) Oa))))
noncomputable abbrev u3:Ev->M Fl:=(Ue 3 (Fa nh (eC (.int 1)) (Fa io (Fa Sv (ia 1) (eC (.int 4))) (eC (.int 9)))))
noncomputable abbrev u4:Ev->M Fl:=(Ue 4 (Fa oEq (Fa io (Fa Sv (ia 1) (eC (.int 36))) (eC (.int 4))) (eC (.int 1))))
noncomputable abbrev u5:Ev->M Fl:=(Ue 5 (Zf (qa (Fa nh (eC (.int 1)) (Fa io (qd 2 Ga [] (qa (ia 0) (qa (eC (.int 1)) Oa))) (Fa zv (eC (.int 10)) (eC (.int 12))))) (qa (Fa nh (eC (.int 1)) (Fa io (qd 2 Ga [] (qa (ia 0) (qa (eC (.int 2)) Oa))) (Fa zv (eC (.int 10)) (eC (.int 12))))) Oa))))
noncomputable abbrev u6:Ev->M Fl:=(Ue 6 (Fa io (qd 2 Ga [] (qa (ia 0) (qa (eC (.int 3)) Oa))) (eC (.int 60))))
noncomputable abbrev u7:Ev->M Fl:=(Ue 7 (Eu (eT (Fa oEq (Fa io (Fa Sv (ia 1) (eC (.int 144))) (eC (.int 5))) (eC (.int 1)))) (ij (qa (ia 6) Oa)) (ij Oa)))
noncomputable abbrev u8:Ev->M Fl:=(Ue 8 (Qr 9 5 Op (Ey [] (qa (eC (.int 1)) (qa (ia 3) (qa (qd 2 Kf [] (qa (ia 2) (qa (ia 5) Oa))) (qa (ia 7) Oa)))))))
noncomputable abbrev u9:Ev->M Fl:=(Ue 9 (Fa nh (eC (.int 1)) (Fa io (qd 2 Ga [] (qa (ia 0) (qa (eC (.int 4)) Oa))) (Fa Ta (ia 5) (Fa Ju (eC (.int 1)) (Fa Ta (ia 2) (eC (.int 0))))))))
noncomputable abbrev bI:Ev->M Fl:=(Ue 10 (Fa io (qd 2 Ga [] (qa (ia 0) (qa (eC (.int 5)) Oa))) (eC (.int 70))))
noncomputable abbrev wI:Ev->M Fl:=(xq (qd 5 Ve [] (qa (ia 8) (qa (Fa Ta (ia 2) (eC (.int 0))) (qa (ia 5) (qa (Zf (qa (Fa Ju (eC (.int 1)) (Fa Ta (ia 2) (eC (.int 0)))) (qa (ia 9) (qa (ia 6) (qa (ia 10) Oa))))) (qa (ia 4) Oa)))))))
noncomputable abbrev KH:Ev->M Fl:=(Ue 11 (oh [(9,Nc)] 2 "account" (ia 8) (qa (eC (.int 0)) Oa)))
noncomputable abbrev pG:Ev->M Fl:=(Ue 12 (Bh Hx (qa (mi (rn (toN (qj (Wc (yc [4,5,6,7] "may") (ia 11)))) [] (Ye 0) eo (Fa Hi (Fa Ta (ia 0) (eC (.int 2))) (Zf Oa)))) Oa)))
noncomputable abbrev FH:Ev->M Fl:=(Bf (Ko (eT (Fa Hi (oh [(5,jb),(6,Bb),(7,Cb)] 1 "word" (ia 11) Oa) (Eu (Vk (eT (ia 4))) (eC (.str "calm")) (Fa Ta (ij (qa (eC (.str "offered")) (qa (eC (.str "waiting")) Oa))) (Fa Ta (ia 2) (eC (.int 0))))))) (eT (Fa Hi (ia 12) (lC (ia 4))))) (zd (eC (.bl false))) Mf)
noncomputable abbrev RG:Ev->M Fl:=(Ue 13 (Fa Ta (ij (qa (ia 9) (qa (Fa nh (ia 9) (eC (.int 1))) (qa (Fa nh (eC (.int 1)) (Fa Sv (ia 9) (eC (.int 2)))) (qa (eC (.int 1)) Oa))))) (Fa io (qd 2 Ga [] (qa (ia 0) (qa (eC (.int 6)) Oa))) (eC (.int 4)))))
noncomputable abbrev EG:Ev->M Fl:=(Ue 14 (ia 6))
noncomputable abbrev mH:Ev->M Fl:=(Bf (eT (Fa oEq (Fa io (Fa Sv (qd 2 Ga [] (qa (ia 0) (qa (eC (.int 6)) Oa))) (eC (.int 4))) (eC (.int 5))) (eC (.int 1)))) (Ue 14 (Fa io (Fa nh (Fa nh (ia 6) (eC (.int 1))) (Fa io (Fa Sv (qd 2 Ga [] (qa (ia 0) (qa (eC (.int 6)) Oa))) (eC (.int 20))) (eC (.int 59)))) (eC (.int 60)))) Mf)
noncomputable abbrev PH:Ev->M Fl:=(Ue 15 (Bh sE (qa (eC (.int 0)) (qa (Fa nh (Fa Ju (ia 10) (ia 3)) (Fa Ta (ij (qa (Wc Bx (eC (.int 2))) (qa (Wc Bx (eC (.int 1))) (qa (eC (.int 0)) (qa (eC (.int 1)) (qa (eC (.int 2)) (qa (Wc Bx (eC (.int 9))) (qa (eC (.int 9)) (qa (Wc Bx (eC (.int 70))) Oa))))))))) (Fa io (qd 2 Ga [] (qa (ia 0) (qa (eC (.int 7)) Oa))) (eC (.int 8))))) Oa))))
noncomputable abbrev dI:Ev->M Fl:=(Ue 16 (Fa nh (oh [(9,Qb)] 1 "worth" (ia 8) Oa) (oh [(9,wc)] 1 "given" (ia 8) Oa)))
noncomputable abbrev OF:Ev->M Fl:=(Ue 17 (Fa oEq (ia 15) (eC (.int 0))))
noncomputable abbrev ZI:Ev->M Fl:=(Bf (Mw (eT (ia 12)) (Mw (eT (Fa oEq (ia 7) (ij Oa))) (Mw (eT (Fa oEq (ia 14) (ia 6))) (Mw (eT (Fa oLe (ia 13) (ia 9))) (eT (Fa Fz (ia 10) (Fa nh (Fa Ju (ia 15) (eC (.int 1))) (ia 3)))))))) (Ue 17 (eC (.bl true))) Mf)
noncomputable abbrev QF:Ev->M Fl:=(Bf (eT (Fa Fz (ia 13) (Fa Ta (ia 5) (Fa Ta (ia 2) (eC (.int 1)))))) (Ue 17 (eC (.bl false))) Mf)
noncomputable abbrev tG:Ev->M Fl:=(EI (oh [(9,Gc)] 2 "wish" (ia 8) (qa (Zf (qa (eC (.str "pass")) (qa (eC (.int 1)) (qa (ia 13) (qa (ia 14) (qa (ia 15) Oa)))))) Oa)) (zq 2 (uk (Ye 18) (uk (Ye 19) Xq))))
noncomputable abbrev dG:Ev->M Fl:=(Bf (Ko (eT (Fa Hi (ia 18) (ia 17))) (Ko (Vk (eT (Wc (Jn .bool) (ia 18)))) (eT (Fa Hi (oh [(9,wc)] 1 "given" (ia 8) Oa) (eC (.int 0)))))) (zd (eC (.bl false))) Mf)
noncomputable abbrev GI:Ev->M Fl:=(zd (Ci (Fa oEq (Fa nh (oh [(9,Qb)] 1 "worth" (ia 8) Oa) (oh [(9,wc)] 1 "given" (ia 8) Oa)) (ia 16)) (Fa oEq (Bh qk (qa (ia 19) Oa)) (Bh sH (qa (ia 17) Oa)))))
noncomputable def zP:Ev->M Fl:=
 (Nb u1 (Nb u2 (Nb u3 (Nb u4 (Nb u5 (Nb u6 (Nb u7 (Nb u8 (Nb u9 (Nb bI (Nb wI (Nb KH (Nb pG (Nb FH (Nb RG (Nb EG (Nb mH (Nb PH (Nb dI (Nb OF (Nb ZI (Nb QF (Nb tG (Nb dG GI))))))))))))))))))))))))
noncomputable def fo:List D->M D:=run 20 zP
theorem Dm:Aa ["_law_script", "_law_cell", "_law_sides", "_law_every", "_law_halfway", "_law_coins", "_law_word", "_law_words", "_law_keeper", "_law_amount", "_law_day", "_law_account", "_law_stays", "_law_beyond", "_law_other", "_law_until", "_law_before", "_law_due", "_law_done", "_law_letters"] ["_law_script"] (Kc Q4):=Be rfl rfl rfl (by decide +kernel)
theorem S2(b:Txt K mg ca):aJ ⟨K,ca,tx K⟩ P w mg 15 "law" ["_law_script"] fo:=
 Y0 b.fo Dm λ_ _ _ _ _ _ _ _ a=>
  (Yb (sf (i:=1) Dm.nd rfl (Or.inl rfl) (Vd (Pu b) rfl (a.mono (by decide)) rfl (ya (ka 0) (ya Ra Va))))
  (Yb (sf (i:=2) Dm.nd rfl (Or.inl rfl) (rk (ya (Df rq Hq (ka 1) Ra) (ya (Df rq Hq (Df Kx Wx (ka 1) Ra) Ra) Va))))
  (Yb (sf (i:=3) Dm.nd rfl (Or.inl rfl) (Df (Aj rfl) Fd Ra (Df rq Hq (Df Kx Wx (ka 1) Ra) Ra)))
  (Yb (sf (i:=4) Dm.nd rfl (Or.inl rfl) (gk (Jg (Jd a)) Fd (Df rq Hq (Df Kx Wx (ka 1) Ra) Ra) Ra (se _)))
  (Yb (sf (i:=5) Dm.nd rfl (Or.inl rfl) (ug (ya (Df (Aj rfl) Fd Ra (Df rq Hq (Vd (Pu b) rfl (a.mono (by decide)) rfl (ya (ka 0) (ya Ra Va))) (Df kN HJ Ra Ra))) (ya (Df (Aj rfl) Fd Ra (Df rq Hq (Vd (Pu b) rfl (a.mono (by decide)) rfl (ya (ka 0) (ya Ra Va))) (Df kN HJ Ra Ra))) Va))))
  (Yb (sf (i:=6) Dm.nd rfl (Or.inl rfl) (Df rq Hq (Vd (Pu b) rfl (a.mono (by decide)) rfl (ya (ka 0) (ya Ra Va))) Ra))
  (Yb (sf (i:=7) Dm.nd rfl (Or.inl rfl) (Sx (Ef (Jg (Jd a)) Fd (Df rq Hq (Df Kx Wx (ka 1) Ra) Ra) Ra (se _)) (rk (ya (ka 6) Va)) (rk Va)))
  (Yb (sf (i:=8) Dm.nd rfl (Or.inl rfl) (nU (c:=9) (ps:=["self", "hand", "every", "pots", "words"]) b.du b.Er (GT b) (.inl rfl) .nil (λ_ _=>Ua.nil) rfl (a.mono (by decide)) rfl (ya Ra (ya (ka 3) (ya (Vd (rR b) rfl (a.mono (by decide)) rfl (ya (ka 2) (ya (ka 5) Va))) (ya (ka 7) Va))))))
  (Yb (sf (i:=9) Dm.nd rfl (Or.inl rfl) (Df (Aj rfl) Fd Ra (Df rq Hq (Vd (Pu b) rfl (a.mono (by decide)) rfl (ya (ka 0) (ya Ra Va))) (gc ec (ic rfl) (ka 5) (Df Fv Yu Ra (gc ec (ic rfl) (ka 2) Ra (λ_ _=>rfl))) (λ_ _=>rfl)))))
  (Yb (sf (i:=10) Dm.nd rfl (Or.inl rfl) (Df rq Hq (Vd (Pu b) rfl (a.mono (by decide)) rfl (ya (ka 0) (ya Ra Va))) Ra))
  (Yb (Mr (Vd (bW b) rfl (a.mono (by decide)) rfl (ya (ka 8) (ya (gc ec (ic rfl) (ka 2) Ra (λ_ _=>rfl)) (ya (ka 5) (ya (ug (ya (Df Fv Yu Ra (gc ec (ic rfl) (ka 2) Ra (λ_ _=>rfl))) (ya (ka 9) (ya (ka 6) (ya (ka 10) Va))))) (ya (ka 4) Va)))))))
  (Yb (sf (i:=11) Dm.nd rfl (Or.inl rfl) (Cj (k:=1) (ps:=["self", "pot"]) rfl (ka 8) (aY b) (a.mono (by decide)) (ya Ra Va)))
  (Yb (sf (i:=12) Dm.nd rfl (Or.inl rfl) (Hm (bN rfl) (wJ rfl) rfl b.zw boot_all (ya (mn (Ct (x:="_law_one") (z0:="0") (M':=[]) (ix:=[]) rfl ⟨rfl,rfl,rfl,rfl,rfl,rfl⟩ (Jt (ap rfl (ge rfl (Dz b) (ka 11)))) (λ_ _ _ _ _=>Li (i:=0) (by show List.Nodup (("_law_one"::"0"::[]):List Str);decide +kernel) rfl (Or.inl rfl)) (λ_ _ _ _ _=>Au) (λ_ _ _ _ _=>(gk (ir (Jd a)) Fd (gc ec (ic rfl) (ka 0) Ra (λ_ _=>rfl)) (ug Va) (se _))))) Va)))
  (Yb (Lf (L2.PW.pt (Np (Ef (ir (Jd a)) Fd (Ht (k:=1) (ps:=["self"]) rfl (ka 11) (yI b) (a.mono (by decide))) (Sx (im (Fj (ka 4))) Rf (gc ec (ic rfl) (rk (ya Rf (ya Rf Va))) (gc ec (ic rfl) (ka 2) Ra (λ_ _=>rfl)) (λ_ _=>rfl))) (se _)) (zr (Ef (ir (Jd a)) Fd (ka 12) (xN (ka 4)) (se _))))) (Bc (Bd jt)) Vf)
  (Yb (sf (i:=13) Dm.nd rfl (Or.inl rfl) (gc ec (ic rfl) (rk (ya (ka 9) (ya (Df (Aj rfl) Fd (ka 9) Ra) (ya (Df (Aj rfl) Fd Ra (Df Kx Wx (ka 9) Ra)) (ya Ra Va))))) (Df rq Hq (Vd (Pu b) rfl (a.mono (by decide)) rfl (ya (ka 0) (ya Ra Va))) Ra) (λ_ _=>rfl)))
  (Yb (sf (i:=14) Dm.nd rfl (Or.inl rfl) (ka 6))
  (Yb (Lf (Ef (Jg (Jd a)) Fd (Df rq Hq (Df Kx Wx (Vd (Pu b) rfl (a.mono (by decide)) rfl (ya (ka 0) (ya Ra Va))) Ra) Ra) Ra (se _)) (Bc (sf (i:=14) Dm.nd rfl (Or.inl rfl) (Df rq Hq (Df (Aj rfl) Fd (Df (Aj rfl) Fd (ka 6) Ra) (Df rq Hq (Df Kx Wx (Vd (Pu b) rfl (a.mono (by decide)) rfl (ya (ka 0) (ya Ra Va))) Ra) Ra)) Ra))) Vf)
  (Yb (sf (i:=15) Dm.nd rfl (Or.inl rfl) (Hm (A2 rfl) UR rfl b.sA boot_max (ya Ra (ya (Df (Aj rfl) Fd (Df Fv Yu (ka 10) (ka 3)) (gc ec (ic rfl) (rk (ya (Ez Tz XA Ra) (ya (Ez Tz XA Ra) (ya Ra (ya Ra (ya Ra (ya (Ez Tz XA Ra) (ya Ra (ya (Ez Tz XA Ra) Va))))))))) (Df rq Hq (Vd (Pu b) rfl (a.mono (by decide)) rfl (ya (ka 0) (ya Ra Va))) Ra) (λ_ _=>rfl))) Va))))
  (Yb (sf (i:=16) Dm.nd rfl (Or.inl rfl) (Df (Aj rfl) Fd (Ht (k:=9) (ps:=["self"]) rfl (ka 8) (VI b) (a.mono (by decide))) (Ht (k:=1) (ps:=["self"]) rfl (ka 8) (zI b) (a.mono (by decide)))))
  (Yb (sf (i:=17) Dm.nd rfl (Or.inl rfl) (gk (Jg (Jd a)) Fd (ka 15) Ra (se _)))
  (Yb (Lf (L2.PW.pt (Wy (Fj (ka 12)) (Wy (Ef (Jg (Jd a)) Fd (ka 7) (rk Va) (se _)) (Wy (Ef (Jg (Jd a)) Fd (ka 14) (ka 6) (se _)) (Wy (Ef jH gF (ka 13) (ka 9) (se _)) (WH (Ef BE YC (ka 10) (Df (Aj rfl) Fd (Df Fv Yu (ka 15) Ra) (ka 3)) (se _)))))))) (Bc (sf (i:=17) Dm.nd rfl (Or.inl rfl) jt)) Vf)
  (Yb (Lf (Ef BE YC (ka 13) (gc ec (ic rfl) (ka 5) (gc ec (ic rfl) (ka 2) Ra (λ_ _=>rfl)) (λ_ _=>rfl)) (se _)) (Bc (sf (i:=17) Dm.nd rfl (Or.inl rfl) jt)) Vf)
  (Yb (BU (Cj (k:=14) (ps:=["self", "wish"]) rfl (ka 8) (pZ b) (a.mono (by decide)) (ya (ug (ya Rf (ya Ra (ya (ka 13) (ya (ka 14) (ya (ka 15) Va)))))) Va)) (Dx rfl (Zq (Li (i:=18) Dm.nd rfl (Or.inl rfl)) (Zq (Li (i:=19) Dm.nd rfl (Or.inl rfl)) fx))))
  (Yb (Lf (L2.PW.pt (Np (Ef (ir (Jd a)) Fd (ka 18) (ka 17) (se _)) (Np (im (Fj (At .bool (ka 18) rfl b.Tc rfl b.Xt boot_bool))) (zr (Ef (ir (Jd a)) Fd (Ht (k:=1) (ps:=["self"]) rfl (ka 8) (zI b) (a.mono (by decide))) Ra (se _)))))) (Bc (Bd jt)) Vf)
  (Bc (Bd (Xi (gk (Jg (Jd a)) Fd (Df (Aj rfl) Fd (Ht (k:=9) (ps:=["self"]) rfl (ka 8) (VI b) (a.mono (by decide))) (Ht (k:=1) (ps:=["self"]) rfl (ka 8) (zI b) (a.mono (by decide)))) (ka 16) (se _)) (on (gk (Jg (Jd a)) Fd (Hm Cq (Gq rfl) rfl b.Fg Mb (ya (ka 19) Va)) (Gw X2 O7 rfl b.Fw boot_int (ya (ka 17) Va)) (se _))))))))))))))))))))))))))))))
end
end K46
namespace K46
open PySem L2 L4
set_option maxHeartbeats 4000000
section
variable{α:Type}{xs:List α}{σ:Ya}{fi:Ev->M Bool}{fe:Ev->M D}{tg:D->Ev->Option Ev}{nx:NX}{rest:Ev}
theorem NJ(O:Option D->Prop)(v a:α->D)(b:α->Option D)(p:α->Bool)(y:α->D)(hn:∀ i j,i<=xs.length->nx i (σ++j)=some ((xs[i]?).map v))(q:∀ x o c,O c->tg (v x) (o::c::rest)=some (some (a x)::b x::rest)/\O (b x))
  (step:∀ x∈xs,∀ j,fi (some (a x)::b x::rest) (σ++j)=.ok (p x) (σ++j)/\(p x=true->fe (some (a x)::b x::rest) (σ++j)=.ok (y x) (σ++j))) (s:xs.length<=1000) :
  ∀ (k i:Nat) (o c:Option D) (ys:List D),O c->xs.length<k+i->i<=xs.length->ys.length<=i->
   wk nx σ.length tg fi fe k i (o::c::rest) (σ++[.lst ys])=.ok () (σ++[.lst (ys++((xs.drop i).filter p).map y)]):=by
 intro k;induction k with
 |zero=>intro i o c ys _ h1 h;omega
 |succ k l=>
  intro i o c ys n h1 h hy;unfold wk;rw[hn i _ h];cases e:xs[i]? with
  |none=>
   have f:xs.length<=i:=dc.mp e;rw[mq f];simp
  |some d=>
   obtain⟨f,g⟩:=na.mp e;have hd:xs.drop i=d::xs.drop (i+1):=by rw[<-g];exact Ah f
   obtain⟨s1,s2⟩:=step d (by rw[<-g];exact Vu f) [.lst ys];obtain⟨r,m⟩:=q d o c n;simp only[Hf,r];rw[gr,wC s1,Oe];by_cases hp:p d=true
   ·rw[hp,da rfl,gr,wC (s2 hp),Oe,gr,Cz (by omega),Oe,l (i+1) _ _ (ys++[y d]) m (by omega) (by omega) (by simp;omega),hd,ii,da hp];simp
   ·rw[ga hp,l (i+1) _ _ ys m (by omega) (by omega) (by omega),hd,ii,ga hp]
end
theorem Kz{σ:Ya}{xs:List D}(h:Ze xs=true):Ng σ (.ok (.ref σ.length) (σ++[.lst xs]))=.ok (.lst xs) σ:=by
 have:=rM (σ:=σ) (j:=[]) (j':=[]) h;simpa using this
theorem XF{c:Type}{xs:List c}{src:Ev->M Src}{s:Src}{ix:List Nat}{fi:Ev->M Bool}{fe:Ev->M D}{ρ:Ev}{σ:Ya}(v y:c->D)(p:c->Bool)(f:src ρ σ=.ok s σ)(hn:∀ i j,s.nx i (σ++j)=some ((xs[i]?).map v))(e:xs.length<=1000)
  (step:∀ x∈xs,∀ j,fi (some (v x)::none::(ix.map λi=>(ρ[i]?).getD none)) (σ++j)=.ok (p x) (σ++j)/\(p x=true->fe (some (v x)::none::(ix.map λi=>(ρ[i]?).getD none)) (σ++j)=.ok (y x) (σ++j))) (hc:∀ x∈xs,p x=true->cl (y x)=true) :
  mi (rn (toN src) ix (Ye 0) fi fe) ρ σ=.ok (.lst ((xs.filter p).map y)) σ:=by
 show Ng σ (Xc (Xc (src ρ) tK) (YI (Ye 0) fi fe (Iu ix ρ)) σ)=_;rw[gr,gr,f,Oe];show Ng σ (Xc (wk s.nx σ.length (Ye 0) fi fe 1001 0 (none::none::(ix.map λi=>(ρ[i]?).getD none))) _ (σ++[.lst []]))=_;rw[gr,NJ (λo=>o=none) v v (λ_=>none) p y (λi j _=>hn i j) (λx o k h=>by subst h;exact⟨rfl,rfl⟩) step e 1001 0 none none [] rfl (by omega) (by omega) (by simp),Oe];refine Eq.trans (rc (Ng σ) ?_) (Kz (xs:=(xs.filter p).map y) (gu λd hd=>by obtain⟨x,g,rfl⟩:=Cc.mp hd;obtain⟨a,b⟩:=Ii.mp g;exact hc x a b));simp
theorem Lv{a:Type}{xs:List a}{src:Ev->M Src}{s:Src}{ix:List Nat}{fe:Ev->M D}{ρ:Ev}{σ:Ya}(v y:a->D)(c:src ρ σ=.ok s σ)(hn:∀ i j,s.nx i (σ++j)=some ((xs[i]?).map v))(b:xs.length<=1000)
  (step:∀ x∈xs,∀ j,fe (some (v x)::none::(ix.map λi=>(ρ[i]?).getD none)) (σ++j)=.ok (y x) (σ++j)) (hc:∀ x∈xs,cl (y x)=true) :
  mi (rn (toN src) ix (Ye 0) eo fe) ρ σ=.ok (.lst (xs.map y)) σ:=by
 have:=XF (p:=λ_=>true) v y (ix:=ix) (fi:=eo) c hn b (λd hd j=>⟨rfl,λ_=>step d hd j⟩) (λd hd _=>hc d hd);rw[show List.filter (λ_=>true) xs=xs from Xr.mpr λ_ _=>rfl]at this;exact this
theorem eU{e:Type}{xs:List e}{src:Ev->M NX}{nx:NX}{ix:List Nat}{fe:Ev->M D}{ρ:Ev}{σ:Ya}(a b y:e->D)(g:src ρ σ=.ok nx σ)(hn:∀ i j,i<=xs.length->nx i (σ++j)=some ((xs[i]?).map λx=>.tup [a x,b x]))(f:xs.length<=1000)
  (step:∀ x∈xs,∀ j,fe (some (a x)::some (b x)::(ix.map λi=>(ρ[i]?).getD none)) (σ++j)=.ok (y x) (σ++j)) (hc:∀ x∈xs,cl (y x)=true) :
  mi (rn src ix (zq 2 (uk (Ye 0) (uk (Ye 1) Xq))) eo fe) ρ σ=.ok (.lst (xs.map y)) σ:=by
 show Ng σ (Xc (src ρ) (YI _ eo fe (Iu ix ρ)) σ)=_;rw[gr,g,Oe];show Ng σ (Xc (wk nx σ.length _ eo fe 1001 0 (none::none::(ix.map λi=>(ρ[i]?).getD none))) _ (σ++[.lst []]))=_;rw[gr,NJ (λ_=>True) (λx=>.tup [a x,b x]) a (λx=>some (b x)) (λ_=>true) y hn (λx o h _=>⟨rfl,trivial⟩) (λx c j=>⟨rfl,λ_=>step x c j⟩) f 1001 0 none none [] trivial (by omega) (by omega) (by simp),Oe];refine Eq.trans (rc (Ng σ) ?_) (Kz (xs:=xs.map y) (gu λd hd=>by obtain⟨x,c,rfl⟩:=Cc.mp hd;exact hc x c));have fe:List.filter (λ_=>true) xs=xs:=Xr.mpr λ_ _=>rfl;simp[fe]
noncomputable def Sc:D->Bool
 | .int _=>true
 | .zb=>true
 | .bl _=>true
 | .str _=>true
 |_=>false
noncomputable def bd(d:D)(a b:Int):Bool:=match d with
 | .int i=>decide (a<=i) && decide (i<=b)
 |_=>false
theorem aX(x:Str)(σ:Ya):Jn .int (.str x) σ=.ok (.bl false) σ:=nr rfl
theorem BV{d:D}(h:Sc d=true)(σ:Ya):ng [d] σ=.ok (.bl (match d with | .int _=>true|_=>false)) σ:=by
 unfold ng tQ;cases d with
 |int i=>simp
 |zb=>simp
 |bl b=>simp
 |str x=>simp[aX]
 |_=>cases h
theorem qD{d:D}(h:Sc d=true)(a b:Int)(σ:Ya):Xb [d,.int a,.int b] σ=.ok (.bl (bd d a b)) σ:=by
 have w:=λσ=>BV h σ;unfold Xb UP;cases d with
 |int i=>cases c:decide (a<=i)<;>simp[bd,c,w]
 |zb=>simp[bd,w]
 |bl b=>simp[bd,w]
 |str x=>simp[bd,w]
 |_=>cases h
theorem KJ(a b c d e:D)(r:List D)(σ:Ya):Ta (.tup (a::b::c::d::e::r)) (.int 4) σ=.ok e σ:=aB (show Ek _ ((4:Nat):Int)=_ from Dq rfl)
@[simp] theorem yew(f:Ev->M D)(b a:PF)(ρ:Ev)(σ:Ya):hH f b a ρ σ=(f ρ σ).bind (QI (gx b ρ) (gx a ρ)):=nr rfl
@[simp] theorem yb0(b a:M (Option Int))(x:D)(σ:Ya):QI b a x σ=(b σ).bind (BI x a):=nr rfl
@[simp] theorem yb1(x:D)(a:M (Option Int))(b:Option Int)(σ:Ya):BI x a b σ=(a σ).bind (CC x b):=nr rfl
@[simp] theorem V9(ρ:Ev)(σ:Ya):gx none ρ σ=.ok none σ:=nr rfl
@[simp] theorem N8(f:Ev->M D)(ρ:Ev)(σ:Ya):gx (some f) ρ σ=(f ρ σ).bind SG:=nr rfl
@[simp] theorem zz5(i:Int)(σ:Ya):SG (.int i) σ=.ok (some i) σ:=nr rfl
@[simp] theorem O8(a:D)(r:List D)(σ:Ya):Ta (.lst (a::r)) (.int 0) σ=.ok a σ:=Qx (show Ek _ ((0:Nat):Int)=_ from Dq rfl)
@[simp] theorem ynn(a b:D)(r:List D)(σ:Ya):Ta (.lst (a::b::r)) (.int 1) σ=.ok b σ:=Qx (show Ek _ ((1:Nat):Int)=_ from Dq rfl)
@[simp] theorem Y9(a b c:D)(r:List D)(σ:Ya):Ta (.lst (a::b::c::r)) (.int 2) σ=.ok c σ:=Qx (show Ek _ ((2:Nat):Int)=_ from Dq rfl)
@[simp] theorem R9(a b c d:D)(r:List D)(σ:Ya):Ta (.lst (a::b::c::d::r)) (.int 3) σ=.ok d σ:=Qx (show Ek _ ((3:Nat):Int)=_ from Dq rfl)
theorem zx{nx:NX}{tg:D->Ev->Option Ev}{body:Ev->M Fl}{k i:Nat}{ρ ρ1:Ev}{σ:Ya}{d:D}(h:nx i σ=some (some d))(a:tg d ρ=some ρ1):ip nx tg body (k+1) i ρ σ=(body ρ1 σ).bind (Lu (ip nx tg body k (i+1))):=by
 rw[ip];simp only[h,a];rfl
theorem vA{nx:NX}{tg:D->Ev->Option Ev}{body:Ev->M Fl}{k i:Nat}{ρ:Ev}{σ:Ya}(h:nx i σ=some none):ip nx tg body (k+1) i ρ σ=.ok (.nx ρ) σ:=by
 rw[ip];simp only[h]
@[simp] theorem SV(f:Ev->M D)(ρ:Ev)(σ:Ya):iI f ρ σ=(f ρ σ).bind Uy:=nr rfl
@[simp] theorem gv(src:Ev->M NX)(tg:D->Ev->Option Ev)(body:Ev->M Fl)(ρ:Ev)(σ:Ya):Wq src tg body ρ σ=yl ρ (aG tg body ρ) (src ρ σ):=jp ..
theorem j3{xs:List D}{x:D}{σ:Ya}(a:vj σ x=some xs)(h:Ze xs=true):Ng σ (cr [x] σ)=.ok (.lst xs) σ:=by
 have e:cr [x] σ=.ok (.ref σ.length) (σ++[.lst xs]):=by unfold cr;simp only[a];rfl
 rw[e];have:=rM (σ:=σ) (j:=[]) (j':=[]) h;simpa using this
section
variable{σ:Ya}{x:D}{xs:List D}
theorem W0(h:kh σ x=some xs):Uy x σ=.ok (Dv x) σ:=by unfold Uy;rw[h]
theorem zO{i:Nat}{d:D}(h:kh σ x=some xs)(a:xs[i]?=some d):Dv x i σ=some (some (.tup [.int i,d])):=by unfold Dv;rw[h];simp only[a]
theorem SX(h:kh σ x=some xs):Dv x xs.length σ=some none:=by unfold Dv;rw[h];simp
end
theorem TB{xs:List D}(h:Ze xs=true)(σ:Ya):Ng σ (cr [.lst xs] σ)=.ok (.lst xs) σ:=j3 (x:=.lst xs) (aO xs) h
theorem Tt{a:Type}(xs:List a)(v:a->D)(i:Nat):(xs.map v)[i]?=(xs[i]?).map v:=Ab ..
theorem bt{i a b:Int}(h:a<=i/\i<=b)(σ:Ya):Xb [.int i,.int a,.int b] σ=.ok (.bl true) σ:=by
 rw[qD (d:=.int i) rfl];simp[bd,h]
theorem EQ{s:Int}(h:s=0\/s=1)(σ:Ya):kg [.int s] σ=.ok (.bl true) σ:=by
 have b:=bt (i:=s) (a:=0) (b:=1) (by omega) σ;unfold kg FP;simp[b]
theorem WY{s:Int}(h:0<=s/\s<=59)(σ:Ya):Pg [.int s] σ=.ok (.bl true) σ:=by
 have b:=bt h σ;unfold Pg XJ;simp[b]
theorem uQ{s:Int}(h:0<=s/\s<=1000000)(σ:Ya):We [.int s] σ=.ok (.bl true) σ:=by
 have b:=bt h σ;unfold We UM;simp[b]
theorem HP{s:Int}(h:s=0\/s=1)(σ:Ya):Yg [.int s] σ=.ok (.bl true) σ:=by
 have b:=bt (i:=s) (a:=0) (b:=2) (by omega) σ;unfold Yg NK;simp[b]
structure Ti where
 (p a w y:Int)
noncomputable def Ti.D(t:Ti):L4.D:=.tup [.int t.p,.int t.a,.int t.w,.int t.y]
structure Ti.Ok(t:Ti):Prop where
 p:t.p=0\/t.p=1
 a:1<=t.a/\t.a<=1000000000000
 w:0<=t.w/\t.w<=59
 y:0<=t.y/\t.y<=1000000
noncomputable def sq(ts:List Ti):Int:=(ts.map Ti.a).sum
noncomputable def Qi(n a b:Int)(ts:List Ti):D:=.tup [.int n,.tup [.int a,.int b],.tup (ts.map Ti.D)]
structure pq(n a b:Int)(ts:List Ti):Prop where
 n:0<=n/\n<=1000000
 a:0<=a/\a<=2000000000000
 b:0<=b/\b<=2000000000000
 t:∀ t∈ts,t.Ok
 l:ts.length<=1
theorem bK{t:Ti}(hp:t.p=0\/t.p=1)(e:0<=t.w/\t.w<=59)(hy:0<=t.y/\t.y<=1000000)(σ:Ya):xf [t.D] σ=.ok (.bl (bd (.int t.a) 1 1000000000000)) σ:=by
 have h1:=EQ hp σ;have c:Of [.int t.a] σ=.ok (.bl (bd (.int t.a) 1 1000000000000)) σ:=by
  have b:=qD (d:=.int t.a) rfl 1 1000000000000 σ;unfold Of wK;simp[b]
 have h3:=WY e σ;have h4:Dh [.int t.y] σ=.ok (.bl true) σ:=by
  have b:=bt hy σ;unfold Dh yP;simp[b]
 unfold Ti.D xf AQ;generalize bd (.int t.a) 1 1000000000000=B at *;cases B<;>simp[h1,c,h3,h4]
theorem uF{t:Ti}(h:t.Ok)(σ:Ya):xf [t.D] σ=.ok (.bl true) σ:=by
 rw[bK h.p h.w h.y];simp[bd,h.a]
theorem A6{ts:List Ti}(g:∀ t∈ts,t.Ok)(e:ts.length<=1)(σ:Ya):gg [.tup (ts.map Ti.D)] σ=.ok (.bl true) σ:=by
 have b:∀ σ,qj (ia 0) [some (.tup (ts.map Ti.D))] σ=.ok (.seq (ts.map Ti.D)) σ:=λσ=>by simp
 have l1:=Lv (s:=.seq (ts.map Ti.D)) (ix:=[]) (xs:=ts) (fe:=qd 1 xf [] (qa (ia 0) Oa)) Ti.D (λ_=>.bl true) (b σ) (λi _=>rc some (Tt ts _ i)) (by omega) (λt h j=>by
  have:=uF (g t h) (σ++j);generalize t.D=o at *;simp[this]) (λ_ _=>by simp)
 have l2:=Lv (s:=.seq (ts.map Ti.D)) (ix:=[]) (xs:=ts) (fe:=Fa Ta (ia 0) (eC (.int 2))) Ti.D (λt=>.int t.w) (b σ) (λi _=>rc some (Tt ts _ i)) (by omega) (λt h j=>by simp[Ti.D]) (λd hd=>by simp);have c:ts.map (λt=>D.int t.w)=(ts.map Ti.w).map D.int:=by rw[re];rfl
 rw[c]at l2;have a:=MK (σ:=σ) (f:=λ_:Ti=>true) (l:=ts);rw[show ts.all (λ_=>true)=true from Vb.mpr λ_ _=>rfl]at a;have s1:=T3 (σ:=σ) (l:=ts.map Ti.w) (by simp;omega);have hd:(ts.map Ti.w).Nodup:=by
  match ts,e with
  |[],_=>simp
  |[t],_=>simp
 rw[(EX (ts.map Ti.w)).mpr hd]at s1;have k:qk [.tup (ts.map Ti.D)] σ=.ok (.int (ts.length:Int)) σ:=by
  have:=lL (σ:=σ) (ts.map Ti.D);simpa using this
 have hb:decide ((ts.length:Int) > 6)=false:=by simp;omega
 have m:((ts.map Ti.w).length:Int)=ts.length:=by simp
 rw[m]at s1;unfold gg JM;generalize (ts.map Ti.w).map D.int=W at *;generalize ts.map Ti.D=TT at *;generalize ts.map (λ_=>D.bl true)=n at *;generalize (ts.length:Int)=N at *;simp[l1,l2,a,s1,k,hb,-Kt]
theorem xK{n a b:Int}{ts:List Ti}(hn:0<=n/\n<=1000000)(f:∀ t∈ts,t.Ok)(e:ts.length<=1)(σ:Ya):ud [Qi n a b ts] σ=.ok (.bl (bd (.int a) 0 2000000000000 && bd (.int b) 0 2000000000000)) σ:=by
 have h1:=uQ hn σ;have c:jf [.tup [.int a,.int b]] σ=.ok (.bl (bd (.int a) 0 2000000000000 && bd (.int b) 0 2000000000000)) σ:=by
  have w:=qD (d:=.int a) rfl 0 2000000000000 σ;have g:=qD (d:=.int b) rfl 0 2000000000000 σ;unfold jf gM;generalize bd (.int a) 0 2000000000000=B at *;cases B<;>simp[w,g]
 have h3:=A6 f e σ;unfold Qi ud EK;generalize D.tup (ts.map Ti.D)=TT at *;generalize (bd (.int a) 0 2000000000000 && bd (.int b) 0 2000000000000)=B at *;cases B<;>simp[h1,c,h3]
theorem yz{n a b:Int}{ts:List Ti}(h:pq n a b ts)(σ:Ya):ud [Qi n a b ts] σ=.ok (.bl true) σ:=by
 rw[xK h.n h.t h.l];simp[bd,h.a,h.b]
theorem m7(t:Ti):cl t.D=true:=by unfold Ti.D;simp
theorem SJ(ts:List Ti):Ze (ts.map Ti.D)=true:=gu λd hd=>by obtain⟨t,_,rfl⟩:=Cc.mp hd;exact m7 t
theorem fL(n a b:Int)(ts:List Ti):cl (Qi n a b ts)=true:=by
 unfold Qi;simp[cl,Ze,SJ]
theorem P1{u v:Int}(e:0<=u/\u<=1000000000000)(f:0<=v/\v<=1000000000000)(σ:Ya):Pi [.int u,.int v] σ=.ok (Qi 0 u v []) σ:=by
 have c:=yz (n:=0) (a:=u) (b:=v) (ts:=[]) ⟨by omega,by omega,by omega,by simp,by simp⟩ σ;have d:Yf [.int 0,.tup [.int u,.int v],.zb] σ=.ok (Qi 0 u v []) σ:=by
  unfold Qi at c ⊢;simp only[jh]at c ⊢;unfold Yf vE;simp[c]
 have hc:=fL 0 u v [];unfold Pi NP;generalize Qi 0 u v []=S at *;simp[d,hc]
theorem YR(a b:Int)(σ:Ya):Qs [.tup [.int a,.int b]] σ=.ok (.int (a+b)) σ:=by
 simp[Qs,As]
theorem eO(l:List Int)(σ:Ya):Qs [.lst (l.map D.int)] σ=.ok (.int l.sum) σ:=by
 simp[Qs]
theorem oF(n a b:Int){ts:List Ti}(g:ts.length<=1)(σ:Ya):Mg [Qi n a b ts] σ=.ok (.int (a+b+sq ts)) σ:=by
 have f:∀ σ,Ta (Qi n a b ts) (.int 2) σ=.ok (.tup (ts.map Ti.D)) σ:=λσ=>by simp[Qi]
 have e:∀ σ,Ta (Qi n a b ts) (.int 1) σ=.ok (.tup [.int a,.int b]) σ:=λσ=>by simp[Qi]
 have l:=Lv (s:=.seq (ts.map Ti.D)) (ix:=[]) (fe:=Fa Ta (ia 0) (eC (.int 1))) (xs:=ts) (ρ:=[some (Qi n a b ts)]) (σ:=σ) (src:=qj (Fa Ta (ia 0) (eC (.int 2)))) Ti.D (λt=>.int t.a) (by simp[f]) (λi _=>rc some (Tt ts _ i)) (by omega) (λt h j=>by simp[Ti.D]) (λd hd=>by simp);have c:ts.map (λt=>D.int t.a)=(ts.map Ti.a).map D.int:=by rw[re];rfl
 rw[c]at l;have o:=eO (ts.map Ti.a) σ;unfold Mg tM;generalize Qi n a b ts=S at *;generalize (ts.map Ti.a).map D.int=G at *;simp[e,l,YR,o,sq,-Kt]
theorem yJ{n a b:Int}{ts:List Ti}(h:pq n a b ts)(σ:Ya):Dd [Qi n a b ts,.int (a+b+sq ts)] σ=.ok (.bl true) σ:=by
 have h1:=yz h σ;have c:=oF n a b h.l σ;unfold Dd lM;generalize Qi n a b ts=S at *;simp[h1,c]
noncomputable abbrev Kv:=List (Key × D)
structure Sn where
 (n a b:Int)
 (x:Option Ti)
noncomputable def tf:Option Ti->List Ti
 |none=>[]
 |some t=>[t]
noncomputable def Sn.D(s:Sn):L4.D:=Qi s.n s.a s.b (tf s.x)
theorem xn(s:Sn):cl s.D=true:=fL ..
theorem fB(ss:List Sn):Ze (ss.map Sn.D)=true:=gu λd hd=>by obtain⟨s,_,rfl⟩:=Cc.mp hd;exact xn s
noncomputable def ow(q:Int)(s:Sn):Int:=if q=0 then s.a else s.b
noncomputable def Gg(K:Option Int):List D:=match K with
 |none=>[]
 |some w=>[.int w]
noncomputable def Te(q:Int)(ss:List Sn):D:=.tup [.int q,.lst (ss.map Sn.D),.Db [] []]
noncomputable def lj(e:Int)(K:Option Int)(P:List D):D:=.obj 8 ["every", "last_look", "known", "pots"] [.int e,.int 0,.lst (Gg K),.lst P]
theorem kB(K:Option Int):Ze (Gg K)=true:=by cases K<;>simp[Gg]
theorem OD(q:Int)(ss:List Sn):cl (Te q ss)=true:=by unfold Te;simp[cl,fB]
theorem gL(e:Int)(K:Option Int){P:List D}(h:Ze P=true):cl (lj e K P)=true:=by unfold lj;simp[cl,kB,h]
structure Lo where
 (w:Int)
 (k:Str)
 (v d:Int)
noncomputable def Lo.D(l:Lo):L4.D:=.tup [.str l.k,.int l.v,.int l.d]
structure Rd where
 (f:Int)
 (x:Option Lo)
noncomputable def rs:Option Lo->Kv
 |none=>[]
 |some l=>[(.inl l.w,l.D)]
noncomputable def Rd.D(r:Rd):L4.D:=.tup [.int r.f,.Db ((rs r.x).map (·.1)) ((rs r.x).map (·.2))]
noncomputable def lk(e:Int)(K:Option Int)(q:Int)(t:Ti):Str:=if t.p=q then (if t.y<=0 then "back" else "open")else if t.y<=0 then "gone" else if K=some t.w/\e<t.y then "sure" else "hangs"
noncomputable def Jw(k:Str):Bool:=k == "sure" || k == "back"
noncomputable def rd(e:Int)(K:Option Int)(q:Int)(s:Sn):Rd:=⟨match s.x with
 |none=>ow q s
 |some t=>if Jw (lk e K q t)then ow q s+t.a else ow q s,s.x.map λt=>⟨t.w,lk e K q t,t.a,t.y⟩⟩
theorem bO(l:Lo):cl l.D=true:=by unfold Lo.D;simp
theorem rK(x:Option Lo):Ze ((rs x).map (·.2))=true:=by cases x<;>simp[rs,bO]
theorem IC(r:Rd):cl r.D=true:=by unfold Rd.D;simp[cl,rK]
theorem sW(a:List Rd):Ze (a.map Rd.D)=true:=gu λd hd=>by obtain⟨s,_,rfl⟩:=Cc.mp hd;exact IC s
@[simp] theorem lT(ρ:Ev)(σ:Ya):Hs ρ σ=.ok (.ref σ.length) (σ++[.Db []]):=nr rfl
@[simp] theorem X8(o:D->List D->M D)(f:Ev->M D)(fs:Ev->M (List D))(ρ:Ev)(σ:Ya):mF o f fs ρ σ=(f ρ σ).bind (yx o (fs ρ)):=nr rfl
@[simp] theorem m9(f a fi:Ev->M D)(ρ:Ev)(σ:Ya):Lr f a fi ρ σ=yl ρ (RH ρ a fi) (f ρ σ):=jp ..
@[simp] theorem ztv(a fi:Ev->M D)(d:D)(ρ:Ev)(σ:Ya):RH ρ a fi d σ=yl ρ (AF ρ fi d) (a ρ σ):=jp ..
@[simp] theorem t9(fi:Ev->M D)(d x:D)(ρ:Ev)(σ:Ya):AF ρ fi d x σ=yl ρ (Ar ρ d x) (fi ρ σ):=jp ..
theorem Cu{ρ:Ev}{σ:Ya}{d:D}{n:Nat}{w:Int}{kvs:List (Key × D)}(h:σ[n]?=some (.Db kvs))(a:kvs.length<1000):Ar ρ d (.ref n) (.int w) σ=.ok (.nx ρ) (σ.set n (.Db (uh kvs (.inl w) d))):=by
 unfold Ar;simp only[qp,h];rw[da (show kvs.length<Rh from a)]
theorem xD{f:D->Option D}(a:∀ d,cl d=true->f d=some d):∀ {xs:List D},Ze xs=true->sm f xs=some xs
 |[],_=>rfl
 |x::xs,h=>by
  rw[Ze,Ba]at h;rw[sm,a x h.1,xD a h.2]
theorem aN{σ j:Ya}{kvs:Kv}{m:Nat}(h:Ze (kvs.map (·.2))=true):fz σ.length (σ++.Db kvs::j) (m+1) (.ref σ.length)=some (.Db (kvs.map (·.1)) (kvs.map (·.2))):=by
 have e:(σ++Ob.Db kvs::j)[σ.length]?=some (.Db kvs):=by simp
 unfold fz;rw[ga (by simp[cl])];dsimp only;rw[ga (pd _),e];dsimp only;rw[xD (λd hd=>Wv hd) h];rfl
theorem O3(K:Option Int)(w:Int)(σ:Ya):jA false (.int w) (.lst (Gg K)) σ=.ok (.bl (decide (K=some w))) σ:=by
 cases K with
 |none=>exact nr rfl
 |some k=>
  have:vj σ (.lst (Gg (some k)))=some [.int k]:=rfl;unfold jA;simp only[this];simp[iw,jj,kd,Dn,Kj];by_cases h:k=w<;>simp[h]
theorem IU(e:Int)(K:Option Int)(q:Int)(t:Ti):lk e K q t = "back"\/lk e K q t = "open"\/lk e K q t = "gone"\/lk e K q t = "sure"\/lk e K q t = "hangs":=by
 unfold lk;repeat' split
 all_goals simp
theorem BX(e:Int)(K:Option Int)(q:Int)(t:Ti)(σ:Ya):XC false ["won", "sure", "back"] (.str (lk e K q t)) σ=.ok (.bl (Jw (lk e K q t))) σ:=by
 rcases IU e K q t with h|h|h|h|h<;>rw[h]<;>exact nr rfl
section
variable(e:Int)(K:Option Int)(P:List D)(σ:Ya)(q:Int)(ss:List Sn)
theorem wW(t:Ti):Eh [lj e K P,Te q ss,t.D] σ=.ok (.str (lk e K q t)) σ:=by
 have c:∀ σ,yc [8,9] "last_look" (lj e K P) σ=.ok (.int 0) σ:=λσ=>bn (bo rfl) rfl rfl;have m:∀ σ,yc [8,9] "known" (lj e K P) σ=.ok (.lst (Gg K)) σ:=λσ=>bn (bo rfl) rfl rfl;have n:∀ σ,yc [8,9] "every" (lj e K P) σ=.ok (.int e) σ:=λσ=>bn (bo rfl) rfl rfl;have r:∀ σ,Ta (Te q ss) (.int 0) σ=.ok (.int q) σ:=λσ=>by unfold Te;simp
 have s:∀ σ,Ta (Te q ss) (.int 2) σ=.ok (.Db [] []) σ:=λσ=>by unfold Te;simp
 have o:∀ σ,Ta t.D (.int 0) σ=.ok (.int t.p) σ:=λσ=>by unfold Ti.D;simp
 have j:∀ σ,Ta t.D (.int 2) σ=.ok (.int t.w) σ:=λσ=>by unfold Ti.D;simp
 have d:∀ σ,Ta t.D (.int 3) σ=.ok (.int t.y) σ:=λσ=>by unfold Ti.D;simp
 have u:∀ σ,Cy (.int t.w) (.Db [] []) σ=.ok (.bl false) σ:=λσ=>nr rfl;have l:=λσ=>O3 K t.w σ;have f:∀ σ,vd [t.D,.Db [] []] σ=.ok (.bl false) σ:=λσ=>by
  unfold vd RP;generalize t.D=T at *;simp[j,u]
 have v:∀ σ,df [lj e K P,.Db [] [],t.D] σ=.ok (.str (if t.y<=0 then "gone" else if K=some t.w/\e<t.y then "sure" else "hangs")) σ:=λσ=>by
  unfold df jQ;generalize t.D=T at *;generalize lj e K P=V at *;by_cases h1:t.y<=0
  ·have a:decide ((0:Int) ≥ t.y)=true:=jd h1;simp[f,c,d,a,h1]
  ·have a:decide ((0:Int) ≥ t.y)=false:=xb h1;by_cases i:K=some t.w
   ·have g:decide (K=some t.w)=true:=jd i;by_cases h3:e<t.y
    ·have k:decide (e<t.y)=true:=jd h3;rw[ga h1,da ⟨i,h3⟩];simp[f,c,m,n,j,d,a,l,g,k]
    ·have k:decide (e<t.y)=false:=xb h3;rw[ga h1,ga λz=>h3 z.2];simp[f,c,m,n,j,d,a,l,g,k]
   ·have g:decide (K=some t.w)=false:=xb i;rw[ga h1,ga λz=>i z.1];simp[f,c,m,n,j,d,a,l,g]
 have x:∀ σ,Le [lj e K P,.Db [] [],t.D] σ=.ok (.str (if t.y<=0 then "back" else "open")) σ:=λσ=>by
  unfold Le zev;generalize t.D=T at *;generalize lj e K P=V at *;by_cases h1:t.y<=0
  ·have a:decide ((0:Int) ≥ t.y)=true:=jd h1;simp[f,c,d,a,h1]
  ·have a:decide ((0:Int) ≥ t.y)=false:=xb h1;simp[f,c,d,a,h1]
 unfold Eh LO lk;generalize t.D=T at *;generalize lj e K P=V at *;generalize Te q ss=P at *;by_cases h:t.p=q
 ·have b:(t.p == q)=true:=by simp[h]
  simp only[h,ag];rw[h]at o;simp[r,s,o,x]
 ·have b:(t.p == q)=false:=by simp[h]
  simp only[h,ui];simp[r,s,o,v,b]
theorem JU(hq:q=0\/q=1)(s:Sn):Ge [lj e K P,Te q ss,s.D] σ=.ok (rd e K q s).D σ:=by
 have C:∀ σ,Ta (Te q ss) (.int 0) σ=.ok (.int q) σ:=λσ=>by unfold Te;simp
 have s1:∀ σ,Ta s.D (.int 1) σ=.ok (.tup [.int s.a,.int s.b]) σ:=λσ=>by unfold Sn.D Qi;simp
 have s2:∀ σ,Ta s.D (.int 2) σ=.ok (.tup ((tf s.x).map Ti.D)) σ:=λσ=>by unfold Sn.D Qi;simp
 have F:∀ σ,Ta (.tup [.int s.a,.int s.b]) (.int q) σ=.ok (.int (ow q s)) σ:=λσ=>by
  rcases hq with rfl|rfl<;>simp[ow]
 have u:∃ c g,Xl (Ye 5) AH ((tf s.x).map Ti.D) [some (lj e K P),some (Te q ss),some s.D,some (.int (ow q s)),some (.ref σ.length),none,none] (σ++[.Db []])=.ok (.nx [some (lj e K P),some (Te q ss),some s.D,some (.int (rd e K q s).f),some (.ref σ.length),c,g]) (σ++[.Db (rs (rd e K q s).x)]):=by
  cases r:s.x with
  |none=>exact⟨none,none,by simp[tf,rs,rd,r]⟩
  |some t=>
   have l:=λσ=>wW e K P σ q ss t;have G:∀ σ,Ta t.D (.int 1) σ=.ok (.int t.a) σ:=λσ=>by unfold Ti.D;simp
   have H:∀ σ,Ta t.D (.int 2) σ=.ok (.int t.w) σ:=λσ=>by unfold Ti.D;simp
   have I:∀ σ,Ta t.D (.int 3) σ=.ok (.int t.y) σ:=λσ=>by unfold Ti.D;simp
   have st:=λρ=>Cu (ρ:=ρ) (σ:=σ++[.Db []]) (d:=.tup [.str (lk e K q t),.int t.a,.int t.y]) (n:=σ.length) (w:=t.w) (kvs:=[]) (by simp) (by simp);rw[uA,show uh [] (.inl t.w) (.tup [.str (lk e K q t),.int t.a,.int t.y])=rs (rd e K q s).x by unfold rd;rw[r];rfl]at st;have E:=λσ=>BX e K q t σ;have B:(rd e K q s).f=if Jw (lk e K q t)then ow q s+t.a else ow q s:=by unfold rd;simp only[r]
   refine⟨some t.D,some (.str (lk e K q t)),?_⟩;rw[show (tf (some t)).map Ti.D=[t.D]from rfl,dq,B];simp only[eb,gb];unfold AH;have A:∀ (f:Ev->M D) (i k o p c g:Option D) (x:D) (σ:Ya),yw (λa b=>a+b) 3 f [i,k,o,some x,p,c,g] σ=yl [i,k,o,some x,p,c,g] (rA (λa b=>a+b) 3 [i,k,o,some x,p,c,g] x) (f [i,k,o,some x,p,c,g] σ):=λf i k o p c g x σ=>mL rfl;generalize lk e K q t=z at *;generalize t.D=T at *;generalize lj e K P=V at *;generalize Te q ss=P at *;generalize s.D=S at *;generalize σ++[.Db (rs (rd e K q s).x)]=Z at *;generalize σ++[.Db []]=Y at *;generalize Jw z=v at *;cases v<;>simp[l,G,H,I,st,E,A]
 obtain⟨c,g,u⟩:=u;have fz:Ng σ (.ok (.tup [.int (rd e K q s).f,.ref σ.length]) (σ++[.Db (rs (rd e K q s).x)]))=.ok (rd e K q s).D σ:=by
  unfold Ng;dsimp only;rw[da (by simp)];have h:=aN (σ:=σ) (j:=[]) (m:=4) (rK (rd e K q s).x);have:fz σ.length (σ++[.Db (rs (rd e K q s).x)]) 6 (.tup [.int (rd e K q s).f,.ref σ.length])=some (rd e K q s).D:=by
   unfold fz;rw[ga (by simp[cl,Ze])];dsimp only;unfold sm;rw[Wv (by simp[cl])];unfold sm;rw[h];rfl
  rw[this]
 unfold Ge oN;generalize lj e K P=V at *;generalize Te q ss=P at *;generalize rd e K q s=R at *;generalize s.D=S at *;generalize (tf s.x).map Ti.D=TT at *;simp[C,s1,s2,F,u,fz]
end
theorem jX{σ:Ya}{ys zs:List D}(h:ys.length+zs.length<=1000):Rx (.ref σ.length) [.lst zs] (σ++[.lst ys])=.ok .zb (σ++[.lst (ys++zs)]):=by
 have e:kh (σ++[Ob.lst ys]) (.lst zs)=some zs:=rfl;unfold Rx;simp only[IA,e];rw[da (show _<=Rh from h),uA]
noncomputable abbrev Km{a:Type}(ss:List a):Prop:=(∃ s,ss=[s])\/∃ s t,ss=[s,t]
theorem Km.le{a:Type}{ss:List a}(h:Km ss):ss.length<=2:=by rcases h with⟨s,rfl⟩|⟨s,t,rfl⟩<;>simp
theorem Km.map{a b:Type}{ss:List a}(h:Km ss)(f:a->b):Km (ss.map f):=by
 rcases h with⟨s,rfl⟩|⟨s,t,rfl⟩
 ·exact .inl ⟨_,rfl⟩
 ·exact .inr ⟨_,_,rfl⟩
noncomputable def RL(A B:List Rd):D:=.lst [.lst (A.map Rd.D),.lst (B.map Rd.D)]
section
variable(e:Int)(K:Option Int){q r:Int}(hq:q=0\/q=1)(hr:r=0\/r=1){ss ts:List Sn}(hs:Km ss)(ht:Km ts)
include hq hs
theorem oK(P:List D)(σ:Ya)(xs:List D)(g:xs.length<=5)(n:Nat)(hn:n=σ.length):GD [some (lj e K P),some (.ref n),some (Te q ss)] (σ++[.lst xs])=.ok (.nx [some (lj e K P),some (.ref n),some (Te q ss)]) (σ++[.lst (xs++[.lst ((ss.map (rd e K q)).map Rd.D)])]):=by
 subst hn;have l:mi (rn (toN (qj (Fa Ta (ia 2) (eC (.int 1))))) [0,2] (Ye 0) eo (qd 3 Ge [] (qa (ia 2) (qa (ia 3) (qa (ia 0) Oa))))) [some (lj e K P),some (.ref σ.length),some (Te q ss)] (σ++[.lst xs])=.ok (.lst (ss.map λs=>(rd e K q s).D)) (σ++[.lst xs]):=by
  refine Lv (s:=.seq (ss.map Sn.D)) (ix:=[0,2]) Sn.D _ (by unfold Te;simp) (λi _=>rc some (Tt ss _ i)) (by have:=hs.le;omega) (λs _ j=>?_) (λs _=>IC _);have r:=JU e K P (σ++[.lst xs]++j) q ss hq s;generalize (rd e K q s).D=R at *;generalize Te q ss=VP at *;generalize lj e K P=V at *;generalize s.D=f at *;generalize σ++[Ob.lst xs]++j=Y at *;simp[r]
 rw[show (ss.map λs=>(rd e K q s).D)=(ss.map (rd e K q)).map Rd.D by rw[re];rfl]at l;have b:=Cz (σ:=σ) (xs:=xs) (d:=.lst ((ss.map (rd e K q)).map Rd.D)) (by omega);have c:∀ m,Rt il m (.ref σ.length) (σ++[.lst xs])=(m (σ++[.lst xs])).bind (il (.ref σ.length)):=λm=>ky (xs:=xs) (by unfold kh Wg;simp);unfold GD;generalize (ss.map (rd e K q)).map Rd.D=a at *;generalize σ++[Ob.lst (xs++[.lst a])]=Z at *;generalize σ++[Ob.lst xs]=Y at *;generalize lj e K P=V at *;generalize Te q ss=P at *;simp[c,l,b,-Kt]
include hr ht
theorem T5(σ:Ya):Pf [lj e K [Te q ss,Te r ts]] σ=.ok (RL (ss.map (rd e K q)) (ts.map (rd e K r))) σ:=by
 have a:∀ σ,yc [8] "pots" (lj e K [Te q ss,Te r ts]) σ=.ok (.lst [Te q ss,Te r ts]) σ:=λσ=>bn (bo rfl) rfl rfl;have c:=oK e K hq hs [Te q ss,Te r ts] σ [] (by simp) _ rfl;have d:=oK e K hr ht [Te q ss,Te r ts] σ ([]++[.lst ((ss.map (rd e K q)).map Rd.D)]) (by simp) _ rfl;have fz:Ng σ (.ok (.ref σ.length) (σ++[.lst ([]++[.lst ((ss.map (rd e K q)).map Rd.D)]++[.lst ((ts.map (rd e K r)).map Rd.D)])]))=.ok (RL (ss.map (rd e K q)) (ts.map (rd e K r))) σ:=Kz (by simp only[cw,List.cons_append,Ze,cl,sW];rfl);have b:Xl (Ye 2) GD [Te q ss,Te r ts] [some (lj e K [Te q ss,Te r ts]),some (.ref σ.length),none] (σ++[.lst []])=.ok (.nx [some (lj e K [Te q ss,Te r ts]),some (.ref σ.length),some (Te r ts)]) (σ++[.lst ([]++[.lst ((ss.map (rd e K q)).map Rd.D)]++[.lst ((ts.map (rd e K r)).map Rd.D)])]):=by
  rw[dq];simp only[eb,gb];rw[c,Oe,tm,dq];simp only[eb,gb];rw[d,Oe,tm,Ow]
 unfold Pf FJ;generalize RL (ss.map (rd e K q)) (ts.map (rd e K r))=g at *;generalize σ++[Ob.lst ([]++[.lst ((ss.map (rd e K q)).map Rd.D)]++[.lst ((ts.map (rd e K r)).map Rd.D)])]=Z at *;generalize lj e K [Te q ss,Te r ts]=V at *;generalize Te q ss=P at *;generalize Te r ts=f at *;simp[a,b,fz]
end
noncomputable abbrev Rn:=Rd × Nat
noncomputable def Bj(A B:List Rd):List (Rn × Rn):=A.zipIdx.flatMap λa=>B.zipIdx.map λb=>(a,b)
noncomputable def cD(p:Rn × Rn):D:=.lst [.int p.1.2,.int p.2.2]
theorem IQ{tg:D->Ev->Option Ev}{body:Ev->M Fl}{n k i:Nat}{ρ ρ1:Ev}{σ:Ya}{xs:List D}{d:D}(h:Wg σ n=some xs)(a:xs[i]?=some d)(b:tg d ρ=some ρ1):Hr tg body n (k+1) i ρ σ=(body ρ1 σ).bind (Lu (Hr tg body n k (i+1))):=by
 rw[Hr];simp only[h,a,b];rfl
theorem rP{tg:D->Ev->Option Ev}{body:Ev->M Fl}{n k i:Nat}{ρ:Ev}{σ:Ya}{xs:List D}(h:Wg σ n=some xs)(a:xs[i]?=none):Hr tg body n (k+1) i ρ σ=.ok (.nx ρ) σ:=by
 rw[Hr];simp only[h,a]
noncomputable def Gi(c:List Int)(n:Nat):List D:=(List.range n).map λ(i:Nat)=>.lst ((c++[(i:Int)]).map D.int)
theorem GF{A:List Rd}(f:Km A)(R C:Option D)(c:List Int)(hc:c.length<=3)(σ:Ya)(ys:List D)(hy:ys.length<=9)(n:Nat)(hn:n=σ.length):vv [R,C,some (.lst (A.map Rd.D)),some (.ref n),some (.lst (c.map D.int))] (σ++[.lst ys])=.ok (.nx [R,C,some (.lst (A.map Rd.D)),some (.ref n),some (.lst (c.map D.int))]) (σ++[.lst (ys++Gi c A.length)]):=by
 subst hn;have p:=f.le;have e:∀ (i:Nat) τ,nh (.lst (c.map D.int)) (.lst [.int i]) τ=.ok (.lst ((c++[(i:Int)]).map D.int)) τ:=λi τ=>by rw[nD (by unfold Rh;simp;omega),List.map_append];rfl
 have g:∀ τ,qk [.lst (A.map Rd.D)] τ=.ok (.int A.length) τ:=λτ=>by simp
 have o:∀ (τ:Ya),Yy (Bh qk (qa (ia 2) Oa)) [R,C,some (.lst (A.map Rd.D)),some (.ref σ.length),some (.lst (c.map D.int))] τ=.ok (.seq ((List.range A.length).map λ(i:Nat)=>.int i)) τ:=λτ=>by
  have k:Fx (.int A.length) τ=.ok (.seq ((List.range A.length).map λ(i:Nat)=>.int i)) τ:=by
   rw[GN (by omega) (by omega)];rfl
  generalize A.map Rd.D=b at *;simp[g,k]
 have l:∀ (τ:Ya),mi (rn (toN (Yy (Bh qk (qa (ia 2) Oa)))) [4] (Ye 0) eo (Fa nh (ia 2) (ij (qa (ia 0) Oa)))) [R,C,some (.lst (A.map Rd.D)),some (.ref σ.length),some (.lst (c.map D.int))] τ=.ok (.lst (Gi c A.length)) τ:=λτ=>by
  refine Lv (ix:=[4]) (xs:=List.range A.length) (fe:=Fa nh (ia 2) (ij (qa (ia 0) Oa))) (λ(i:Nat)=>.int i) _ (o τ) (λi _=>rc some (Tt (List.range A.length) _ i)) (by simp;omega) (λi _ j=>?_) (λi _=>by rw[cl];exact gu λd hd=>by obtain⟨i,_,rfl⟩:=Cc.mp hd;rfl);have:=e i (τ++j);generalize D.lst (c.map D.int)=a at *;simp[this]
 have ex:=jX (σ:=σ) (ys:=ys) (zs:=Gi c A.length) (by unfold Gi;simp;omega);have h:∀ m,Rt Rx m (.ref σ.length) (σ++[.lst ys])=(m (σ++[.lst ys])).bind (Rx (.ref σ.length)):=λm=>ky (xs:=ys) (by unfold kh Wg;simp);unfold vv;generalize Gi c A.length=NX at *;generalize A.map Rd.D=b at *;generalize D.lst (c.map D.int)=a at *;generalize σ++[Ob.lst (ys++NX)]=Z at *;generalize σ++[Ob.lst ys]=Y at *;simp[h,l,ex,-Kt]
theorem GY{A B:List Rd}(m:Km A)(c:Km B)(R:Option D)(σ:Ya)(v a:Option D):∃ d,Zy [R,some (.ref σ.length),some (.lst (B.map Rd.D)),v,a] (σ++[.lst (Gi [] A.length)])=.ok (.nx [R,some (.ref (σ.length+1)),some (.lst (B.map Rd.D)),some (.ref (σ.length+1)),d]) (σ++[.lst (Gi [] A.length),.lst ((Bj A B).map cD)]):=by
 have e:(σ++[Ob.lst (Gi [] A.length)]).length=σ.length+1:=by simp
 have g:∀ b,Wg (σ++[Ob.lst (Gi [] A.length)]++[Ob.lst b]) σ.length=some (Gi [] A.length):=λb=>by unfold Wg;simp
 have h:∀ b,xw (.ref σ.length) (σ++[Ob.lst (Gi [] A.length)]++[Ob.lst b])=.ok (.Up σ.length) (σ++[Ob.lst (Gi [] A.length)]++[Ob.lst b]):=λb=>by
  unfold xw;simp only[g]
 have f:∀ a,∃ d,Hr (Ye 4) vv σ.length 1001 0 [R,some (.ref σ.length),some (.lst (B.map Rd.D)),some (.ref (σ.length+1)),a] (σ++[Ob.lst (Gi [] A.length)]++[Ob.lst []])=.ok (.nx [R,some (.ref σ.length),some (.lst (B.map Rd.D)),some (.ref (σ.length+1)),d]) (σ++[Ob.lst (Gi [] A.length)]++[Ob.lst ((Bj A B).map cD)]):=λa=>by
  have r:=GF c R (some (.ref σ.length)) [0] (by simp) (σ++[Ob.lst (Gi [] A.length)]) [] (by simp) (σ.length+1) e.symm;have n:(Gi [] A.length)[0]?=some (.lst ([(0:Int)].map D.int)):=by rcases m with⟨s,rfl⟩|⟨s,t,rfl⟩<;>rfl
  have j:=IQ (tg:=Ye 4) (body:=vv) (k:=1000) (ρ:=[R,some (.ref σ.length),some (.lst (B.map Rd.D)),some (.ref (σ.length+1)),a]) (g []) n (ρ1:=[R,some (.ref σ.length),some (.lst (B.map Rd.D)),some (.ref (σ.length+1)),some (.lst ([(0:Int)].map D.int))]) rfl;rw[j,r,Oe,tm];rcases m with⟨s,rfl⟩|⟨s,t,rfl⟩
  ·refine⟨some (.lst ([(0:Int)].map D.int)),(rP (k:=999) (g _) rfl).trans ?_⟩;have:[]++Gi [0] B.length=(Bj [s] B).map cD:=by rcases c with⟨s,rfl⟩|⟨s,t,rfl⟩<;>rfl
   rw[this]
  ·have u:=GF c R (some (.ref σ.length)) [1] (by simp) (σ++[Ob.lst (Gi [] [s,t].length)]) ([]++Gi [0] B.length) (by unfold Gi;simp;have:=c.le;omega) (σ.length+1) e.symm;have l:=IQ (tg:=Ye 4) (body:=vv) (k:=999) (ρ:=[R,some (.ref σ.length),some (.lst (B.map Rd.D)),some (.ref (σ.length+1)),some (.lst ([(0:Int)].map D.int))]) (g ([]++Gi [0] B.length)) (i:=1) rfl (ρ1:=[R,some (.ref σ.length),some (.lst (B.map Rd.D)),some (.ref (σ.length+1)),some (.lst ([(1:Int)].map D.int))]) rfl;refine⟨some (.lst ([(1:Int)].map D.int)),l.trans ?_⟩;rw[u,Oe,tm];refine(rP (k:=998) (g _) rfl).trans ?_;have:[]++Gi [0] B.length++Gi [1] B.length=(Bj [s,t] B).map cD:=by rcases c with⟨s,rfl⟩|⟨s,t,rfl⟩<;>rfl
   rw[this]
 obtain⟨d,f⟩:=f a;have o:∀ ρ,iE (Ye 4) vv ρ (.Up σ.length)=Hr (Ye 4) vv σ.length 1001 0 ρ:=λ_=>rfl;refine⟨d,?_⟩;have q:σ++[Ob.lst (Gi [] A.length),.lst ((Bj A B).map cD)]=σ++[Ob.lst (Gi [] A.length)]++[Ob.lst ((Bj A B).map cD)]:=by simp
 rw[q];have h:=h [];unfold Zy;generalize σ++[Ob.lst (Gi [] A.length)]++[Ob.lst ((Bj A B).map cD)]=Z at *;generalize x:σ++[Ob.lst (Gi [] A.length)]=Y at *;generalize p:Y++[Ob.lst []]=W at *;generalize B.map Rd.D=w at *;simp[e,p,h,o,f]
theorem W3{A B:List Rd}(b:Km A)(l:Km B)(σ:Ya):je [RL A B] σ=.ok (.lst ((Bj A B).map cD)) σ:=by
 have i:∀ R e,Zy [R,some (.lst [.lst []]),some (.lst (A.map Rd.D)),e,none] σ=.ok (.nx [R,some (.ref σ.length),some (.lst (A.map Rd.D)),some (.ref σ.length),some (.lst [])]) (σ++[.lst (Gi [] A.length)]):=λR e=>by
  have c:=GF b R (some (.lst [.lst []])) [] (by simp) σ [] (by simp) _ rfl;simp only[jh]at c;have a:∀ f,Xl (Ye 4) vv [.lst []] [R,some (.lst [.lst []]),some (.lst (A.map Rd.D)),some (.ref σ.length),f] (σ++[.lst []])=.ok (.nx [R,some (.lst [.lst []]),some (.lst (A.map Rd.D)),some (.ref σ.length),some (.lst [])]) (σ++[.lst ([]++Gi [] A.length)]):=λf=>by
   rw[dq];simp only[eb,gb];rw[c,Oe,tm,Ow]
  rw[cw]at a;unfold Zy;generalize σ++[Ob.lst (Gi [] A.length)]=Z at *;generalize A.map Rd.D=o at *;simp[a]
 obtain⟨n,j⟩:=GY b l (some (RL A B)) σ (some (.ref σ.length)) (some (.lst []));have fz:Ng σ (.ok (.ref (σ.length+1)) (σ++[.lst (Gi [] A.length),.lst ((Bj A B).map cD)]))=.ok (.lst ((Bj A B).map cD)) σ:=by
  have hc:Ze ((Bj A B).map cD)=true:=gu λd hd=>by obtain⟨p,_,rfl⟩:=Cc.mp hd;unfold cD;simp
  have k:(σ++[Ob.lst (Gi [] A.length),.lst ((Bj A B).map cD)])[σ.length+1]?=some (.lst ((Bj A B).map cD)):=by simp
  unfold Ng;dsimp only;rw[da (by simp)];have:fz σ.length (σ++[Ob.lst (Gi [] A.length),.lst ((Bj A B).map cD)]) 6 (.ref (σ.length+1))=some (.lst ((Bj A B).map cD)):=by
   unfold fz;rw[ga (by simp[cl])];dsimp only;rw[ga (by omega),k];dsimp only;rw[xD (λd hd=>Wv hd) hc];rfl
  rw[this]
 have a:Xl (Ye 2) Zy [.lst (A.map Rd.D),.lst (B.map Rd.D)] [some (RL A B),some (.lst [.lst []]),none,none,none] σ=.ok (.nx [some (RL A B),some (.ref (σ.length+1)),some (.lst (B.map Rd.D)),some (.ref (σ.length+1)),n]) (σ++[.lst (Gi [] A.length),.lst ((Bj A B).map cD)]):=by
  rw[dq];simp only[eb,gb];rw[i,Oe,tm,dq];simp only[eb,gb];rw[j,Oe,tm,Ow]
 have m:∀ g σ,qj (ia 0) (some (RL A B)::g) σ=.ok (.seq [.lst (A.map Rd.D),.lst (B.map Rd.D)]) σ:=λg σ=>nr rfl;unfold je DQ;generalize (Bj A B).map cD=h at *;generalize RL A B=q at *;generalize σ++[.lst (Gi [] A.length),Ob.lst h]=Z at *;simp[m,a,fz,-nM]
theorem IS{i j:Nat}{ρ:Ev}{σ:Ya}{xs ys:List D}(h1:ia i ρ σ=.ok (.lst xs) σ)(c:ia j ρ σ=.ok (.lst ys) σ):pD (ia i) (ia j) ρ σ=.ok (vI (.lst xs) (.lst ys)) σ:=by
 have a:kh σ (.lst xs)=some xs:=rfl;have b:kh σ (.lst ys)=some ys:=rfl;unfold pD;rw[gr,h1,Oe];unfold aQ;rw[gr,c,Oe];unfold rH;simp only[a,b]
theorem cU{A B:List Rd}{p:Rn × Rn}(c:A[p.1.2]?=some p.1.1)(d:B[p.2.2]?=some p.2.1)(σ:Ya):Qc [RL A B,cD p] σ=.ok (.lst [p.1.1.D,p.2.1.D]) σ:=by
 have hc:cl (.lst [p.1.1.D,p.2.1.D])=true:=by simp[cl,IC]
 have e:∀ σ,Ta (.lst (A.map Rd.D)) (.int p.1.2) σ=.ok p.1.1.D σ:=λσ=>Qx (Dq (by rw[Ab,c];rfl));have f:∀ σ,Ta (.lst (B.map Rd.D)) (.int p.2.2) σ=.ok p.2.1.D σ:=λσ=>Qx (Dq (by rw[Ab,d];rfl));have l:=eU (xs:=[(A,p.1),(B,p.2)]) (ix:=[]) (fe:=Fa Ta (ia 0) (ia 1)) (ρ:=[some (RL A B),some (cD p)]) (λx=>.lst (x.1.map Rd.D)) (λx=>.int x.2.2) (λx=>x.2.1.D) (IS (i:=0) (j:=1) (σ:=σ) (xs:=[.lst (A.map Rd.D),.lst (B.map Rd.D)]) (ys:=[.int p.1.2,.int p.2.2]) rfl rfl) (λi j h=>by
  match i,h with
  |0,_=>rfl
  |1,_=>rfl
  |2,_=>rfl) (by simp) (λx a j=>by
  have a:x=(A,p.1)\/x=(B,p.2):=by simpa using a
  rcases a with rfl|rfl
  ·have:=e (σ++j);dsimp only;generalize A.map Rd.D=b at *;simp[this]
  ·have:=f (σ++j);dsimp only;generalize B.map Rd.D=b at *;simp[this]) (λx _=>IC _)
 have l:mi _ _ σ=.ok (.lst [p.1.1.D,p.2.1.D]) σ:=l;unfold Qc pM;generalize RL A B=R at *;generalize cD p=C at *;generalize D.lst [p.1.1.D,p.2.1.D]=g at *;simp[l,hc,-Kt]
theorem VB(A:Kv)(σ:Ya):ar A A.length σ=some none:=by unfold ar;simp
theorem CH{f:Ev->M D}{ρ:Ev}{σ:Ya}{A:Kv}(h:f ρ σ=.ok (.Db (A.map (·.1)) (A.map (·.2))) σ):Du f ρ σ=.ok (ar A) σ:=by
 have z:∀ A:Kv,(A.map (·.1)).zip (A.map (·.2))=A:=λA=>by
  induction A with
  |nil=>rfl
  |cons x r a=>rw[Za,Za,List.zip_cons_cons,a]
 show Xc (f ρ) gB σ=_;rw[gr,h,Oe];show gB (.Db (A.map (·.1)) (A.map (·.2))) σ=_;unfold gB;dsimp only;rw[da (by simp),z]
theorem uH{f:Ev->M D}{ρ:Ev}{σ:Ya}{tg:D->Ev->Option Ev}{body:Ev->M Fl}(h:f ρ σ=.ok (.Db [] []) σ):Wq (Du f) tg body ρ σ=.ok (.nx ρ) σ:=by
 rw[gv,CH (A:=[]) h,Cs];exact vA (VB [] σ)
theorem eG{f:Ev->M D}{ρ ρ1 a:Ev}{σ σ2:Ya}{k:Key}{v:D}{tg:D->Ev->Option Ev}{body:Ev->M Fl}(h:f ρ σ=.ok (.Db [k] [v]) σ)(b:tg (.tup [Gu k,v]) ρ=some ρ1)(hb:body ρ1 σ=.ok (.nx a) σ2):Wq (Du f) tg body ρ σ=.ok (.nx a) σ2:=by
 rw[gv,CH (A:=[(k,v)]) h,Cs];show ip (ar [(k,v)]) tg body (1000+1) 0 ρ σ=_;rw[zx (d:=.tup [Gu k,v]) rfl b,hb,Oe,tm];exact vA (k:=999) (VB [(k,v)] σ2)
theorem CL{f:Ev->M D}{ρ ρ1 a ρ3 b:Ev}{σ c σ4:Ya}{k l:Key}{v u:D}{tg:D->Ev->Option Ev}{body:Ev->M Fl}(h:f ρ σ=.ok (.Db [k,l] [v,u]) σ)(i:tg (.tup [Gu k,v]) ρ=some ρ1)(hb:body ρ1 σ=.ok (.nx a) c)(g:tg (.tup [Gu l,u]) a=some ρ3)(e:body ρ3 c=.ok (.nx b) σ4):Wq (Du f) tg body ρ σ=.ok (.nx b) σ4:=by
 rw[gv,CH (A:=[(k,v),(l,u)]) h,Cs];show ip (ar [(k,v),(l,u)]) tg body (1000+1) 0 ρ σ=_;rw[zx (d:=.tup [Gu k,v]) rfl i,hb,Oe,tm,zx (k:=999) (d:=.tup [Gu l,u]) rfl g,e,Oe,tm];exact vA (k:=998) (VB [(k,v),(l,u)] σ4)
noncomputable abbrev Gr:=List (Int × List Lo)
noncomputable def Jo:Option Lo->Option Lo->Gr
 |none,none=>[]
 |some l,none=>[(l.w,[l])]
 |none,some m=>[(m.w,[m])]
 |some l,some m=>if l.w=m.w then [(l.w,[l,m])]else [(l.w,[l]),(m.w,[m])]
noncomputable def gD(g:Gr):D:=.Db (g.map λp=>.inl p.1) (g.map λp=>.lst (p.2.map Lo.D))
theorem t0(ls:List Lo):Ze (ls.map Lo.D)=true:=gu λd hd=>by obtain⟨t,_,rfl⟩:=Cc.mp hd;exact bO t
theorem gG(σ:Ya)(R rd:Option D)(w:Int)(L:D)(kv:Kv)(j:Ya)(f:bp kv (.inl w)=none)(h:kv.length<=3):Xy [R,some (.ref σ.length),rd,some (.int w),some L] (σ++.Db kv::j)=.ok (.nx [R,some (.ref σ.length),rd,some (.int w),some L]) (σ++.Db (uh kv (.inl w) (.ref (σ.length+1+j.length)))::(j++[.lst [L]])):=by
 have h1:∀ fs,yx Ot fs (.ref σ.length) (σ++.Db kv::j)=(fs (σ++.Db kv::j)).bind (Ot (.ref σ.length)):=λfs=>by
  have:ll (σ++.Db kv::j) (.ref σ.length)=some kv:=by unfold ll;simp
  unfold yx;rw[this];rfl
 have h3:Ot (.ref σ.length) [.int w,.ref (σ.length+1+j.length)] (σ++.Db kv::(j++[.lst []]))=.ok (.ref (σ.length+1+j.length)) (σ++.Db (uh kv (.inl w) (.ref (σ.length+1+j.length)))::(j++[.lst []])):=by
  have e:(σ++Ob.Db kv::(j++[.lst []]))[σ.length]?=some (.Db kv):=by simp
  unfold Ot;simp only[qp,e];rw[da (by unfold Rh;omega)];simp[f]
 have g:Wg (σ++Ob.Db (uh kv (.inl w) (.ref (σ.length+1+j.length)))::(j++[.lst []])) (σ.length+1+j.length)=some []:=by
  unfold Wg;rw[Sd (by omega),show σ.length+1+j.length - σ.length=j.length+1 by omega];simp
 have h4:∀ fs,Rt il fs (.ref (σ.length+1+j.length)) (σ++.Db (uh kv (.inl w) (.ref (σ.length+1+j.length)))::(j++[.lst []]))=(fs (σ++.Db (uh kv (.inl w) (.ref (σ.length+1+j.length)))::(j++[.lst []]))).bind (il (.ref (σ.length+1+j.length))):=λfs=>ky (xs:=[]) g;have a:il (.ref (σ.length+1+j.length)) [L] (σ++.Db (uh kv (.inl w) (.ref (σ.length+1+j.length)))::(j++[.lst []]))=.ok .zb (σ++.Db (uh kv (.inl w) (.ref (σ.length+1+j.length)))::(j++[.lst [L]])):=by
  have:=Cz (σ:=σ++.Db (uh kv (.inl w) (.ref (σ.length+1+j.length)))::j) (xs:=[]) (d:=L) (by simp);have e:(σ++Ob.Db (uh kv (.inl w) (.ref (σ.length+1+j.length)))::j).length=σ.length+1+j.length:=by simp;omega
  rw[e]at this;simpa using this
 have b:(σ++Ob.Db kv::j).length=σ.length+1+j.length:=by simp;omega
 have c:(σ++Ob.Db kv::j)++[.lst []]=σ++.Db kv::(j++[.lst []]):=by simp
 unfold Xy;generalize σ++Ob.Db (uh kv (.inl w) (.ref (σ.length+1+j.length)))::(j++[.lst [L]])=Z at *;generalize σ++Ob.Db (uh kv (.inl w) (.ref (σ.length+1+j.length)))::(j++[.lst []])=Y at *;generalize σ++Ob.Db kv::(j++[.lst []])=X at *;generalize σ++Ob.Db kv::j=W at *;simp[h1,h3,h4,a,b,c]
theorem j0(σ:Ya)(R rd:Option D)(w:Int)(L M:D):Xy [R,some (.ref σ.length),rd,some (.int w),some M] (σ++[.Db [(.inl w,.ref (σ.length+1))],.lst [L]])=.ok (.nx [R,some (.ref σ.length),rd,some (.int w),some M]) (σ++[.Db [(.inl w,.ref (σ.length+1))],.lst [L,M],.lst []]):=by
 have h1:∀ fs,yx Ot fs (.ref σ.length) (σ++[.Db [(.inl w,.ref (σ.length+1))],.lst [L]])=(fs (σ++[.Db [(.inl w,.ref (σ.length+1))],.lst [L]])).bind (Ot (.ref σ.length)):=λfs=>by
  have:ll (σ++[.Db [(.inl w,.ref (σ.length+1))],.lst [L]]) (.ref σ.length)=some [(.inl w,.ref (σ.length+1))]:=by unfold ll;simp
  unfold yx;rw[this];rfl
 have h3:Ot (.ref σ.length) [.int w,.ref (σ.length+2)] (σ++[.Db [(.inl w,.ref (σ.length+1))],.lst [L],.lst []])=.ok (.ref (σ.length+1)) (σ++[.Db [(.inl w,.ref (σ.length+1))],.lst [L],.lst []]):=by
  have e:(σ++[Ob.Db [(.inl w,.ref (σ.length+1))],.lst [L],.lst []])[σ.length]?=some (.Db [(.inl w,.ref (σ.length+1))]):=by simp
  unfold Ot;simp only[qp,e];simp[bp,Rh]
 have g:Wg (σ++[Ob.Db [(.inl w,.ref (σ.length+1))],.lst [L],.lst []]) (σ.length+1)=some [L]:=by unfold Wg;simp
 have h4:∀ fs,Rt il fs (.ref (σ.length+1)) (σ++[.Db [(.inl w,.ref (σ.length+1))],.lst [L],.lst []])=(fs (σ++[.Db [(.inl w,.ref (σ.length+1))],.lst [L],.lst []])).bind (il (.ref (σ.length+1))):=λfs=>ky (xs:=[L]) g;have a:il (.ref (σ.length+1)) [M] (σ++[.Db [(.inl w,.ref (σ.length+1))],.lst [L],.lst []])=.ok .zb (σ++[.Db [(.inl w,.ref (σ.length+1))],.lst [L,M],.lst []]):=by
  unfold il;simp only[g];rw[da (by unfold Rh;simp)];simp
 have b:(σ++[Ob.Db [(.inl w,.ref (σ.length+1))],.lst [L]]).length=σ.length+2:=by simp
 have c:(σ++[Ob.Db [(.inl w,.ref (σ.length+1))],.lst [L]])++[.lst []]=σ++[.Db [(.inl w,.ref (σ.length+1))],.lst [L],.lst []]:=by simp
 unfold Xy;generalize σ++[Ob.Db [(.inl w,.ref (σ.length+1))],.lst [L,M],.lst []]=Z at *;generalize σ++[Ob.Db [(.inl w,.ref (σ.length+1))],.lst [L],.lst []]=X at *;generalize σ++[Ob.Db [(.inl w,.ref (σ.length+1))],.lst [L]]=W at *;simp[h1,h3,h4,a,b,c]
section
variable(σ:Ya)(R:Option D)(r:Rd)(τ:Ya)(x3 x4:Option D)
theorem lI(h:r.x=none):qv [R,some (.ref σ.length),some r.D,x3,x4] τ=.ok (.nx [R,some (.ref σ.length),some r.D,x3,x4]) τ:=by
 have a:∀ σ,Ta r.D (.int 1) σ=.ok (.Db [] []) σ:=λσ=>by unfold Rd.D;rw[h];simp[rs]
 unfold qv;generalize r.D=b at *;exact uH (by simp[a])
theorem zC{l:Lo}{τ2:Ya}(h:r.x=some l)(c:Xy [R,some (.ref σ.length),some r.D,some (.int l.w),some l.D] τ=.ok (.nx [R,some (.ref σ.length),some r.D,some (.int l.w),some l.D]) τ2):qv [R,some (.ref σ.length),some r.D,x3,x4] τ=.ok (.nx [R,some (.ref σ.length),some r.D,some (.int l.w),some l.D]) τ2:=by
 have b:∀ σ,Ta r.D (.int 1) σ=.ok (.Db [.inl l.w] [l.D]) σ:=λσ=>by unfold Rd.D;rw[h];simp[rs]
 unfold qv;generalize r.D=a at *;exact eG (k:=.inl l.w) (v:=l.D) (ρ1:=[R,some (.ref σ.length),some a,some (.int l.w),some l.D]) (by simp[b]) rfl c
end
theorem wA{σ j:Ya}(g:List (Int × Nat × List Lo))(h:∀ p∈g,σ.length<=p.2.1/\(σ++.Db (g.map λp=>(.inl p.1,.ref p.2.1))::j)[p.2.1]?=some (.lst (p.2.2.map Lo.D))):Ng σ (.ok (.ref σ.length) (σ++.Db (g.map λp=>(.inl p.1,.ref p.2.1))::j))=.ok (gD (g.map λp=>(p.1,p.2.2))) σ:=by
 have e:(σ++Ob.Db (g.map λp=>(.inl p.1,.ref p.2.1))::j)[σ.length]?=some (.Db (g.map λp=>(.inl p.1,.ref p.2.1))):=by simp
 have go:∀ (T:Ya) (q:List (Int × Nat × List Lo)),(∀ p∈q,σ.length<=p.2.1/\T[p.2.1]?=some (.lst (p.2.2.map Lo.D)))->sm (fz σ.length T 5) (q.map λp=>D.ref p.2.1)=some (q.map λp=>D.lst (p.2.2.map Lo.D)):=λT q=>by
  induction q with
  |nil=>intro _;rfl
  |cons p q b=>
   intro hq;obtain⟨h1,a⟩:=hq p Pa;have f:fz σ.length T 5 (.ref p.2.1)=some (.lst (p.2.2.map Lo.D)):=by
    unfold fz;rw[ga (by simp[cl])];dsimp only;rw[ga (by omega),a];dsimp only;rw[xD (λd hd=>Wv hd) (t0 _)];rfl
   rw[Za,sm,f,b λp hp=>hq p (Da _ hp)];rfl
 unfold Ng;dsimp only;rw[da (by simp)];have:fz σ.length (σ++.Db (g.map λp=>(.inl p.1,.ref p.2.1))::j) 6 (.ref σ.length)=some (gD (g.map λp=>(p.1,p.2.2))):=by
  unfold fz;rw[ga (by simp[cl])];dsimp only;rw[ga (pd _),e];dsimp only;rw[show (g.map λp=>((Sum.inl p.1:Key),D.ref p.2.1)).map (λx=>x.2)=g.map (λp=>D.ref p.2.1) by rw[re];rfl,go _ g h];unfold gD;rw[re,re,re];rfl
 rw[this]
theorem xU(a b:Rd)(σ:Ya):ye [.lst [a.D,b.D]] σ=.ok (gD (Jo a.x b.x)) σ:=by
 have n:∃ s g h e,Xl (Ye 2) qv [a.D,b.D] [some (.lst [a.D,b.D]),some (.ref σ.length),none,none,none] (σ++[.Db []])=.ok (.nx [some (.lst [a.D,b.D]),some (.ref σ.length),s,g,h]) e/\Ng σ (.ok (.ref σ.length) e)=.ok (gD (Jo a.x b.x)) σ:=by
  have c:∀ {i σ2:Ya} {q r g h:Option D},qv [some (.lst [a.D,b.D]),some (.ref σ.length),some a.D,none,none] (σ++[.Db []])=.ok (.nx [some (.lst [a.D,b.D]),some (.ref σ.length),some a.D,q,r]) i->qv [some (.lst [a.D,b.D]),some (.ref σ.length),some b.D,q,r] i=.ok (.nx [some (.lst [a.D,b.D]),some (.ref σ.length),some b.D,g,h]) σ2->Xl (Ye 2) qv [a.D,b.D] [some (.lst [a.D,b.D]),some (.ref σ.length),none,none,none] (σ++[.Db []])=.ok (.nx [some (.lst [a.D,b.D]),some (.ref σ.length),some b.D,g,h]) σ2:=λh1 t=>by
   rw[dq];simp only[eb,gb];rw[h1,Oe,tm,dq];simp only[eb,gb];rw[t,Oe,tm,Ow]
  cases o:a.x with
  |none=>
   have d:=lI σ (some (.lst [a.D,b.D])) a (σ++[.Db []]) none none o;cases hb:b.x with
   |none=>exact⟨_,_,_,_,c d (lI σ _ b _ _ _ hb),wA (j:=[]) [] (by simp)⟩
   |some m=>exact⟨_,_,_,_,c d (zC σ _ b _ _ _ hb (gG σ _ _ m.w m.D [] [] rfl (by simp))),wA (j:=[]++[.lst [m.D]]) [(m.w,σ.length+1,[m])] (by simp)⟩
  |some l=>
   have d:=zC σ (some (.lst [a.D,b.D])) a _ none none o (gG σ _ _ l.w l.D [] [] rfl (by simp));cases hb:b.x with
   |none=>exact⟨_,_,_,_,c d (lI σ _ b _ _ _ hb),wA (j:=[]++[.lst [l.D]]) [(l.w,σ.length+1,[l])] (by simp)⟩
   |some m=>
    by_cases f:l.w=m.w
    ·have k:=zC σ (some (.lst [a.D,b.D])) b _ (some (.int l.w)) (some l.D) hb (j0 σ (some (.lst [a.D,b.D])) (some b.D) m.w l.D m.D);rw[f]at d k;refine⟨_,_,_,_,c d k,?_⟩;have:=wA (σ:=σ) (j:=[.lst [l.D,m.D],.lst []]) [(m.w,σ.length+1,[l,m])] (by simp);rw[show Jo (some l) (some m)=[(m.w,[l,m])]from(da f).trans (by rw[f])];exact this
    ·have u:bp [((.inl l.w:Key),D.ref (σ.length+1))] (.inl m.w)=none:=by simp[bp,f]
     have k:=zC σ (some (.lst [a.D,b.D])) b _ (some (.int l.w)) (some l.D) hb (gG σ (some (.lst [a.D,b.D])) (some b.D) m.w m.D [(.inl l.w,.ref (σ.length+1))] [.lst [l.D]] u (by simp));refine⟨_,_,_,_,c d k,?_⟩;have hp:uh [((.inl l.w:Key),D.ref (σ.length+1))] (.inl m.w) (.ref (σ.length+1+1))=[(.inl l.w,.ref (σ.length+1)),(.inl m.w,.ref (σ.length+1+1))]:=by simp[uh,f]
     have:=wA (σ:=σ) (j:=[.lst [l.D]]++[.lst [m.D]]) [(l.w,σ.length+1,[l]),(m.w,σ.length+1+1,[m])] (λp hp=>by
      have hp:p=(l.w,σ.length+1,[l])\/p=(m.w,σ.length+1+1,[m]):=by simpa using hp
      rcases hp with rfl|rfl
      ·exact⟨by dsimp only;omega,by simp⟩
      ·refine⟨by dsimp only;omega,?_⟩;dsimp only;rw[Sd (by omega),show σ.length+1+1 - σ.length=2 by omega];rfl)
     rw[show Jo (some l) (some m)=[(l.w,[l]),(m.w,[m])]from ga f];rw[show [Ob.lst [l.D]].length=1 from rfl,hp];exact this
 obtain⟨s,g,h,e,n,fz⟩:=n;unfold ye OP;generalize a.D=A at *;generalize b.D=B at *;simp[n,fz,-gv]
noncomputable def gq{a:Type}(key:a->Int):List a->a->a
 |[],b=>b
 |x::xs,b=>if key x<key b then gq key xs x else gq key xs b
theorem bG{a:Type}(key:a->Int):∀ (xs:List a) (b:a),gq key xs b∈b::xs
 |[],b=>by simp[gq]
 |x::xs,b=>by
  unfold gq;split
  ·have:=bG key xs x;exact Da _ this
  ·have:=bG key xs b;rcases La.mp this with h|h
   ·rw[h];exact Pa
   ·exact Da _ (Da _ h)
theorem mC{c:Type}(key:c->Int):∀ (xs:List c) (b:c),∀ y∈b::xs,key (gq key xs b)<=key y
 |[],b,y,hy=>by
  have:y=b:=by simpa using hy
  rw[this];exact Bn _
 |x::xs,b,y,hy=>by
  unfold gq;split
  ·next h=>
   have a:=mC key xs x;rcases La.mp hy with e|e
   ·have:=a x Pa;rw[e];omega
   ·exact a y e
  ·next h=>
   have a:=mC key xs b;rcases La.mp hy with e|e
   ·rw[e];exact a b Pa
   ·rcases La.mp e with e|e
    ·have:=a b Pa;rw[e];omega
    ·exact a y (Da _ e)
theorem xI{c:Type}{f:c->D}{key:c->Int}{fe:Ev->M D}{rest:Ev}{σ:Ya}:∀ (xs:List c) (b:c),(∀ x∈xs,fe (some (f x)::rest) σ=.ok (.int (key x)) σ)->Fu fe rest (xs.map f) (f b) (key b) σ=.ok (f (gq key xs b)) σ
 |[],b,_=>rfl
 |x::xs,b,h=>by
  have h1:=h x Pa;have d:=λy hy=>h y (Da _ hy);rw[Za];unfold Fu gq;rw[gr,wC h1,Oe];dsimp only;by_cases a:key x<key b
  ·rw[da a,da a];exact xI xs x d
  ·rw[ga a,ga a];exact xI xs b d
theorem yM{a:Type}{f:a->D}{key:a->Int}{fe:Ev->M D}{rest:Ev}{σ:Ya}{xs:List a}{x:a}(h:∀ y∈x::xs,fe (some (f y)::rest) σ=.ok (.int (key y)) σ):mx fe rest [.lst ((x::xs).map f)] σ=.ok (f (gq key xs x)) σ:=by
 rw[Za];unfold mx;dsimp only;rw[gr,wC (h x Pa),Oe];exact xI xs x λy hy=>h y (Da _ hy)
@[simp] theorem zo9(ix:List Nat)(fe:Ev->M D)(fs:Ev->M (List D))(ρ:Ev)(σ:Ya):JD ix fe fs ρ σ=(fs ρ σ).bind (mx fe (ix.map λi=>(ρ[i]?).getD none)):=nr rfl
noncomputable def Wp(l:Lo):Bool:=l.k == "open"
noncomputable def oD:Option Int->D
 |none=>.zb
 |some i=>.int i
theorem cG(F:Option Int):cl (oD F)=true:=by cases F<;>rfl
noncomputable def Mn(ls:List Lo):List (Option Int):=(ls.filter Wp).map λl=>some l.d
noncomputable def cm(F:Option Int)(e:Int)(l:Lo):Bool:=if Wp l then (match F with
 |none=>true
 |some f=>decide (f > l.d))else (l.k == "hangs") && (match F with
 |none=>false
 |some f=>decide (f - 1+e<l.d))
noncomputable def Rj(ls:List Lo)(F:Option Int)(e:Int):Int:=((ls.filter (cm F e)).map Lo.v).sum
noncomputable def mf(ls:List Lo)(e:Int):Option Int:=gq (λx=>Rj ls x e) (Mn ls) none
section
variable(l:Lo)(σ:Ya)
theorem l0:Ta l.D (.int 0) σ=.ok (.str l.k) σ:=by unfold Lo.D;simp
theorem l1:Ta l.D (.int 1) σ=.ok (.int l.v) σ:=by unfold Lo.D;simp
theorem l2:Ta l.D (.int 2) σ=.ok (.int l.d) σ:=by unfold Lo.D;simp
end
section
variable{ls:List Lo}(hl:ls.length<=2)(e:Int)(σ:Ya)
theorem T0(l:Lo)(F:Option Int):sd [l.D,oD F,.int e] σ=.ok (.bl (cm F e l)) σ:=by
 have b:=λσ=>l0 l σ;have c:=λσ=>l2 l σ;have o:(l.k == ("open" : Str))=Wp l:=rfl;unfold sd HK cm;generalize l.D=L at *;generalize Wp l=B at *;generalize a:(l.k == ("hangs" : Str))=H at *;cases F with
 |none=>cases B<;>cases H<;>simp[b,c,o,a,oD]
 |some f=>
  have n:∀ σ,ms (.int f) .zb σ=.ok (.bl false) σ:=λσ=>nr rfl;have d:∀ σ,xC (.int f) .zb σ=.ok (.bl true) σ:=λσ=>nr rfl;cases B<;>cases H<;>simp[b,c,o,a,oD,n,d]
include hl
theorem i5:fg [.lst (ls.map Lo.D)] σ=.ok (.lst ((none::Mn ls).map oD)) σ:=by
 have l:=XF (src:=qj (ia 0)) (ρ:=[some (.lst (ls.map Lo.D))]) (σ:=σ) (s:=.seq (ls.map Lo.D)) (ix:=[]) (xs:=ls) (fi:=eT (Fa oEq (Fa Ta (ia 0) (eC (.int 0))) (eC (.str "open")))) (fe:=Fa Ta (ia 0) (eC (.int 2))) Lo.D (λl=>.int l.d) Wp (by simp) (λi _=>rc some (Tt ls _ i)) (by omega) (λl _ j=>by
  have b:=l0 l (σ++j);have c:=l2 l (σ++j);have o:(l.k == ("open" : Str))=Wp l:=rfl;generalize l.D=L at *;exact⟨by simp[b,o],λ_=>by simp[c]⟩) (λ_ _ _=>rfl)
 rw[show (ls.filter Wp).map (λl=>D.int l.d)=(Mn ls).map oD by unfold Mn;rw[re];rfl]at l;have g:(Mn ls).length<=2:=by unfold Mn;rw[Ub];exact Sb (List.length_filter_le ..) hl
 have a:∀ σ,nh (.lst [.zb]) (.lst ((Mn ls).map oD)) σ=.ok (.lst ((none::Mn ls).map oD)) σ:=λσ=>by rw[nD (by unfold Rh;simp;omega)];rfl
 have hc:Ze ((none::Mn ls).map oD)=true:=gu λd hd=>by obtain⟨t,_,rfl⟩:=Cc.mp hd;exact cG t
 unfold fg iO;generalize (none::Mn ls).map oD=f at *;generalize (Mn ls).map oD=e at *;generalize ls.map Lo.D=L at *;simp[l,a,hc,-Kt]
theorem IJ(F:Option Int):Ed [.lst (ls.map Lo.D),oD F,.int e] σ=.ok (.int (Rj ls F e)) σ:=by
 have l:=XF (src:=qj (ia 0)) (ρ:=[some (.lst (ls.map Lo.D)),some (oD F),some (.int e)]) (σ:=σ) (s:=.seq (ls.map Lo.D)) (ix:=[1,2]) (xs:=ls) (fi:=eT (qd 3 sd [] (qa (ia 0) (qa (ia 2) (qa (ia 3) Oa))))) (fe:=Fa Ta (ia 0) (eC (.int 1))) Lo.D (λl=>.int l.v) (cm F e) (by simp) (λi _=>rc some (Tt ls _ i)) (by omega) (λl _ j=>by
  have c:=T0 e (σ++j) l F;have b:=l1 l (σ++j);generalize l.D=L at *;generalize oD F=a at *;exact⟨by simp[c],λ_=>by simp[b]⟩) (λ_ _ _=>rfl)
 rw[show (ls.filter (cm F e)).map (λl=>D.int l.v)=((ls.filter (cm F e)).map Lo.v).map D.int by rw[re];rfl]at l;have s:=eO ((ls.filter (cm F e)).map Lo.v) σ;unfold Ed JL Rj;generalize ((ls.filter (cm F e)).map Lo.v).map D.int=d at *;generalize ls.map Lo.D=L at *;generalize oD F=a at *;simp[l,s,-Kt]
theorem BY:ff [.lst (ls.map Lo.D),.int e] σ=.ok (oD (mf ls e)) σ:=by
 have c:=λσ=>i5 hl σ;have m:=yM (f:=oD) (key:=λx=>Rj ls x e) (x:=none) (xs:=Mn ls) (fe:=qd 3 Ed [] (qa (ia 1) (qa (ia 0) (qa (ia 2) Oa)))) (rest:=[some (.lst (ls.map Lo.D)),some (.int e)]) (σ:=σ) (λx _=>by
  have s1:=λσ=>IJ hl e σ x;generalize D.lst (ls.map Lo.D)=a at *;generalize oD x=g at *;simp[s1])
 rw[show gq (λx=>Rj ls x e) (Mn ls) none=mf ls e from rfl]at m;have hc:=cG (mf ls e);unfold ff jN;generalize oD (mf ls e)=b at *;generalize D.lst (ls.map Lo.D)=a at *;generalize (none::Mn ls).map oD=d at *;simp[c,m,hc]
end
noncomputable def gs(e:Int)(g:Gr):Int:=(g.map λp=>Rj p.2 (mf p.2 e) e).sum
noncomputable def Sh(g:Gr):Prop:=g=[]\/(∃ p,g=[p]/\p.2.length<=2)\/∃ p r,g=[p,r]/\p.1≠r.1/\p.2.length<=2/\r.2.length<=2
theorem kT(x y:Option Lo):Sh (Jo x y):=by
 cases x with
 |none=>cases y with
  |none=>exact .inl rfl
  |some m=>exact .inr (.inl ⟨_,rfl,by simp⟩)
 |some l=>cases y with
  |none=>exact .inr (.inl ⟨_,rfl,by simp⟩)
  |some m=>
   by_cases h:l.w=m.w
   ·exact .inr (.inl ⟨(l.w,[l,m]),da h,by simp⟩)
   ·exact .inr (.inr ⟨(l.w,[l]),(m.w,[m]),ga h,h,by simp,by simp⟩)
theorem r0(r:Rd)(σ:Ya):Ta r.D (.int 0) σ=.ok (.int r.f) σ:=by unfold Rd.D;simp
section
variable(a b:Rd)(e:Int)(σ:Ya){g:Gr}(hg:Sh g)
include hg
theorem gW(F:D)(w:∀ p∈g,Xk F (.int p.1) σ=.ok (oD (mf p.2 e)) σ):Ch [.lst [a.D,b.D],gD g,F,.int e] σ=.ok (.int (a.f+b.f+gs e g)) σ:=by
 have l:=Lv (src:=qj (ia 0)) (ρ:=[some (.lst [a.D,b.D]),some (gD g),some F,some (.int e),none,none,none]) (σ:=σ) (s:=.seq [a.D,b.D]) (ix:=[]) (xs:=[a,b]) (fe:=Fa Ta (ia 0) (eC (.int 0))) Rd.D (λr=>.int r.f) (by simp) (λi _=>rc some (Tt [a,b] _ i)) (by simp) (λr _ j=>by
  have:=r0 r (σ++j);generalize r.D=R at *;simp[this]) (λ_ _=>rfl)
 have l:mi _ _ σ=.ok (.lst [.int a.f,.int b.f]) σ:=l;have s1:Qs [.lst [.int a.f,.int b.f]] σ=.ok (.int (a.f+b.f)) σ:=by simp[Qs,As]
 have H:∀ (f:Ev->M D) (c d o q h m:Option D) (x:D) (σ:Ya),yw (λa b=>a+b) 4 f [c,d,o,q,some x,h,m] σ=yl [c,d,o,q,some x,h,m] (rA (λa b=>a+b) 4 [c,d,o,q,some x,h,m] x) (f [c,d,o,q,some x,h,m] σ):=λ_ _ _ _ _ _ _ _ _=>mL rfl;have st:∀ (c d:Option D) (t:Int) (p:Int × List Lo),p.2.length<=2->Xk F (.int p.1) σ=.ok (oD (mf p.2 e)) σ->HD [c,d,some F,some (.int e),some (.int t),some (.int p.1),some (.lst (p.2.map Lo.D))] σ=.ok (.nx [c,d,some F,some (.int e),some (.int (t+Rj p.2 (mf p.2 e) e)),some (.int p.1),some (.lst (p.2.map Lo.D))]) σ:=λc d t p hp n=>by
  have E:=IJ hp e σ (mf p.2 e);unfold HD;generalize D.lst (p.2.map Lo.D)=L at *;generalize oD (mf p.2 e)=O at *;generalize Rj p.2 (mf p.2 e) e=S at *;simp[H,E,n]
 have z:∃ h m,Wq (Du (ia 1)) (zq 2 (uk (Ye 5) (uk (Ye 6) Xq))) HD [some (.lst [a.D,b.D]),some (gD g),some F,some (.int e),some (.int (a.f+b.f)),none,none] σ=.ok (.nx [some (.lst [a.D,b.D]),some (gD g),some F,some (.int e),some (.int (a.f+b.f+gs e g)),h,m]) σ:=by
  rcases hg with rfl|⟨p,rfl,hp⟩|⟨p,r,rfl,_,hp,C⟩
  ·refine⟨none,none,?_⟩;rw[show a.f+b.f+gs e []=a.f+b.f from yB _];exact uH rfl
  ·have n:=w p (by simp);rw[show a.f+b.f+gs e [p]=a.f+b.f+Rj p.2 (mf p.2 e) e by simp[gs]];exact⟨_,_,eG (k:=.inl p.1) (v:=.lst (p.2.map Lo.D)) rfl (ρ1:=[some (.lst [a.D,b.D]),some (gD [p]),some F,some (.int e),some (.int (a.f+b.f)),some (.int p.1),some (.lst (p.2.map Lo.D))]) rfl (st _ _ _ p hp n)⟩
  ·have n:=w p (by simp);have y:=w r (by simp);rw[show a.f+b.f+gs e [p,r]=a.f+b.f+Rj p.2 (mf p.2 e) e+Rj r.2 (mf r.2 e) e by simp[gs];omega];exact⟨_,_,CL (k:=.inl p.1) (v:=.lst (p.2.map Lo.D)) (l:=.inl r.1) (u:=.lst (r.2.map Lo.D)) rfl (ρ1:=[some (.lst [a.D,b.D]),some (gD [p,r]),some F,some (.int e),some (.int (a.f+b.f)),some (.int p.1),some (.lst (p.2.map Lo.D))]) rfl (st _ _ _ p hp n) (ρ3:=[some (.lst [a.D,b.D]),some (gD [p,r]),some F,some (.int e),some (.int (a.f+b.f+Rj p.2 (mf p.2 e) e)),some (.int r.1),some (.lst (r.2.map Lo.D))]) rfl (st _ _ _ r C y)⟩
 obtain⟨h,m,z⟩:=z;unfold Ch pO;generalize gD g=G at *;generalize a.D=A at *;generalize b.D=B at *;simp[l,s1,z,-Kt,-gv]
end
noncomputable def FK(e:Int)(g:Gr):Kv:=g.map λp=>(.inl p.1,oD (mf p.2 e))
theorem iP(e:Int)(g:Gr):Ze ((FK e g).map (·.2))=true:=gu λd hd=>by
 unfold FK at hd;rw[re]at hd;obtain⟨p,_,rfl⟩:=Cc.mp hd;exact cG _
noncomputable def val(e:Int)(a b:Rd):Int:=a.f+b.f+gs e (Jo a.x b.x)
noncomputable def Hn(e:Int)(p:Rn × Rn):D:=.tup [.int (val e p.1.1 p.2.1),cD p,.Db ((FK e (Jo p.1.1.x p.2.1.x)).map (·.1)) ((FK e (Jo p.1.1.x p.2.1.x)).map (·.2))]
theorem MP(e:Int)(p:Rn × Rn):cl (Hn e p)=true:=by unfold Hn cD;simp[cl,Ze,iP]
theorem DX(p:Rn × Rn)(e:Int)(σ:Ya):ce [.lst [p.1.1.D,p.2.1.D],cD p,.int e] σ=.ok (Hn e p) σ:=by
 have l:=λσ=>xU p.1.1 p.2.1 σ;have b:=kT p.1.1.x p.2.1.x;have st:∀ (y E F:Option D) (a:Kv) (r:Int × List Lo),a.length<=3->r.2.length<=2->gE [y,E,some (.int e),F,some (.ref σ.length),some (.int r.1),some (.lst (r.2.map Lo.D))] (σ++[.Db a])=.ok (.nx [y,E,some (.int e),F,some (.ref σ.length),some (.int r.1),some (.lst (r.2.map Lo.D))]) (σ++[.Db (uh a (.inl r.1) (oD (mf r.2 e)))]):=λy E F a r Q i=>by
  have M:=λσ=>BY i e σ;have st:=λρ=>Cu (ρ:=ρ) (σ:=σ++[.Db a]) (d:=oD (mf r.2 e)) (n:=σ.length) (w:=r.1) (kvs:=a) (by simp) (by omega);rw[uA]at st;unfold gE;generalize D.lst (r.2.map Lo.D)=L at *;generalize oD (mf r.2 e)=O at *;generalize σ++[.Db (uh a (.inl r.1) O)]=Z at *;generalize σ++[.Db a]=Y at *;simp[M,st]
 have s:∀ (g:Gr) (b:Sh g),(∃ I J,Wq (Du (ia 3)) (zq 2 (uk (Ye 5) (uk (Ye 6) Xq))) gE [some (.lst [p.1.1.D,p.2.1.D]),some (cD p),some (.int e),some (gD g),some (.ref σ.length),none,none] (σ++[.Db []])=.ok (.nx [some (.lst [p.1.1.D,p.2.1.D]),some (cD p),some (.int e),some (gD g),some (.ref σ.length),I,J]) (σ++[.Db (FK e g)]))/\∀ r∈g,Xk (.ref σ.length) (.int r.1) (σ++[.Db (FK e g)])=.ok (oD (mf r.2 e)) (σ++[.Db (FK e g)]):=λg b=>by
  have gt:∀ (a:Kv) (w:Int) (d:D),bp a (.inl w)=some d->Xk (.ref σ.length) (.int w) (σ++[.Db a])=.ok d (σ++[.Db a]):=λa w d h=>by
   unfold Xk ll;simp[qp,h]
  rcases b with rfl|⟨r,rfl,i⟩|⟨r,t,rfl,c,i,o⟩
  ·exact⟨⟨_,_,uH rfl⟩,by simp⟩
  ·refine⟨⟨some (.int r.1),some (.lst (r.2.map Lo.D)),eG (k:=.inl r.1) (v:=.lst (r.2.map Lo.D)) rfl (ρ1:=[some (.lst [p.1.1.D,p.2.1.D]),some (cD p),some (.int e),some (gD [r]),some (.ref σ.length),some (.int r.1),some (.lst (r.2.map Lo.D))]) rfl (st _ _ _ [] r (by simp) i)⟩,λt o=>?_⟩;have:t=r:=by simpa using o
   subst this;exact gt _ _ _ (by simp[FK,bp])
  ·have s2:=st (some (.lst [p.1.1.D,p.2.1.D])) (some (cD p)) (some (gD [r,t])) [(.inl r.1,oD (mf r.2 e))] t (by simp) o;have hp:uh [((.inl r.1:Key),oD (mf r.2 e))] (.inl t.1) (oD (mf t.2 e))=FK e [r,t]:=by simp[uh,c,FK]
   rw[hp]at s2;refine⟨⟨some (.int t.1),some (.lst (t.2.map Lo.D)),CL (k:=.inl r.1) (v:=.lst (r.2.map Lo.D)) (l:=.inl t.1) (u:=.lst (t.2.map Lo.D)) rfl (ρ1:=[some (.lst [p.1.1.D,p.2.1.D]),some (cD p),some (.int e),some (gD [r,t]),some (.ref σ.length),some (.int r.1),some (.lst (r.2.map Lo.D))]) rfl (st _ _ _ [] r (by simp) i) (ρ3:=[some (.lst [p.1.1.D,p.2.1.D]),some (cD p),some (.int e),some (gD [r,t]),some (.ref σ.length),some (.int t.1),some (.lst (t.2.map Lo.D))]) rfl s2⟩,λz q=>?_⟩;have q:z=r\/z=t:=by simpa using q
   rcases q with rfl|rfl
   ·exact gt _ _ _ (by simp[FK,bp])
   ·exact gt _ _ _ (by simp[FK,bp,c])
 obtain⟨⟨I,J,N⟩,K⟩:=s _ b;have H:=gW p.1.1 p.2.1 e (σ++[.Db (FK e (Jo p.1.1.x p.2.1.x))]) b _ K;rw[show p.1.1.f+p.2.1.f+gs e (Jo p.1.1.x p.2.1.x)=val e p.1.1 p.2.1 from rfl]at H;have fz:Ng σ (.ok (.tup [.int (val e p.1.1 p.2.1),cD p,.ref σ.length]) (σ++[.Db (FK e (Jo p.1.1.x p.2.1.x))]))=.ok (Hn e p) σ:=by
  unfold Ng;dsimp only;rw[da (by simp)];have h:=aN (σ:=σ) (kvs:=FK e (Jo p.1.1.x p.2.1.x)) (j:=[]) (m:=4) (iP ..);have:fz σ.length (σ++[.Db (FK e (Jo p.1.1.x p.2.1.x))]) 6 (.tup [.int (val e p.1.1 p.2.1),cD p,.ref σ.length])=some (Hn e p):=by
   unfold fz;rw[ga (by simp[cl,Ze])];dsimp only;unfold sm;rw[Wv (by simp[cl])];unfold sm;rw[Wv (by unfold cD;simp[cl])];unfold sm;rw[h];rfl
  rw[this]
 unfold ce DM;generalize gD (Jo p.1.1.x p.2.1.x)=G at *;generalize σ++[.Db (FK e (Jo p.1.1.x p.2.1.x))]=Z at *;generalize val e p.1.1 p.2.1=V at *;generalize Hn e p=P at *;generalize cD p=C at *;generalize p.1.1.D=A at *;generalize p.2.1.D=B at *;simp[l,N,H,fz,-gv]
noncomputable abbrev vk(e:Int)(p:Rn × Rn):Int:=val e p.1.1 p.2.1
noncomputable def zt(e:Int)(A B:List Rd):Rn × Rn:=match Bj A B with
 |[]=>((⟨0,none⟩,0),(⟨0,none⟩,0))
 |p::a=>gq (vk e) a p
noncomputable def gp(e:Int)(A B:List Rd):Int:=vk e (zt e A B)
theorem rL{A B:List Rd}{p:Rn × Rn}(h:p∈Bj A B):A[p.1.2]?=some p.1.1/\B[p.2.2]?=some p.2.1:=by
 unfold Bj at h;obtain⟨a,c,h⟩:=Wu.mp h;obtain⟨b,hb,rfl⟩:=Cc.mp h;exact⟨Re.mp c,Re.mp hb⟩
theorem cL{A B:List Rd}(a:Km A)(b:Km B):∃ p ps,Bj A B=p::ps:=by
 rcases a with⟨s,rfl⟩|⟨s,t,rfl⟩<;>rcases b with⟨u,rfl⟩|⟨u,v,rfl⟩<;>exact⟨_,_,rfl⟩
theorem SY{A B:List Rd}(a:Km A)(b:Km B):(Bj A B).length<=4:=by
 rcases a with⟨s,rfl⟩|⟨s,t,rfl⟩<;>rcases b with⟨u,rfl⟩|⟨u,v,rfl⟩<;>simp[Bj]
theorem eD(e:Int){A B:List Rd}{a b:Rd}(c:a∈A)(hb:b∈B):gp e A B<=val e a b:=by
 obtain⟨i,d⟩:=wg.mp c;obtain⟨j,f⟩:=wg.mp hb;have hm:((a,i),(b,j))∈Bj A B:=Wu.mpr ⟨(a,i),Re.mpr d,Cc.mpr ⟨(b,j),Re.mpr f,rfl⟩⟩;unfold gp zt;cases hp:Bj A B with
 |nil=>rw[hp]at hm;cases hm
 |cons p g=>rw[hp]at hm;exact mC (vk e) g p _ hm
theorem zE(e:Int){A B:List Rd}(f:Km A)(g:Km B):∃ a∈A,∃ b∈B,gp e A B=val e a b:=by
 obtain⟨p,c,hp⟩:=cL f g;have hb:zt e A B=gq (vk e) c p:=by unfold zt;rw[hp]
 have hm:=bG (vk e) c p;rw[<-hp,<-hb]at hm;obtain⟨h1,d⟩:=rL hm;exact⟨_,wg.mpr ⟨_,h1⟩,_,wg.mpr ⟨_,d⟩,rfl⟩
theorem rF(e:Int){A B:List Rd}(c:Km A)(d:Km B){w:Int}{a b:Rd}(f:a∈A)(hb:b∈B)(h:val e a b=w)(g:∀ a∈A,∀ b∈B,w<=val e a b):gp e A B=w:=by
 obtain⟨x,i,y,hy,j⟩:=zE e c d;have:=g x i y hy;have:=eD e f hb;omega
section
variable(e:Int)(K:Option Int){q r:Int}(hq:q=0\/q=1)(hr:r=0\/r=1){ss ts:List Sn}(hs:Km ss)(ht:Km ts)
include hq hr hs ht
theorem N3(σ:Ya):Mi [lj e K [Te q ss,Te r ts]] σ=.ok (Hn e (zt e (ss.map (rd e K q)) (ts.map (rd e K r)))) σ:=by
 have a:=hs.map (rd e K q);have b:=ht.map (rd e K r);have o:=λσ=>T5 e K hq hr hs ht σ;have c:=λσ=>W3 a b σ;have g:∀ σ,yc [8,9] "every" (lj e K [Te q ss,Te r ts]) σ=.ok (.int e) σ:=λσ=>bn (bo rfl) rfl rfl;generalize ss.map (rd e K q)=A at *;generalize ts.map (rd e K r)=B at *;generalize lj e K [Te q ss,Te r ts]=V at *;have k:mi (rn (toN (qj (qd 1 je [] (qa (ia 1) Oa)))) [1,0] (Ye 0) eo (qd 3 ce [] (qa (qd 2 Qc [] (qa (ia 2) (qa (ia 0) Oa))) (qa (ia 0) (qa (Wc (yc [8,9] "every") (ia 3)) Oa))))) [some V,some (RL A B),none] σ=.ok (.lst ((Bj A B).map (Hn e))) σ:=by
  refine Lv (s:=.seq ((Bj A B).map cD)) (ix:=[1,0]) cD (Hn e) ?_ (λi _=>rc some (Tt _ _ i)) (by have:=SY a b;omega) (λp hp j=>?_) (λp _=>MP e p)
  ·generalize RL A B=R at *;generalize (Bj A B).map cD=C at *;simp[c]
  ·obtain⟨h1,h⟩:=rL hp;have d:=λσ=>cU h1 h σ;have l:=λσ=>DX p e σ;generalize RL A B=R at *;generalize Hn e p=P at *;generalize cD p=C at *;generalize D.lst [p.1.1.D,p.2.1.D]=t at *;generalize σ++j=Y at *;simp[d,l,g]
 have m:mx (Fa Ta (ia 0) (eC (.int 0))) [] [.lst ((Bj A B).map (Hn e))] σ=.ok (Hn e (zt e A B)) σ:=by
  obtain⟨p,n,hp⟩:=cL a b;rw[show zt e A B=gq (vk e) n p by unfold zt;rw[hp],hp];refine yM (f:=Hn e) (key:=vk e) λy _=>?_;have:∀ σ,Ta (Hn e y) (.int 0) σ=.ok (.int (vk e y)) σ:=λσ=>by unfold Hn;simp
  generalize Hn e y=P at *;simp[this]
 have hc:=MP e (zt e A B);unfold Mi qK;generalize RL A B=R at *;generalize (Bj A B).map (Hn e)=P at *;generalize Hn e (zt e A B)=BD at *;simp[o,k,m,hc,-Kt]
theorem lV(σ:Ya):qh [lj e K [Te q ss,Te r ts]] σ=.ok (.int (gp e (ss.map (rd e K q)) (ts.map (rd e K r)))) σ:=by
 have p:=λσ=>N3 e K hq hr hs ht σ;have a:∀ x σ,Ta (Hn e x) (.int 0) σ=.ok (.int (vk e x)) σ:=λx σ=>by unfold Hn;simp
 unfold qh JP gp;generalize zt e (ss.map (rd e K q)) (ts.map (rd e K r))=B at *;have a:=a B;generalize Hn e B=P at *;generalize lj e K [Te q ss,Te r ts]=V at *;simp[p,a]
end
structure Ac where
 (p q:Int)
 c:Nat
 m:Sn
 G:D
 y:List Sn
 L:List D
noncomputable def Ac.D(a:Ac):L4.D:=.obj a.c ["pot", "side", "mine", "grant", "may", "strikes"] [.int a.p,.int a.q,a.m.D,a.G,.lst (a.y.map Sn.D),.lst a.L]
structure Ac.Ok(a:Ac):Prop where
 p:a.p=0\/a.p=1
 q:a.q=0\/a.q=1
 c:[4,5,6,7].contains a.c=true
 g:cl a.G=true
 l:Ze a.L=true
 y:Km a.y
theorem m5(c:Nat)(fn:List D->M D)(a b d e f g:D)(σ:Ya):pp c 7 fn [a,b,d,e,f,g] σ=ly σ.length (fn [.ref σ.length,a,b,d,e,f,g] (σ++[.ins c []])):=eQ rfl
section
variable{a:Ac}(h:a.Ok)(σ:Ya)
include h
theorem Zu:Ym σ a.D=some (a.c,([("pot",.int a.p),("side",.int a.q),("mine",a.m.D),("grant",a.G),("may",.lst (a.y.map Sn.D)),("strikes",.lst a.L)]:List (Str × D))):=bo rfl
theorem nv:yc [4,5,6,7] "pot" a.D σ=.ok (.int a.p) σ:=bn (Zu h σ) h.c rfl
theorem ww:yc [4,5,6,7] "side" a.D σ=.ok (.int a.q) σ:=bn (Zu h σ) h.c rfl
theorem mB:yc [4,5,6,7] "mine" a.D σ=.ok a.m.D σ:=bn (Zu h σ) h.c rfl
theorem XO:yc [4,5,6,7] "grant" a.D σ=.ok a.G σ:=bn (Zu h σ) h.c rfl
theorem NC:yc [4,5,6,7] "may" a.D σ=.ok (.lst (a.y.map Sn.D)) σ:=bn (Zu h σ) h.c rfl
theorem aD:yc [4,5,6,7] "strikes" a.D σ=.ok (.lst a.L) σ:=bn (Zu h σ) h.c rfl
theorem Kw:cl a.D=true:=by unfold Ac.D;simp[cl,xn,fB,h.g,h.l]
theorem Zz:Ng σ (pp a.c 7 Ui [.int a.p,.int a.q,a.m.D,a.G,.lst (a.y.map Sn.D),.lst a.L] σ)=.ok a.D σ:=by
 have hy:=fB a.y;have hm:=xn a.m;have o:=h.g;have k:=h.l;have hc:=h.c;unfold Ac.D;generalize a.y.map Sn.D=y at *;generalize a.L=z at *;generalize a.G=g at *;generalize a.m.D=m at *;generalize a.c=c at *;generalize a.p=b at *;generalize a.q=j at *;have e:=λ(f:Str) (v:D) (fs:List (Str × D)) (r:fs.length<1000)=>XP (ρ:=[some (.ref σ.length),some (.int b),some (.int j),some m,some g,some (.lst y),some (.lst z)]) (σ:=σ) (cs:=[4,5,6,7]) (f:=f) (d:=v) (c:=c) (fs:=fs) hc r;have t:∀ p:D,dn "pot" p []=([("pot",p)]:List (Str × D)):=λ_=>rfl;have u:∀ p s:D,dn "side" s [("pot",p)]=([("pot",p),("side",s)]:List (Str × D)):=λ_ _=>rfl;have w:∀ p s:D,dn "mine" m [("pot",p),("side",s)]=([("pot",p),("side",s),("mine",m)]:List (Str × D)):=λ_ _=>rfl;have x:∀ p s:D,dn "grant" g [("pot",p),("side",s),("mine",m)]=([("pot",p),("side",s),("mine",m),("grant",g)]:List (Str × D)):=λ_ _=>rfl;have p4:∀ p s:D,dn "may" (.lst y) [("pot",p),("side",s),("mine",m),("grant",g)]=([("pot",p),("side",s),("mine",m),("grant",g),("may",.lst y)]:List (Str × D)):=λ_ _=>rfl;have A:∀ p s:D,dn "strikes" (.lst z) [("pot",p),("side",s),("mine",m),("grant",g),("may",.lst y)]=([("pot",p),("side",s),("mine",m),("grant",g),("may",.lst y),("strikes",.lst z)]:List (Str × D)):=λ_ _=>rfl;have n:=λσ=>TB hy σ;have fz:=λσ=>TB k σ;have i:Ui [.ref σ.length,.int b,.int j,m,g,.lst y,.lst z] (σ++[.ins c []])=.ok .zb (σ++[.ins c [("pot",.int b),("side",.int j),("mine",m),("grant",g),("may",.lst y),("strikes",.lst z)]]):=by
  unfold Ui OO;simp[e,t,u,w,x,p4,A,n,fz]
 rw[m5,i,lH,uJ (by simp[hm,o,hy,k])];rfl
end
noncomputable def calm(p q:Int)(m:Sn)(G:D)(L:List D):Ac:=⟨p,q,5,m,G,[m],L⟩
noncomputable def li(p q:Int)(m o:Sn)(G:D)(L:List D):Ac:=⟨p,q,6,m,G,[m,o],L⟩
noncomputable def Dj(p q:Int)(o m:Sn)(G:D)(L:List D):Ac:=⟨p,q,7,m,G,[o,m],L⟩
noncomputable def kt(e g:Int):List (Str × D):=[("hand",.int 1),("every",.int e),("last_look",.int 0),("gave",.int g),("known",.ref 1),("accounts",.ref 2),("claims",.ref 3),("seen",.ref 4),("asked",.ref 5),("finishing",.ref 6)]
noncomputable def CN:Kv:=[(.inl 0,.gt ["held"]),(.inl 1,.gt ["held"])]
noncomputable def DP:Kv:=[(.inl 0,.Db [] []),(.inl 1,.Db [] [])]
noncomputable def Kd:Option Int->Kv
 |none=>[]
 |some w=>[(.inl w,.bl true)]
noncomputable def S(e g:Int)(K:Option Int)(A Q:Kv)(J:Ya):Ya:=.ins 9 (kt e g)::.Db (Kd K)::.Db A::.Db CN::.Db DP::.Db Q::.Db []::J
structure Vs(e g:Int)(K:Option Int)(σ:Ya):Prop where
 h0:σ[0]?=some (.ins 9 (kt e g))
 h1:σ[1]?=some (.Db (Kd K))
 h3:σ[3]?=some (.Db CN)
 h4:σ[4]?=some (.Db DP)
theorem Io(e g:Int)(K:Option Int)(A Q:Kv)(J:Ya):Vs e g K (S e g K A Q J):=⟨rfl,rfl,rfl,rfl⟩
theorem Jx{σ j:Ya}{k:Nat}{o:Ob}(h:σ[k]?=some o):(σ++j)[k]?=some o:=by
 rw[qb (na.mp h).1,h]
theorem Vs.app{e g:Int}{K:Option Int}{σ:Ya}(h:Vs e g K σ)(j:Ya):Vs e g K (σ++j):=⟨Jx h.h0,Jx h.h1,Jx h.h3,Jx h.h4⟩
theorem XB{σ:Ya}{k r:Nat}{o x:Ob}(n:r≠k)(h:σ[k]?=some o):(σ.set r x)[k]?=some o:=by
 rw[mj n,h]
theorem Vs.set{e g:Int}{K:Option Int}{σ:Ya}(h:Vs e g K σ){r:Nat}(a:r=2\/6<r)(x:Ob):Vs e g K (σ.set r x):=⟨XB (by omega) h.h0,XB (by omega) h.h1,XB (by omega) h.h3,XB (by omega) h.h4⟩
section
variable{e g:Int}{K:Option Int}{σ:Ya}(h:Vs e g K σ)
include h
theorem Ou:Ym σ (.ref 0)=some (9,kt e g):=by unfold Ym;simp[h.h0]
theorem uU:yc [8,9] "every" (.ref 0) σ=.ok (.int e) σ:=bn (Ou h) rfl rfl
theorem rS:yc [8,9] "last_look" (.ref 0) σ=.ok (.int 0) σ:=bn (Ou h) rfl rfl
theorem oH:yc [8,9] "known" (.ref 0) σ=.ok (.ref 1) σ:=bn (Ou h) rfl rfl
theorem xR:yc [9] "gave" (.ref 0) σ=.ok (.int g) σ:=bn (Ou h) rfl rfl
theorem mv:yc [9] "accounts" (.ref 0) σ=.ok (.ref 2) σ:=bn (Ou h) rfl rfl
theorem TN:yc [9] "claims" (.ref 0) σ=.ok (.ref 3) σ:=bn (Ou h) rfl rfl
theorem RU:yc [9] "seen" (.ref 0) σ=.ok (.ref 4) σ:=bn (Ou h) rfl rfl
theorem BL:yc [9] "asked" (.ref 0) σ=.ok (.ref 5) σ:=bn (Ou h) rfl rfl
theorem Uk{m:Str}(k:Nat)(fn:List D->M D)(fs:M (List D))(hm:(kt e g).lookup m=none):mm [(9,fn)] k m fs (.ref 0) σ=(fs σ).bind (Zj k fn (.ref 0)):=ao (Ou h) rfl hm
theorem wM{p:Int}(hp:p=0\/p=1):Xk (.ref 3) (.int p) σ=.ok (.gt ["held"]) σ:=by
 unfold Xk ll;simp only[qp,h.h3];rcases hp with rfl|rfl<;>rfl
theorem JX{p:Int}(hp:p=0\/p=1):Xk (.ref 4) (.int p) σ=.ok (.Db [] []) σ:=by
 unfold Xk ll;simp only[qp,h.h4];rcases hp with rfl|rfl<;>rfl
theorem tZ:md [.ref 0] σ=.ok (.lst (Gg K)) σ:=by
 have k:=oH h;have o:Ay [.ref 1] σ=.ok (.ref σ.length) (σ++[.lst (Gg K)]):=by
  have l:kh σ (.ref 1)=none:=by unfold kh Wg;simp[h.h1]
  have d:ll σ (.ref 1)=some (Kd K):=by unfold ll;simp[h.h1]
  unfold Ay;simp only[l];unfold JC;simp only[d];cases K with
  |none=>
   simp only[Kd,show Nw []=some []from rfl,show Js []=[]from(By []).eq_nil];rfl
  |some w=>
   simp only[Kd,show Nw [((.inl w:Key),D.bl true)]=some [w]from rfl,show Js [w]=[w]from(By [w]).eq_singleton];rfl
 have a:Ng σ (Ay [.ref 1] σ)=.ok (.lst (Gg K)) σ:=by rw[o];exact Kz (kB K)
 have hc:=kB K;unfold md FN;generalize Gg K=KD at *;simp[k,a,hc]
end
theorem IG{σ:Ya}{n:Nat}{xs:List D}(h:Wg σ n=some xs)(j:Ya):Wg (σ++j) n=some xs:=by
 have e:=ZK h;unfold Wg;rw[Jx e]
theorem qV{f:Ev->M D}{src:Ev->M NX}{nx:NX}{n:Nat}{ρ c:Ev}{σ b a:Ya}{A A':Kv}{tg:D->Ev->Option Ev}{body:Ev->M Fl}(h:f ρ σ=.ok (.ref n) σ)(g:σ[n]?=some (.Db A))(e:src ρ σ=.ok nx b)(i:ip nx tg body 1001 0 ρ b=.ok (.nx c) a)(d:a[n]?=some (.Cf A')):cC f (Wq src tg body) ρ σ=.ok (.nx c) (a.set n (.Db A')):=by
 show aE DG (f ρ) (Wq src tg body ρ) σ=_;unfold aE;rw[h];dsimp only;rw[g];dsimp only;rw[gv,e,Cs];show kA DG _ (ip nx tg body 1001 0 ρ b)=_;rw[i];unfold kA;simp only[d];rfl
theorem qX{f:Ev->M D}{n:Nat}{ρ:Ev}{σ:Ya}{A:Kv}(a:f ρ σ=.ok (.ref n) σ)(g:σ[n]?=some (.Db A)):lD f ρ σ=.ok (ar A) (σ.set n (.Cf A)):=by
 show Xc (f ρ) SD σ=_;rw[gr,a,Oe];unfold SD;simp only[g]
theorem L7{σ:Ya}{r:Nat}{o:Ob}(h:σ[r]?=some o):σ.set r o=σ:=by
 obtain⟨h1,a⟩:=na.mp h;rw[<-a];exact List.set_getElem_self h1
theorem RK(c:Nat)(fn:List D->M D)(a b d e:D)(σ:Ya):pp c 5 fn [a,b,d,e] σ=ly σ.length (fn [.ref σ.length,a,b,d,e] (σ++[.ins c []])):=eQ rfl
noncomputable abbrev VP:=Int × List Sn
noncomputable def vn(v:VP):D:=Te v.1 v.2
theorem f7(σ:Ya)(e:Int)(K:Option Int){n:Nat}{P:List VP}(k:P.length<=9)(h:Wg σ n=some (P.map vn)):yq [.ref σ.length,.int e,.int 0,.lst (Gg K),.ref n] (σ++[.ins 8 []])=.ok .zb (σ++[.ins 8 [("every",.int e),("last_look",.int 0),("known",.lst (Gg K)),("pots",.lst (P.map vn))]]):=by
 have E:=λ(g:List Nat) (q:g.contains 8=true) (f:Str) (w:D) (fs:List (Str × D)) (k:fs.length<1000)=>XP (ρ:=[some (.ref σ.length),some (.int e),some (.int 0),some (.lst (Gg K)),some (.ref n)]) (σ:=σ) (cs:=g) (f:=f) (d:=w) (c:=8) (fs:=fs) q k;have o:∀ fs,Ng (σ++[.ins 8 fs]) (cr [.lst (Gg K)] (σ++[.ins 8 fs]))=.ok (.lst (Gg K)) (σ++[.ins 8 fs]):=λfs=>TB (kB K) _;have r:∀ fs,mi (rn (toN (qj (ia 4))) [] (Ye 0) eo (Zf (qa (Fa Ta (ia 0) (eC (.int 0))) (qa (mi (Bh cr (qa (Fa Ta (ia 0) (eC (.int 1))) Oa))) (qa (Bh hA (qa (Fa Ta (ia 0) (eC (.int 2))) Oa)) Oa))))) [some (.ref σ.length),some (.int e),some (.int 0),some (.lst (Gg K)),some (.ref n)] (σ++[.ins 8 fs])=.ok (.lst (P.map vn)) (σ++[.ins 8 fs]):=λfs=>by
  have s1:xw (.ref n) (σ++[.ins 8 fs])=.ok (.Up n) (σ++[.ins 8 fs]):=by
   show (match Wg (σ++[.ins 8 fs]) n with|some _=>_|none=>_)=_;rw[IG h]
  refine Lv (ix:=[]) (src:=qj (ia 4)) (s:=.Up n) (xs:=P) vn vn (by simp[s1]) (λi j=>by
    show (Wg (σ++[.ins 8 fs]++j) n).map _=_;rw[IG (IG h _),Hf,Tt]) (by omega)
   (λv _ j=>?_) (λv _=>OD ..)
  have m:=λσ=>TB (fB v.2) σ;have l:∀ τ,hA [.Db [] []] τ=.ok (.Db [] []) τ:=λτ=>nr rfl;unfold vn Te;generalize v.2.map Sn.D=y at *;simp[m,l]
 have t:dn "every" (.int e) ([]:List (Str × D))=([("every",.int e)]:List (Str × D)):=rfl;have u:∀ a b:D,dn "last_look" b ([("every",a)]:List (Str × D))=([("every",a),("last_look",b)]:List (Str × D)):=λ_ _=>rfl;have x:∀ a b c:D,dn "known" c ([("every",a),("last_look",b)]:List (Str × D))=([("every",a),("last_look",b),("known",c)]:List (Str × D)):=λ_ _ _=>rfl;have p4:∀ a b c d:D,dn "pots" d ([("every",a),("last_look",b),("known",c)]:List (Str × D))=([("every",a),("last_look",b),("known",c),("pots",d)]:List (Str × D)):=λ_ _ _ _=>rfl;have p:∀ ρ σ,mi (Bh cr (qa (ia 3) Oa)) ρ σ=Ng σ (Bh cr (qa (ia 3) Oa) ρ σ):=λ_ _=>rfl;unfold yq qN;generalize P.map vn=PS at *;generalize Gg K=KD at *;simp[E,t,u,x,p4,o,r,p,-Kt]
theorem A4{a:Ac}(c:a.Ok)(σ:Ya):Me [a.D,.gt ["held"]] σ=.ok (.lst (a.y.map Sn.D)) σ:=by
 have m:=λσ=>NC c σ;have d:∀ σ,Ta (.gt ["held"]) (.int 0) σ=.ok (.str "held") σ:=λσ=>nr rfl;have b:((("held" : Str) == ("held" : Str)))=true:=by decide
 have hc:=fB a.y;unfold Me CM;generalize a.D=A at *;generalize a.y.map Sn.D=Y at *;simp[d,b,m,hc]
noncomputable abbrev AA(a b:Ac):Kv:=[(.inl 0,a.D),(.inl 1,b.D)]
noncomputable def Fs(e:Int)(K:Option Int)(a b:Ac):D:=lj e K [Te a.q a.y,Te b.q b.y]
section
variable{e g:Int}{K:Option Int}
theorem QL{a:Ac}(c:a.Ok){b:Ya}(h:Vs e g K b){P:List VP}(w:P.length<=5)(X:Option D){n:Nat}(hn:n=b.length):LC [some (.ref 0),X,some (.ref n),some (.int a.p),some a.D] (b++[Ob.lst (P.map vn)])=.ok (.nx [some (.ref 0),X,some (.ref n),some (.int a.p),some a.D]) (b++[Ob.lst ((P++[(a.q,a.y)]).map vn)]):=by
 subst hn;have f:=Cz (σ:=b) (xs:=P.map vn) (d:=Te a.q a.y) (by simp;omega);rw[show P.map vn++[Te a.q a.y]=(P++[(a.q,a.y)]).map vn by simp[vn]]at f;have o:∀ m,Rt il m (.ref b.length) (b++[Ob.lst (P.map vn)])=(m (b++[Ob.lst (P.map vn)])).bind (il (.ref b.length)):=λm=>ky (xs:=P.map vn) (by unfold kh Wg;simp);have v:=h.app [.lst (P.map vn)];have i:=TN v;have j:=RU v;have k:=wM v c.p;have l:=JX v c.p;have st:=λσ=>A4 c σ;have r:=λσ=>ww c σ;have s:D.tup [.int a.q,.lst (a.y.map Sn.D),.Db [] []]=Te a.q a.y:=rfl;unfold LC;generalize b++[Ob.lst ((P++[(a.q,a.y)]).map vn)]=Z at *;generalize b++[Ob.lst (P.map vn)]=Y at *;generalize a.D=t at *;generalize D.lst (a.y.map Sn.D)=u at *;simp[i,j,k,l,st,r,o,s,f]
variable{a b:Ac}(ha:a.Ok)(hb:b.Ok)(hp:a.p=0)(hr:b.p=1)
include ha hb hp hr
theorem VO{σ:Ya}(h:Vs e g K σ){r:Nat}(o:σ[r]?=some (.Db (AA a b)))(x:r=2\/6<r):nc [.ref 0,.ref r] σ=.ok (Fs e K a b) σ:=by
 have c:=(na.mp o).1;have s:=h.set x (.Cf (AA a b));have p:(σ.set r (.Cf (AA a b))).length=σ.length:=Zv;have hb:∀ u v,ip (ar (AA a b)) (zq 2 (uk (Ye 3) (uk (Ye 4) Xq))) LC 1001 0 [some (.ref 0),some (.ref r),some (.ref σ.length),u,v] ((σ++[Ob.lst []]).set r (.Cf (AA a b)))=.ok (.nx [some (.ref 0),some (.ref r),some (.ref σ.length),some (.int 1),some b.D]) (σ.set r (.Cf (AA a b))++[Ob.lst [Te a.q a.y,Te b.q b.y]]):=λu v=>by
  have s1:=QL ha s (P:=[]) (by simp) (some (.ref r)) p.symm;have s2:=QL hb s (P:=[]++[(a.q,a.y)]) (by simp) (some (.ref r)) p.symm;rw[hp]at s1;rw[hr]at s2;rw[vr _ _ c];rw[zx (d:=.tup [.int 0,a.D]) rfl (ρ1:=[some (.ref 0),some (.ref r),some (.ref σ.length),some (.int 0),some a.D]) rfl];rw[show (σ.set r (.Cf (AA a b))++[Ob.lst []])=(σ.set r (.Cf (AA a b))++[Ob.lst (([]:List VP).map vn)])from rfl,s1,Oe,tm];rw[zx (k:=999) (d:=.tup [.int 1,b.D]) rfl (ρ1:=[some (.ref 0),some (.ref r),some (.ref σ.length),some (.int 1),some b.D]) rfl,s2,Oe,tm];exact vA (k:=998) (VB (AA a b) _)
 have i:=Jx (j:=[.lst []]) o;have t:=qV (f:=ia 1) (src:=lD (ia 1)) (ρ:=[some (.ref 0),some (.ref r),some (.ref σ.length),none,none]) (σ:=σ++[.lst []]) (n:=r) (by simp) i (qX (by simp) i) (hb none none) (A':=AA a b) (Jx (by rw[ti c]));rw[vr _ _ (by rw[p];exact c),List.set_set,L7 o]at t;have l:=h.app [.lst [Te a.q a.y,Te b.q b.y]];have C:=tZ l;have B:=λfs=>Uk l (m:="words") 1 md fs rfl;have w:=uU l;have z:=rS l;have hc:cl (Fs e K a b)=true:=gL e K (by simp[OD]);have A:Ng (σ++[.lst [Te a.q a.y,Te b.q b.y]]) (pp 8 5 yq [.int e,.int 0,.lst (Gg K),.ref σ.length] (σ++[.lst [Te a.q a.y,Te b.q b.y]]))=.ok (Fs e K a b) (σ++[.lst [Te a.q a.y,Te b.q b.y]]):=by
  rw[RK,f7 _ e K (n:=σ.length) (P:=[(a.q,a.y),(b.q,b.y)]) (by simp) (by unfold Wg;simp[vn]),lH,uJ (by simp[OD,kB,vn])];rfl
 have fz:Ng σ (.ok (Fs e K a b) (σ++[.lst [Te a.q a.y,Te b.q b.y]]))=.ok (Fs e K a b) σ:=pP hc;unfold nc pQ;generalize Fs e K a b=V at *;generalize σ++[Ob.lst [Te a.q a.y,Te b.q b.y]]=E at *;simp[-gv,t,w,z,C,B,A,fz]
end
noncomputable def W(e:Int)(K:Option Int)(a b:Ac):Int:=gp e (a.y.map (rd e K a.q)) (b.y.map (rd e K b.q))
theorem cO{e:Int}{K:Option Int}{a b:Ac}(c:a.Ok)(hb:b.Ok)(σ:Ya):qh [Fs e K a b] σ=.ok (.int (W e K a b)) σ:=lV e K c.q hb.q c.y hb.y σ
noncomputable abbrev SA(e g:Int)(K:Option Int)(a b:Ac)(Q:Kv)(J:Ya):Ya:=S e g K (AA a b) Q J
section
variable{e g:Int}{K:Option Int}{a b:Ac}(ha:a.Ok)(hb:b.Ok)(hp:a.p=0)(hr:b.p=1){Q:Kv}{J:Ya}
include ha hb hp hr
theorem lN:Qb [.ref 0] (SA e g K a b Q J)=.ok (.int (W e K a b)) (SA e g K a b Q J):=by
 have c:=Io e g K (AA a b) Q J;have v:=VO ha hb hp hr c (r:=2) rfl (.inl rfl);have d:=mv c;have w:=λj=>cO (e:=e) (K:=K) ha hb j;have f:=λfs=>Uk c (m:="view_by") 2 nc fs rfl;have h:=λfs=>Uk c (m:="view") 1 Cd fs rfl;have hc:cl (Fs e K a b)=true:=gL e K (by simp[OD]);have i:Cd [.ref 0] (SA e g K a b Q J)=.ok (Fs e K a b) (SA e g K a b Q J):=by
  unfold Cd sP;unfold SA at *;generalize Fs e K a b=V at *;generalize S e g K (AA a b) Q J=Y at *;simp[f,d,v,hc]
 unfold Qb WJ;unfold SA at *;generalize Fs e K a b=V at *;generalize S e g K (AA a b) Q J=Y at *;simp[h,i,w]
theorem RJ{c d x:Ac}(hc:c.Ok)(hd:d.Ok)(h:c.p=0)(i:d.p=1)(A:x.Ok)(f:uh (AA a b) (.inl x.p) x.D=AA c d)(n:Int):Fb [.ref 0,x.D,.int n] (SA e g K a b Q J)=.ok (.bl (decide (W e K a b - n<=W e K c d))) (SA e g K a b Q J):=by
 have q:=Io e g K (AA a b) Q J;have s:=mv q;have u:FD [.ref 2] (SA e g K a b Q J)=.ok (.ref (SA e g K a b Q J).length) (SA e g K a b Q J++[.Db (AA a b)]):=rfl;have st:∀ k,Ar k x.D (.ref (SA e g K a b Q J).length) (.int x.p) (SA e g K a b Q J++[.Db (AA a b)])=.ok (.nx k) (SA e g K a b Q J++[.Db (AA c d)]):=λk=>by
  rw[Cu (kvs:=AA a b) (by simp) (by simp),f,uA]
 have pt:=λl=>nv A l;have j:=q.app [.Db (AA c d)];have v:=VO hc hd h i j (r:=(SA e g K a b Q J).length) (by simp) (.inr (by show 6<J.length+7;omega));have w:=λl=>cO (e:=e) (K:=K) hc hd l;have o:=lN (e:=e) (g:=g) (K:=K) ha hb hp hr (Q:=Q) (J:=J++[.Db (AA c d)]);rw[show SA e g K a b Q (J++[.Db (AA c d)])=SA e g K a b Q J++[.Db (AA c d)]from rfl]at o;have B:=λfs=>Uk j (m:="view_by") 2 nc fs rfl;have C:=λfs=>Uk j (m:="worth") 1 Qb fs rfl;have fz:∀ t,Ng (SA e g K a b Q J) (.ok (.bl t) (SA e g K a b Q J++[.Db (AA c d)]))=.ok (.bl t) (SA e g K a b Q J):=λt=>pP (by simp);unfold Fb QJ;unfold SA at *;generalize z:S e g K (AA a b) Q J++[.Db (AA c d)]=F at *;generalize y:S e g K (AA a b) Q J++[.Db (AA a b)]=E at *;generalize S e g K (AA a b) Q J=Y at *;generalize Fs e K c d=V at *;generalize x.D=BD at *;simp[s,u,st,pt,v,w,o,B,C,fz]
end
noncomputable def Uf(p s:Int)(X:D):D:=.tup [.str "agree",.int p,.int s,X]
noncomputable def zj(p s n:Int):D:=.tup [.str "strike",.int p,.int s,.int n]
structure Sn.Ok(W:Int)(s:Sn):Prop where
 st:pq s.n s.a s.b (tf s.x)
 w:s.a+s.b+sq (tf s.x)=W
noncomputable def Ni(p:Int)(s:Sn):D:=.tup [.str "offer",.int p,Uf p 0 s.D]
noncomputable def ro(p n:Int):D:=.tup [.str "struck",.int p,zj p 0 n]
noncomputable def oo(p:Int)(m s:Sn):D:=.tup [.str "accept",.int p,Uf p 1 s.D,zj p 1 m.n]
noncomputable def Nm(p:Int)(s:Sn):D:=.tup [.str "ask",.int p,.tup [.int s.a,.int s.b],.tup ((tf s.x).map Ti.D)]
theorem XS(p:Int)(s:Sn):pl 8 (Ni p s)=true:=by obtain⟨n,a,b,x⟩:=s;cases x<;>simp[pl,Ni,Uf,Sn.D,Qi,tf,Ti.D]
theorem O6(p:Int)(m s:Sn):pl 8 (oo p m s)=true:=by obtain⟨n,a,b,x⟩:=s;cases x<;>simp[pl,oo,Uf,zj,Sn.D,Qi,tf,Ti.D]
theorem SW(p n:Int):pl 8 (ro p n)=true:=by simp[pl,ro,zj]
theorem Zr{p s:Int}{X:D}(h:cl X=true):cl (Uf p s X)=true:=by unfold Uf;simp[cl,h]
theorem hL(p:Int)(s:Sn):cl (Ni p s)=true:=by unfold Ni;simp[cl,Ze,Zr (xn s)]
theorem Q6(p n:Int):cl (ro p n)=true:=by unfold ro zj;simp[cl,Ze]
theorem J1(p:Int)(m s:Sn):cl (oo p m s)=true:=by unfold oo zj;simp[cl,Ze,Zr (xn s)]
theorem eY(p:Int)(s:Sn):cl (Nm p s)=true:=by unfold Nm;simp[cl,Ze,SJ]
section
variable{p:Int}(hp:p=0\/p=1)(σ:Ya)
include hp
theorem cK{q:Int}(hq:q=0\/q=1)(k X:D):Md [.tup [k,.int p,.int q,X]] σ=.ok (.bl true) σ:=by
 have a:=EQ hq σ;have h3:=HP hp σ;unfold Md AJ;simp[a,h3]
theorem bL{q:Int}(hq:q=0\/q=1){s:Sn}(h:pq s.n s.a s.b (tf s.x)):Ff [Uf p q s.D] σ=.ok (.bl true) σ:=by
 have h1:=yz h σ;have h4:=λX=>cK hp σ hq (.str "agree") X;have c:(("agree" : Str) == "word")=false:=by decide
 have d:(("agree" : Str) == "strike")=false:=by decide
 have t:Fe [Uf p q s.D] σ=.ok (.bl true) σ:=by
  unfold Sn.D Uf Fe tH;generalize Qi s.n s.a s.b (tf s.x)=X at *;simp[h1,h4,c,d]
 have i:Ta (Uf p q s.D) (.int 0) σ=.ok (.str "agree") σ:=by unfold Uf;simp
 unfold Ff sM;generalize Uf p q s.D=X at *;simp[t,i]
theorem eL{q n:Int}(hq:q=0\/q=1)(h:0<=n/\n<=1000000):Xe [zj p q n] σ=.ok (.bl true) σ:=by
 have h1:=uQ h σ;have h4:=λX=>cK hp σ hq (.str "strike") X;have a:(("strike" : Str) == "word")=false:=by decide
 have t:Fe [zj p q n] σ=.ok (.bl true) σ:=by
  unfold zj Fe tH;simp[h1,h4,a]
 have i:Ta (zj p q n) (.int 0) σ=.ok (.str "strike") σ:=by unfold zj;simp
 unfold Xe xQ;generalize zj p q n=X at *;simp[t,i]
theorem RC{k:Str}{x:D}{r:List D}(e:r.length<=3)(h:Ic [.tup (.str k::.int p::x::r)] σ=.ok (.bl true) σ):Dc [.tup (.str k::.int p::x::r)] σ=.ok (.bl true) σ:=by
 have h3:=HP hp σ;have a:Ta (.tup (.str k::.int p::x::r)) (.int 0) σ=.ok (.str k) σ:=by simp
 have b:Ta (.tup (.str k::.int p::x::r)) (.int 1) σ=.ok (.int p) σ:=by simp
 have d:qk [.tup (.str k::.int p::x::r)] σ=.ok (.int ((r.length:Int)+3)) σ:=by
  have:=lL (σ:=σ) (.str k::.int p::x::r);simp only[Gb]at this;rw[this];congr 2
 have c:Jn .tuple (.tup (.str k::.int p::x::r)) σ=.ok (.bl true) σ:=by simp
 have lt:decide ((r.length:Int)+3<3)=false:=xb (by omega);unfold Dc jO;generalize D.tup (.str k::.int p::x::r)=X at *;simp[h,h3,a,b,d,c,lt]
theorem bP{s:Sn}(h:pq s.n s.a s.b (tf s.x)):Dc [Ni p s] σ=.ok (.bl true) σ:=by
 have a:=bL hp σ (.inl (rfl:(0:Int)=0)) h;refine RC hp σ (by simp) ?_;unfold Ic pB;generalize Uf p 0 s.D=X at *;simp[a]
theorem nL{m s:Sn}(h:pq s.n s.a s.b (tf s.x))(hm:0<=m.n/\m.n<=1000000):Dc [oo p m s] σ=.ok (.bl true) σ:=by
 have a:=bL hp σ (.inr (rfl:(1:Int)=1)) h;have b:=eL hp σ (.inr (rfl:(1:Int)=1)) hm;have c:(("accept" : Str) == "offer")=false:=by decide
 refine RC hp σ (by simp) ?_;unfold Ic pB;generalize Uf p 1 s.D=X at *;generalize zj p 1 m.n=Y at *;simp[a,b,c]
theorem qL{n:Int}(h:0<=n/\n<=1000000):Dc [ro p n] σ=.ok (.bl true) σ:=by
 have b:=eL hp σ (.inl (rfl:(0:Int)=0)) h;have a:(("struck" : Str) == "offer")=false:=by decide
 have c:(("struck" : Str) == "accept")=false:=by decide
 refine RC hp σ (by simp) ?_;unfold Ic pB;generalize zj p 0 n=Y at *;simp[b,a,c]
theorem wU{s:Sn}(h:pq s.n s.a s.b (tf s.x)):Dc [Nm p s] σ=.ok (.bl true) σ:=by
 have a:=yz (n:=0) ⟨by omega,h.a,h.b,h.t,h.l⟩ σ;unfold Qi at a;have c:(("ask" : Str) == "offer")=false:=by decide
 have d:(("ask" : Str) == "accept")=false:=by decide
 have e:(("ask" : Str) == "struck")=false:=by decide
 refine RC hp σ (by simp) ?_;unfold Ic pB;generalize D.tup ((tf s.x).map Ti.D)=X at *;simp[a,c,d,e]
end
theorem s0(s:Sn)(σ:Ya):Ta s.D (.int 0) σ=.ok (.int s.n) σ:=by unfold Sn.D Qi;simp
theorem s1(s:Sn)(σ:Ya):Ta s.D (.int 1) σ=.ok (.tup [.int s.a,.int s.b]) σ:=by unfold Sn.D Qi;simp
theorem s2(s:Sn)(σ:Ya):Ta s.D (.int 2) σ=.ok (.tup ((tf s.x).map Ti.D)) σ:=by unfold Sn.D Qi;simp
theorem pX{W:Int}{s m:Sn}(h:s.Ok W)(hm:m.Ok W)(hn:s.n=m.n+1)(σ:Ya):ve [s.D,m.D] σ=.ok (.bl true) σ:=by
 have h1:=yJ h.st σ;have c:=oF m.n m.a m.b (ts:=tf m.x) hm.st.l σ;rw[h.w]at h1;rw[hm.w]at c;have d:=s0 s σ;have e:=s0 m σ;have hb:(s.n == m.n+1)=true:=by simp[hn]
 unfold ve iK;unfold Sn.D at *;generalize Qi s.n s.a s.b (tf s.x)=X at *;generalize Qi m.n m.a m.b (tf m.x)=Y at *;simp[h1,c,d,e,hb]
section
variable{a:Ac}(ha:a.Ok)
include ha
theorem dB(s:Int){X:D}(b:cl X=true)(σ:Ya):ja [a.D,.int s,X] σ=.ok (Uf a.p s X) σ:=by
 have p:=λσ=>nv ha σ;unfold ja UK Uf;generalize a.D=A at *;simp[p,b]
theorem RD(s:Int)(m:Sn)(σ:Ya):Ca [a.D,.int s,m.D] σ=.ok (zj a.p s m.n) σ:=by
 have p:=λσ=>nv ha σ;have b:=λσ=>s0 m σ;unfold Ca QN zj;generalize a.D=A at *;generalize m.D=M at *;simp[p,b]
end
section
variable{p q:Int}(hp:p=0\/p=1)(hq:q=0\/q=1)
include hp hq
theorem To(m:Sn){G:D}{L:List D}(a:cl G=true)(b:Ze L=true):(calm p q m G L).Ok:=⟨hp,hq,rfl,a,b,.inl ⟨m,rfl⟩⟩
theorem Ex(m o:Sn){G:D}{L:List D}(a:cl G=true)(b:Ze L=true):(li p q m o G L).Ok:=⟨hp,hq,rfl,a,b,.inr ⟨m,o,rfl⟩⟩
theorem cx(o m:Sn){G:D}{L:List D}(a:cl G=true)(b:Ze L=true):(Dj p q o m G L).Ok:=⟨hp,hq,rfl,a,b,.inr ⟨o,m,rfl⟩⟩
end
section
variable{p:Int}(hp:p=0\/p=1){m s:Sn}{W:Int}(hm:m.Ok W)(hs:s.Ok W)(hn:s.n=m.n+1){G:D}{L:List D}(hg:cl G=true)(hl:Ze L=true)(hLk:L.length<=100)
include hp hm hs hn hg hl
theorem pL(σ:Ya):Jc [(calm p 1 m G L).D,Ni p s] σ=.ok (.tup [(Dj p 1 m s (Uf p 0 s.D) L).D,oo p m s]) σ:=by
 have h1:(1:Int)=0\/(1:Int)=1:=.inr rfl;have a:=To hp h1 m hg hl;have c:=cx hp h1 m s (Zr (p:=p) (s:=0) (xn s)) hl;have le:=λσ=>bP hp σ hs.st;have f:∀ σ,yc [4,5,6,7] "side" (calm p 1 m G L).D σ=.ok (.int 1) σ:=λσ=>ww a σ;have g:∀ σ,yc [4,5,6,7] "pot" (calm p 1 m G L).D σ=.ok (.int p) σ:=λσ=>nv a σ;have k:∀ σ,Ta (Ni p s) (.int 0) σ=.ok (.str "offer") σ:=λσ=>by unfold Ni;simp
 have l:∀ σ,Ta (Ni p s) (.int 2) σ=.ok (Uf p 0 s.D) σ:=λσ=>by unfold Ni;simp
 have o:∀ σ,Ta (Uf p 0 s.D) (.int 3) σ=.ok s.D σ:=λσ=>by unfold Uf;simp
 have e:∀ σ,ja [(calm p 1 m G L).D,.int 0,s.D] σ=.ok (Uf p 0 s.D) σ:=λσ=>dB a 0 (xn s) σ;have b:∀ σ,ja [(calm p 1 m G L).D,.int 1,s.D] σ=.ok (Uf p 1 s.D) σ:=λσ=>dB a 1 (xn s) σ;have u:∀ σ,Ca [(calm p 1 m G L).D,.int 1,m.D] σ=.ok (zj p 1 m.n) σ:=λσ=>RD a 1 m σ;have ns:∀ σ,Hi (.str "offer") (.str "offer") σ=.ok (.bl false) σ:=λσ=>Ms (by simp[pl]);have t:∀ fs σ,mm [(5,ja)] 3 "agree_of" fs (calm p 1 m G L).D σ=(fs σ).bind (Zj 3 ja (calm p 1 m G L).D):=λfs σ=>ao (bo rfl) rfl rfl;have r:∀ fs σ,mm [(5,Ca)] 3 "strike_of" fs (calm p 1 m G L).D σ=(fs σ).bind (Zj 3 Ca (calm p 1 m G L).D):=λfs σ=>ao (bo rfl) rfl rfl;have ne:∀ σ,Hi (Ni p s) (.tup [.str "offer",.int p,Uf p 0 s.D]) σ=.ok (.bl false) σ:=λσ=>Ms (x:=Ni p s) (XS p s);have j:=λσ=>pX hs hm hn σ;have q:∀ σ,Ng σ (pp 7 7 Ui [.int p,.int 1,s.D,Uf p 0 s.D,.lst [m.D,s.D],.lst L] σ)=.ok (Dj p 1 m s (Uf p 0 s.D) L).D σ:=λσ=>Zz c σ;have h:∀ σ,yc [4,5,6,7] "mine" (calm p 1 m G L).D σ=.ok m.D σ:=λσ=>mB a σ;have i:∀ σ,yc [4,5,6,7] "strikes" (calm p 1 m G L).D σ=.ok (.lst L) σ:=λσ=>aD a σ;have hc:cl (.tup [(Dj p 1 m s (Uf p 0 s.D) L).D,oo p m s])=true:=by simp[cl,Ze,Kw c,J1]
 unfold oo at hc ⊢;unfold Jc PN;generalize (Dj p 1 m s (Uf p 0 s.D) L).D=A at *;generalize (calm p 1 m G L).D=CD at *;generalize Ni p s=O at *;generalize Uf p 0 s.D=v at *;generalize Uf p 1 s.D=d at *;generalize zj p 1 m.n=z at *;generalize m.D=w at *;generalize s.D=y at *;simp[le,f,g,h,i,k,l,o,e,b,u,t,r,ne,ns,j,q,hc]
theorem KQ(σ:Ya):ig [(calm p 0 m G L).D,.tup [.int s.a,.int s.b],.tup ((tf s.x).map Ti.D)] σ=.ok (.tup [(li p 0 m s G L).D,Ni p s]) σ:=by
 have h0:(0:Int)=0\/(0:Int)=1:=.inl rfl;have c:=To hp h0 m hg hl;have d:=Ex hp h0 m s hg hl;have h:∀ σ,yc [4,5,6,7] "side" (calm p 0 m G L).D σ=.ok (.int 0) σ:=λσ=>ww c σ;have i:∀ σ,yc [4,5,6,7] "pot" (calm p 0 m G L).D σ=.ok (.int p) σ:=λσ=>nv c σ;have j:∀ σ,yc [4,5,6,7] "mine" (calm p 0 m G L).D σ=.ok m.D σ:=λσ=>mB c σ;have k:∀ σ,yc [4,5,6,7] "strikes" (calm p 0 m G L).D σ=.ok (.lst L) σ:=λσ=>aD c σ;have o:∀ σ,yc [4,5,6,7] "grant" (calm p 0 m G L).D σ=.ok G σ:=λσ=>XO c σ;have q:=λσ=>s0 m σ;have g:∀ σ,Mg [m.D] σ=.ok (.int W) σ:=λσ=>by rw[<-hm.w];exact oF _ _ _ hm.st.l σ
 have A:∀ σ,Dd [s.D,.int W] σ=.ok (.bl true) σ:=λσ=>by rw[<-hs.w];exact yJ hs.st σ
 have z:D.tup [.int (m.n+1),.tup [.int s.a,.int s.b],.tup ((tf s.x).map Ti.D)]=s.D:=by rw[<-hn];rfl
 have v:∀ σ,Hi (.int 0) (.int 0) σ=.ok (.bl false) σ:=λσ=>Ms (by simp[pl]);have y:∀ σ,Hi (.str "calm") (.str "calm") σ=.ok (.bl false) σ:=λσ=>Ms (by simp[pl]);have f:∀ x σ,jb [x] σ=.ok (.str "calm") σ:=λx σ=>by unfold jb oA;simp
 have u:∀ fs σ,mm [(5,jb),(6,Bb),(7,Cb)] 1 "word" fs (calm p 0 m G L).D σ=(fs σ).bind (Zj 1 jb (calm p 0 m G L).D):=λfs σ=>ao (bo rfl) rfl rfl;have e:∀ σ,ja [(calm p 0 m G L).D,.int 0,s.D] σ=.ok (Uf p 0 s.D) σ:=λσ=>dB c 0 (xn s) σ;have t:∀ fs σ,mm [(4,ja),(5,ja),(6,ja),(7,ja)] 3 "agree_of" fs (calm p 0 m G L).D σ=(fs σ).bind (Zj 3 ja (calm p 0 m G L).D):=λfs σ=>ao (bo rfl) rfl rfl;have r:∀ σ,Ng σ (pp 6 7 Ui [.int p,.int 0,m.D,G,.lst [m.D,s.D],.lst L] σ)=.ok (li p 0 m s G L).D σ:=λσ=>Zz d σ;have of:D.tup [.str "offer",.int p,Uf p 0 s.D]=Ni p s:=rfl;have hc:cl (.tup [(li p 0 m s G L).D,Ni p s])=true:=by simp[cl,Ze,Kw d,hL]
 unfold ig AK;generalize (li p 0 m s G L).D=H at *;generalize (calm p 0 m G L).D=CD at *;generalize Ni p s=O at *;generalize Uf p 0 s.D=C at *;generalize D.tup [.int s.a,.int s.b]=B at *;generalize D.tup ((tf s.x).map Ti.D)=TT at *;generalize m.D=E at *;generalize s.D=F at *;simp[h,i,j,k,o,q,g,A,z,v,y,f,u,e,t,r,of,hc]
omit hn
include hLk
theorem jS(σ:Ya):lc [(li p 0 m s G L).D,oo p m s] σ=.ok (.tup [(calm p 0 s (Uf p 1 s.D) (L++[.int m.n])).D,ro p m.n]) σ:=by
 have h0:(0:Int)=0\/(0:Int)=1:=.inl rfl;have a:=Ex hp h0 m s hg hl;have b:Ze (L++[.int m.n])=true:=by rw[tE,hl];rfl
 have d:=To hp h0 s (Zr (p:=p) (s:=1) (xn s)) b;have le:=λσ=>nL (m:=m) hp σ hs.st hm.st.n;have h:∀ σ,yc [4,5,6,7] "side" (li p 0 m s G L).D σ=.ok (.int 0) σ:=λσ=>ww a σ;have i:∀ σ,yc [4,5,6,7] "pot" (li p 0 m s G L).D σ=.ok (.int p) σ:=λσ=>nv a σ;have j:∀ σ,yc [4,5,6,7] "mine" (li p 0 m s G L).D σ=.ok m.D σ:=λσ=>mB a σ;have k:∀ σ,yc [4,5,6,7] "strikes" (li p 0 m s G L).D σ=.ok (.lst L) σ:=λσ=>aD a σ;have l:∀ σ,yc [4,5,6,7] "may" (li p 0 m s G L).D σ=.ok (.lst [m.D,s.D]) σ:=λσ=>NC a σ;have g:∀ σ,ja [(li p 0 m s G L).D,.int 1,s.D] σ=.ok (Uf p 1 s.D) σ:=λσ=>dB a 1 (xn s) σ;have u:∀ σ,Ca [(li p 0 m s G L).D,.int 1,m.D] σ=.ok (zj p 1 m.n) σ:=λσ=>RD a 1 m σ;have c:∀ σ,Ca [(li p 0 m s G L).D,.int 0,m.D] σ=.ok (zj p 0 m.n) σ:=λσ=>RD a 0 m σ;have o:=λσ=>s0 m σ;have t:∀ fs σ,mm [(6,ja)] 3 "agree_of" fs (li p 0 m s G L).D σ=(fs σ).bind (Zj 3 ja (li p 0 m s G L).D):=λfs σ=>ao (bo rfl) rfl rfl;have r:∀ fs σ,mm [(6,Ca)] 3 "strike_of" fs (li p 0 m s G L).D σ=(fs σ).bind (Zj 3 Ca (li p 0 m s G L).D):=λfs σ=>ao (bo rfl) rfl rfl;have ne:∀ σ,Hi (oo p m s) (.tup [.str "accept",.int p,Uf p 1 s.D,zj p 1 m.n]) σ=.ok (.bl false) σ:=λσ=>Ms (x:=oo p m s) (O6 p m s);have f:∀ σ,nh (.lst L) (.lst [.int m.n]) σ=.ok (.lst (L++[.int m.n])) σ:=λσ=>nD (by unfold Rh;simp;omega);have q:∀ σ,Ng σ (pp 5 7 Ui [.int p,.int 0,s.D,Uf p 1 s.D,.lst [s.D],.lst (L++[.int m.n])] σ)=.ok (calm p 0 s (Uf p 1 s.D) (L++[.int m.n])).D σ:=λσ=>Zz d σ;have st:D.tup [.str "struck",.int p,zj p 0 m.n]=ro p m.n:=rfl;have hc:cl (.tup [(calm p 0 s (Uf p 1 s.D) (L++[.int m.n])).D,ro p m.n])=true:=by simp[cl,Ze,Kw d,Q6]
 unfold lc fK;generalize (calm p 0 s (Uf p 1 s.D) (L++[.int m.n])).D=C at *;generalize (li p 0 m s G L).D=CD at *;generalize oo p m s=O at *;generalize ro p m.n=z at *;generalize Uf p 1 s.D=v at *;generalize zj p 1 m.n=B at *;generalize zj p 0 m.n=e at *;generalize m.D=y at *;generalize s.D=A at *;generalize L++[.int m.n]=w at *;simp[le,h,i,j,k,l,g,u,c,o,t,r,ne,f,q,st,hc]
omit hs
theorem P0(σ:Ya):jc [(Dj p 1 m s G L).D,ro p m.n] σ=.ok (.tup [(calm p 1 s G (L++[.int m.n])).D,.zb]) σ:=by
 have h1:(1:Int)=0\/(1:Int)=1:=.inr rfl;have a:=cx hp h1 m s hg hl;have b:Ze (L++[.int m.n])=true:=by rw[tE,hl];rfl
 have c:=To hp h1 s hg b;have le:=λσ=>qL hp σ hm.st.n;have e:∀ σ,yc [4,5,6,7] "side" (Dj p 1 m s G L).D σ=.ok (.int 1) σ:=λσ=>ww a σ;have f:∀ σ,yc [4,5,6,7] "pot" (Dj p 1 m s G L).D σ=.ok (.int p) σ:=λσ=>nv a σ;have g:∀ σ,yc [4,5,6,7] "mine" (Dj p 1 m s G L).D σ=.ok s.D σ:=λσ=>mB a σ;have h:∀ σ,yc [4,5,6,7] "strikes" (Dj p 1 m s G L).D σ=.ok (.lst L) σ:=λσ=>aD a σ;have i:∀ σ,yc [4,5,6,7] "may" (Dj p 1 m s G L).D σ=.ok (.lst [m.D,s.D]) σ:=λσ=>NC a σ;have j:∀ σ,yc [4,5,6,7] "grant" (Dj p 1 m s G L).D σ=.ok G σ:=λσ=>XO a σ;have k:=λσ=>s0 m σ;have q:∀ σ,Ca [(Dj p 1 m s G L).D,.int 0,m.D] σ=.ok (zj p 0 m.n) σ:=λσ=>RD a 0 m σ;have o:∀ fs σ,mm [(7,Ca)] 3 "strike_of" fs (Dj p 1 m s G L).D σ=(fs σ).bind (Zj 3 Ca (Dj p 1 m s G L).D):=λfs σ=>ao (bo rfl) rfl rfl;have ne:∀ σ,Hi (ro p m.n) (.tup [.str "struck",.int p,zj p 0 m.n]) σ=.ok (.bl false) σ:=λσ=>Ms (x:=ro p m.n) (SW ..);have d:∀ σ,nh (.lst L) (.lst [.int m.n]) σ=.ok (.lst (L++[.int m.n])) σ:=λσ=>nD (by unfold Rh;simp;omega);have l:∀ σ,Ng σ (pp 5 7 Ui [.int p,.int 1,s.D,G,.lst [s.D],.lst (L++[.int m.n])] σ)=.ok (calm p 1 s G (L++[.int m.n])).D σ:=λσ=>Zz c σ;have hc:cl (.tup [(calm p 1 s G (L++[.int m.n])).D,.zb])=true:=by simp[cl,Ze,Kw c]
 unfold jc BO;generalize (calm p 1 s G (L++[.int m.n])).D=w at *;generalize (Dj p 1 m s G L).D=CD at *;generalize ro p m.n=O at *;generalize zj p 0 m.n=v at *;generalize m.D=t at *;generalize s.D=u at *;generalize L++[.int m.n]=r at *;simp[le,e,f,g,h,i,j,k,q,o,ne,d,l,hc]
end
theorem GX{a b:Ac}(d:a.Ok)(hb:b.Ok)(h:(a.c,b.c)∈[(7,5),(5,7),(5,6)])(σ:Ya):qB [(7,5),(5,7),(5,6)] a.D b.D σ=.ok (.bl false) σ:=by
 unfold qB;rw[Zu d,Zu hb];dsimp only;rw[da h]
theorem G0(σ:Ya):Mz (.gt ["held"]) (.gt ["held"]) σ=.ok (.bl true) σ:=by
 unfold Mz;simp[wn,jj,kd,Dn,Kj]
section
variable{e g:Int}{K:Option Int}{a b:Ac}{Q:Kv}{J:Ya}
theorem VD{p:Int}(hp:p=0\/p=1):kc [.ref 0,.int p] (SA e g K a b Q J)=.ok (.bl true) (SA e g K a b Q J):=by
 have d:=Io e g K (AA a b) Q J;have k:=mv d;have c:=TN d;have h:=wM d hp;have i:Cy (.int p) (.ref 2) (SA e g K a b Q J)=.ok (.bl true) (SA e g K a b Q J):=by rcases hp with rfl|rfl<;>exact nr rfl
 have q:=λf=>G0 f;unfold kc yQ;unfold SA at *;generalize S e g K (AA a b) Q J=Y at *;simp[k,c,h,i,q]
theorem UE:Xk (.ref 2) (.int 0) (SA e g K a b Q J)=.ok a.D (SA e g K a b Q J):=nr rfl
theorem GH:Xk (.ref 2) (.int 1) (SA e g K a b Q J)=.ok b.D (SA e g K a b Q J):=nr rfl
theorem HZ(d:a.Ok):Nc [.ref 0,.int 0] (SA e g K a b Q J)=.ok a.D (SA e g K a b Q J):=by
 have f:=Io e g K (AA a b) Q J;have k:=mv f;have i:Jy (.int 0) (.ref 2) (SA e g K a b Q J)=.ok (.bl false) (SA e g K a b Q J):=nr rfl;have h:=UE (e:=e) (g:=g) (K:=K) (a:=a) (b:=b) (Q:=Q) (J:=J);have c:=Kw d;unfold Nc dO;unfold SA at *;generalize S e g K (AA a b) Q J=Y at *;generalize a.D=A at *;simp[k,i,h,c]
theorem cQ:wc [.ref 0] (SA e g K a b Q J)=.ok (.int g) (SA e g K a b Q J):=by
 have k:=xR (Io e g K (AA a b) Q J);unfold wc rN;unfold SA at *;generalize S e g K (AA a b) Q J=Y at *;simp[k]
theorem S7(x:Ac):uh (AA a b) (.inl 0) x.D=AA x b:=rfl
theorem U5(x:Ac):uh (AA a b) (.inl 1) x.D=AA a x:=rfl
theorem LM(x:Ac)(ρ:Ev):Ar ρ x.D (.ref 2) (.int 0) (SA e g K a b Q J)=.ok (.nx ρ) (SA e g K x b Q J):=by
 rw[Cu (kvs:=AA a b) rfl (by simp)];rfl
theorem B5(x:Ac)(ρ:Ev):Ar ρ x.D (.ref 2) (.int 1) (SA e g K a b Q J)=.ok (.nx ρ) (SA e g K a x Q J):=by
 rw[Cu (kvs:=AA a b) rfl (by simp)];rfl
theorem z6{X:D}{k:Str}(c:∀ σ,Ta X (.int 0) σ=.ok (.str k) σ)(d:∀ σ,Ta X (.int 1) σ=.ok (.int 0) σ):Wb [.ref 0,X] (SA e g K a b [] J)=.ok (.bl false) (SA e g K a b [] J):=by
 have f:=BL (Io e g K (AA a b) [] J);have n:Jy (.int 0) (.ref 5) (SA e g K a b [] J)=.ok (.bl true) (SA e g K a b [] J):=nr rfl;have ns:∀ σ,Hi (.str k) (.str "offer") σ=.ok (.bl (!(k == "offer"))) σ:=λσ=>cA (b:=(k == "offer")) (by simp[jj,kd,Dn,Kj]);unfold Wb ZO;unfold SA at *;generalize S e g K (AA a b) [] J=Y at *;generalize (k == ("offer" : Str))=B at *;cases B<;>simp[c,d,f,n,ns]
variable{x:Ac}(ha:a.Ok)(hb:b.Ok)(hx:x.Ok)(hp:a.p=0)(hr:b.p=1)(hxp:x.p=0)
include ha hb hx hp hr hxp
theorem qP(h:W e K a b<=W e K x b):Fb [.ref 0,x.D,.int 0] (SA e g K a b Q J)=.ok (.bl true) (SA e g K a b Q J):=by
 have:=RJ (e:=e) (g:=g) (K:=K) (Q:=Q) (J:=J) ha hb hp hr hx hb hxp hr hx (by rw[hxp];exact S7 x) 0;rw[show decide (W e K a b - 0<=W e K x b)=true from jd (by omega)]at this;exact this
theorem JI{X R:D}{k:Str}{rb:Bool}{fn:List D->M D}(p:∀ σ,Ta X (.int 0) σ=.ok (.str k) σ)(j:∀ σ,Ta X (.int 1) σ=.ok (.int 0) σ)(r:∀ fs σ,mm [(5,Jc),(6,lc),(7,jc)] 2 "taken" fs a.D σ=(fs σ).bind (Zj 2 fn a.D))(tk:∀ σ,fn [a.D,X] σ=.ok (.tup [x.D,R]) σ)(f:(x.c,a.c)∈[(7,5),(5,7),(5,6)])(t:∀ σ,ms R .zb σ=.ok (.bl rb) σ)(h:W e K a b<=W e K x b):∃ d,Zb [.ref 0,X] (SA e g K a b [] J)=.ok d (SA e g K x b [] J):=by
 have i:=Io e g K (AA a b) [] J;have q:=mv i;have n:=UE (e:=e) (g:=g) (K:=K) (a:=a) (b:=b) (Q:=[]) (J:=J);have l:=λσ=>GX hx ha f σ;have o:=qP (e:=e) (g:=g) (K:=K) (Q:=[]) (J:=J) ha hb hx hp hr hxp h;have hq:=z6 (e:=e) (g:=g) (K:=K) (J:=J) (a:=a) (b:=b) p j;have mg:=λfs=>Uk i (m:="is_good") 3 Fb fs rfl;have s:=λfs=>Uk i (m:="is_as_asked") 2 Wb fs rfl;have sa:=λu=>LM (e:=e) (g:=g) (K:=K) (a:=a) (b:=b) (Q:=[]) (J:=J) x u;refine⟨.lst (if rb then []else [R]),?_⟩;unfold Zb WK KM BJ NM aP rQ yL kM WP VN;unfold SA at *;generalize S e g K (AA x b) [] J=y at *;generalize S e g K (AA a b) [] J=Y at *;generalize x.D=w at *;generalize a.D=v at *;cases rb<;>simp[q,n,j,r,tk,l,o,mg,s,hq,sa,t]
theorem bF{X d:D}{k:Str}{σ':Ya}(f:∀ σ,Dc [X] σ=.ok (.bl true) σ)(i:∀ σ,Ta X (.int 0) σ=.ok (.str k) σ)(j:∀ σ,Ta X (.int 1) σ=.ok (.int 0) σ)(n:(k == ("word" : Str))=false)(l:(k == ("ask" : Str))=false)
  (st:Zb [.ref 0,X] (SA e g K a b Q J)=.ok d σ'):yb [.ref 0,X] (SA e g K a b Q J)=.ok d σ':=by
 have c:=Io e g K (AA a b) Q J;have h:=VD (e:=e) (g:=g) (K:=K) (a:=a) (b:=b) (Q:=Q) (J:=J) (.inl (rfl:(0:Int)=0));have o:=λfs=>Uk c (m:="holds") 2 kc fs rfl;have p:=λfs=>Uk c (m:="take_step") 2 Zb fs rfl;unfold yb jF;unfold SA at *;generalize S e g K (AA a b) Q J=Y at *;simp[f,i,j,n,l,h,o,p,st]
end
section
variable{e g:Int}{K:Option Int}{J:Ya}{b:Ac}(hb:b.Ok)(hr:b.p=1){m s:Sn}{T:Int}(hm:m.Ok T)(hs:s.Ok T)(hn:s.n=m.n+1){G:D}{L:List D}(hg:cl G=true)(hl:Ze L=true)(hLk:L.length<=100)
include hb hr hm hs hn hg hl
theorem D6(h:W e K (calm 0 1 m G L) b<=W e K (Dj 0 1 m s (Uf 0 0 s.D) L) b):∃ d,yb [.ref 0,Ni 0 s] (SA e g K (calm 0 1 m G L) b [] J)=.ok d (SA e g K (Dj 0 1 m s (Uf 0 0 s.D) L) b [] J):=by
 have a:=To (p:=0) (q:=1) (.inl rfl) (.inr rfl) m hg hl;have c:=cx (p:=0) (q:=1) (.inl rfl) (.inr rfl) m s (Zr (p:=0) (s:=0) (xn s)) hl;have f:∀ σ,Ta (Ni 0 s) (.int 0) σ=.ok (.str "offer") σ:=λσ=>by unfold Ni;simp
 have i:∀ σ,Ta (Ni 0 s) (.int 1) σ=.ok (.int 0) σ:=λσ=>by unfold Ni;simp
 obtain⟨d,st⟩:=JI (e:=e) (g:=g) (K:=K) (J:=J) a hb c rfl hr rfl f i (fn:=Jc) (λfs σ=>ao (bo rfl) rfl rfl) (λσ=>pL (.inl rfl) hm hs hn hg hl σ) (by simp[Dj,calm]) (rb:=false) (λσ=>rfl) h;exact⟨d,bF a hb c rfl hr rfl (λσ=>bP (.inl rfl) σ hs.st) f i (by decide) (by decide) st⟩
theorem OU(h:W e K (calm 0 0 m G L) b<=W e K (li 0 0 m s G L) b):∃ d,yb [.ref 0,Nm 0 s] (SA e g K (calm 0 0 m G L) b [] J)=.ok d (SA e g K (li 0 0 m s G L) b [] J):=by
 have n:=To (p:=0) (q:=0) (.inl rfl) (.inl rfl) m hg hl;have r:=Ex (p:=0) (q:=0) (.inl rfl) (.inl rfl) m s hg hl;have c:=Io e g K (AA (calm 0 0 m G L) b) [] J;have t:∀ σ,Ta (Nm 0 s) (.int 0) σ=.ok (.str "ask") σ:=λσ=>by unfold Nm;simp
 have f:∀ σ,Ta (Nm 0 s) (.int 1) σ=.ok (.int 0) σ:=λσ=>by unfold Nm;simp
 have u:∀ σ,Ta (Nm 0 s) (.int 2) σ=.ok (.tup [.int s.a,.int s.b]) σ:=λσ=>by unfold Nm;simp
 have v:∀ σ,Ta (Nm 0 s) (.int 3) σ=.ok (.tup ((tf s.x).map Ti.D)) σ:=λσ=>by unfold Nm;simp
 have w:=mv c;have k:=UE (e:=e) (g:=g) (K:=K) (a:=calm 0 0 m G L) (b:=b) (Q:=[]) (J:=J);have of:=λσ=>KQ (p:=0) (.inl rfl) hm hs hn hg hl σ;have l:=qP (e:=e) (g:=g) (K:=K) (Q:=[]) (J:=J) n hb r rfl hr rfl h;have mg:=λfs=>Uk c (m:="is_good") 3 Fb fs rfl;have sa:=λC=>LM (e:=e) (g:=g) (K:=K) (a:=calm 0 0 m G L) (b:=b) (Q:=[]) (J:=J) (li 0 0 m s G L) C;have B:Ec [.ref 0,Nm 0 s] (SA e g K (calm 0 0 m G L) b [] J)=.ok (.lst [Ni 0 s]) (SA e g K (li 0 0 m s G L) b [] J):=by
  unfold Ec IK DL OK pK YK;unfold SA at *;generalize S e g K (AA (li 0 0 m s G L) b) [] J=j at *;generalize S e g K (AA (calm 0 0 m G L) b) [] J=Y at *;generalize (li 0 0 m s G L).D=I at *;generalize (calm 0 0 m G L).D=F at *;generalize Nm 0 s=i at *;generalize Ni 0 s=H at *;generalize D.tup ((tf s.x).map Ti.D)=TT at *;generalize D.tup [.int s.a,.int s.b]=E at *;simp[w,k,f,u,v,of,l,mg,sa]
 have le:=λσ=>wU (p:=0) (.inl rfl) σ hs.st;have o:=VD (e:=e) (g:=g) (K:=K) (a:=calm 0 0 m G L) (b:=b) (Q:=[]) (J:=J) (.inl (rfl:(0:Int)=0));have z:=λfs=>Uk c (m:="holds") 2 kc fs rfl;have A:=λfs=>Uk c (m:="take_ask") 2 Ec fs rfl;have y:(("ask" : Str) == "word")=false:=by decide
 refine⟨.lst [Ni 0 s],?_⟩;unfold yb jF;unfold SA at *;generalize S e g K (AA (li 0 0 m s G L) b) [] J=j at *;generalize S e g K (AA (calm 0 0 m G L) b) [] J=Y at *;generalize Nm 0 s=i at *;simp[le,t,f,y,o,z,A,B]
omit hn
include hLk
theorem aW(h:W e K (li 0 0 m s G L) b<=W e K (calm 0 0 s (Uf 0 1 s.D) (L++[.int m.n])) b):∃ d,yb [.ref 0,oo 0 m s] (SA e g K (li 0 0 m s G L) b [] J)=.ok d (SA e g K (calm 0 0 s (Uf 0 1 s.D) (L++[.int m.n])) b [] J):=by
 have c:=Ex (p:=0) (q:=0) (.inl rfl) (.inl rfl) m s hg hl;have a:Ze (L++[.int m.n])=true:=by rw[tE,hl];rfl
 have f:=To (p:=0) (q:=0) (.inl rfl) (.inl rfl) s (Zr (p:=0) (s:=1) (xn s)) a;have i:∀ σ,Ta (oo 0 m s) (.int 0) σ=.ok (.str "accept") σ:=λσ=>by unfold oo;simp
 have j:∀ σ,Ta (oo 0 m s) (.int 1) σ=.ok (.int 0) σ:=λσ=>by unfold oo;simp
 obtain⟨d,st⟩:=JI (e:=e) (g:=g) (K:=K) (J:=J) c hb f rfl hr rfl i j (fn:=lc) (λfs σ=>ao (bo rfl) rfl rfl) (λσ=>jS (.inl rfl) hm hs hg hl hLk σ) (by simp[li,calm]) (rb:=false) (λσ=>rfl) h;exact⟨d,bF c hb f rfl hr rfl (λσ=>nL (.inl rfl) σ hs.st hm.st.n) i j (by decide) (by decide) st⟩
omit hs
theorem t1(h:W e K (Dj 0 1 m s G L) b<=W e K (calm 0 1 s G (L++[.int m.n])) b):∃ d,yb [.ref 0,ro 0 m.n] (SA e g K (Dj 0 1 m s G L) b [] J)=.ok d (SA e g K (calm 0 1 s G (L++[.int m.n])) b [] J):=by
 have c:=cx (p:=0) (q:=1) (.inl rfl) (.inr rfl) m s hg hl;have a:Ze (L++[.int m.n])=true:=by rw[tE,hl];rfl
 have f:=To (p:=0) (q:=1) (.inl rfl) (.inr rfl) s hg a;have i:∀ σ,Ta (ro 0 m.n) (.int 0) σ=.ok (.str "struck") σ:=λσ=>by unfold ro;simp
 have j:∀ σ,Ta (ro 0 m.n) (.int 1) σ=.ok (.int 0) σ:=λσ=>by unfold ro;simp
 obtain⟨d,st⟩:=JI (e:=e) (g:=g) (K:=K) (J:=J) c hb f rfl hr rfl i j (fn:=jc) (λfs σ=>ao (bo rfl) rfl rfl) (λσ=>P0 (.inl rfl) hm hg hl hLk σ) (by simp[Dj,calm]) (rb:=true) (λσ=>rfl) h;exact⟨d,bF c hb f rfl hr rfl (λσ=>qL (.inl rfl) σ hm.st.n) i j (by decide) (by decide) st⟩
end
noncomputable def td(m:Sn)(r v w d:Int):Sn:=⟨m.n+1,if r=0 then m.a - v else m.a,if r=0 then m.b else m.b - v,some ⟨r,v,w,d⟩⟩
noncomputable def kj(v w d:Int):D:=.tup [.str "pass",.int 1,.int v,.int w,.int d]
section
variable{m:Sn}{r v w d T:Int}(hr:r=0\/r=1)(hx:m.x=none)(hw:0<=w/\w<=59)(hd:0<=d/\d<=1000000)(hm:m.Ok T)
include hr hx hw hd
theorem JO(σ:Ya):Nf [.tup [.int m.a,.int m.b],.int r,.int (-v)] σ=.ok (.tup [.int (td m r v w d).a,.int (td m r v w d).b]) σ:=by
 unfold Nf YL td;rcases hr with rfl|rfl<;>simp[Int.sub_eq_add_neg]
theorem GL(σ:Ya):nh (.tup ((tf m.x).map Ti.D)) (.tup [(⟨r,v,w,d⟩:Ti).D]) σ=.ok (.tup ((tf (td m r v w d).x).map Ti.D)) σ:=by
 rw[hx];rfl
theorem FX(j:1<=v/\v<=1000000000000)(i:(td m r v w d).Ok T)(σ:Ya):Zg [m.D,.int r,.int v,.int w,.int d] σ=.ok (td m r v w d).D σ:=by
 have s:=λσ=>uF (t:=⟨r,v,w,d⟩) ⟨hr,j,hw,hd⟩ σ;have y:=λσ=>JO (v:=v) hr hx hw hd σ;have u:=λσ=>GL (v:=v) hr hx hw hd σ;have k:=λσ=>s0 m σ;have l:=λσ=>s1 m σ;have o:=λσ=>s2 m σ;have st:∀ σ,ud [(td m r v w d).D] σ=.ok (.bl true) σ:=λσ=>yz i.st σ;have hc:=xn (td m r v w d);have q:D.tup [.int r,.int v,.int w,.int d]=(⟨r,v,w,d⟩:Ti).D:=rfl;have e:D.tup [.int (m.n+1),.tup [.int (td m r v w d).a,.int (td m r v w d).b],.tup ((tf (td m r v w d).x).map Ti.D)]=(td m r v w d).D:=rfl;have p:∀ σ,ms (.tup ((tf (td m r v w d).x).map Ti.D)) .zb σ=.ok (.bl false) σ:=λσ=>rfl;have fs:∀ σ,Yf [.int (m.n+1),.tup [.int (td m r v w d).a,.int (td m r v w d).b],.tup ((tf (td m r v w d).x).map Ti.D)] σ=.ok (td m r v w d).D σ:=λσ=>by
  unfold Yf vE;generalize D.tup ((tf (td m r v w d).x).map Ti.D)=TT at *;generalize (td m r v w d).D=f at *;generalize D.tup [.int (td m r v w d).a,.int (td m r v w d).b]=c at *;simp[e,st,hc,p]
 have h:∀ σ,Ee [m.D,.tup [.int (td m r v w d).a,.int (td m r v w d).b],.tup ((tf (td m r v w d).x).map Ti.D)] σ=.ok (td m r v w d).D σ:=λσ=>by
  unfold Ee NF;generalize D.tup ((tf (td m r v w d).x).map Ti.D)=TT at *;generalize D.tup [.int (td m r v w d).a,.int (td m r v w d).b]=c at *;generalize (td m r v w d).D=f at *;generalize m.D=g at *;simp[k,fs,hc]
 unfold Zg MD;generalize (⟨r,v,w,d⟩:Ti).D=B at *;generalize D.tup ((tf (td m r v w d).x).map Ti.D)=TT at *;generalize D.tup ((tf m.x).map Ti.D)=A at *;generalize D.tup [.int (td m r v w d).a,.int (td m r v w d).b]=c at *;generalize D.tup [.int m.a,.int m.b]=z at *;generalize (td m r v w d).D=f at *;generalize m.D=g at *;simp[q,s,l,o,y,u,h,hc]
include hm
theorem YV(j:1<=v)(i:ow r m<v)(hn:m.n<=99)(σ:Ya):Zg [m.D,.int r,.int v,.int w,.int d] σ=.ex ⟨1⟩ σ:=by
 have k:D.tup [.int r,.int v,.int w,.int d]=(⟨r,v,w,d⟩:Ti).D:=rfl;by_cases h:v<=1000000000000
 ·have c:=λσ=>uF (t:=⟨r,v,w,d⟩) ⟨hr,⟨j,h⟩,hw,hd⟩ σ;have B:=λσ=>JO (v:=v) hr hx hw hd σ;have A:=λσ=>GL (v:=v) hr hx hw hd σ;have q:=λσ=>s0 m σ;have s:=λσ=>s1 m σ;have u:=λσ=>s2 m σ;have st:∀ σ,ud [(td m r v w d).D] σ=.ok (.bl false) σ:=λσ=>by
   have b:=xK (n:=m.n+1) (a:=(td m r v w d).a) (b:=(td m r v w d).b) (ts:=[⟨r,v,w,d⟩]) (by have:=hm.st.n;omega) (λt p=>by
    have:t=⟨r,v,w,d⟩:=by simpa using p
    rw[this];exact⟨hr,⟨j,h⟩,hw,hd⟩) (by simp) σ
   have z:(bd (.int (td m r v w d).a) 0 2000000000000 && bd (.int (td m r v w d).b) 0 2000000000000)=false:=by
    rcases hr with rfl|rfl
    ·simp[ow]at i;simp[td,bd];omega
    ·simp[ow]at i;simp[td,bd];omega
   rw[z]at b;exact b
  have e:D.tup [.int (m.n+1),.tup [.int (td m r v w d).a,.int (td m r v w d).b],.tup ((tf (td m r v w d).x).map Ti.D)]=(td m r v w d).D:=rfl;have y:∀ σ,ms (.tup ((tf (td m r v w d).x).map Ti.D)) .zb σ=.ok (.bl false) σ:=λσ=>rfl;have fs:∀ σ,Yf [.int (m.n+1),.tup [.int (td m r v w d).a,.int (td m r v w d).b],.tup ((tf (td m r v w d).x).map Ti.D)] σ=.ex ⟨1⟩ σ:=λσ=>by
   unfold Yf vE;generalize D.tup ((tf (td m r v w d).x).map Ti.D)=TT at *;generalize (td m r v w d).D=C at *;generalize D.tup [.int (td m r v w d).a,.int (td m r v w d).b]=f at *;simp[e,st,y]
  have o:∀ σ,Ee [m.D,.tup [.int (td m r v w d).a,.int (td m r v w d).b],.tup ((tf (td m r v w d).x).map Ti.D)] σ=.ex ⟨1⟩ σ:=λσ=>by
   unfold Ee NF;generalize D.tup ((tf (td m r v w d).x).map Ti.D)=TT at *;generalize D.tup [.int (td m r v w d).a,.int (td m r v w d).b]=f at *;generalize m.D=g at *;simp[q,fs]
  unfold Zg MD;generalize (⟨r,v,w,d⟩:Ti).D=l at *;generalize D.tup ((tf (td m r v w d).x).map Ti.D)=TT at *;generalize D.tup ((tf m.x).map Ti.D)=F at *;generalize D.tup [.int (td m r v w d).a,.int (td m r v w d).b]=f at *;generalize D.tup [.int m.a,.int m.b]=E at *;generalize m.D=g at *;simp[k,c,s,u,B,A,o]
 ·have c:∀ σ,xf [(⟨r,v,w,d⟩:Ti).D] σ=.ok (.bl false) σ:=λσ=>by
   rw[bK (t:=⟨r,v,w,d⟩) hr hw hd];simp[bd,h]
  unfold Zg MD;generalize (⟨r,v,w,d⟩:Ti).D=l at *;generalize m.D=g at *;simp[k,c]
end
section
variable{r:Int}(hr:r=0\/r=1){m:Sn}{G:D}{L:List D}(hg:cl G=true)(hl:Ze L=true)(v w d:Int)
include hr hg hl
theorem tN(K:D)(σ:Ya):(∀ X,cl X=true->(∀ σ,Zg [m.D,.int r,.int v,.int w,.int d] σ=.ok X σ)->Rc [(calm 1 r m G L).D,kj v w d,K] σ=.ok X σ)/\((∀ σ,Zg [m.D,.int r,.int v,.int w,.int d] σ=.ex ⟨1⟩ σ)->Rc [(calm 1 r m G L).D,kj v w d,K] σ=.ex ⟨1⟩ σ):=by
 have f:=To (p:=1) (.inr rfl) hr m hg hl;have c:∀ σ,yc [4,5,6,7] "side" (calm 1 r m G L).D σ=.ok (.int r) σ:=λσ=>ww f σ;have e:∀ σ,yc [4,5,6,7] "mine" (calm 1 r m G L).D σ=.ok m.D σ:=λσ=>mB f σ;have g:∀ σ,Ta (kj v w d) (.int 0) σ=.ok (.str "pass") σ:=λσ=>by unfold kj;simp
 have h:∀ σ,Ta (kj v w d) (.int 2) σ=.ok (.int v) σ:=λσ=>by unfold kj;simp
 have i:∀ σ,Ta (kj v w d) (.int 3) σ=.ok (.int w) σ:=λσ=>by unfold kj;simp
 have j:∀ σ,Ta (kj v w d) (.int 4) σ=.ok (.int d) σ:=λσ=>by unfold kj;exact KJ ..
 have b1:(("pass" : Str) == "give")=false:=by decide
 have b:(("pass" : Str) == "pay")=false:=by decide
 unfold Rc sO;generalize (calm 1 r m G L).D=CD at *;generalize m.D=k at *;generalize kj v w d=l at *;exact⟨λX hc a=>by simp[c,e,g,h,i,j,b1,b,a,hc],λa=>by simp[c,e,g,h,i,j,b1,b,a]⟩
variable{s:Sn}{T:Int}(hm:m.Ok T)(hs:s.Ok T)(hn:s.n=m.n+1)
include hm hs hn
noncomputable def xa(r:Int)(m s:Sn)(G:D)(L:List D):Ac:=if r=0 then li 1 0 m s G L else Dj 1 1 m s (Uf 1 0 s.D) L
noncomputable def lt(r:Int)(s:Sn):D:=if r=0 then Ni 1 s else Nm 1 s
theorem E1(σ:Ya):jg [(calm 1 r m G L).D,s.D] σ=.ok (.tup [(xa r m s G L).D,lt r s]) σ:=by
 have c:=To (p:=1) (.inr rfl) hr m hg hl;have d:∀ σ,yc [4,5,6,7] "side" (calm 1 r m G L).D σ=.ok (.int r) σ:=λσ=>ww c σ;have n:∀ σ,yc [4,5,6,7] "pot" (calm 1 r m G L).D σ=.ok (.int 1) σ:=λσ=>nv c σ;have e:=λσ=>s1 s σ;have f:=λσ=>s2 s σ;rcases hr with rfl|rfl
 ·have of:=λσ=>KQ (p:=1) (.inr rfl) hm hs hn hg hl σ;have hc:cl (.tup [(li 1 0 m s G L).D,Ni 1 s])=true:=by simp[cl,Ze,Kw (Ex (p:=1) (q:=0) (.inr rfl) (.inl rfl) m s hg hl),hL]
  show _=Out.ok (D.tup [(li 1 0 m s G L).D,Ni 1 s]) σ;unfold jg VF;generalize (li 1 0 m s G L).D=j at *;generalize (calm 1 0 m G L).D=CD at *;generalize Ni 1 s=h at *;generalize D.tup ((tf s.x).map Ti.D)=TT at *;generalize D.tup [.int s.a,.int s.b]=g at *;generalize s.D=i at *;simp[d,e,f,of,hc]
 ·have u:=λσ=>pL (p:=1) (.inr rfl) hm hs hn hg hl σ;have k:∀ σ,ja [(calm 1 1 m G L).D,.int 0,s.D] σ=.ok (Uf 1 0 s.D) σ:=λσ=>dB c 0 (xn s) σ;have t:∀ fs σ,mm [(4,ja),(5,ja),(6,ja),(7,ja)] 3 "agree_of" fs (calm 1 1 m G L).D σ=(fs σ).bind (Zj 3 ja (calm 1 1 m G L).D):=λfs σ=>ao (bo rfl) rfl rfl;have o:∀ fs σ,mm [(5,Jc),(6,lc),(7,jc)] 2 "taken" fs (calm 1 1 m G L).D σ=(fs σ).bind (Zj 2 Jc (calm 1 1 m G L).D):=λfs σ=>ao (bo rfl) rfl rfl;have of:D.tup [.str "offer",.int 1,Uf 1 0 s.D]=Ni 1 s:=rfl;have l:D.tup [.str "ask",.int 1,.tup [.int s.a,.int s.b],.tup ((tf s.x).map Ti.D)]=Nm 1 s:=rfl;have hc:cl (.tup [(Dj 1 1 m s (Uf 1 0 s.D) L).D,Nm 1 s])=true:=by simp[cl,Ze,Kw (cx (p:=1) (q:=1) (.inr rfl) (.inr rfl) m s (Zr (p:=1) (s:=0) (xn s)) hl),eY]
  show _=Out.ok (D.tup [(Dj 1 1 m s (Uf 1 0 s.D) L).D,Nm 1 s]) σ;unfold jg VF;generalize (Dj 1 1 m s (Uf 1 0 s.D) L).D=j at *;generalize (calm 1 1 m G L).D=CD at *;generalize oo 1 m s=v at *;generalize Uf 1 0 s.D=w at *;generalize Ni 1 s=h at *;generalize Nm 1 s=y at *;generalize D.tup ((tf s.x).map Ti.D)=TT at *;generalize D.tup [.int s.a,.int s.b]=g at *;generalize s.D=i at *;simp[d,n,e,f,u,k,t,o,of,l,hc]
omit hm hs hn
theorem SH:(xa r m s G L).Ok/\(xa r m s G L).p=1/\(xa r m s G L).q=r/\(xa r m s G L).y=[m,s]:=by
 rcases hr with rfl|rfl
 ·exact⟨Ex (p:=1) (q:=0) (.inr rfl) (.inl rfl) m s hg hl,rfl,rfl,rfl⟩
 ·exact⟨cx (p:=1) (q:=1) (.inr rfl) (.inr rfl) m s (Zr (p:=1) (s:=0) (xn s)) hl,rfl,rfl,rfl⟩
end
@[simp] theorem ztg(cs:List Nat)(f:Str)(b a:Ev->M D)(ρ:Ev)(σ:Ya):fF cs f b a ρ σ=yl ρ (Iz ρ cs f b) (a ρ σ):=jp ..
section
variable{e:Int}{K:Option Int}{J:Ya}{a:Ac}(ha:a.Ok)(hp:a.p=0){r:Int}(hr:r=0\/r=1){m:Sn}{G:D}{L:List D}(hg:cl G=true)(hl:Ze L=true){v w d T:Int}(hm:m.Ok T)
include ha hp hr hg hl
theorem Fy(σ:Ya):Ta (kj v w d) (.int 0) σ=.ok (.str "pass") σ/\Ta (kj v w d) (.int 1) σ=.ok (.int 1) σ:=⟨by unfold kj;simp,by unfold kj;simp⟩
theorem vV{o:Out D}(h:Jb [.ref 0,(td m r v w d).D,kj v w d] (SA e 0 K a (calm 1 r m G L) [] J)=o)(n:∀ K σ,Rc [(calm 1 r m G L).D,kj v w d,K] σ=.ok (td m r v w d).D σ)(l:Hu (yl [some (.ref 0),some (kj v w d),some (calm 1 r m G L).D,some (td m r v w d).D] NB o)=o):Gc [.ref 0,kj v w d] (SA e 0 K a (calm 1 r m G L) [] J)=o:=by
 have hb:=To (p:=1) (.inr rfl) hr m hg hl;have c:=Io e 0 K (AA a (calm 1 r m G L)) [] J;have f:=VD (e:=e) (g:=0) (K:=K) (a:=a) (b:=calm 1 r m G L) (Q:=[]) (J:=J) (.inr (rfl:(1:Int)=1));have u:=λfs=>Uk c (m:="holds") 2 kc fs rfl;have y:=λfs=>Uk c (m:="wish_for") 3 Jb fs rfl;have q:=mv c;have s:=oH c;have k:=GH (e:=e) (g:=0) (K:=K) (a:=a) (b:=calm 1 r m G L) (Q:=[]) (J:=J);have A:=λσ=>(Fy (v:=v) (w:=w) (d:=d) ha hp hr hg hl σ).1;have B:=λσ=>(Fy (v:=v) (w:=w) (d:=d) ha hp hr hg hl σ).2;have i:(("pass" : Str) == "finish")=false:=by decide
 have z:∀ σ,Hi (.str "calm") (.str "calm") σ=.ok (.bl false) σ:=λσ=>Ms (by simp[pl]);have j:∀ x σ,jb [x] σ=.ok (.str "calm") σ:=λx σ=>by unfold jb oA;simp
 have t:∀ fs σ,mm [(5,jb),(6,Bb),(7,Cb)] 1 "word" fs (calm 1 r m G L).D σ=(fs σ).bind (Zj 1 jb (calm 1 r m G L).D):=λfs σ=>ao (bo rfl) rfl rfl;unfold Gc eI KF mG vG uG XI;unfold SA at *;generalize S e 0 K (AA a (calm 1 r m G L)) [] J=Y at *;generalize (calm 1 r m G L).D=CD at *;generalize (td m r v w d).D=C at *;generalize kj v w d=E at *;simp[f,u,y,q,s,k,A,B,i,z,j,t,n,h,l]
theorem B7(l:∀ K σ,Rc [(calm 1 r m G L).D,kj v w d,K] σ=.ex ⟨1⟩ σ):Gc [.ref 0,kj v w d] (SA e 0 K a (calm 1 r m G L) [] J)=.ok (.tup [.bl false,.lst []]) (SA e 0 K a (calm 1 r m G L) [] J):=by
 have hb:=To (p:=1) (.inr rfl) hr m hg hl;have f:=Io e 0 K (AA a (calm 1 r m G L)) [] J;have c:=VD (e:=e) (g:=0) (K:=K) (a:=a) (b:=calm 1 r m G L) (Q:=[]) (J:=J) (.inr (rfl:(1:Int)=1));have s:=λfs=>Uk f (m:="holds") 2 kc fs rfl;have n:=mv f;have o:=oH f;have k:=GH (e:=e) (g:=0) (K:=K) (a:=a) (b:=calm 1 r m G L) (Q:=[]) (J:=J);have u:=λσ=>(Fy (v:=v) (w:=w) (d:=d) ha hp hr hg hl σ).1;have y:=λσ=>(Fy (v:=v) (w:=w) (d:=d) ha hp hr hg hl σ).2;have i:(("pass" : Str) == "finish")=false:=by decide
 have t:∀ σ,Hi (.str "calm") (.str "calm") σ=.ok (.bl false) σ:=λσ=>Ms (by simp[pl]);have j:∀ x σ,jb [x] σ=.ok (.str "calm") σ:=λx σ=>by unfold jb oA;simp
 have q:∀ fs σ,mm [(5,jb),(6,Bb),(7,Cb)] 1 "word" fs (calm 1 r m G L).D σ=(fs σ).bind (Zj 1 jb (calm 1 r m G L).D):=λfs σ=>ao (bo rfl) rfl rfl;have hd:∀ (g:Ev->M Fl) (h:Ev) (σ:Ya),Jv h ⟨1⟩ [⟨rE [(1,true)],none,g⟩] σ=hit ⟨rE [(1,true)],none,g⟩ h ⟨1⟩ σ:=λg h σ=>G3 rfl;unfold Gc eI KF mG vG uG XI;unfold SA at *;generalize S e 0 K (AA a (calm 1 r m G L)) [] J=Y at *;generalize (calm 1 r m G L).D=CD at *;generalize kj v w d=z at *;simp[c,s,n,o,k,u,y,i,t,j,q,l,hd]
include hm
variable{s:Sn}(hs:s.Ok T)(hn:s.n=m.n+1)
include hs hn
theorem Q2:∃ d' Q f N,Jb [.ref 0,s.D,kj v w d] (SA e 0 K a (calm 1 r m G L) [] J)=.ok d' (SA e 0 K a f Q J)/\d'=.tup [.bl (decide (W e K a (calm 1 r m G L)<=W e K a (xa r m s G L))),.lst N]/\f.Ok/\f.p=1/\(f=calm 1 r m G L\/(f=xa r m s G L/\W e K a (calm 1 r m G L)<=W e K a (xa r m s G L)))/\N.length=if W e K a (calm 1 r m G L)<=W e K a (xa r m s G L)then 1 else 0:=by
 have hb:=To (p:=1) (.inr rfl) hr m hg hl;obtain⟨z,A,x3,x4⟩:=SH (m:=m) (s:=s) hr hg hl;have u:=Io e 0 K (AA a (calm 1 r m G L)) [] J;have q:=mv u;have kq:=BL u;have o:=GH (e:=e) (g:=0) (K:=K) (a:=a) (b:=calm 1 r m G L) (Q:=[]) (J:=J);have n:∀ σ,yc [4,5,6,7] "side" (calm 1 r m G L).D σ=.ok (.int r) σ:=λσ=>ww hb σ;have j:=λσ=>(Fy (v:=v) (w:=w) (d:=d) ha hp hr hg hl σ).1;have y:=λσ=>(Fy (v:=v) (w:=w) (d:=d) ha hp hr hg hl σ).2;have R:(("pass" : Str) == "settle")=false:=by decide
 have l:∀ σ,we [kj v w d] σ=.ok (.int 0) σ:=λσ=>by
  have Z:(("pass" : Str) == "give")=false:=by decide
  have b3:(("pass" : Str) == "pay")=false:=by decide
  unfold we DJ;generalize kj v w d=k at *;simp[j,Z,b3]
 have st:=λσ=>E1 hr hg hl hm hs hn σ;have c:=RJ (e:=e) (g:=0) (K:=K) (Q:=[]) (J:=J) ha hb hp rfl ha z hp A z (by rw[A];exact U5 _) 0;rw[Int.sub_zero]at c;have mg:=λfs=>Uk u (m:="is_good") 3 Fb fs rfl;by_cases h:W e K a (calm 1 r m G L)<=W e K a (xa r m s G L)
 ·rw[jd h]at c ⊢;rw[da h];rcases hr with rfl|rfl
  ·have sb:=λi=>B5 (e:=e) (g:=0) (K:=K) (a:=a) (b:=calm 1 0 m G L) (Q:=[]) (J:=J) (xa 0 m s G L) i;have v2:=Io e 0 K (AA a (xa 0 m s G L)) [] J;have V:∀ (B C E F H I:Option D),Iz [B,C,E,F,H,some (.int 0),I] [9] "gave" (ia 5) (.ref 0) (SA e 0 K a (xa 0 m s G L) [] J)=.ok (.nx [B,C,E,F,H,some (.int 0),I]) (SA e 0 K a (xa 0 m s G L) [] J):=λB C E F H I=>by
    have hi:=Ou v2;unfold Iz;rw[hi];rfl
   refine⟨_,[],xa 0 m s G L,[lt 0 s],?_,rfl,z,A,.inr ⟨rfl,h⟩,rfl⟩;unfold Jb ED QD pC PB LB fC bC dE dC;unfold SA at *;generalize S e 0 K (AA a (xa 0 m s G L)) [] J=U at *;generalize S e 0 K (AA a (calm 1 0 m G L)) [] J=Y at *;generalize (calm 1 0 m G L).D=CD at *;generalize (xa 0 m s G L).D=P at *;generalize kj v w d=k at *;generalize lt 0 s=M at *;generalize s.D=O at *;simp[q,o,n,j,y,R,l,st,c,mg,sb,V]
  ·have j1:=λσ=>s1 s σ;have j2:=λσ=>s2 s σ;have t:∀ (X:D) i,Ar i X (.ref 5) (.int 1) (SA e 0 K a (calm 1 1 m G L) [] J)=.ok (.nx i) (SA e 0 K a (calm 1 1 m G L) [(.inl 1,X)] J):=λX i=>by
    rw[Cu (kvs:=[]) rfl (by simp)];rfl
   have t:=t (.tup [.int 0,.tup [.int s.a,.int s.b],.tup ((tf s.x).map Ti.D)]);refine⟨_,[(.inl 1,.tup [.int 0,.tup [.int s.a,.int s.b],.tup ((tf s.x).map Ti.D)])],calm 1 1 m G L,[lt 1 s],?_,rfl,hb,rfl,.inl rfl,rfl⟩;unfold Jb ED QD pC PB LB fC bC dE dC;unfold SA at *;generalize D.tup ((tf s.x).map Ti.D)=TT at *;generalize D.tup [.int s.a,.int s.b]=T at *;generalize S e 0 K (AA a (calm 1 1 m G L)) [(.inl 1,.tup [.int 0,T,TT])] J=U at *;generalize S e 0 K (AA a (calm 1 1 m G L)) [] J=Y at *;generalize (calm 1 1 m G L).D=CD at *;generalize (xa 1 m s G L).D=P at *;generalize kj v w d=k at *;generalize lt 1 s=M at *;generalize s.D=O at *;simp[q,kq,o,n,j,y,R,l,st,c,mg,j1,j2,t]
 ·rw[xb h]at c ⊢;rw[ga h];refine⟨_,[],calm 1 r m G L,[],?_,rfl,hb,rfl,.inl rfl,rfl⟩;unfold Jb ED QD pC PB LB fC bC dE dC;unfold SA at *;generalize S e 0 K (AA a (calm 1 r m G L)) [] J=Y at *;generalize (calm 1 r m G L).D=CD at *;generalize (xa r m s G L).D=P at *;generalize kj v w d=k at *;generalize lt r s=M at *;generalize s.D=O at *;simp[q,o,n,j,y,l,st,c,mg]
end
theorem zQ:∀ {xs:List Int},(∀ x∈xs,0<=x)->0<=xs.sum
 |[],_=>by simp
 |x::xs,h=>by
  have h1:=h x Pa;have a:=zQ λy hy=>h y (Da _ hy);rw[List.sum_cons];omega
theorem W2(ls:List Lo)(e:Int){x:Option Int}(h:x∈none::Mn ls):Rj ls (mf ls e) e<=Rj ls x e:=mC (λx=>Rj ls x e) (Mn ls) none x h
theorem UT{ls:List Lo}(h:∀ l∈ls,0<=l.v)(F:Option Int)(e:Int):0<=Rj ls F e:=zQ λx b=>by
 obtain⟨l,a,rfl⟩:=Cc.mp b;exact h l (Ii.mp a).1
theorem lz{ls:List Lo}(h:∀ l∈ls,0<=l.v)(e:Int){x:Option Int}(a:x∈none::Mn ls)(b:Rj ls x e=0):Rj ls (mf ls e) e=0:=by
 have:=W2 ls e a;have:=UT h (mf ls e) e;omega
theorem nC{l:Lo}(h:0<=l.v)(e:Int):Rj [l] (mf [l] e) e=0:=by
 have c:∀ k∈[l],0<=k.v:=λk b=>by simp at b;rw[b];exact h
 by_cases a:Wp l=true
 ·exact lz c e (x:=some l.d) (by simp[Mn,a]) (by simp[Rj,cm,a])
 ·exact lz c e (x:=none) (by simp) (by simp[Rj,cm,a])
section
variable{l m:Lo}(h:0<=l.v)(h2:0<=m.v)(e:Int)(ho:Wp l=false)
include h h2 ho
theorem XR(hn:¬ (Wp m=true/\(l.k == "hangs")=true/\m.d - 1+e<l.d)):Rj [l,m] (mf [l,m] e) e=0:=by
 have b:∀ k∈[l,m],0<=k.v:=λk a=>by
  have a:k=l\/k=m:=by simpa using a
  rcases a with rfl|rfl
  ·exact h
  ·exact h2
 by_cases hm:Wp m=true
 ·refine lz b e (x:=some m.d) (by simp[Mn,ho,hm]) ?_;have c:cm (some m.d) e l=false:=by
   simp only[cm,ho,rh,ui];cases a:(l.k == ("hangs" : Str))
   ·rfl
   ·rw[xb λz=>hn ⟨hm,a,z⟩];rfl
  have f:cm (some m.d) e m=false:=by simp[cm,hm]
  simp[Rj,c,f]
 ·have hm:Wp m=false:=by simpa using hm
  refine lz b e (x:=none) (by simp) ?_;simp[Rj,cm,ho,hm]
theorem aT(hm:Wp m=true)(h:(l.k == "hangs")=true)(hd:m.d - 1+e<l.d):Rj [l,m] (mf [l,m] e) e=if l.v<m.v then l.v else m.v:=by
 have a:cm (some m.d) e l=true:=by simp only[cm,ho,rh,ui,h,jd hd];rfl
 have b:cm (some m.d) e m=false:=by simp[cm,hm]
 have c:cm none e l=false:=by simp[cm,ho]
 have g:cm none e m=true:=by simp[cm,hm]
 have s1:Rj [l,m] (some m.d) e=l.v:=by simp[Rj,a,b]
 have s2:Rj [l,m] none e=m.v:=by simp[Rj,c,g]
 have f:Mn [l,m]=[some m.d]:=by simp[Mn,ho,hm]
 unfold mf;rw[f,gq];simp only[s1,s2];by_cases z:l.v<m.v
 ·rw[da z,da z];exact s1
 ·rw[ga z,ga z];exact s2
end
noncomputable def put(c:Sn)(q a w d:Int):Sn:=⟨c.n+1,if q=0 then c.a else c.a - a,if q=0 then c.b - a else c.b,some ⟨1 - q,a,w,d⟩⟩
structure Hy(e:Int)(K:Option Int)(q r a w d v z y:Int)(c:Sn):Prop where
 e:1<=e
 q:q=0\/q=1
 r:r=0\/r=1
 x:c.x=none
 a:1<=a
 v:1<=v
 K:K=none\/K=some w
 d:0<=d
 y:0<=y
section
variable{e:Int}{K:Option Int}{q r a w d v z y:Int}{c:Sn}(H:Hy e K q r a w d v z y c)
include H
noncomputable abbrev su(e:Int)(K:Option Int)(a w d:Int):Int:=if 0<d/\K=some w/\e<d then a else 0
theorem oE(q:Int):rd e K q c=⟨ow q c,none⟩:=by unfold rd;simp[H.x]
theorem IF:lk e K q ⟨1 - q,a,w,d⟩=(if d<=0 then ("gone" : Str)else if K=some w/\e<d then ("sure" : Str)else ("hangs" : Str)):=by
 unfold lk;rw[ga (by have:=H.q;dsimp only;omega)]
theorem KN:lk e K r ⟨r,v,z,y⟩=(if y<=0 then ("back" : Str)else ("open" : Str)):=by
 unfold lk;rw[da rfl]
theorem DO:rd e K q (put c q a w d)=⟨ow q c+su e K a w d,some ⟨w,lk e K q ⟨1 - q,a,w,d⟩,a,d⟩⟩:=by
 have f:(if Jw (lk e K q ⟨1 - q,a,w,d⟩)=true then ow q (put c q a w d)+a else ow q (put c q a w d))=ow q c+su e K a w d:=by
  have g:ow q (put c q a w d)=ow q c:=by unfold ow put;rcases H.q with rfl|rfl<;>simp
  rw[g,IF H];unfold su;by_cases h1:d<=0
  ·rw[da h1,ga (by decide),ga (by omega)];omega
  ·rw[ga h1];by_cases b:K=some w/\e<d
   ·rw[da b,da (by decide),da ⟨by omega,b⟩]
   ·rw[ga b,ga (by decide),ga λk=>b k.2];omega
 unfold rd;show Rd.mk (if Jw (lk e K q ⟨1 - q,a,w,d⟩)=true then ow q (put c q a w d)+a else ow q (put c q a w d)) _=_;rw[f];rfl
theorem LL:rd e K r (td c r v z y)=⟨if y<=0 then ow r c else ow r c - v,some ⟨z,lk e K r ⟨r,v,z,y⟩,v,y⟩⟩:=by
 have a:(if Jw (lk e K r ⟨r,v,z,y⟩)=true then ow r (td c r v z y)+v else ow r (td c r v z y))=if y<=0 then ow r c else ow r c - v:=by
  have b:ow r (td c r v z y)=ow r c - v:=by unfold ow td;rcases H.r with rfl|rfl<;>simp
  rw[b,KN H];by_cases h1:y<=0
  ·rw[da h1,da (by decide),da h1];omega
  ·rw[ga h1,ga (by decide),ga h1]
 unfold rd;show Rd.mk (if Jw (lk e K r ⟨r,v,z,y⟩)=true then ow r (td c r v z y)+v else ow r (td c r v z y)) _=_;rw[a];rfl
theorem Wz:val e (rd e K q c) (rd e K r c)=ow q c+ow r c:=by
 rw[oE H,oE H];exact yB _
theorem Qz:val e (rd e K q (put c q a w d)) (rd e K r c)=ow q c+su e K a w d+ow r c:=by
 rw[oE H,DO H];have:=nC (l:=⟨w,lk e K q ⟨1 - q,a,w,d⟩,a,d⟩) (by have:=H.a;dsimp only;omega) e;unfold val;simp[Jo,gs,this]
theorem yK:val e (rd e K q c) (rd e K r (td c r v z y))=ow q c+if y<=0 then ow r c else ow r c - v:=by
 rw[oE H,LL H];have:=nC (l:=⟨z,lk e K r ⟨r,v,z,y⟩,v,y⟩) (by have:=H.v;dsimp only;omega) e;unfold val;simp[Jo,gs,this]
theorem yF:val e (rd e K q (put c q a w d)) (rd e K r (td c r v z y))=ow q c+su e K a w d+(if y<=0 then ow r c else ow r c - v)+if w=z/\K=none/\0<y/\y - 1+e<d then (if a<v then a else v)else 0:=by
 have h1:=H.a;have x:=H.v;have A:=H.e;rw[DO H,LL H];have b:Wp ⟨w,lk e K q ⟨1 - q,a,w,d⟩,a,d⟩=false:=by
  unfold Wp;dsimp only;rw[IF H]
  repeat' split
  all_goals decide
 have s:Wp ⟨z,lk e K r ⟨r,v,z,y⟩,v,y⟩=true ↔ 0<y:=by
  unfold Wp;dsimp only;rw[KN H];by_cases h:y<=0
  ·rw[da h];constructor
   ·intro k;exact absurd k (by decide)
   ·intro k;omega
  ·rw[ga h];constructor
   ·intro _;omega
   ·intro _;decide
 have o:(lk e K q ⟨1 - q,a,w,d⟩ == "hangs")=true ↔ 0<d/\¬ (K=some w/\e<d):=by
  rw[IF H];by_cases h:d<=0
  ·rw[da h];constructor
   ·intro k;exact absurd k (by decide)
   ·intro k;omega
  ·rw[ga h];by_cases h3:K=some w/\e<d
   ·rw[da h3];constructor
    ·intro k;exact absurd k (by decide)
    ·intro k;exact absurd h3 k.2
   ·rw[ga h3];constructor
    ·intro _;exact⟨by omega,h3⟩
    ·intro _;decide
 unfold val;by_cases f:w=z
 ·have g:Jo (some ⟨w,lk e K q ⟨1 - q,a,w,d⟩,a,d⟩) (some ⟨z,lk e K r ⟨r,v,z,y⟩,v,y⟩)=[(w,[⟨w,lk e K q ⟨1 - q,a,w,d⟩,a,d⟩,⟨z,lk e K r ⟨r,v,z,y⟩,v,y⟩])]:=da f;rw[g];by_cases hc:K=none/\0<y/\y - 1+e<d
  ·have:=aT (l:=⟨w,lk e K q ⟨1 - q,a,w,d⟩,a,d⟩) (m:=⟨z,lk e K r ⟨r,v,z,y⟩,v,y⟩) (by dsimp only;omega) (by dsimp only;omega) e b (s.mpr hc.2.1) (o.mpr ⟨by omega,λk=>by rw[hc.1]at k;cases k.1⟩) hc.2.2;rw[da (c:=w=z/\K=none/\0<y/\y - 1+e<d) ⟨f,hc⟩];simp[gs,this]
  ·have:=XR (l:=⟨w,lk e K q ⟨1 - q,a,w,d⟩,a,d⟩) (m:=⟨z,lk e K r ⟨r,v,z,y⟩,v,y⟩) (by dsimp only;omega) (by dsimp only;omega) e b (λk=>hc (by
    obtain⟨j,n,p⟩:=k;have j:=s.mp j;have n:=o.mp n;refine⟨?_,j,p⟩;rcases H.K with i|i
    ·exact i
    ·exact absurd ⟨i,by dsimp only at p;omega⟩ n.2))
   rw[ga (c:=w=z/\K=none/\0<y/\y - 1+e<d) λk=>hc k.2];simp[gs,this]
 ·have g:Jo (some ⟨w,lk e K q ⟨1 - q,a,w,d⟩,a,d⟩) (some ⟨z,lk e K r ⟨r,v,z,y⟩,v,y⟩)=[(w,[⟨w,lk e K q ⟨1 - q,a,w,d⟩,a,d⟩]),(z,[⟨z,lk e K r ⟨r,v,z,y⟩,v,y⟩])]:=ga f;have t:=nC (l:=⟨w,lk e K q ⟨1 - q,a,w,d⟩,a,d⟩) (by dsimp only;omega) e;have u:=nC (l:=⟨z,lk e K r ⟨r,v,z,y⟩,v,y⟩) (by dsimp only;omega) e;rw[g,ga (c:=w=z/\K=none/\0<y/\y - 1+e<d) λk=>f k.1];simp[gs,t,u]
theorem nG:0<=su e K a w d:=by have:=H.a;unfold su;split<;>omega
end
section
variable{e:Int}{K:Option Int}{q r a w d v z y:Int}{c:Sn}(H:Hy e K q r a w d v z y c)
include H
theorem QT:gp e ([c].map (rd e K q)) ([c].map (rd e K r))=ow q c+ow r c:=
 rF e (.inl ⟨_,rfl⟩) (.inl ⟨_,rfl⟩) (a:=rd e K q c) (b:=rd e K r c) (by simp) (by simp) (Wz H) λa d b hb=>by
  have d:a=rd e K q c:=by simpa using d
  have hb:b=rd e K r c:=by simpa using hb
  rw[d,hb,Wz H];exact Bn _
theorem sN:gp e ([put c q a w d].map (rd e K q)) ([c].map (rd e K r))=ow q c+su e K a w d+ow r c:=
 rF e (.inl ⟨_,rfl⟩) (.inl ⟨_,rfl⟩) (a:=rd e K q (put c q a w d)) (b:=rd e K r c) (by simp) (by simp) (Qz H) λx f b hb=>by
  have f:x=rd e K q (put c q a w d):=by simpa using f
  have hb:b=rd e K r c:=by simpa using hb
  rw[f,hb,Qz H];exact Bn _
theorem SL:gp e ([c,put c q a w d].map (rd e K q)) ([c].map (rd e K r))=ow q c+ow r c:=
 rF e (.inr ⟨_,_,rfl⟩) (.inl ⟨_,rfl⟩) (a:=rd e K q c) (b:=rd e K r c) (by simp) (by simp) (Wz H) λx f b hb=>by
  have f:x=rd e K q c\/x=rd e K q (put c q a w d):=by simpa using f
  have hb:b=rd e K r c:=by simpa using hb
  have:=nG H;rcases f with rfl|rfl
  ·rw[hb,Wz H];exact Bn _
  ·rw[hb,Qz H];omega
theorem rY:ow q c+ow r c<=gp e ([c,put c q a w d].map (rd e K q)) ([c,td c r v z y].map (rd e K r)) ↔ y=0:=by
 have j:=H.v;have hy:=H.y;have i:=nG H;constructor
 ·intro h;have:=eD e (A:=[c,put c q a w d].map (rd e K q)) (B:=[c,td c r v z y].map (rd e K r)) (a:=rd e K q c) (b:=rd e K r (td c r v z y)) (by simp) (by simp);rw[yK H]at this;by_cases h0:y<=0
  ·omega
  ·rw[ga h0]at this;omega
 ·intro h;obtain⟨x,f,b,hb,g⟩:=zE e (A:=[c,put c q a w d].map (rd e K q)) (B:=[c,td c r v z y].map (rd e K r)) (.inr ⟨_,_,rfl⟩) (.inr ⟨_,_,rfl⟩);have f:x=rd e K q c\/x=rd e K q (put c q a w d):=by simpa using f
  have hb:b=rd e K r c\/b=rd e K r (td c r v z y):=by simpa using hb
  rw[g];rcases f with rfl|rfl<;>rcases hb with rfl|rfl
  ·rw[Wz H];omega
  ·rw[yK H,da (by omega)];omega
  ·rw[Qz H];omega
  ·rw[yF H,da (show y<=0 by omega),ga (by omega)];omega
theorem t4:ow q c+su e K a w d+ow r c<=gp e ([put c q a w d].map (rd e K q)) ([c,td c r v z y].map (rd e K r)) ↔ y=0\/(w=z/\K=none/\0<y/\y - 1+e<d/\v<=a):=by
 have l:=H.v;have hy:=H.y;constructor
 ·intro h;have:=eD e (A:=[put c q a w d].map (rd e K q)) (B:=[c,td c r v z y].map (rd e K r)) (a:=rd e K q (put c q a w d)) (b:=rd e K r (td c r v z y)) (by simp) (by simp);rw[yF H]at this;by_cases h0:y<=0
  ·exact .inl (by omega)
  ·rw[ga h0]at this;by_cases hc:w=z/\K=none/\0<y/\y - 1+e<d
   ·rw[da hc]at this;refine .inr ⟨hc.1,hc.2.1,hc.2.2.1,hc.2.2.2,?_⟩;by_cases f:a<v
    ·rw[da f]at this;omega
    ·omega
   ·rw[ga hc]at this;omega
 ·intro h;obtain⟨x,g,b,hb,j⟩:=zE e (A:=[put c q a w d].map (rd e K q)) (B:=[c,td c r v z y].map (rd e K r)) (.inl ⟨_,rfl⟩) (.inr ⟨_,_,rfl⟩);have g:x=rd e K q (put c q a w d):=by simpa using g
  have hb:b=rd e K r c\/b=rd e K r (td c r v z y):=by simpa using hb
  rw[j,g];rcases hb with rfl|rfl
  ·rw[Qz H];omega
  ·rw[yF H];rcases h with h|⟨h1,i,h3,h4,k⟩
   ·rw[da (show y<=0 by omega),ga (by omega)];omega
   ·rw[ga (show ¬ y<=0 by omega),da (c:=w=z/\K=none/\0<y/\y - 1+e<d) ⟨h1,i,h3,h4⟩];by_cases f:a<v
    ·omega
    ·rw[ga f];omega
end
noncomputable def CD(u v:Int):D:=.tup [.int u,.int v]
structure A1(half:Bool)(q:Int)(c s:Sn)(x:Ac):Prop where
 ok:x.Ok
 hp:x.p=0
 hq:x.q=q
 hy:x.y=if half then [c,s]else [s]
 hc:x.c=if half then (if q=0 then 6 else 7)else 5
theorem vS(xs:List D)(σ:Ya):EC [.ref σ.length] (σ++[.lst xs])=.ok (.tup xs) (σ++[.lst xs]):=by simp[EC,VH]
theorem SO{σ:Ya}{n:Nat}{xs:List D}{k:Int}{d:D}(h:Wg σ n=some xs)(a:Ek xs k=some d):Ta (.ref n) (.int k) σ=.ok d σ:=by simp[Ta,vj,h,a]
theorem o6{c:Sn}{q a w d:Int}(hq:q=0\/q=1)(h0:c.n=0)(o p:Option D)(P:Ev->M Fl)(Y:Ya):Nb TC (Nb OC (Nb uE P)) [o,some (.int q),some (CD c.a c.b),some (⟨1 - q,a,w,d⟩:Ti).D,p,none,none] Y=P [o,some (.int q),some (CD c.a c.b),some (⟨1 - q,a,w,d⟩:Ti).D,p,some (.ref Y.length),some (put c q a w d).D] (Y++[.lst [.int (put c q a w d).a,.int (put c q a w d).b]]):=by
 have l:∀ σ,Ta (⟨1 - q,a,w,d⟩:Ti).D (.int 1) σ=.ok (.int a) σ:=λσ=>by unfold Ti.D;simp
 have j:∀ σ,Ta (CD c.a c.b) (.int 0) σ=.ok (.int c.a) σ:=λσ=>by unfold CD;simp
 have k:∀ σ,Ta (CD c.a c.b) (.int 1) σ=.ok (.int c.b) σ:=λσ=>by unfold CD;simp
 have h:∀ x y:D,Ta (.ref Y.length) (.int 0) (Y++[.lst [x,y]])=.ok x (Y++[.lst [x,y]]):=λx y=>SO (xs:=[x,y]) (by unfold Wg;simp) (show Ek _ ((0:Nat):Int)=_ from Dq rfl);have i:∀ x y:D,Ta (.ref Y.length) (.int 1) (Y++[.lst [x,y]])=.ok y (Y++[.lst [x,y]]):=λx y=>SO (xs:=[x,y]) (by unfold Wg;simp) (show Ek _ ((1:Nat):Int)=_ from Dq rfl);have m:=λxs=>vS xs Y;have e:D.tup [.int 1,.tup [.int (put c q a w d).a,.int (put c q a w d).b],.tup [(⟨1 - q,a,w,d⟩:Ti).D]]=(put c q a w d).D:=by
  show _=Qi (c.n+1) _ _ _;rw[h0];rfl
 unfold TC OC uE;rcases hq with rfl|rfl
 ·have f:(put c 0 a w d).a=c.a:=rfl;have g:(put c 0 a w d).b=c.b - a:=rfl;rw[f,g]at e ⊢;generalize (put c 0 a w d).D=r at *;generalize (⟨1 - 0,a,w,d⟩:Ti).D=s at *;generalize CD c.a c.b=C at *;simp[l,j,k,h,i,m,e]
 ·have f:(put c 1 a w d).a=c.a - a:=rfl;have g:(put c 1 a w d).b=c.b:=rfl;rw[f,g]at e ⊢;generalize (put c 1 a w d).D=r at *;generalize (⟨1 - 1,a,w,d⟩:Ti).D=s at *;generalize CD c.a c.b=C at *;simp[l,j,k,h,i,m,e]
section
variable{e:Int}{K:Option Int}{J:Ya}{q r a w d v z y:Int}{c:Sn}{T:Int}(H:Hy e K q r a w d v z y c)(hc:c.Ok T)(h0:c.n=0)(hs:(put c q a w d).Ok T){b:Ac}(hb:b.Ok)(hp:b.p=1)(hr:b.q=r)(hy:b.y=[c])
include H hc hs hb hp hr hy h0
theorem LV(half:Bool):∃ x f,A1 half q c (put c q a w d) x/\Ve [.ref 0,.int q,CD c.a c.b,(⟨1 - q,a,w,d⟩:Ti).D,.bl half] (SA e 0 K (calm 0 q c .zb []) b [] J)=.ok .zb (SA e 0 K x b [] f):=by
 have hn:(put c q a w d).n=c.n+1:=rfl;have N:W e K (calm 0 q c .zb []) b=ow q c+ow r c:=by unfold W;rw[hr,hy];exact QT H
 have o:∀ x:Ac,x.q=q->x.y=[c,put c q a w d]->W e K x b=ow q c+ow r c:=λx h1 z=>by unfold W;rw[hr,hy,h1,z];exact SL H
 have O:∀ x:Ac,x.q=q->x.y=[put c q a w d]->W e K x b=ow q c+su e K a w d+ow r c:=λx h1 z=>by unfold W;rw[hr,hy,h1,z];exact sN H
 have a0:=nG H;have R:=o6 (a:=a) (w:=w) (d:=d) H.q h0 (some (.ref 0)) (some (.bl half)) Dw (SA e 0 K (calm 0 q c .zb []) b [] J);have P:=λM=>s1 (put c q a w d) M;have Q:=λM=>s2 (put c q a w d) M;obtain⟨f,hJ⟩:∃ f,f=J++[.lst [.int (put c q a w d).a,.int (put c q a w d).b]]:=⟨_,rfl⟩
 rw[show SA e 0 K (calm 0 q c .zb []) b [] J++[.lst [.int (put c q a w d).a,.int (put c q a w d).b]]=SA e 0 K (calm 0 q c .zb []) b [] f by rw[hJ];rfl]at R;have sk:D.tup [.str "strike",.int 0,.int 1,.int 0]=zj 0 1 c.n:=by rw[h0];rfl
 have B:D.tup [.str "struck",.int 0,.tup [.str "strike",.int 0,.int 0,.int 0]]=ro 0 c.n:=by rw[h0];rfl
 have i:∀ {x:Ac},(∀ n,Dw [some (.ref 0),some (.int q),some (CD c.a c.b),some (⟨1 - q,a,w,d⟩:Ti).D,some (.bl half),n,some (put c q a w d).D] (SA e 0 K (calm 0 q c .zb []) b [] f)=.ok (.nx [some (.ref 0),some (.int q),some (CD c.a c.b),some (⟨1 - q,a,w,d⟩:Ti).D,some (.bl half),n,some (put c q a w d).D]) (SA e 0 K x b [] f))->Ve [.ref 0,.int q,CD c.a c.b,(⟨1 - q,a,w,d⟩:Ti).D,.bl half] (SA e 0 K (calm 0 q c .zb []) b [] J)=.ok .zb (SA e 0 K x b [] f):=fun {x} h=>by
  unfold Ve xP;rw[Gs,HH];show Hu (Nb TC (Nb OC (Nb uE Dw)) [some (.ref 0),some (.int q),some (CD c.a c.b),some (⟨1 - q,a,w,d⟩:Ti).D,some (.bl half),none,none] _)=_;rw[R,h,KO]
 rcases H.q with rfl|rfl
 ·obtain⟨Z,l⟩:=OU (e:=e) (g:=0) (K:=K) (J:=f) hb hp hc hs hn (G:=.zb) (L:=[]) rfl rfl (by rw[N,o _ rfl rfl];omega);have j:D.tup [.str "ask",.int 0,.tup [.int (put c 0 a w d).a,.int (put c 0 a w d).b],.tup ((tf (put c 0 a w d).x).map Ti.D)]=Nm 0 (put c 0 a w d):=rfl;have F:=Io e 0 K (AA (calm 0 0 c .zb []) b) [] f;have k:=λfs=>Uk F (m:="take") 2 yb fs rfl;cases half with
  |true=>
   refine⟨li 0 0 c (put c 0 a w d) .zb [],f,⟨Ex (.inl rfl) (.inl rfl) _ _ rfl rfl,rfl,rfl,rfl,rfl⟩,i λn=>?_⟩;unfold Dw;unfold SA at *;generalize S e 0 K (AA (li 0 0 c (put c 0 a w d) .zb []) b) [] f=v at *;generalize S e 0 K (AA (calm 0 0 c .zb []) b) [] f=Y at *;generalize D.tup ((tf (put c 0 a w d).x).map Ti.D)=TT at *;generalize D.tup [.int (put c 0 a w d).a,.int (put c 0 a w d).b]=T at *;generalize Nm 0 (put c 0 a w d)=p at *;generalize (put c 0 a w d).D=t at *;generalize (⟨1 - 0,a,w,d⟩:Ti).D=u at *;generalize CD c.a c.b=C at *;simp[P,Q,j,k,l]
  |false=>
   obtain⟨d2,E⟩:=aW (e:=e) (g:=0) (K:=K) (J:=f) hb hp hc hs (G:=.zb) (L:=[]) rfl rfl (by simp) (by rw[o _ rfl rfl,O _ rfl rfl];omega);have X:D.tup [.str "accept",.int 0,.tup [.str "agree",.int 0,.int 1,(put c 0 a w d).D],zj 0 1 c.n]=oo 0 c (put c 0 a w d):=rfl;have I:=Io e 0 K (AA (li 0 0 c (put c 0 a w d) .zb []) b) [] f;have A:=λfs=>Uk I (m:="take") 2 yb fs rfl;refine⟨calm 0 0 (put c 0 a w d) (Uf 0 1 (put c 0 a w d).D) ([]++[.int c.n]),f,⟨To (.inl rfl) (.inl rfl) _ (Zr (xn _)) rfl,rfl,rfl,rfl,rfl⟩,i λn=>?_⟩;unfold Dw;unfold SA at *;generalize S e 0 K (AA (calm 0 0 (put c 0 a w d) (Uf 0 1 (put c 0 a w d).D) ([]++[.int c.n])) b) [] f=V at *;generalize S e 0 K (AA (li 0 0 c (put c 0 a w d) .zb []) b) [] f=v at *;generalize S e 0 K (AA (calm 0 0 c .zb []) b) [] f=Y at *;generalize D.tup ((tf (put c 0 a w d).x).map Ti.D)=TT at *;generalize D.tup [.int (put c 0 a w d).a,.int (put c 0 a w d).b]=T at *;generalize Nm 0 (put c 0 a w d)=p at *;generalize oo 0 c (put c 0 a w d)=AC at *;generalize (put c 0 a w d).D=t at *;generalize zj 0 1 c.n=U at *;generalize (⟨1 - 0,a,w,d⟩:Ti).D=u at *;generalize CD c.a c.b=C at *;simp[P,Q,j,k,l,sk,X,A,E]
 ·obtain⟨Z,l⟩:=D6 (e:=e) (g:=0) (K:=K) (J:=f) hb hp hc hs hn (G:=.zb) (L:=[]) rfl rfl (by rw[N,o _ rfl rfl];omega);have j:D.tup [.str "offer",.int 0,.tup [.str "agree",.int 0,.int 0,(put c 1 a w d).D]]=Ni 0 (put c 1 a w d):=rfl;have F:=Io e 0 K (AA (calm 0 1 c .zb []) b) [] f;have k:=λfs=>Uk F (m:="take") 2 yb fs rfl;cases half with
  |true=>
   refine⟨Dj 0 1 c (put c 1 a w d) (Uf 0 0 (put c 1 a w d).D) [],f,⟨cx (.inl rfl) (.inr rfl) _ _ (Zr (xn _)) rfl,rfl,rfl,rfl,rfl⟩,i λn=>?_⟩;unfold Dw;unfold SA at *;generalize S e 0 K (AA (Dj 0 1 c (put c 1 a w d) (Uf 0 0 (put c 1 a w d).D) []) b) [] f=v at *;generalize S e 0 K (AA (calm 0 1 c .zb []) b) [] f=Y at *;generalize Ni 0 (put c 1 a w d)=p at *;generalize (put c 1 a w d).D=t at *;generalize (⟨1 - 1,a,w,d⟩:Ti).D=u at *;generalize CD c.a c.b=C at *;simp[j,k,l]
  |false=>
   obtain⟨d2,E⟩:=t1 (e:=e) (g:=0) (K:=K) (J:=f) (s:=put c 1 a w d) hb hp hc (G:=Uf 0 0 (put c 1 a w d).D) (L:=[]) (Zr (xn _)) rfl (by simp) (by rw[o _ rfl rfl,O _ rfl rfl];omega);have I:=Io e 0 K (AA (Dj 0 1 c (put c 1 a w d) (Uf 0 0 (put c 1 a w d).D) []) b) [] f;have A:=λfs=>Uk I (m:="take") 2 yb fs rfl;refine⟨calm 0 1 (put c 1 a w d) (Uf 0 0 (put c 1 a w d).D) ([]++[.int c.n]),f,⟨To (.inl rfl) (.inr rfl) _ (Zr (xn _)) rfl,rfl,rfl,rfl,rfl⟩,i λn=>?_⟩;unfold Dw;unfold SA at *;generalize S e 0 K (AA (calm 0 1 (put c 1 a w d) (Uf 0 0 (put c 1 a w d).D) ([]++[.int c.n])) b) [] f=V at *;generalize S e 0 K (AA (Dj 0 1 c (put c 1 a w d) (Uf 0 0 (put c 1 a w d).D) []) b) [] f=v at *;generalize S e 0 K (AA (calm 0 1 c .zb []) b) [] f=Y at *;generalize Ni 0 (put c 1 a w d)=p at *;generalize ro 0 c.n=U at *;generalize (put c 1 a w d).D=t at *;generalize (⟨1 - 1,a,w,d⟩:Ti).D=u at *;generalize CD c.a c.b=C at *;simp[j,k,l,B,A,E]
end
noncomputable def h0(k q:Int):Int:=if q=1 then 2+k else 1
noncomputable def h1(k q:Int):Int:=if q=1 then 1 else 2+k
noncomputable def wd(k q u v:Int):D:=.tup [.int (h0 k q),.int (h1 k q),.int u,.int v,.int 20]
theorem v5(k q u v:Int):cl (wd k q u v)=true:=by unfold wd;simp
section
variable{q r u v:Int}(hq:q=0\/q=1)(hr:r=0\/r=1)
include hq
theorem QM(σ:Ya)(k:Int)(S:D)(xs:List D)(j:xs.length<=5)(n:Nat)(hn:n=σ.length)(h:Option D)(f:∀ σ,Ta S (.int k) σ=.ok (.int q) σ):∃ i,rB [some S,some (CD u v),some (.ref n),some (.int k),h] (σ++[.lst xs])=.ok (.nx [some S,some (CD u v),some (.ref n),some (.int k),i]) (σ++[.lst (xs++[wd k q u v])]):=by
 subst hn;have c:=Cz (σ:=σ) (xs:=xs) (d:=wd k q u v) (by omega);have g:∀ m,Rt il m (.ref σ.length) (σ++[.lst xs])=(m (σ++[.lst xs])).bind (il (.ref σ.length)):=λm=>ky (xs:=xs) (by unfold kh Wg;simp);have a:∀ x y σ,nh (.tup [.int x,.int y]) (CD u v) σ=.ok (.tup [.int x,.int y,.int u,.int v]) σ:=λx y σ=>nr rfl;have b:∀ x y σ,nh (.tup [.int x,.int y,.int u,.int v]) (.tup [.int 20]) σ=.ok (.tup [.int x,.int y,.int u,.int v,.int 20]) σ:=λx y σ=>nr rfl;rcases hq with rfl|rfl
 ·refine⟨some (.tup [.int 1,.int (2+k)]),?_⟩;have e:D.tup [.int 1,.int (2+k),.int u,.int v,.int 20]=wd k 0 u v:=rfl;unfold rB;generalize σ++[Ob.lst (xs++[wd k 0 u v])]=Z at *;generalize σ++[Ob.lst xs]=Y at *;generalize CD u v=C at *;generalize wd k 0 u v=P at *;simp[f,g,a,b,e,c]
 ·refine⟨some (.tup [.int (2+k),.int 1]),?_⟩;have e:D.tup [.int (2+k),.int 1,.int u,.int v,.int 20]=wd k 1 u v:=rfl;unfold rB;generalize σ++[Ob.lst (xs++[wd k 1 u v])]=Z at *;generalize σ++[Ob.lst xs]=Y at *;generalize CD u v=C at *;generalize wd k 1 u v=P at *;simp[f,g,a,b,e,c]
include hr
theorem CW(σ:Ya):Kf [.lst [.int q,.int r],CD u v] σ=.ok (.lst [wd 0 q u v,wd 1 r u v]) σ:=by
 obtain⟨c,s1⟩:=QM (u:=u) (v:=v) hq σ 0 (.lst [.int q,.int r]) [] (by simp) _ rfl none (λσ=>by simp);obtain⟨d,s2⟩:=QM (u:=u) (v:=v) hr σ 1 (.lst [.int q,.int r]) ([]++[wd 0 q u v]) (by simp) _ rfl c (λσ=>by simp);have fz:Ng σ (.ok (.ref σ.length) (σ++[.lst ([]++[wd 0 q u v]++[wd 1 r u v])]))=.ok (.lst [wd 0 q u v,wd 1 r u v]) σ:=Kz (by simp[v5]);have b:∀ σ,Fx (.int 2) σ=.ok (.seq [.int 0,.int 1]) σ:=λσ=>by rw[GN (by omega) (by omega)];rfl
 have a:Xl (Ye 3) rB [.int 0,.int 1] [some (.lst [.int q,.int r]),some (CD u v),some (.ref σ.length),none,none] (σ++[.lst []])=.ok (.nx [some (.lst [.int q,.int r]),some (CD u v),some (.ref σ.length),some (.int 1),d]) (σ++[.lst ([]++[wd 0 q u v]++[wd 1 r u v])]):=by
  rw[dq];simp only[eb,gb];rw[s1,Oe,tm,dq];simp only[eb,gb];rw[s2,Oe,tm,Ow]
 unfold Kf dM;generalize σ++[Ob.lst ([]++[wd 0 q u v]++[wd 1 r u v])]=Z at *;generalize CD u v=C at *;generalize wd 0 q u v=P at *;generalize wd 1 r u v=e at *;simp[b,a,fz]
theorem rX{e:Int}(g:1<=e/\e<=9)(σ:Ya):gf [.int 1,.int e,.lst [wd 0 q u v,wd 1 r u v]] σ=.ok .zb σ:=by
 have b:=bt (i:=e) (a:=1) (b:=50) (by omega) σ;have lt:decide ((20:Int)<e+1)=false:=xb (by omega);have st:∀ (k q:Int) (X y:Option D),(q=0\/q=1)->iC [some (.int 1),some (.int e),X,some (wd k q u v)] σ=.ok (.nx [some (.int 1),some (.int e),X,some (wd k q u v)]) σ:=λk q X y hq=>by
  have p4:Ta (wd k q u v) (.int 4) σ=.ok (.int 20) σ:=KJ ..;have d:CC (wd k q u v) none (some 2) σ=.ok (.tup [.int (h0 k q),.int (h1 k q)]) σ:=nr rfl;have i:Sy false (.int 1) (.tup [.int (h0 k q),.int (h1 k q)]) σ=.ok (.bl true) σ:=by
   rcases hq with rfl|rfl
   ·simp[Sy,h0,h1,nw,mw,sc,Kj]
   ·simp[Sy,h0,h1,nw,mw,sc,Kj]
  unfold iC;generalize wd k q u v=P at *;simp[p4,d,i,lt]
 have c:Xl (Ye 3) iC [wd 0 q u v,wd 1 r u v] [some (.int 1),some (.int e),some (.lst [wd 0 q u v,wd 1 r u v]),none] σ=.ok (.nx [some (.int 1),some (.int e),some (.lst [wd 0 q u v,wd 1 r u v]),some (wd 1 r u v)]) σ:=by
  rw[dq];simp only[eb,gb];rw[st 0 q _ none hq,Oe,tm,dq];simp only[eb,gb];rw[st 1 r _ none hr,Oe,tm,Ow]
 unfold gf EL;generalize wd 0 q u v=P at *;generalize wd 1 r u v=f at *;simp[b,c]
end
noncomputable def P3(e:Int)(K:Option Int)(A C Z:Kv):Ya:=[.ins 9 (kt e 0),.Db (Kd K),.Db A,.Db C,.Db Z,.Db [],.Db []]
theorem mM{ρ:Ev}{r:Ya}{cs:List Nat}{f:Str}{d:D}{fs:List (Str × D)}(h:cs.contains 9=true)(a:Nat.ble (fs.length+1) 1000=true):ax ρ cs f d (.ref 0) (.ins 9 fs::r)=.ok (.nx ρ) (.ins 9 (dn f d fs)::r):=by
 have e:ny cs f d (.ref 0) (.ins 9 fs::r)=.ok () (.ins 9 (dn f d fs)::r):=by
  have:(Ob.ins 9 fs::r)[0]?=some (.ins 9 fs):=rfl;unfold ny;simp only[this];rw[da (by rw[h];simpa using (show fs.length<1000 from Nat.le_of_ble_eq_true a))];simp
 unfold ax;rw[e]
theorem my{cs:List Nat}{f:Str}{fs:List (Str × D)}{r:Ev}{ds:Ya}(hc:cs.contains 9=true)(a:Nat.ble (fs.length+1) 1000=true):lm cs f Hs (ia 0) (some (.ref 0)::r) (.ins 9 fs::ds)=.ok (.nx (some (.ref 0)::r)) (.ins 9 (dn f (.ref (ds.length+1)) fs)::(ds++[.Db []])):=by
 rw[oP,lT,Cs,mO,pA,Cs];exact mM hc a
theorem gC{cs:List Nat}{f:Str}{fs:List (Str × D)}{a:Ev->M D}{d:D}{ds:Ya}{r:Ev}(hc:cs.contains 9=true)(b:Nat.ble (fs.length+1) 1000=true)(c:a (some (.ref 0)::r) (.ins 9 fs::ds)=.ok d (.ins 9 fs::ds)):lm cs f a (ia 0) (some (.ref 0)::r) (.ins 9 fs::ds)=.ok (.nx (some (.ref 0)::r)) (.ins 9 (dn f d fs)::ds):=by
 rw[oP,c,Cs,mO,pA,Cs,mM hc b]
@[simp] theorem N9{σ:Ya}(fn:List D->M D)(x a b c:D):Zj 4 fn x [a,b,c] σ=fn [x,a,b,c] σ:=kC rfl
theorem L3(e:Int)(K:Option Int){a:Ac}(g:a.Ok){A C Z:Kv}(h1:A.length<9)(q:C.length<9)(h3:Z.length<9):Pc [.ref 0,a.D,.gt ["held"],.Db [] []] (P3 e K A C Z)=.ok .zb (P3 e K (uh A (.inl a.p) a.D) (uh C (.inl a.p) (.gt ["held"])) (uh Z (.inl a.p) (.Db [] []))):=by
 have f:=λn=>nv g n;have h:∀ A C Z,yc [9] "accounts" (.ref 0) (P3 e K A C Z)=.ok (.ref 2) (P3 e K A C Z):=λA C Z=>bn (fs:=kt e 0) (c:=9) rfl rfl rfl;have j:∀ A C Z,yc [9] "claims" (.ref 0) (P3 e K A C Z)=.ok (.ref 3) (P3 e K A C Z):=λA C Z=>bn (fs:=kt e 0) (c:=9) rfl rfl rfl;have l:∀ A C Z,yc [9] "seen" (.ref 0) (P3 e K A C Z)=.ok (.ref 4) (P3 e K A C Z):=λA C Z=>bn (fs:=kt e 0) (c:=9) rfl rfl rfl;have i:∀ b d,Ar b d (.ref 2) (.int a.p) (P3 e K A C Z)=.ok (.nx b) (P3 e K (uh A (.inl a.p) d) C Z):=λb d=>by rw[Cu (kvs:=A) rfl (by omega)];rfl
 have k:∀ A b d,Ar b d (.ref 3) (.int a.p) (P3 e K A C Z)=.ok (.nx b) (P3 e K A (uh C (.inl a.p) d) Z):=λA b d=>by rw[Cu (kvs:=C) rfl (by omega)];rfl
 have m:∀ A C b d,Ar b d (.ref 4) (.int a.p) (P3 e K A C Z)=.ok (.nx b) (P3 e K A C (uh Z (.inl a.p) d)):=λA C b d=>by rw[Cu (kvs:=Z) rfl (by omega)];rfl
 unfold Pc CP;generalize a.D=o at *;simp[f,h,i,j,k,l,m]
noncomputable def cS(u v:Int):Sn:=⟨0,u,v,none⟩
section
variable{u v:Int}(hu:0<=u/\u<=1000000000000)(hv:0<=v/\v<=1000000000000)
include hu hv
theorem i2{p q:Int}(hp:p=0\/p=1)(hq:q=0\/q=1)(σ:Ya):Xd [.int p,.int q,.int u,.int v] σ=.ok (calm p q (cS u v) .zb []).D σ:=by
 have f:=λσ=>P1 hu hv σ;have ok:=To hp hq (cS u v) (G:=.zb) (L:=[]) rfl rfl;have a:∀ σ,Ng σ (pp 5 7 Ui [.int p,.int q,Qi 0 u v [],.zb,.lst [Qi 0 u v []],.lst []] σ)=.ok (calm p q (cS u v) .zb []).D σ:=λσ=>Zz ok σ;have hc:=Kw ok;unfold Xd FL;generalize (calm p q (cS u v) .zb []).D=b at *;generalize Qi 0 u v []=c at *;simp[f,a,hc]
theorem dQ(e:Int)(K:Option Int)(a c r:Option D){p q:Int}(hp:p=0\/p=1)(hq:q=0\/q=1){A C Z:Kv}(l1:A.length<9)(l2:C.length<9)(o:Z.length<9):WD [some (.ref 0),some (.int 1),some (.int e),a,c,some (.int p),some (wd p q u v),r] (P3 e K A C Z)=.ok (.nx [some (.ref 0),some (.int 1),some (.int e),a,c,some (.int p),some (wd p q u v),some (.int 1)]) (P3 e K (uh A (.inl p) (calm p q (cS u v) .zb []).D) (uh C (.inl p) (.gt ["held"])) (uh Z (.inl p) (.Db [] []))):=by
 have ok:=To hp hq (cS u v) (G:=.zb) (L:=[]) rfl rfl;have i:Pc [.ref 0,(calm p q (cS u v) .zb []).D,.gt ["held"],.Db [] []] (P3 e K A C Z)=_:=L3 e K ok l1 l2 o;rw[show (calm p q (cS u v) .zb []).p=p from rfl]at i;have l:=λσ=>i2 hu hv hp hq σ;have g:∀ A C Z fs,mm [(9,Pc)] 4 "hold" fs (.ref 0) (P3 e K A C Z)=(fs (P3 e K A C Z)).bind (Zj 4 Pc (.ref 0)):=λA C Z fs=>ao (show Ym (P3 e K A C Z) (.ref 0)=some (9,kt e 0)from rfl) rfl rfl;have j:∀ σ,Ta (wd p q u v) (.int 0) σ=.ok (.int (h0 p q)) σ:=λσ=>by unfold wd;simp
 have k:∀ σ,Ta (wd p q u v) (.int 1) σ=.ok (.int (h1 p q)) σ:=λσ=>by unfold wd;simp
 have m:∀ σ,Ta (wd p q u v) (.int 2) σ=.ok (.int u) σ:=λσ=>by unfold wd;simp
 have n:∀ σ,Ta (wd p q u v) (.int 3) σ=.ok (.int v) σ:=λσ=>by unfold wd;simp
 have d:Ta (wd p q u v) (.int q) (P3 e K A C Z)=.ok (.int 1) (P3 e K A C Z)->sB [some (.ref 0),some (.int 1),some (.int e),a,c,some (.int p),some (wd p q u v),some (.int q)] (P3 e K A C Z)=.ok (.nx [some (.ref 0),some (.int 1),some (.int e),a,c,some (.int p),some (wd p q u v),some (.int q)]) (P3 e K (uh A (.inl p) (calm p q (cS u v) .zb []).D) (uh C (.inl p) (.gt ["held"])) (uh Z (.inl p) (.Db [] []))):=λf=>by
  have g:=g A C Z;unfold sB;generalize P3 e K (uh A (.inl p) (calm p q (cS u v) .zb []).D) (uh C (.inl p) (.gt ["held"])) (uh Z (.inl p) (.Db [] []))=w at *;generalize P3 e K A C Z=Y at *;generalize (calm p q (cS u v) .zb []).D=t at *;generalize wd p q u v=P at *;simp[f,m,n,l,g,i]
 have no:∀ (s:Int) (A C Z:Kv) (h:Int),Ta (wd p q u v) (.int s) (P3 e K A C Z)=.ok (.int h) (P3 e K A C Z)->h≠1->sB [some (.ref 0),some (.int 1),some (.int e),a,c,some (.int p),some (wd p q u v),some (.int s)] (P3 e K A C Z)=.ok (.nx [some (.ref 0),some (.int 1),some (.int e),a,c,some (.int p),some (wd p q u v),some (.int s)]) (P3 e K A C Z):=λs A C Z h f hn=>by
  have b:(h == 1)=false:=by simp[hn]
  unfold sB;generalize P3 e K A C Z=Y at *;generalize wd p q u v=P at *;simp[f,b]
 unfold WD;rw[nZ];simp only[nM,RZ,kH,x5,Oe,qH,qG,lG,SZ,ES,Cs,AY];rw[dq];simp only[eb,gb];rcases hq with rfl|rfl
 ·rw[d (j _),Oe,tm,dq];simp only[eb,gb];rw[no 1 _ _ _ _ (k _) (by show (if (0:Int)=1 then (1:Int)else 2+p)≠1;rw[ga (by omega)];omega),Oe,tm,Ow]
 ·rw[no 0 _ _ _ _ (j _) (by show (if (1:Int)=1 then 2+p else (1:Int))≠1;rw[da rfl];omega),Oe,tm,dq];simp only[eb,gb];rw[d (k _),Oe,tm,Ow]
theorem AU{e:Int}(t:1<=e/\e<=9)(K:Option Int){q r:Int}(hq:q=0\/q=1)(j:r=0\/r=1):pp 9 5 Op [.int 1,.int e,.lst [wd 0 q u v,wd 1 r u v],.lst (Gg K)] []=.ok (.ref 0) (SA e 0 K (calm 0 q (cS u v) .zb []) (calm 1 r (cS u v) .zb []) [] []):=by
 have sp:=λσ=>rX (u:=u) (v:=v) hq j t σ;have z:∀ fs,mm [(9,Hc)] 2 "learn" fs (.ref 0) (P3 e none [] [] [])=(fs (P3 e none [] [] [])).bind (Zj 2 Hc (.ref 0)):=λfs=>ao (show Ym (P3 e none [] [] []) (.ref 0)=some (9,kt e 0)from rfl) rfl rfl;have le:Hc [.ref 0,.lst (Gg K)] (P3 e none [] [] [])=.ok .zb (P3 e K [] [] []):=by
  cases K with
  |none=>
   unfold Hc kG;show _=Out.ok D.zb (P3 e none [] [] []);generalize P3 e none [] [] []=Y at *;simp[Gg]
  |some w=>
   have y:yc [8,9] "known" (.ref 0) (P3 e none [] [] [])=.ok (.ref 1) (P3 e none [] [] []):=bn (fs:=kt e 0) (c:=9) rfl rfl rfl;have st:∀ ρ d,Ar ρ d (.ref 1) (.int w) (P3 e none [] [] [])=.ok (.nx ρ) ((P3 e none [] [] []).set 1 (.Db [(.inl w,d)])):=λρ d=>by rw[Cu (kvs:=[]) rfl (by simp)];rfl
   have o:(P3 e none [] [] []).set 1 (.Db [(.inl w,.bl true)])=P3 e (some w) [] [] []:=rfl;have b:∀ h m,Xl (Ye 2) wH [.int w] [some (.ref 0),h,m] (P3 e none [] [] [])=.ok (.nx [some (.ref 0),h,some (.int w)]) (P3 e (some w) [] [] []):=λh m=>by
    rw[dq];simp only[eb,gb];unfold wH;generalize P3 e (some w) [] [] []=n at *;generalize P3 e none [] [] []=Y at *;simp[y,st,o]
   unfold Hc kG;generalize P3 e (some w) [] [] []=n at *;generalize P3 e none [] [] []=Y at *;simp[Gg,b]
 have f:=dQ hu hv e K (some (.lst [wd 0 q u v,wd 1 r u v])) (some (.lst (Gg K))) none (.inl (rfl:(0:Int)=0)) hq (A:=[]) (C:=[]) (Z:=[]) (by simp) (by simp) (by simp);have g:=dQ hu hv e K (some (.lst [wd 0 q u v,wd 1 r u v])) (some (.lst (Gg K))) (some (.int 1)) (.inr (rfl:(1:Int)=1)) j (A:=[(.inl 0,(calm 0 q (cS u v) .zb []).D)]) (C:=[(.inl 0,.gt ["held"])]) (Z:=[(.inl 0,.Db [] [])]) (by simp) (by simp) (by simp);have f:_=Out.ok _ (P3 e K [(.inl 0,(calm 0 q (cS u v) .zb []).D)] [(.inl 0,.gt ["held"])] [(.inl 0,.Db [] [])]):=f;have g:_=Out.ok _ (SA e 0 K (calm 0 q (cS u v) .zb []) (calm 1 r (cS u v) .zb []) [] []):=g;have p:Uy (.lst [wd 0 q u v,wd 1 r u v]) (P3 e K [] [] [])=.ok (Dv (.lst [wd 0 q u v,wd 1 r u v])) (P3 e K [] [] []):=W0 (xs:=[wd 0 q u v,wd 1 r u v]) rfl;have b:ip (Dv (.lst [wd 0 q u v,wd 1 r u v])) (zq 2 (uk (Ye 5) (uk (Ye 6) Xq))) WD 1001 0 [some (.ref 0),some (.int 1),some (.int e),some (.lst [wd 0 q u v,wd 1 r u v]),some (.lst (Gg K)),none,none,none] (P3 e K [] [] [])=.ok (.nx [some (.ref 0),some (.int 1),some (.int e),some (.lst [wd 0 q u v,wd 1 r u v]),some (.lst (Gg K)),some (.int 1),some (wd 1 r u v),some (.int 1)]) (SA e 0 K (calm 0 q (cS u v) .zb []) (calm 1 r (cS u v) .zb []) [] []):=by
  rw[zx (k:=1000) (zO (xs:=[wd 0 q u v,wd 1 r u v]) (i:=0) rfl rfl) (ρ1:=[some (.ref 0),some (.int 1),some (.int e),some (.lst [wd 0 q u v,wd 1 r u v]),some (.lst (Gg K)),some (.int 0),some (wd 0 q u v),none]) rfl,f,Oe,tm];rw[zx (k:=999) (zO (xs:=[wd 0 q u v,wd 1 r u v]) (i:=1) rfl rfl) (ρ1:=[some (.ref 0),some (.int 1),some (.int e),some (.lst [wd 0 q u v,wd 1 r u v]),some (.lst (Gg K)),some (.int 1),some (wd 1 r u v),some (.int 1)]) rfl,g,Oe,tm];exact vA (k:=998) (SX (x:=.lst [wd 0 q u v,wd 1 r u v]) (xs:=[wd 0 q u v,wd 1 r u v]) rfl)
 have s:∀ (l:D->Ev->Option Ev) (body:Ev->M Fl) (ρ:Ev) (nx:NX),aG l body ρ nx=ip nx l body 1001 0 ρ:=λ_ _ _ _=>rfl;have a:Op [.ref 0,.int 1,.int e,.lst [wd 0 q u v,wd 1 r u v],.lst (Gg K)] [.ins 9 []]=.ok .zb (SA e 0 K (calm 0 q (cS u v) .zb []) (calm 1 r (cS u v) .zb []) [] []):=by
  unfold Op BK;rw[Gs,HH];show Hu (Nb _ _ [some (.ref 0),some (.int 1),some (.int e),some (.lst [wd 0 q u v,wd 1 r u v]),some (.lst (Gg K)),none,none,none] [.ins 9 []])=_;rw[ri];simp only[vN,oX,kH,qJ,pA,Oe,qH,qG,lG,T2,sp,Cs,WO,si];rw[ri,gC (d:=.int 1) rfl rfl (by simp),Oe,si];rw[ri,gC (d:=.int e) rfl rfl (by simp),Oe,si];rw[ri,gC (d:=.int 0) rfl rfl (by simp),Oe,si];rw[ri,gC (d:=.int 0) rfl rfl (by simp),Oe,si];rw[ri,my rfl rfl,Oe,si];rw[ri,my rfl rfl,Oe,si];rw[ri,my rfl rfl,Oe,si];rw[ri,my rfl rfl,Oe,si];rw[ri,my rfl rfl,Oe,si];rw[ri,my rfl rfl,Oe,si];show Hu (Nb _ _ [some (.ref 0),some (.int 1),some (.int e),some (.lst [wd 0 q u v,wd 1 r u v]),some (.lst (Gg K)),none,none,none] (P3 e none [] [] []))=_;rw[ri];have E:Eu (eT (Fa ms (ia 4) (eC .zb))) (ij Oa) (ia 4) [some (.ref 0),some (.int 1),some (.int e),some (.lst [wd 0 q u v,wd 1 r u v]),some (.lst (Gg K)),none,none,none] (P3 e none [] [] [])=.ok (.lst (Gg K)) (P3 e none [] [] []):=by
   have B:∀ σ,ms (.lst (Gg K)) .zb σ=.ok (.bl false) σ:=λσ=>rfl;generalize D.lst (Gg K)=KD at *;simp[B]
  simp only[vN,mR,pA,Oe,z,kH,E,qH,qG,lG,wX,le,Cs,WO,si];rw[gv];simp only[SV,qJ,pA,Oe,p,Cs,s];rw[b,KO]
 rw[RK];show ly 0 (Op [.ref 0,.int 1,.int e,.lst [wd 0 q u v,wd 1 r u v],.lst (Gg K)] [.ins 9 []])=_;rw[a,lH]
end
noncomputable abbrev uv(half:Bool)(e:Int)(K:Option Int)(r am w dy be ot un:Int)(c:Sn):Prop:=be<=ow r c/\(un=0\/(half=false/\K=none/\ot=w/\be<=am/\un - 1+e<dy))
section
variable{e:Int}{K:Option Int}{J:Ya}{half:Bool}{q r am w dy be ot un:Int}{c:Sn}{T:Int}(H:Hy e K q r am w dy be ot un c)(hc:c.Ok T)(h0:c.n=0)(ho1:0<=ot/\ot<=59)(hu1:un<=1000000)(hca:0<=c.a/\c.a<=1000000000000)(hcb:0<=c.b/\c.b<=1000000000000){x:Ac}(hx:A1 half q c (put c q am w dy) x)
include H hc h0 ho1 hu1 hca hcb hx
theorem K2:∃ Q l C,Gc [.ref 0,kj be ot un] (SA e 0 K x (calm 1 r c .zb []) [] J)=.ok (.tup [.bl (decide (uv half e K r am w dy be ot un c)),.lst C]) (SA e 0 K x l Q J)/\l.Ok/\l.p=1/\W e K x l=W e K x (calm 1 r c .zb [])/\C.length=if uv half e K r am w dy be ot un c then 1 else 0:=by
 have f:=H.r;have i:cl D.zb=true:=rfl;have j:Ze []=true:=rfl;have I:=H.v;have hy:=H.y;by_cases hb:be<=ow r c
 ·have hm:be<=1000000000000:=by
   have:ow r c<=1000000000000:=by unfold ow;split<;>omega
   omega
  have U:(td c r be ot un).Ok T:=by
   have S:=hc.w;rw[H.x]at S;simp[tf,sq]at S;refine⟨⟨by show 0<=c.n+1/\c.n+1<=_;omega,?_,?_,λt ht=>?_,by simp[td,tf]⟩,?_⟩
   ·rcases f with rfl|rfl
    ·have:be<=c.a:=by simpa [ow]using hb
     show 0<=c.a - be/\c.a - be<=_;omega
    ·show 0<=c.a/\c.a<=_;omega
   ·rcases f with rfl|rfl
    ·show 0<=c.b/\c.b<=_;omega
    ·have:be<=c.b:=by simpa [ow]using hb
     show 0<=c.b - be/\c.b - be<=_;omega
   ·have:t=⟨r,be,ot,un⟩:=by simpa [td,tf]using ht
    rw[this];exact⟨f,⟨I,hm⟩,ho1,⟨hy,hu1⟩⟩
   ·rcases f with rfl|rfl
    ·show c.a - be+c.b+sq [⟨0,be,ot,un⟩]=T;simp[sq];omega
    ·show c.a+(c.b - be)+sq [⟨1,be,ot,un⟩]=T;simp[sq];omega
  have M:=λk=>FX f H.x ho1 ⟨hy,hu1⟩ ⟨I,hm⟩ U k;have N:=λK k=>(tN (G:=.zb) (L:=[]) f i j be ot un K k).1 _ (xn _) M;obtain⟨d',Q,l,C,R,rfl,V,X,Y,Z⟩:=Q2 (e:=e) (K:=K) (J:=J) (v:=be) (w:=ot) (d:=un) hx.ok hx.hp f i j hc U rfl;have g:W e K x (calm 1 r c .zb [])<=W e K x (xa r c (td c r be ot un) .zb []) ↔ uv half e K r am w dy be ot un c:=by
   obtain⟨x1,x2,O,P⟩:=SH (m:=c) (s:=td c r be ot un) f i j;unfold W;rw[hx.hq,hx.hy,O,P];show gp e _ ([c].map (rd e K r))<=_ ↔ _;cases half with
   |true=>
    show gp e ([c,put c q am w dy].map (rd e K q)) _<=gp e ([c,put c q am w dy].map (rd e K q)) _ ↔ _;rw[SL H,rY H];constructor
    ·intro h;exact⟨hb,.inl h⟩
    ·rintro ⟨_,h|⟨h,_⟩⟩
     ·exact h
     ·cases h
   |false=>
    show gp e ([put c q am w dy].map (rd e K q)) _<=gp e ([put c q am w dy].map (rd e K q)) _ ↔ _;rw[sN H,t4 H];constructor
    ·rintro (h|⟨h1,u,h3,h4,E⟩)
     ·exact⟨hb,.inl h⟩
     ·exact⟨hb,.inr ⟨rfl,u,h1.symm,E,h4⟩⟩
    ·rintro ⟨_,h|⟨_,u,h3,h4,E⟩⟩
     ·exact .inl h
     ·by_cases o:un=0
      ·exact .inl o
      ·exact .inr ⟨h3.symm,u,by omega,E,h4⟩
  rw[show decide (W e K x (calm 1 r c .zb [])<=W e K x (xa r c (td c r be ot un) .zb []))=decide (uv half e K r am w dy be ot un c)from decide_eq_decide.mpr g]at R;refine⟨Q,l,C,vV hx.ok hx.hp f i j R N (by simp),V,X,?_,?_⟩
  ·rcases Y with rfl|⟨rfl,F⟩
   ·rfl
   ·refine Int.le_antisymm ?_ F;obtain⟨x1,x2,O,P⟩:=SH (m:=c) (s:=td c r be ot un) f i j;obtain⟨s,h1,t,u,h3⟩:=zE e (A:=x.y.map (rd e K x.q)) (B:=[c].map (rd e K r)) (hx.ok.y.map _) (.inl ⟨_,rfl⟩);have h4:=eD e (A:=x.y.map (rd e K x.q)) (B:=[c,td c r be ot un].map (rd e K r)) h1 (b:=t) (by
     have:t=rd e K r c:=by simpa using u
     rw[this];simp)
    unfold W;rw[O,P];show _<=gp e (x.y.map (rd e K x.q)) ([c].map (rd e K r));omega
  ·rw[Z];by_cases o:uv half e K r am w dy be ot un c
   ·rw[da (g.mpr o),da o]
   ·rw[ga λz=>o (g.mp z),ga o]
 ·have M:=λk=>YV f H.x ho1 ⟨hy,hu1⟩ hc I (by omega) (by omega) k;have N:=λK k=>(tN (G:=.zb) (L:=[]) f i j be ot un K k).2 M;have nd:¬ uv half e K r am w dy be ot un c:=λz=>hb z.1;refine⟨[],calm 1 r c .zb [],[],?_,To (.inr rfl) f c rfl rfl,rfl,rfl,by rw[ga nd];rfl⟩;rw[xb nd];exact B7 hx.ok hx.hp f i j N
end
@[simp] theorem w9(dds:List D)(fs:Ev->M (List D))(ρ:Ev)(σ:Ya):Ey dds fs ρ σ=(fs ρ σ).bind (YD dds):=nr rfl
@[simp] theorem yek(dds ds:List D)(σ:Ya):YD dds ds σ=.ok (ds++dds) σ:=nr rfl
noncomputable def lp(ns:List Int)(k:Nat):Int:=ns.getD k 0
theorem oR(ns:List Int)(k:Int)(a:0<=k)(σ:Ya):Ga [.ae ns,.int k] σ=.ok (.int (lp ns k.toNat)) σ:=by
 unfold Ga fM lp;by_cases h:k<ns.length
 ·simp[h,DZ a h]
 ·have e:ns.length<=k.toNat:=by omega
  simp[h,List.getElem?_eq_none e]
noncomputable def Wd:List D->Nat->Ev
 |_,0=>[]
 |[],n+1=>none::Wd [] n
 |d::l,n+1=>some d::Wd l n
section
variable{ns:List Int}{c0 e u v w am dy be ot un q r:Int}{half:Bool}{K:Option Int}
noncomputable def km(q u v:Int):Int:=if q=0 then u else v
theorem CK(hq:q=0\/q=1)(σ:Ya):Ta (CD u v) (.int q) σ=.ok (.int (km q u v)) σ:=by
 unfold CD km;rcases hq with rfl|rfl<;>simp
theorem bY(hq:q=0\/q=1)(k:1<=u)(l:1<=v){a:Int}(h:∀ σ,Ga [.ae ns,.int 4] σ=.ok (.int a) σ)(b c d e f g:D)(σ:Ya):u9 (Wd [.ae ns,b,.lst [.int q,.int r],c,d,CD u v,e,f,g] 20) σ=.ok (.nx (Wd [.ae ns,b,.lst [.int q,.int r],c,d,CD u v,e,f,g,.int (1+a % km (1 - q) u v)] 20)) σ:=by
 have i:=λσ=>CK (u:=u) (v:=v) (q:=1 - q) (by omega) σ;have j:∀ σ,io (.int a) (.int (km (1 - q) u v)) σ=.ok (.int (a % km (1 - q) u v)) σ:=λσ=>MI _ _ (by unfold km;split<;>omega);unfold u9;generalize CD u v=C at *;generalize km (1 - q) u v=O at *;simp[Wd,h,i,j]
theorem MZ{s c:Sn}{x:Ac}{a:Int}(r:A1 half q c (put c q a w dy) x)(hc:c.x=none)(e f g h k m n o p d:D)(σ:Ya):pG (Wd [.ae ns,e,f,g,h,k,m,n,o,p,d,x.D] 20) σ=.ok (.nx (Wd [.ae ns,e,f,g,h,k,m,n,o,p,d,x.D,.bl (!half)] 20)) σ:=by
 have B:=λσ=>NC r.ok σ;have ne:∀ (s:Sn) σ,Hi (.tup ((tf s.x).map Ti.D)) (.tup []) σ=.ok (.bl s.x.isSome) σ:=λs σ=>by
  cases s.x with
  |none=>exact cA (b:=true) (by simp[tf,jj,kd,Dn,wn])
  |some t=>exact cA (b:=false) (by simp[tf,jj,kd,Dn,wn])
 have l:=Lv (src:=qj (Wc (yc [4,5,6,7] "may") (ia 11))) (ρ:=Wd [.ae ns,e,f,g,h,k,m,n,o,p,d,x.D] 20) (σ:=σ) (s:=.seq (x.y.map Sn.D)) (ix:=[]) (xs:=x.y) (fe:=Fa Hi (Fa Ta (ia 0) (eC (.int 2))) (Zf Oa)) Sn.D (λs=>.bl s.x.isSome) (by
  generalize x.D=u at *;generalize x.y.map Sn.D=v at *;simp[Wd,B]) (λi _=>rc some (Tt x.y _ i)) (by have:=r.ok.y.le;omega) (λs _ j=>by
  have A:=s2 s (σ++j);have C:=ne s (σ++j);generalize D.tup ((tf s.x).map Ti.D)=TT at *;generalize s.D=E at *;simp[A,C]) (λ_ _=>rfl)
 have z:∀ σ,Hx [.lst (x.y.map λs=>.bl s.x.isSome)] σ=.ok (.bl (!half)) σ:=λσ=>by
  rw[MK,r.hy];cases half<;>simp[hc,put]
 unfold pG;generalize (x.y.map λs=>D.bl s.x.isSome)=v at *;generalize x.D=u at *;simp only[Wd]at l ⊢;simp[l,z,-Kt]
theorem VY{c s:Sn}{x:Ac}(p:A1 half q c s x)(hq:q=0\/q=1)(f g h j l m n d:D)(σ:Ya):FH (Wd [.ae ns,f,.lst [.int q,.int r],g,.bl half,h,j,l,m,n,d,x.D,.bl (!half)] 20) σ=.ok (.nx (Wd [.ae ns,f,.lst [.int q,.int r],g,.bl half,h,j,l,m,n,d,x.D,.bl (!half)] 20)) σ:=by
 have e:∀ b σ,Hi (.bl b) (.bl b) σ=.ok (.bl false) σ:=λb σ=>Ms (by simp[pl]);have a:∀ k σ,Hi (.str k) (.str k) σ=.ok (.bl false) σ:=λk σ=>Ms (by simp[pl]);have w:∀ x σ,jb [x] σ=.ok (.str "calm") σ:=λx σ=>by unfold jb oA;simp
 have y:∀ x σ,Bb [x] σ=.ok (.str "offered") σ:=λx σ=>by unfold Bb nO;simp
 have z:∀ x σ,Cb [x] σ=.ok (.str "waiting") σ:=λx σ=>by unfold Cb iQ;simp
 have i:=λσ=>Zu p.ok σ;have hc:=p.hc;unfold FH;cases half with
 |false=>
  have t:∀ fs σ,mm [(5,jb),(6,Bb),(7,Cb)] 1 "word" fs x.D σ=(fs σ).bind (Zj 1 jb x.D):=λfs σ=>ao (i σ) (by rw[hc];rfl) rfl;generalize x.D=o at *;simp[Wd,t,w,e,a]
 |true=>
  rcases hq with rfl|rfl
  ·have u:∀ fs σ,mm [(5,jb),(6,Bb),(7,Cb)] 1 "word" fs x.D σ=(fs σ).bind (Zj 1 Bb x.D):=λfs σ=>ao (i σ) (by rw[hc];rfl) rfl;generalize x.D=o at *;simp[Wd,u,y,e,a]
  ·have v:∀ fs σ,mm [(5,jb),(6,Bb),(7,Cb)] 1 "word" fs x.D σ=(fs σ).bind (Zj 1 Cb x.D):=λfs σ=>ao (i σ) (by rw[hc];rfl) rfl;generalize x.D=o at *;simp[Wd,v,z,e,a]
theorem F3(p:1<=am){a:Int}(e:∀ σ,Ga [.ae ns,.int 6] σ=.ok (.int a) σ)(g h i j k l n o b c d:D):∃ be,1<=be/\∀ σ,RG (Wd [.ae ns,g,h,i,j,k,l,n,o,.int am,b,c,d] 20) σ=.ok (.nx (Wd [.ae ns,g,h,i,j,k,l,n,o,.int am,b,c,d,.int be] 20)) σ:=by
 have h4:a % 4=0\/a % 4=1\/a % 4=2\/a % 4=3:=by omega
 have f:∀ σ,io (.int a) (.int 4) σ=.ok (.int (a % 4)) σ:=λσ=>MI _ _ (by omega);unfold RG;generalize a % 4=m at *;rcases h4 with rfl|rfl|rfl|rfl
 ·exact⟨am,p,λσ=>by simp[Wd,e,f]⟩
 ·exact⟨am+1,by omega,λσ=>by simp[Wd,e,f]⟩
 ·exact⟨1+am / 2,by omega,λσ=>by simp[Wd,e,f]⟩
 ·exact⟨1,by omega,λσ=>by simp[Wd,e,f]⟩
theorem AS(p:0<=w/\w<=59){a:Int}(o:∀ σ,Ga [.ae ns,.int 6] σ=.ok (.int a) σ)(f g i j k l m n b c d e:D):∃ ot,(0<=ot/\ot<=59)/\∀ σ,mH (Wd [.ae ns,f,g,i,j,k,.int w,l,m,n,b,c,d,e,.int w] 20) σ=.ok (.nx (Wd [.ae ns,f,g,i,j,k,.int w,l,m,n,b,c,d,e,.int ot] 20)) σ:=by
 unfold mH;by_cases h:a / 4 % 5=1
 ·have hb:(a / 4 % 5 == 1)=true:=by simp[h]
  refine⟨(w+1+a / 20 % 59) % 60,by omega,λσ=>?_⟩;simp[Wd,o,hb]
 ·have hb:(a / 4 % 5 == 1)=false:=by simp[h]
  exact⟨w,p,λσ=>by simp[Wd,o,hb]⟩
theorem eW(hd:0<=dy/\dy<=69)(t:1<=e/\e<=9){a:Int}(r:∀ σ,Ga [.ae ns,.int 7] σ=.ok (.int a) σ)(h i j l n o p q b c d f:D):∃ un,(0<=un/\un<=1000000)/\∀ σ,PH (Wd [.ae ns,h,i,.int e,j,l,n,o,p,q,.int dy,b,c,d,f] 20) σ=.ok (.nx (Wd [.ae ns,h,i,.int e,j,l,n,o,p,q,.int dy,b,c,d,f,.int un] 20)) σ:=by
 have s:∀ σ,io (.int a) (.int 8) σ=.ok (.int (a % 8)) σ:=λσ=>MI _ _ (by omega);have g:∀ m:Int,0<=m/\m<8->∃ k:Int,(-70<=k/\k<=9)/\∀ σ,Ta (.lst [.int (-2),.int (-1),.int 0,.int 1,.int 2,.int (-9),.int 9,.int (-70)]) (.int m) σ=.ok (.int k) σ:=λm hm=>by
  have:m=((0:Nat):Int)\/m=((1:Nat):Int)\/m=((2:Nat):Int)\/m=((3:Nat):Int)\/m=((4:Nat):Int)\/m=((5:Nat):Int)\/m=((6:Nat):Int)\/m=((7:Nat):Int):=by omega
  rcases this with rfl|rfl|rfl|rfl|rfl|rfl|rfl|rfl<;>refine⟨_,?_,λσ=>Qx (Dq rfl)⟩<;>omega
 obtain⟨k,u,g⟩:=g (a % 8) (by omega);refine⟨max 0 (dy - e+k),by omega,λσ=>?_⟩;unfold PH;generalize a % 8=m at *;simp[Wd,r,s,g]
end
section
variable{ns:List Int}{e u v w am dy be ot un q r:Int}{half:Bool}{K:Option Int}
theorem Q3(d f g h i a b:D)(σ:Ya):ZI (Wd [.ae ns,d,f,.int e,g,h,.int w,.lst (Gg K),i,.int am,.int dy,a,.bl (!half),.int be,.int ot,.int un,b,.bl (un == 0)] 20) σ=.ok (.nx (Wd [.ae ns,d,f,.int e,g,h,.int w,.lst (Gg K),i,.int am,.int dy,a,.bl (!half),.int be,.int ot,.int un,b,.bl ((un == 0) || (!half && (K.isNone && ((ot == w) && (decide (be<=am) && decide (dy > un - 1+e))))))] 20)) σ:=by
 have c:∀ σ,oEq (.lst (Gg K)) (.lst []) σ=.ok (.bl K.isNone) σ:=λσ=>WF (by cases K<;>simp[Gg,jj,kd,Dn,wn]);unfold ZI;generalize D.lst (Gg K)=KD at *;generalize K.isNone=j at *;generalize (un == 0)=l at *;cases half
 ·cases j
  ·simp[Wd,c]
  ·cases h3:(ot == w)
   ·simp[Wd,c,h3]
   ·cases h4:decide (be<=am)
    ·simp[Wd,c,h3,h4]
    ·cases k:decide (dy > un - 1+e)<;>simp[Wd,c,h3,h4,k]
 ·simp[Wd]
theorem IT(p:r=0\/r=1)(g j k l m n o a b c d e f:D)(B:Bool)(σ:Ya):QF (Wd [.ae ns,g,.lst [.int q,.int r],j,k,CD u v,l,m,n,o,a,b,c,.int be,d,e,f,.bl B] 20) σ=.ok (.nx (Wd [.ae ns,g,.lst [.int q,.int r],j,k,CD u v,l,m,n,o,a,b,c,.int be,d,e,f,.bl (if decide (be > km r u v)then false else B)] 20)) σ:=by
 have i:=λσ=>CK (u:=u) (v:=v) p σ;unfold QF;generalize CD u v=C at *;cases h:decide (be > km r u v)<;>simp[Wd,i,h]
theorem A3:(if decide (be > km r u v)then false else ((un == 0) || (!half && (K.isNone && ((ot == w) && (decide (be<=am) && decide (dy > un - 1+e)))))))=decide (uv half e K r am w dy be ot un (cS u v)):=by
 have g:ow r (cS u v)=km r u v:=rfl;by_cases h1:be<=km r u v
 ·rw[xb (show ¬ be > km r u v by omega),ga (by simp)];apply aw.mpr;rw[wo];simp only[Tg,Ba,Wf,wo,wu,Tn];constructor
  ·rintro (h|⟨a,b,c,d,f⟩)
   ·exact⟨h1,.inl h⟩
   ·exact⟨h1,.inr ⟨a,b,c,d,f⟩⟩
  ·rintro ⟨_,h|⟨a,b,c,d,f⟩⟩
   ·exact .inl h
   ·exact .inr ⟨a,b,c,d,f⟩
 ·rw[jd (show be > km r u v by omega),da rfl,xb];intro z;exact h1 z.1
end
theorem Dt(ns:List Int)(d7:ns.length<=63):∃ σ,fo [.ae ns] []=.ok (.bl true) σ:=by
 have c:=λ(k:Nat) (σ:Ya)=>oR ns k (by omega) σ;have c0:∀ σ,Ga [.ae ns,.int 0] σ=.ok (.int (lp ns 0)) σ:=c 0;have c1:∀ σ,Ga [.ae ns,.int 1] σ=.ok (.int (lp ns 1)) σ:=c 1;have c2:∀ σ,Ga [.ae ns,.int 2] σ=.ok (.int (lp ns 2)) σ:=c 2;have c3:∀ σ,Ga [.ae ns,.int 3] σ=.ok (.int (lp ns 3)) σ:=c 3;have c4:∀ σ,Ga [.ae ns,.int 4] σ=.ok (.int (lp ns 4)) σ:=c 4;have c5:∀ σ,Ga [.ae ns,.int 5] σ=.ok (.int (lp ns 5)) σ:=c 5;have c6:∀ σ,Ga [.ae ns,.int 6] σ=.ok (.int (lp ns 6)) σ:=c 6;have c7:∀ σ,Ga [.ae ns,.int 7] σ=.ok (.int (lp ns 7)) σ:=c 7;have pw:∀ σ,zv (.int 10) (.int 12) σ=.ok (.int 1000000000000) σ:=λσ=>eA (by simp[Lw]);generalize lp ns 0=U at *;generalize lp ns 1=C1 at *;generalize lp ns 2=C2 at *;generalize lp ns 3=C3 at *;generalize lp ns 4=C4 at *;generalize lp ns 5=C5 at *;generalize lp ns 6=C6 at *;generalize lp ns 7=C7 at *;clear c;obtain⟨q,eq⟩:∃ q,q=U % 2:=⟨_,rfl⟩
 obtain⟨r,er⟩:∃ r,r=U / 2 % 2:=⟨_,rfl⟩
 obtain⟨e,ee⟩:∃ e,e=1+U / 4 % 9:=⟨_,rfl⟩
 obtain⟨half,eh⟩:∃ h,h=(U / 36 % 4 == 1):=⟨_,rfl⟩
 obtain⟨u,eu⟩:∃ u,u=1+C1 % 1000000000000:=⟨_,rfl⟩
 obtain⟨v,ev⟩:∃ v,v=1+C2 % 1000000000000:=⟨_,rfl⟩
 obtain⟨w,ew⟩:∃ w,w=C3 % 60:=⟨_,rfl⟩
 obtain⟨dy,ed⟩:∃ d,d=C5 % 70:=⟨_,rfl⟩
 have hq:q=0\/q=1:=by omega
 have hr:r=0\/r=1:=by omega
 have he:1<=e/\e<=9:=by omega
 have hu:1<=u/\u<=1000000000000:=by omega
 have hv:1<=v/\v<=1000000000000:=by omega
 have hw:0<=w/\w<=59:=by omega
 have hd:0<=dy/\dy<=69:=by omega
 obtain⟨K,hK,s7⟩:∃ K:Option Int,(K=none\/K=some w)/\∀ (j i l B:D) σ,u7 (Wd [.ae ns,.int U,j,i,l,B,.int w] 20) σ=.ok (.nx (Wd [.ae ns,.int U,j,i,l,B,.int w,.lst (Gg K)] 20)) σ:=by
  unfold u7;cases hb:(U / 144 % 5 == 1)
  ·exact⟨none,.inl rfl,λj i l B σ=>by simp[Wd,hb,Gg]⟩
  ·exact⟨some w,.inr rfl,λj i l B σ=>by simp[Wd,hb,Gg]⟩
 have s1:u1 (Wd [.ae ns] 20) []=.ok (.nx (Wd [.ae ns,.int U] 20)) []:=by unfold u1;simp[Wd,c0]
 have s2:u2 (Wd [.ae ns,.int U] 20) []=.ok (.nx (Wd [.ae ns,.int U,.lst [.int q,.int r]] 20)) []:=by unfold u2;rw[eq,er];simp[Wd]
 have s3:∀ j,u3 (Wd [.ae ns,.int U,j] 20) []=.ok (.nx (Wd [.ae ns,.int U,j,.int e] 20)) []:=λj=>by unfold u3;rw[ee];simp[Wd]
 have s4:∀ j i,u4 (Wd [.ae ns,.int U,j,i] 20) []=.ok (.nx (Wd [.ae ns,.int U,j,i,.bl half] 20)) []:=λj i=>by unfold u4;rw[eh];simp[Wd]
 have s5:∀ n j i l,u5 (Wd [.ae ns,n,j,i,l] 20) []=.ok (.nx (Wd [.ae ns,n,j,i,l,CD u v] 20)) []:=λn j i l=>by unfold u5 CD;rw[eu,ev];simp[Wd,c1,c2,pw]
 have s6:∀ n j i l B,u6 (Wd [.ae ns,n,j,i,l,B] 20) []=.ok (.nx (Wd [.ae ns,n,j,i,l,B,.int w] 20)) []:=λn j i l B=>by unfold u6;rw[ew];simp[Wd,c3]
 have mk:=AU (u:=u) (v:=v) (by omega) (by omega) he K hq hr;have s8:∀ n l H,u8 (Wd [.ae ns,n,.lst [.int q,.int r],.int e,l,CD u v,H,.lst (Gg K)] 20) []=.ok (.nx (Wd [.ae ns,n,.lst [.int q,.int r],.int e,l,CD u v,H,.lst (Gg K),.ref 0] 20)) (SA e 0 K (calm 0 q (cS u v) .zb []) (calm 1 r (cS u v) .zb []) [] []):=λn l H=>by
  have po:=λσ=>CW (u:=u) (v:=v) hq hr σ;unfold u8;generalize SA e 0 K (calm 0 q (cS u v) .zb []) (calm 1 r (cS u v) .zb []) [] []=Y at *;generalize CD u v=C at *;generalize D.lst (Gg K)=KD at *;generalize D.lst [wd 0 q u v,wd 1 r u v]=P at *;simp[Wd,po,mk]
 obtain⟨am,ea⟩:∃ a,a=1+C4 % km (1 - q) u v:=⟨_,rfl⟩
 have hO:1<=km (1 - q) u v:=by unfold km;split<;>omega
 have ha:1<=am/\am<=km (1 - q) u v:=by
  have:=Int.emod_nonneg C4 (b:=km (1 - q) u v) (by omega);have:=Int.emod_lt_of_pos C4 (b:=km (1 - q) u v) (by omega);omega
 have s9:=λn i l H F X σ=>bY (r:=r) hq hu.1 hv.1 c4 n i l H F X σ;rw[<-ea]at s9;have a9:∀ n j i l B H F X I σ,bI (Wd [.ae ns,n,j,i,l,B,H,F,X,I] 20) σ=.ok (.nx (Wd [.ae ns,n,j,i,l,B,H,F,X,I,.int dy] 20)) σ:=λn j i l B H F X I σ=>by unfold bI;rw[ed];simp[Wd,c5]
 have a4:(cS u v).Ok (u+v):=⟨⟨by show (0:Int)<=0/\(0:Int)<=_;omega,by show 0<=u/\u<=_;omega,by show 0<=v/\v<=_;omega,by simp[cS,tf],by simp[cS,tf]⟩,by show u+v+sq (tf none)=u+v;simp[tf,sq]⟩
 have a8:(put (cS u v) q am w dy).Ok (u+v):=by
  have h2:=ha.2;refine⟨⟨by show (0:Int)<=0+1/\(0:Int)+1<=_;omega,?_,?_,λt ht=>?_,by simp[put,tf]⟩,?_⟩
  ·rcases hq with rfl|rfl
   ·show 0<=u/\u<=_;omega
   ·have:km (1 - 1) u v=u:=rfl;show 0<=u - am/\u - am<=_;omega
  ·rcases hq with rfl|rfl
   ·have:km (1 - 0) u v=v:=rfl;show 0<=v - am/\v - am<=_;omega
   ·show 0<=v/\v<=_;omega
  ·have:t=⟨1 - q,am,w,dy⟩:=by simpa [put,tf]using ht
   have hm:km (1 - q) u v<=1000000000000:=by unfold km;split<;>omega
   rw[this];exact⟨by show 1 - q=0\/1 - q=1;omega,by show 1<=am/\am<=_;omega,hw,by show 0<=dy/\dy<=_;omega⟩
  ·rcases hq with rfl|rfl
   ·show u+(v - am)+sq [⟨1 - 0,am,w,dy⟩]=u+v;simp[sq];omega
   ·show u - am+v+sq [⟨1 - 1,am,w,dy⟩]=u+v;simp[sq];omega
 have a3:=To (p:=1) (.inr rfl) hr (cS u v) (G:=.zb) (L:=[]) rfl rfl;obtain⟨x,N,hx,pu⟩:=LV (e:=e) (K:=K) (J:=[]) (q:=q) (r:=r) (a:=am) (w:=w) (d:=dy) (v:=1) (z:=0) (y:=0) (c:=cS u v) ⟨he.1,hq,hr,rfl,ha.1,by omega,hK,hd.1,by omega⟩ a4 rfl a8 a3 rfl rfl rfl half;have v1:=Io e 0 K (AA x (calm 1 r (cS u v) .zb [])) [] N;have b0:∀ n i F,wI (Wd [.ae ns,n,.lst [.int q,.int r],i,.bl half,CD u v,.int w,F,.ref 0,.int am,.int dy] 20) (SA e 0 K (calm 0 q (cS u v) .zb []) (calm 1 r (cS u v) .zb []) [] [])=.ok (.nx (Wd [.ae ns,n,.lst [.int q,.int r],i,.bl half,CD u v,.int w,F,.ref 0,.int am,.int dy] 20)) (SA e 0 K x (calm 1 r (cS u v) .zb []) [] N):=λn i F=>by
  have te:D.tup [.int (1 - q),.int am,.int w,.int dy]=(⟨1 - q,am,w,dy⟩:Ti).D:=rfl;have pu:Ve [.ref 0,.int q,CD u v,(⟨1 - q,am,w,dy⟩:Ti).D,.bl half] _=_:=pu;unfold wI;generalize SA e 0 K (calm 0 q (cS u v) .zb []) (calm 1 r (cS u v) .zb []) [] []=Y at *;generalize SA e 0 K x (calm 1 r (cS u v) .zb []) [] N=Y2 at *;generalize CD u v=C at *;generalize (⟨1 - q,am,w,dy⟩:Ti).D=TD at *;simp[Wd,te,pu]
 have b5:∀ n j i l B H F I f,KH (Wd [.ae ns,n,j,i,l,B,H,F,.ref 0,I,f] 20) (SA e 0 K x (calm 1 r (cS u v) .zb []) [] N)=.ok (.nx (Wd [.ae ns,n,j,i,l,B,H,F,.ref 0,I,f,x.D] 20)) (SA e 0 K x (calm 1 r (cS u v) .zb []) [] N):=λn j i l B H F I f=>by
  have ac:=HZ (e:=e) (g:=0) (K:=K) (a:=x) (b:=calm 1 r (cS u v) .zb []) (Q:=[]) (J:=N) hx.ok;have ma:=λfs=>Uk v1 (m:="account") 2 Nc fs rfl;unfold KH;unfold SA at *;generalize S e 0 K (AA x (calm 1 r (cS u v) .zb [])) [] N=Y at *;generalize x.D=XD at *;simp[Wd,ac,ma]
 have b6:=MZ (ns:=ns) (s:=cS u v) hx rfl;have b7:=VY (ns:=ns) (r:=r) hx hq;obtain⟨be,a6,b8⟩:=F3 (ns:=ns) ha.1 c6 (.int U) (.lst [.int q,.int r]) (.int e) (.bl half) (CD u v) (.int w) (.lst (Gg K)) (.ref 0) (.int dy) x.D (.bl (!half));obtain⟨ot,a7,c8⟩:=AS (ns:=ns) hw c6 (.int U) (.lst [.int q,.int r]) (.int e) (.bl half) (CD u v) (.lst (Gg K)) (.ref 0) (.int am) (.int dy) x.D (.bl (!half)) (.int be);obtain⟨un,a5,c9⟩:=eW (ns:=ns) hd he c7 (.int U) (.lst [.int q,.int r]) (.bl half) (CD u v) (.int w) (.lst (Gg K)) (.ref 0) (.int am) x.D (.bl (!half)) (.int be) (.int ot);have b9:∀ n j i l B F X I f o A E σ,EG (Wd [.ae ns,n,j,i,l,B,.int w,F,X,I,f,o,A,E] 20) σ=.ok (.nx (Wd [.ae ns,n,j,i,l,B,.int w,F,X,I,f,o,A,E,.int w] 20)) σ:=λn j i l B F X I f o A E σ=>by unfold EG;simp[Wd]
 have kw:∀ (b:Ac) (Q:Kv),b.Ok->b.p=1->Qb [.ref 0] (SA e 0 K x b Q N)=.ok (.int (W e K x b)) (SA e 0 K x b Q N):=λb Q h1 h2=>lN hx.ok h1 hx.hp h2;have d0:∀ n j i l B H F I f o A E M R,dI (Wd [.ae ns,n,j,i,l,B,H,F,.ref 0,I,f,o,A,E,M,R] 20) (SA e 0 K x (calm 1 r (cS u v) .zb []) [] N)=.ok (.nx (Wd [.ae ns,n,j,i,l,B,H,F,.ref 0,I,f,o,A,E,M,R,.int (W e K x (calm 1 r (cS u v) .zb []))] 20)) (SA e 0 K x (calm 1 r (cS u v) .zb []) [] N):=λn j i l B H F I f o A E M R=>by
  have k:=kw _ [] a3 rfl;have gi:=cQ (e:=e) (g:=0) (K:=K) (a:=x) (b:=calm 1 r (cS u v) .zb []) (Q:=[]) (J:=N);have m1:=λfs=>Uk v1 (m:="worth") 1 Qb fs rfl;have m2:=λfs=>Uk v1 (m:="given") 1 wc fs rfl;unfold dI;unfold SA at *;generalize S e 0 K (AA x (calm 1 r (cS u v) .zb [])) [] N=Y at *;generalize W e K x (calm 1 r (cS u v) .zb [])=WW at *;simp[Wd,k,gi,m1,m2]
 have d1:∀ n j i l B H F X I f o A E M O σ,OF (Wd [.ae ns,n,j,i,l,B,H,F,X,I,f,o,A,E,M,.int un,O] 20) σ=.ok (.nx (Wd [.ae ns,n,j,i,l,B,H,F,X,I,f,o,A,E,M,.int un,O,.bl (un == 0)] 20)) σ:=λn j i l B H F X I f o A E M O σ=>by unfold OF;simp[Wd]
 have d2:=Q3 (ns:=ns) (e:=e) (w:=w) (am:=am) (dy:=dy) (be:=be) (ot:=ot) (un:=un) (half:=half) (K:=K);have d3:=IT (ns:=ns) (u:=u) (v:=v) (be:=be) (q:=q) hr;obtain⟨Q,Z,Ls,wi,b1,b2,b3,b4⟩:=K2 (e:=e) (K:=K) (J:=N) (half:=half) (q:=q) (r:=r) (am:=am) (w:=w) (dy:=dy) (be:=be) (ot:=ot) (un:=un) (c:=cS u v) (T:=u+v) ⟨he.1,hq,hr,rfl,ha.1,a6,hK,hd.1,a5.1⟩ a4 rfl a7 a5.2 (by show 0<=u/\u<=_;omega) (by show 0<=v/\v<=_;omega) hx;have v2:=Io e 0 K (AA x Z) Q N;obtain⟨V,a2⟩:∃ V,V=decide (uv half e K r am w dy be ot un (cS u v)):=⟨_,rfl⟩
 have b4:Ls.length=if V=true then 1 else 0:=by rw[a2,b4];by_cases hz:uv half e K r am w dy be ot un (cS u v)<;>simp[hz]
 rw[<-a2]at wi;have d4:∀ n j i l B H F I f o A O a0,tG (Wd [.ae ns,n,j,i,l,B,H,F,.ref 0,I,f,o,A,.int be,.int ot,.int un,O,a0] 20) (SA e 0 K x (calm 1 r (cS u v) .zb []) [] N)=.ok (.nx (Wd [.ae ns,n,j,i,l,B,H,F,.ref 0,I,f,o,A,.int be,.int ot,.int un,O,a0,.bl V,.lst Ls] 20)) (SA e 0 K x Z Q N):=λn j i l B H F I f o A O a0=>by
  have t5:∀ σ,Cv [.str "pass",.int 1,.int be,.int ot,.int un] σ=.ok (kj be ot un) σ:=λσ=>rfl;have m1:=λfs=>Uk v1 (m:="wish") 2 Gc fs rfl;have ak:∀ (ρ:Ev) σ,wE (zq 2 (uk (Ye 18) (uk (Ye 19) Xq))) ρ (.tup [.bl V,.lst Ls]) σ=.ok (.nx ((ρ.set 18 (some (.bl V))).set 19 (some (.lst Ls)))) σ:=λρ σ=>rfl;unfold tG;unfold SA at *;generalize S e 0 K (AA x (calm 1 r (cS u v) .zb [])) [] N=Y at *;generalize S e 0 K (AA x Z) Q N=Y2 at *;generalize kj be ot un=WS at *;simp[Wd,t5,m1,wi,ak]
 have gi:=cQ (e:=e) (g:=0) (K:=K) (a:=x) (b:=Z) (Q:=Q) (J:=N);have m2:=λfs=>Uk v2 (m:="given") 1 wc fs rfl;have d5:∀ n j i l B H F I f o A E M R O a1,dG (Wd [.ae ns,n,j,i,l,B,H,F,.ref 0,I,f,o,A,E,M,R,O,.bl V,.bl V,a1] 20) (SA e 0 K x Z Q N)=.ok (.nx (Wd [.ae ns,n,j,i,l,B,H,F,.ref 0,I,f,o,A,E,M,R,O,.bl V,.bl V,a1] 20)) (SA e 0 K x Z Q N):=λn j i l B H F I f o A E M R O a1=>by
  have nb:∀ σ,Hi (.bl V) (.bl V) σ=.ok (.bl false) σ:=λσ=>Ms (by simp[pl]);have n0:∀ σ,Hi (.int 0) (.int 0) σ=.ok (.bl false) σ:=λσ=>Ms (by simp[pl]);have ib:∀ σ,Jn .bool (.bl V) σ=.ok (.bl true) σ:=λσ=>nr rfl;unfold dG;unfold SA at *;generalize S e 0 K (AA x Z) Q N=Y2 at *;simp[Wd,nb,n0,ib,gi,m2]
 have d6:∀ n j i l B H F I f o A E M R,GI (Wd [.ae ns,n,j,i,l,B,H,F,.ref 0,I,f,o,A,E,M,R,.int (W e K x (calm 1 r (cS u v) .zb [])),.bl V,.bl V,.lst Ls] 20) (SA e 0 K x Z Q N)=.ok (.rt (.bl true)) (SA e 0 K x Z Q N):=λn j i l B H F I f o A E M R=>by
  have k:=kw Z Q b1 b2;rw[b3]at k;have m1:=λfs=>Uk v2 (m:="worth") 1 Qb fs rfl;have ln:∀ σ,qk [.lst Ls] σ=.ok (.int (Ls.length:Int)) σ:=λσ=>by simp
  have i1:=λσ=>AW V σ;rw[b4]at ln;unfold GI;unfold SA at *;generalize S e 0 K (AA x Z) Q N=Y2 at *;generalize W e K x (calm 1 r (cS u v) .zb [])=WW at *;generalize D.lst Ls=LS at *;cases V<;>simp[Wd,k,gi,m1,m2,ln,i1]
 have de:=A3 (e:=e) (u:=u) (v:=v) (w:=w) (am:=am) (dy:=dy) (be:=be) (ot:=ot) (un:=un) (r:=r) (half:=half) (K:=K);rw[<-a2]at de;refine⟨SA e 0 K x Z Q N,?_⟩;unfold fo zP;rw[HH];show Hu (Nb u1 _ (Wd [.ae ns] 20) [])=_;rw[ri,s1,Oe,si,ri,s2,Oe,si,ri,s3,Oe,si,ri,s4,Oe,si,ri,s5,Oe,si,ri,s6,Oe,si,ri,s7,Oe,si,ri,s8,Oe,si,ri,s9,Oe,si,ri,a9,Oe,si,ri,b0,Oe,si,ri,b5,Oe,si,ri,b6,Oe,si,ri,b7,Oe,si,ri,b8,Oe,si,ri,b9,Oe,si,ri,c8,Oe,si,ri,c9,Oe,si,ri,d0,Oe,si,ri,d1,Oe,si,ri,d2,Oe,si,ri,d3,Oe,si,de,ri,d4,Oe,si,ri,d5,Oe,si,d6,WX]
end K46
open PySem PySem.W PyProof.Rows
set_option maxRecDepth 100000 in
set_option maxHeartbeats 0 in
theorem PySem.Challenge.cw_sidebook_k46_amid_a_payment_holds : PySem.Challenge.rw_sidebook_k46_amid_a_payment.Holds := by
 w_on;refine hd ?_
 k_fill
 refine L4.iV (l:=PySem.Challenge.rw_sidebook_k46_amid_a_payment) (k:=15) (x:="_law_script") (fn:=K46.fo) ["least_fate", "paper"] rfl rfl ⟨rfl,by decide,by decide⟩ (λw h Y=>km_in_of Y) ?hK ?hrec ?F K46.Dt;case hK=>intro w;kernel_rfl
 case hrec=>kernel_rfl
 case F=>
  intro w mg h KX G TT
  refine' (have q0:nsIn (L2.Mh KX) mainGlobals "NoStand" = some (some (.ref ?C1)):=?p0;have q3:nsIn (L2.Mh KX) mainGlobals "Account" = some (some (.ref ?C4)):=?p3;have q4:nsIn (L2.Mh KX) mainGlobals "Calm" = some (some (.ref ?C5)):=?p4;have q5:nsIn (L2.Mh KX) mainGlobals "Offered" = some (some (.ref ?C6)):=?p5;have q6:nsIn (L2.Mh KX) mainGlobals "Waiting" = some (some (.ref ?C7)):=?p6;have q7:nsIn (L2.Mh KX) mainGlobals "View" = some (some (.ref ?C8)):=?p7;have q8:nsIn (L2.Mh KX) mainGlobals "Keeper" = some (some (.ref ?C9)):=?p8;have q9:findIn (L2.Mh KX) (.ref ?C9) "learn" = some (some (.ref ?C22)):=?p9;have q11:findIn (L2.Mh KX) (.ref ?C9) "hold" = some (some (.ref ?C21)):=?p11;have q13:findIn (L2.Mh KX) (.ref ?C4) "__init__" = some (some (.ref ?C10)):=?p13;?_);(case p0|p3|p4|p5|p6|p7|p8|p9|p11|p13=>dsimp only[L2.Mh];first|k_is|k_exc|rfl)
  refine' (have q15:findIn (L2.Mh KX) (.ref ?C9) "__init__" = some (some (.ref ?C20)):=?p15;have q17:findIn (L2.Mh KX) (.ref ?C9) "holds" = some (some (.ref ?C32)):=?p17;have q19:findIn (L2.Mh KX) (.ref ?C5) "word" = some (some (.ref ?C13)):=?p19;have q21:findIn (L2.Mh KX) (.ref ?C6) "word" = some (some (.ref ?C15)):=?p21;have q23:findIn (L2.Mh KX) (.ref ?C7) "word" = some (some (.ref ?C17)):=?p23;have q25:findIn (L2.Mh KX) (.ref ?C4) "agree_of" = some (some (.ref ?C11)):=?p25;have q27:findIn (L2.Mh KX) (.ref ?C8) "__init__" = some (some (.ref ?C19)):=?p27;have q29:findIn (L2.Mh KX) (.ref ?C9) "words" = some (some (.ref ?C23)):=?p29;have q31:findIn (L2.Mh KX) (.ref ?C9) "view_by" = some (some (.ref ?C27)):=?p31;have q33:findIn (L2.Mh KX) (.ref ?C9) "view" = some (some (.ref ?C28)):=?p33;?_);(case p15|p17|p19|p21|p23|p25|p27|p29|p31|p33=>dsimp only[L2.Mh];first|k_is|k_exc|rfl)
  refine' (have q35:findIn (L2.Mh KX) (.ref ?C9) "worth" = some (some (.ref ?C29)):=?p35;have q37:findIn (L2.Mh KX) (.ref ?C9) "is_good" = some (some (.ref ?C31)):=?p37;have q39:findIn (L2.Mh KX) (.ref ?C9) "take_ask" = some (some (.ref ?C36)):=?p39;have q41:findIn (L2.Mh KX) (.ref ?C4) "strike_of" = some (some (.ref ?C12)):=?p41;have q43:findIn (L2.Mh KX) (.ref ?C5) "taken" = some (some (.ref ?C14)):=?p43;have q45:findIn (L2.Mh KX) (.ref ?C6) "taken" = some (some (.ref ?C16)):=?p45;have q47:findIn (L2.Mh KX) (.ref ?C7) "taken" = some (some (.ref ?C18)):=?p47;have q49:findIn (L2.Mh KX) (.ref ?C9) "is_as_asked" = some (some (.ref ?C37)):=?p49;have q51:findIn (L2.Mh KX) (.ref ?C9) "take_step" = some (some (.ref ?C38)):=?p51;have q53:findIn (L2.Mh KX) (.ref ?C9) "take" = some (some (.ref ?C35)):=?p53;?_);(case p35|p37|p39|p41|p43|p45|p47|p49|p51|p53=>dsimp only[L2.Mh];first|k_is|k_exc|rfl)
  refine' (have q55:findIn (L2.Mh KX) (.ref ?C9) "account" = some (some (.ref ?C26)):=?p55;have q57:findIn (L2.Mh KX) (.ref ?C9) "given" = some (some (.ref ?C25)):=?p57;have q59:findIn (L2.Mh KX) (.ref ?C9) "wish_for" = some (some (.ref ?C34)):=?p59;have q61:findIn (L2.Mh KX) (.ref ?C9) "wish" = some (some (.ref ?C33)):=?p61;?_);(case p55|p57|p59|p61=>dsimp only[L2.Mh];first|k_is|k_exc|rfl);refine⟨λn=>([0,?C1,0,0,?C4,?C5,?C6,?C7,?C8,?C9,?C10,?C11,?C12,?C13,?C14,?C15,?C16,?C17,?C18,?C19,?C20,?C21,?C22,?C23,0,?C25,?C26,?C27,?C28,?C29,0,?C31,?C32,?C33,?C34,?C35,?C36,?C37,?C38]:List Addr).getD n 0,(K46.tx (L2.Mh KX)).qm,K46.w1 _,K46.S2 ?_⟩;constructor;all_goals (try dsimp only[L2.Mh,List.getD_cons_succ,List.getD_cons_zero]);all_goals (first
   |(refine' L4.ZP KX G (λ_ _ _ _ _ _ us hl=>?z) ?a ?l ?c ?k;(case z=>first|exact(match us,hl with|[_],_=>rfl)|exact(match us,hl with|[_,_],_=>rfl)|exact(match us,hl with|[_,_,_],_=>rfl)|exact(match us,hl with|[_,_,_,_],_=>rfl)|exact(match us,hl with|[_,_,_,_,_],_=>rfl)|exact(match us,hl with|[_,_,_,_,_,_],_=>rfl)|exact(match us,hl with|[_,_,_,_,_,_,_],_=>rfl));(case a|l|c|k=>k_is))
   |(refine' L4.N0 (λ_ _ _ _ _ _ us hl=>?z) ?l ?c ?k;(case z=>first|exact(match us,hl with|[_],_=>rfl)|exact(match us,hl with|[_,_],_=>rfl)|exact(match us,hl with|[_,_,_],_=>rfl)|exact(match us,hl with|[_,_,_,_],_=>rfl)|exact(match us,hl with|[_,_,_,_,_],_=>rfl)|exact(match us,hl with|[_,_,_,_,_,_],_=>rfl)|exact(match us,hl with|[_,_,_,_,_,_,_],_=>rfl));(case l|c|k=>k_is))
   |(refine' L4.NV KX G K46.Z1 ?a ?l ?c ?k ?d;(case a|l|c|k|d=>k_is))
   |(refine' L4.y4 K46.tW ?l ?c ?d;(case l|c|d=>k_is))
   |(refine' L4.qW KX G ?a ?b;(case a=>k_is);(case b=>kernel_rfl))
   |(refine' L4.AV KX G ?a;(case a=>k_is))
   |(refine' mg_of KX G ?a;(case a=>k_is))
   |(refine' mg_none_of KX G ?a;(case a=>k_is))
   |(refine' ⟨⟨?a,?b,?c,?d⟩,?e,?f,?g,?h⟩;(case a|b|c|d|e|f|g|h=>k_is))
   |(refine' ⟨?a,?b,?c,?d⟩;(case a|b|c|d=>k_is))
   |(refine' ⟨?a,?b,?c⟩;(case a|b|c=>k_is))
   |(refine' ⟨?a,?b⟩;(case a|b=>k_is))
   |(refine' L4.l3 KX G (L4.ZP KX G (λ_ _ _ _ _ _ us hl=>?z) ?a ?l ?c ?k) TT ?d;(case z=>first|exact(match us,hl with|[_],_=>rfl)|exact(match us,hl with|[_,_],_=>rfl)|exact(match us,hl with|[_,_,_],_=>rfl)|exact(match us,hl with|[_,_,_,_],_=>rfl)|exact(match us,hl with|[_,_,_,_,_],_=>rfl)|exact(match us,hl with|[_,_,_,_,_,_],_=>rfl)|exact(match us,hl with|[_,_,_,_,_,_,_],_=>rfl));(case a|l|c|k=>k_is);(case d=>decide))
   |(refine' (mg_of KX G ?a).trans (mg_of KX G ?b).symm;(case a|b=>k_is))
   |exact TT
   |exact mg_of KX G TT.bm
   |(refine' L4.Y6 ?a;(case a=>kernel_rfl))
   |decide
   |k_is
   |k_exc
   |rfl)
