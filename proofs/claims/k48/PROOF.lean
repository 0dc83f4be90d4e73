import PyProof.Rows.All
import OpenK.KLine
import OpenK.KOwn
import KE.KNestM
import KE.KDictOf
import Wide.FinOn
import Lean
import PyProof.EqAt
import PyProof.EqKinds
import PyProof.TupleCall
import PyProof.NeKinds
import PyProof.NsDelKeeps
import KE.KTryMore
import PyProof.WalksMore
import PyProof.Rows.SetFrom
import KE.KEqDict
import PyProof.ToksMono
import PyProof.StrCalls6
import PyProof.StrBlock2
import PyProof.SliceStr2
import PyProof.StrLawsTight
import PyProof.InstStoreFacts
import PyProof.Rows.FStr
import PyProof.FactsAll.set
import KE.KDictLaws
import KE.KIntText
import PyProof.Rows.StrWeight2
import PyProof.StrWalks
import PyProof.StrBlockH
import PyProof.WalksEnum
import PyProof.ZipIter
import PyProof.EnumMake
import PyProof.FitsReplace
import PyProof.StrLawsIn
import PyProof.Rows.SortWalk
import PyProof.DictUpdate
import KE.KDictList
import KE.KDictSum
import KE.KPairComp
import PyProof.FactsAll.dict
import KE.KMinKey
import KE.KLam
import PyProof.DictWalks
import PyProof.DictValues
import PySem.Challenge.RW_sidebook_k48_asks
set_option Elab.async false
set_option linter.all false
set_option maxRecDepth 100000
def PySem.W.Fast.tw7896624385978510832:Nat:=0
def PySem.W.Fast.tw13749014976736668074:Nat:=0
def PySem.W.Fast.tw13505361881074083946:Nat:=0
def PySem.W.Fast.tw861502493610598483:Nat:=0
def PySem.W.Fast.tw18124581676290672360:Nat:=0
def PySem.W.Fast.tw329941283463616030:Nat:=0
def PySem.W.Fast.tw4338949390525040424:Nat:=0
def PySem.W.Fast.tw13406242734642179557:Nat:=0
def PySem.W.Fast.tw7774113678449685934:Nat:=0
def PySem.W.Fast.tw6675891640663977209:Nat:=0
def PySem.W.Fast.tw8549567097830819671:Nat:=0
def PySem.W.Fast.tw11736338228926984083:Nat:=0
def PySem.W.Fast.tw16008359073273489704:Nat:=0
def PySem.W.Fast.tw6871868339806680968:Nat:=0
def PySem.W.Fast.tw10784835557568832518:Nat:=0
def PySem.W.Fast.tw10619231889807973815:Nat:=0
def PySem.W.Fast.tw5486008376365147428:Nat:=0
def PySem.W.Fast.tw1968430746851473036:Nat:=0
def PySem.W.Fast.tw16060203290454839817:Nat:=0
def PySem.W.Fast.tw12550775161083096063:Nat:=0
def PySem.W.Fast.tw12717557048674177747:Nat:=0
def PySem.W.Fast.tw2576523973992343609:Nat:=0
def PySem.W.Fast.tw12894966596032860446:Nat:=0
def PySem.W.Fast.tw10903146660539688938:Nat:=0
def PySem.W.Fast.tw5872530126848033075:Nat:=0
def PySem.W.Fast.tw16899829786455025840:Nat:=0
def PySem.W.Fast.tw13160504802963445071:Nat:=0
def PySem.W.Fast.tw13606521132961772581:Nat:=0
def PySem.W.Fast.tw591959016527307005:Nat:=0
def PySem.W.Fast.tw977512076041815475:Nat:=0
def PySem.W.Fast.tw12147665669636231765:Nat:=0
def PySem.W.Fast.tw36298284907231195:Nat:=0
def PySem.W.Fast.tw12843764043397292189:Nat:=0
def PySem.W.Fast.tw13462424878891718212:Nat:=0
def PySem.W.Fast.tw11326235942716756430:Nat:=0
def PySem.W.Fast.tw4002271763688809667:Nat:=0
def PySem.W.Fast.tw1402340071739887797:Nat:=0
def PySem.W.Fast.tw4684226298888400098:Nat:=0
def PySem.W.Fast.tw15743010393045028110:Nat:=0
def PySem.W.Fast.tw4817042036850715440:Nat:=0
def PySem.W.Fast.tw15062127977220616739:Nat:=0
def PySem.W.Fast.tw11843415546741370313:Nat:=0
def PySem.W.Fast.tw13757698761724263525:Nat:=0
def PySem.W.Fast.tw8997383693586321770:Nat:=0
def PySem.W.Fast.tw17862349074038704544:Nat:=0
def PySem.W.Fast.tw10958628066121416707:Nat:=0
def PySem.W.Fast.tw2046362190076281809:Nat:=0
def PySem.W.Fast.tw10539347186207431242:Nat:=0
def PySem.W.Fast.tw3436067635600285980:Nat:=0
def PySem.W.Fast.tw17823556299335049440:Nat:=0
def PySem.W.Fast.tw8865387616306378214:Nat:=0
def PySem.W.Fast.tw6124413428159637790:Nat:=0
def PySem.W.Fast.tw16315454978102356719:Nat:=0
def PySem.W.Fast.tw15621116118777243554:Nat:=0
def PySem.W.Fast.tw8331849164307833061:Nat:=0
def PySem.W.Fast.tw6327569006664949090:Nat:=0
def PySem.W.Fast.tw2358075552688931204:Nat:=0
def PySem.W.Fast.tw7363655315013122544:Nat:=0
def PySem.W.Fast.tw9456574344343218679:Nat:=0
def PySem.W.Fast.tw17155049476370652306:Nat:=0
def PySem.W.Fast.tw17678831435119133177:Nat:=0
def PySem.W.Fast.tw13032259773685033708:Nat:=0
def PySem.W.Fast.tw12382822922155266910:Nat:=0
def PySem.W.Fast.tw7485256538410118956:Nat:=0
def PySem.W.Fast.tw6194202620331982285:Nat:=0
def PySem.W.Fast.tw8274446707539698164:Nat:=0
def PySem.W.Fast.tw2466311954974566718:Nat:=0
def PySem.W.Fast.tw10295913840692754127:Nat:=0
def PySem.W.Fast.tw12125097214300078407:Nat:=0
def PySem.W.Fast.tw5832146486336120021:Nat:=0
def PySem.W.Fast.tw2424988045566436242:Nat:=0
def PySem.W.Fast.tw5341297951324810720:Nat:=0
def PySem.W.Fast.tw14731159723063609737:Nat:=0
def PySem.W.Fast.tw6472337539984862722:Nat:=0
def PySem.W.Fast.tw2868442198168577507:Nat:=0
def PySem.W.Fast.tw8498532028676091811:Nat:=0
def PySem.W.Fast.tw18248855084332350957:Nat:=0
def PySem.W.Fast.tw14935156969734317764:Nat:=0
def PySem.W.Fast.tw2768188642542392010:Nat:=0
def PySem.W.Fast.tw11368310244458860372:Nat:=0
def PySem.W.Fast.tw9461873434466728008:Nat:=0
def PySem.W.Fast.tw7151132215420815488:Nat:=0
def PySem.W.Fast.tw15504105790966721872:Nat:=0
def PySem.W.Fast.tw18328257000508772394:Nat:=0
def PySem.W.Fast.tw3303267245142563540:Nat:=0
def PySem.W.Fast.tw4772062507164038959:Nat:=0
def PySem.W.Fast.tw18400553757987027518:Nat:=0
def PySem.W.Fast.tw11267315532378154396:Nat:=0
def PySem.W.Fast.tw8115137120850386438:Nat:=0
def PySem.W.Fast.tw14398111036562950334:Nat:=0
def PySem.W.Fast.tw15433366417846715934:Nat:=0
def PySem.W.Fast.tw13394580363473044415:Nat:=0
def PySem.W.Fast.tw5467331546851215429:Nat:=0
def PySem.W.Fast.tw15402603294489630176:Nat:=0
def PySem.W.Fast.tw6798380500665416597:Nat:=0
def PySem.W.Fast.tw9972681490609642005:Nat:=0
def PySem.W.Fast.tw6084841979344569690:Nat:=0
def PySem.W.Fast.tw16860917588515726111:Nat:=0
def PySem.W.Fast.tw17883462748017686043:Nat:=0
def PySem.W.Fast.tw15541240446876304647:Nat:=0
def PySem.W.Fast.tw11033627544408312984:Nat:=0
def PySem.W.Fast.tw10519837036962490867:Nat:=0
def PySem.W.Fast.tw18031968618487185184:Nat:=0
def PySem.W.Fast.tw1840220198017710270:Nat:=0
def PySem.W.Fast.tw5289818103960998278:Nat:=0
def PySem.W.Fast.tw7322748291113730364:Nat:=0
def PySem.W.Fast.tw15685335758407661847:Nat:=0
def PySem.W.Fast.tw7212858340449540239:Nat:=0
def PySem.W.Fast.tw11489344026974618541:Nat:=0
def PySem.W.Fast.tw10911716485165742097:Nat:=0
def PySem.W.Fast.tw7592715696027808041:Nat:=0
def PySem.W.Fast.tw14538725608371270373:Nat:=0
def PySem.W.Fast.tw7873786274422454737:Nat:=0
def PySem.W.Fast.tw3592811809046731828:Nat:=0
def PySem.W.Fast.tw13034982811429478159:Nat:=0
def PySem.W.Fast.tw6690350156832105676:Nat:=0
def PySem.W.Fast.tw13385558918117058561:Nat:=0
def PySem.W.Fast.tw12099505692703838030:Nat:=0
def PySem.W.Fast.tw15771247859494662083:Nat:=0
def PySem.W.Fast.tw11824586356888161845:Nat:=0
def PySem.W.Fast.tw17937168697417666835:Nat:=0
def PySem.W.Fast.tw7050804516273991350:Nat:=0
def PySem.W.Fast.tw17163426234232328066:Nat:=0
def PySem.W.Fast.tw211337195705725219:Nat:=0
def PySem.W.Fast.tw7921390202802761869:Nat:=0
def PySem.W.Fast.tw14061609134260724683:Nat:=0
def PySem.W.Fast.tw14172470266813156586:Nat:=0
def PySem.W.Fast.tw384561282630992784:Nat:=0
def PySem.W.Fast.tw16005714805435085966:Nat:=0
def PySem.W.Fast.tw13343918040275786880:Nat:=0
def PySem.W.Fast.tw16109456028575089023:Nat:=0
def PySem.W.Fast.tw615563214671542189:Nat:=0
section
open PySem PySem.W PyProof.Rows
set_option maxHeartbeats 0
open_top hd for PySem.Challenge.rw_sidebook_k48_asks
end
def Ld:=@beq_eq_false_iff_ne
def Zf:=@beq_iff_eq
def Wo:=@beq_self_eq_true
def we:=@congrArg
def Mc:=@decide_eq_false
def Ge:=@decide_eq_true
def Fc:=@decide_eq_true_eq
def Zn:=@if_false
def ka:=@if_neg
def da:=@if_pos
def Xf:=@if_true
def Hl:=@or_false
open Array renaming append_assoc->xj,getElem?_eq_getElem->Yg,getElem?_eq_some_iff->Nc,getElem?_extract->Io,getElem?_push->gq,length_toList->xg,toArray_toList->Cp
open Bool renaming and_assoc->ev,and_eq_true->ya,and_false->bv,false_eq_true->dr,false_ne_true->Ra,false_or->yj,not_true->ao,or_eq_true->sf
open Classical renaming choose_spec->X3
open Function renaming comp_def->J7
open Int renaming emod_lt_of_pos->Gs,emod_nonneg->jv,le_refl->Mq,zero_add->bA
open List renaming all_cons->lf,all_eq_true->Pb,all_map->Uo,any_cons->Yd,any_eq_true->At,append_nil->ii,drop_eq_getElem_cons->fh,drop_eq_nil_of_le->Vo,filterMap_cons->Ig,filter_cons->Xe,find?_cons->Vd,foldl_cons->tf,getD_eq_getElem?_getD->Dd,getElem?_append_left->gb,getElem?_append_right->Sg,getElem?_cons_succ->Jo,getElem?_cons_zero->Lh,getElem?_eq_getElem->Kb,getElem?_eq_none_iff->Sb,getElem?_eq_some_iff->ja,getElem?_map->Fb,getElem?_of_mem->dq,getElem?_replicate->Ho,getElem?_set->bc,getElem?_set_ne->Hi,getElem?_set_self->Wh,getElem?_take_of_lt->Yn,getElem?_toArray->Ap,getElem_mem->Bt,getElem_of_mem->Kq,length_append->Cd,length_cons->Db,length_drop->wt,length_map->Yb,length_nil->sm,length_take->El,lookup_cons->Oa,map_cons->yb,map_map->Mg,map_nil->Xh,mem_append->wg,mem_append_left->La,mem_append_right->Ka,mem_cons->Pa,mem_cons_of_mem->jb,mem_cons_self->Ub,mem_filter->om,mem_filterMap->Fj,mem_map->Gb,mem_of_getElem?->Ja,mem_range->Yu,mem_singleton->fr,nil_append->wu,nodup_cons->yg,not_mem_nil->yd,of_mem_zip->qm,range_succ_eq_map->To,set_append_left->iq,set_cons_succ->ic,set_cons_zero->jc,size_toArray->va,take_length->zt
open List.Perm renaming cons_inv->g4
open List.cons renaming injEq->fq
open Nat renaming le_of_eq->yp,le_of_lt->Ze,le_refl->xa,le_succ->rm,le_trans->Hb,lt_irrefl->wd,lt_of_le_of_lt->Cs,lt_of_lt_of_le->Ca,lt_succ_of_lt->wh,lt_succ_self->Gc,lt_trans->Bp,ne_of_gt->Qf,ne_of_lt->Ba,not_lt->VG,one_ne_zero->iv,zero_le->Gq
open Ne renaming symm->Ee
open Option renaming bind_eq_some_iff->vh,bind_some->gr,getD_none->cr,isSome_iff_exists->Xd,isSome_map->Hj,map_eq_some_iff->Eb,map_some->kg
open Option.some renaming inj->nb,injEq->zg
open Prod renaming ext->WN
open PyProof.Rows renaming AllBare->bg,IntsAre->qk,IsTup->jr,callWith_builtin1->NC,callWith_type1->re,iadd_int->MC,slot_tuple_getitem->Zb,Subscript_->uw,args_tuple_getitem->tw,boot_list->ir,boot_sum->vu,boot_tuple->Si,entry_tuple_getitem->av,envOfC->eg,get?_update_seq->SC,seqObj->dk,slicePart_none->UG,subscriptTail->Nq,subscriptTail_builtinR->rs,tupleItemsOf_->XN
open PyProof.Rows.IsTup renaming new->OC
open PySem renaming Around->Da,BindsTo->uf,Builtin->Hs,CmpOp->io,DictEntry->lA,Drawn->YG,Env->ag,ExceptHandler->Ef,Expr->Ga,FuncData->Ad,GenState->Fp,IsPair->dH,IsPart->ck,IsRangeIter->M7,ItemsOf->x4,Keyword->Ui,Model->Yj,NameKind->De,Obj->gc,Operator->ak,OsState->y4,Params->aH,PassesOwn->On,PlainAttrs->im,Pos->Ae,Program->ra,boot_len->ec,mem_of_lookup->ee,Result->zw,Sem->fo,SetTable->ig,Shared->aa,Str->ma,Tok->i4,World->Ea,assign->Zj,assignEach->Ke,atKey->Ip,attributeBase->Md,backTo->Dc,backToKw->Om,behindInMarks->se,behindIsImport->bH,binaryOp->Ce,bindC->pr,bindL->mr,call_list_seq->mO,call_meetsIn->Nm,callerA->gg,cellsFrom->iA,codeAny_builtin->Zg,codeAny_handlers_test->yt,codeAny_mono->rh,compareOp->Ab,concat_meets->js,entryPlaceOf->w4,eval->Wb,evalPart_none->YN,foldedSetIterable->dg,frameObject->O7,getAttr->m4,getItem->Zh,getMethod->lr,handleBy->cH,holding->cg,inplaceOp->fA,intBits_le_64->UN,interactive->L7,isTrue->yw,keywordEach->ai,leaving->Xx,noFill_tuple_add->Ln,noteFrame->Wf,operate->n4,plainId_quiet->ji,rawInt->Wd,readyFrames->N7,richCompare->xu,seqIndex_neg->V3,seqIndex_of->E7,seqItems?->oA,seq_tuple_add->Hq,setFlight->xh,setItem->Wx,sizeLine_eq->B7,sliceBounds->Ng,slot_list_getitem->Px,standAt->Xo,starEach->pa,storeName->eA,subscripted->ko,swappedStores->pO,swapsWith->Di,swapsWithSole->oO,sysModules->Rf,tupleKind->Nn,tupleKind_room_in1->Eh,typeOf->Gp,unaryOp->j4,valueAt->rk,wpAny_Call_Name_kw->Je,wpAny_Call_method_late->Bs,wpAny_Name->pw,wpAny_assign_Name->Mx,wpAny_bind->ba,wpAny_call->zp,wpAny_callSpecial?_slot->br,wpAny_call_entry->Mn,wpAny_comprehension_free->Lq,wpAny_execs_cons->Zz,wpAny_execs_nil->aj,wpAny_field->Vj,wpAny_handleBy_cons->fv,wpAny_holding->md,wpAny_isSame_ref_other->Fs,wpAny_isTrue_Compare1->vt,wpAny_letGo->eo,wpAny_load->qw,wpAny_loadName_cell->Zu,wpAny_loadName_local->uu,wpAny_loadPart_at->Yh,wpAny_mono->Mb,wpAny_newFunctionEnv->Xj,wpAny_newList->nO,wpAny_newObj_type->ge,wpAny_passesOwn->Wg,wpAny_pure->na,wpAny_pyIter_enum->Rx,wpAny_pyIter_list->Km,wpAny_pyIter_tuple->vw,wpAny_pyIter_zip->cA,wpAny_seqItems->Dp,wpAny_sequenceKey->Nx,wpAny_standAt->Fq,wpAny_truthy_bool->Rc,wpAny_tryCatch->cf,wpAny_typeOf->ms,wpAny_updateSeq->Ko,wp_field_iff->Es,wp_setField_iff->QC
open PySem.Around renaming frames_deeper->Ro,under->jo,under_plainId->Pe
open PySem.AutoSeq1 renaming list_extend_list_list_0->F7
open PySem.Bind renaming checkArgs->kn
open PySem.BindsTo renaming of_defaults->lg
open PySem.Builtin.Builtins renaming bindParams->Ei
open PySem.Builtin.List renaming listExtendWith->VC,listTooLong->Ag
open PySem.Builtin.Range renaming rangeSize->gA
open PySem.Builtin.Slice renaming sliceAdjust->fg,sliceApplied->zj,sliceFields->kA,slicePartIndex->jA,slicePlaces->Fe
open PySem.Builtin.Tuple renaming tupleExact->Le,tupleHashOf->pA,tupleIsExact->nA,tupleItemsOf->Aj
open PySem.Calls renaming Name_function_global->Jm,callWith_builtin->Rh,evalArgs_plain->Ci
open PySem.CmpOp renaming In->ZG,NotIn->Vx
open PySem.Code renaming frames->hA,isFrame->Yo
open PySem.DictEntry renaming refKey->l4
open PySem.EntryCells renaming newEntry->Pn
open PySem.F renaming cmp_object->XG,args_tuple_add_2->Xg,entry_min_loop->Fh,entry_tuple_add->qh,plainAttrs_dict->mf,plainAttrs_list->pf,plain_list_iadd->dn,plain_min_loop->Lc,slot_dict_delitem->tm,slot_dict_items->uh,slot_dict_pop->bo,slot_dict_setdefault->ll,slot_list_append->ah,slot_tuple_add->Dh,type_dict_items->gn,type_list_append->bh
open PySem.Heap renaming FlyingW->Zx,HeldW->jn,SameBut->Ye,get?_eq_some->Ds,get?_push_of_some->ia,get?_push_size->Sa,get?_update_other->So,lt_size->qa,size_push->Jf
open PySem.Heap.DictOf renaming new->WG
open PySem.Heap.IsSliceOf renaming new->Ox
open PySem.Heap.IsTuple renaming push->RC
open PySem.Heap.Ns1 renaming of_empty->D7
open PySem.Heap.SameBut renaming update->Mh
open PySem.IsL renaming update->W3
open PySem.Manifest renaming signature?->Lo
open PySem.NameKind renaming cell->vc,free->Za
open PySem.Obj renaming data_mapFields->Wj,mapFields->Gh,mapSeq->dh
open PySem.PassesOwn renaming leaving->Y3,looking->Z3
open PySem.Sem renaming wp_bind'->kl,wp_mono->Iq
open PySem.SeqAt renaming EqAt->Vc,RcAt->Og,RcNeAt->Jg,in_listAt->xt,in_tupleAt->As
open PySem.SeqAt.EqAt renaming bool_bool->dO,bool_int->eO,bool_none->cO,bool_str->fO,int_bool->hO,int_int->iO,int_none->gO,int_str->Vn,none_bool->ZN,none_int->aO,none_str->bO,same->Gj,str_bool->kO,str_int->Wn,str_none->jO,str_str->lO
open PySem.SetTable renaming below->Il,fresh->qr,has->Ct,insertAt->bj,orStandIn->Q7,put->P7
open PySem.SetTable.below renaming go->Pm
open PySem.Str renaming ofString->Sf
open PySem.Value renaming bool->Ve,bytes->Ux,float->Ep,int->Af,isInt->Sx,isStrOf->mv,none->pb,ref->eb,str->Ii,type->dA
open PySem.W renaming OpenLaw->t4,callWith_K->gm,cellsFrom_some->sw,exm_one->G7,hideAll_get->KC,kia_one->Oe,kitx_dict->Zr,kitx_list->VN,looks_findIn->aA,looks_mroIn->TC,methodCall_KW->Qx,mg_of->Jq,of_hideAll->Dq,plainGet_of->xp,mg_of->K7
open PySem.W.Looks renaming ld->ww
open PySem.W.WData renaming int->UC
open PySem.W.WShape renaming has->Yx
open PySem.Walks renaming list->Mm
open PySem.WalksT renaming zip2->xw
open PySem.Within renaming cons->LC
namespace L2
open PySem PySem.Spec PyProof.Rows
noncomputable abbrev Key:=Sum Int ma
noncomputable def Cv:Key->Value->Bool
 | .inl k,v=>Sx k v
 | .inr x,v=>mv x v
noncomputable def mT(w:Ea):Key->Int
 | .inl k=>hashInt k
 | .inr x=>hashStr w x
theorem Jr:∀ {k:Key} {v:Value},Cv k v=true->(∃ i t,k=Sum.inl i/\v=Af i t)\/(∃ x t,k=Sum.inr x/\v=Ii x t)
 | .inl i,v,h=>by
  obtain⟨t,e⟩:=Value.isInt_shape (k:=i) (v:=v) h;exact .inl ⟨i,t,rfl,e⟩
 | .inr x,v,h=>by
  obtain⟨t,e⟩:=Value.isStrOf_shape (x:=x) (v:=v) h;exact .inr ⟨x,t,rfl,e⟩
theorem uT(i:Int)(t:i4):Cv (.inl i) (.int i t)=true:=by simp[Cv,Sx]
theorem KP(x:ma)(t:i4):Cv (.inr x) (.str x t)=true:=by simp[Cv,mv]
theorem B3(a b:Int):decide ((Sum.inl a:Key)=Sum.inl b)=(a == b):=by
 by_cases e:a=b
 ·subst e;simp
 ·have h:¬ (Sum.inl a:Key)=Sum.inl b:=λq=>e (Sum.inl.inj q);rw[Mc h];exact(Ld.mpr e).symm
theorem lP(a b:ma):decide ((Sum.inr a:Key)=Sum.inr b)=decide (a=b):=by
 by_cases e:a=b
 ·subst e;simp
 ·have h:¬ (Sum.inr a:Key)=Sum.inr b:=λq=>e (Sum.inr.inj q);rw[Mc h,Mc e]
theorem VO(a:Int)(b:ma):decide ((Sum.inl a:Key)=Sum.inr b)=false:=Mc (λq=>nomatch q)
theorem rQ(a:ma)(b:Int):decide ((Sum.inr a:Key)=Sum.inl b)=false:=Mc (λq=>nomatch q)
noncomputable def Ij(prog:ra)(w:Ea):PySem.KeyKind prog w Key where
 is:=Cv
 hash:=mT w
 inj:=λv a b c hb=>by
  rcases Jr c with⟨i,t,rfl,rfl⟩|⟨x,t,rfl,rfl⟩
  ·rcases Jr hb with⟨j,u,rfl,e⟩|⟨y,u,rfl,e⟩
   ·injection e with e1 _;rw[e1]
   ·exact nomatch e
  ·rcases Jr hb with⟨j,u,rfl,e⟩|⟨y,u,rfl,e⟩
   ·exact nomatch e
   ·injection e with e1 _;rw[e1]
 byValue:=λk v h=>by
  rcases Jr h with⟨i,t,rfl,rfl⟩|⟨x,t,rfl,rfl⟩<;>rfl
 pyHash:=λhv h=>by
  rcases Jr hv with⟨i,t,rfl,rfl⟩|⟨x,t,rfl,rfl⟩
  ·exact wpAny_pyHash_int h
  ·exact wpAny_pyHash_str h
 eqBool:=λhu hv h=>by
  rcases Jr hu with⟨i,t,rfl,rfl⟩|⟨x,t,rfl,rfl⟩
  ·rcases Jr hv with⟨j,u,rfl,rfl⟩|⟨y,u,rfl,rfl⟩
   ·rw[B3]at h;exact wpAny_eqBool_int h
   ·rw[VO]at h;exact Vn i t y u _ _ _ _ h
  ·rcases Jr hv with⟨j,u,rfl,rfl⟩|⟨y,u,rfl,rfl⟩
   ·rw[rQ]at h;exact Wn x t j u _ _ _ _ h
   ·rw[lP]at h;exact wpAny_eqBool_str h
 «strs»:=λk x t v h=>by
  rcases Jr h with⟨i,u,rfl,e⟩|⟨y,u,rfl,e⟩
  ·exact nomatch e
  ·injection e with e1 _;subst e1;cases v<;>rfl
theorem wQ(prog:ra)(w:Ea)(k:Key)(v:Value):(Ij prog w).is k v=Cv k v:=rfl
theorem dP(prog:ra)(w:Ea)(i:Int)(t:i4):(Ij prog w).is (.inl i) (.int i t)=true:=uT i t
theorem gU(prog:ra)(w:Ea)(x:ma)(t:i4):(Ij prog w).is (.inr x) (.str x t)=true:=KP x t
inductive V where
 |Jb|bl (b:Bool)|int (i:Int)|str (x:ma)|NA (b:Array UInt8)|Qv (b:UInt64)|ref (a:Addr)|ty (n:String)
 deriving DecidableEq
noncomputable def Qc:V->Value->Prop
 | .Jb,u=>u=pb
 | .bl b,u=>u=Ve b
 | .int i,u=>∃ t,u=Af i t
 | .str x,u=>∃ t,u=Ii x t
 | .NA b,u=>∃ t,u=Ux b t
 | .Qv b,u=>∃ t,u=Ep b t
 | .ref a,u=>u=eb a
 | .ty n,u=>u=dA n
noncomputable abbrev Od:List V->List Value->Prop:=Paired Qc
theorem Od.length{xs:List V}{us:List Value}(r:Od xs us):xs.length=us.length:=Paired.length r
theorem Od.get:∀ {xs:List V} {us:List Value} {i:Nat} {x:V},Od xs us->xs[i]?=some x->∃ u,us[i]?=some u/\Qc x u
 |_,_,_,_,.nil,e=>by simp at e
 |_,_,0,_,.cons r _,e=>by simp at e;subst e;exact⟨_,rfl,r⟩
 |_,_,i+1,x,.cons _ t,e=>by
  obtain⟨u,h1,a⟩:=Od.get (i:=i) (x:=x) t (by simpa using e);exact⟨u,by simpa using h1,a⟩
theorem Od.set{x:V}{u:Value}(r:Qc x u):∀ {xs:List V} {us:List Value} (i:Nat),Od xs us->Od (xs.set i x) (us.set i u)
 |_,_,_,.nil=>.nil
 |_,_,0,.cons _ t=>.cons r t
 |_,_,i+1,.cons q t=>.cons q (Od.set r i t)
theorem Od.append:∀ {xs ys:List V} {us ws:List Value},Od xs us->Od ys ws->Od (xs++ys) (us++ws)
 |_,_,_,_,.nil,s=>s
 |_,_,_,_,.cons r t,s=>.cons r (Od.append t s)
theorem Od.take:∀ {xs:List V} {us:List Value} (n:Nat),Od xs us->Od (xs.take n) (us.take n)
 |_,_,0,_=>.nil
 |_,_,_+1,.nil=>.nil
 |_,_,n+1,.cons r t=>.cons r (Od.take n t)
theorem Od.drop:∀ {xs:List V} {us:List Value} (n:Nat),Od xs us->Od (xs.drop n) (us.drop n)
 |_,_,0,r=>r
 |_,_,_+1,.nil=>.nil
 |_,_,n+1,.cons _ t=>Od.drop n t
theorem Od.none_of:∀ {xs:List V} {us:List Value} {i:Nat},Od xs us->xs[i]?=none->us[i]?=none:=fun {xs us i} r e=>by
 have h1:=r.length;have a:xs.length<=i:=Sb.mp e;exact Sb.mpr (by omega)
noncomputable def Gm:Option V->Option Value->Prop
 |some v,some u=>Qc v u
 |none,none=>True
 |_,_=>False
noncomputable def KV{a:Type}:List (a × V)->List (a × Value)->Prop:=Paired λ(p:a × V) (q:a × Value)=>p.1=q.1/\Qc p.2 q.2
noncomputable def kV:Key->V
 | .inl i=>.int i
 | .inr x=>.str x
inductive HO where
 |lst (xs:List V)
 |tup (xs:List V)
 |dK (kvs:List (Key × V))|dT (kvs:List (List Key × V))
 |set (S:Int->Bool) (n:Nat)
 |ins (C dx:Addr) (fs:List (ma × V))
 |own (x:Addr)
 |xd (fs:List (ma × V))
 |met (f x:Addr)
 |KA (lo hi:Int)
 |Xa (o:gc) (u:HO)
 |Ik (ps:Array Value)
 |ext (φ:Heap->Prop)
noncomputable abbrev Hp:=Addr->Option HO
noncomputable def upd(H:Hp)(a:Addr)(o:HO):Hp:=λb=>if b=a then some o else H b
theorem rg{H:Hp}{a:Addr}{o:HO}:upd H a o a=some o:=by unfold upd;rw[da rfl]
theorem jd{H:Hp}{a b:Addr}{o:HO}(h:b≠a):upd H a o b=H b:=by unfold upd;rw[ka h]
theorem hG{H:Hp}{a b:Addr}{o u:HO}(h:H a=some o)(h':H b=some u)(d:o≠u):a≠b:=by
 intro e;subst e;rw[h]at h';exact d (nb h')
theorem Jn{H:Hp}{a b:Addr}{o:HO}(h:H a=some o)(h':H b=none):a≠b:=by
 intro e;subst e;rw[h]at h';cases h'
section
variable(P:ra)(w:Ea)
noncomputable def mi(H:Hp)(h:Heap)(a:Addr):HO->Prop
 | .lst xs=>xs.length<=sizeLine/\∃ (b:List Value) (n:Nat),Od xs b/\h.get? a=some { cls:=.type "list",data:=.seq b.toArray n }
 | .tup xs=>xs.length<=sizeLine/\∃ b:List Value,Od xs b/\jr h a b.toArray
 | .dK c=>c.length<=sizeLine/\(a == Rf)=false/\∃ j,KV c j/\h.DictOf (Ij P w) a j
 | .dT c=>c.length<=sizeLine/\(a == Rf)=false/\∃ xs:List (List Key × Addr × Value),
   Paired (λ(p:List Key × V) (q:List Key × Addr × Value)=>p.1=q.1/\H q.2.1=some (.tup (p.1.map kV))/\Qc p.2 q.2.2) c xs/\
   ∃ o g k,h.get? a=some o/\o.ExactDict/\o.data=.dict g k/\g.toList=xs.map (entryOfKey (Nn (Ij P w)))/\(xs.map (·.1)).Nodup
 | .set S n=>h.SetOf (intKind P w) a S n
 | .ins C e fs=>H e=some (.own a)/\fs.length<=1000/\e≠a/\h.get? a=some (W.instObj C e)/\
   ∃ d,h.Ns1 e d/\(∀ f,Gm (fs.lookup f) (d f))/\PySem.Within d (fs.map (·.1))
 | .own _=>∃ o,h.get? a=some o
 | .xd fs=>∃ d,h.Ns1 a d/\∀ f,Gm (fs.lookup f) (d f)
 | .KA lo l=>∃ t u v,h.get? a=some { cls:=.type "range",data:=.fields #[.int lo t,.int l u,.int 1 v] }
 | .Xa o u=>h.get? a=some o/\mi H h a u
 | .Ik m=>h.get? a=some { cls:=.none,data:=.fields m }
 | .met f x=>h.get? a=some (W.methodObj (.ref f) (.ref x))
 | .ext φ=>φ h/\(∃ o,h.get? a=some o)/\∀ h1 i:Heap,φ h1->(∀ o,h1.get? a=some o->i.get? a=some o)->φ i
noncomputable def Kh(H:Hp)(h:Heap):Prop:=∀ a o,H a=some o->mi P w H h a o
end
section
variable{P:ra}{w:Ea}{H H':Hp}{h h':Heap}{a:Addr}{o:HO}
theorem mi.lt(x:mi P w H h a o):a<h.objs.size:=by
 cases o with
 |lst xs=>obtain⟨_,_,_,_,e⟩:=x;exact qa e
 |tup xs=>obtain⟨_,_,_,p⟩:=x;exact p.lt
 |dK b=>obtain⟨_,_,_,_,o,_,_,e,_⟩:=x;exact qa e
 |dT b=>obtain⟨_,_,_,_,o,_,_,e,_⟩:=x;exact qa e
 |set S n=>obtain⟨o,_,_,_,e,_⟩:=x;exact qa e
 |ins C c fs=>obtain⟨_,_,_,e,_⟩:=x;exact qa e
 |own y=>obtain⟨_,e⟩:=x;exact qa e
 |xd fs=>obtain⟨_,⟨_,_,_,e,_⟩,_⟩:=x;exact qa e
 |KA lo d=>obtain⟨_,_,_,e⟩:=x;exact qa e
 |Xa g u=>obtain⟨e,_⟩:=x;exact qa e
 |Ik i=>exact qa (show h.get? a=some _ from x)
 |met f y=>exact qa (show h.get? a=some _ from x)
 |ext j=>obtain⟨_,⟨_,e⟩,_⟩:=x;exact qa e
theorem Paired.oo{e g:Type}{F G:e->g->Prop}:∀ {c:List e} {d:List g},Paired F c d->(∀ a b,F a b->G a b)->Paired G c d
 |_,_,.nil,_=>.nil
 |_,_,.cons r t,f=>.cons (f _ _ r) (Paired.oo t f)
theorem mi.ej(x:mi P w H h a o)(k:∀ b u,(b=a\/H b=some (.own a))->h.get? b=some u->h'.get? b=some u)
  (E:∀ b,H b=some (.own a)->H' b=some (.own a)) (F:∀ b xs,H b=some (.tup xs)->H' b=some (.tup xs)):mi P w H' h' a o:=by
 induction o with
 |lst xs=>obtain⟨z,l,n,r,e⟩:=x;exact⟨z,l,n,r,k _ _ (.inl rfl) e⟩
 |tup xs=>obtain⟨z,l,r,g,e,c⟩:=x;exact⟨z,l,r,g,k _ _ (.inl rfl) e,c⟩
 |dK m=>obtain⟨z,y,I,r,g,j,i,e,c⟩:=x;exact⟨z,y,I,r,g,j,i,k _ _ (.inl rfl) e,c⟩
 |dT m=>
  obtain⟨z,y,xs,r,g,j,i,e,c⟩:=x;exact⟨z,y,xs,Paired.oo r λp q z=>⟨z.1,F _ _ z.2.1,z.2.2⟩,g,j,i,k _ _ (.inl rfl) e,c⟩
 |set S n=>obtain⟨g,j,i,t,e,c⟩:=x;exact⟨g,j,i,t,k _ _ (.inl rfl) e,c⟩
 |ins C J fs=>
  obtain⟨d,z,ne,e,s,⟨A,j,i,D,c⟩,r⟩:=x;exact⟨E _ d,z,ne,k _ _ (.inl rfl) e,s,⟨A,j,i,k _ _ (.inr d) D,c⟩,r⟩
 |own y=>obtain⟨g,e⟩:=x;exact⟨g,k _ _ (.inl rfl) e⟩
 |xd fs=>obtain⟨s,⟨A,j,i,e,c⟩,r⟩:=x;exact⟨s,⟨A,j,i,k _ _ (.inl rfl) e,c⟩,r⟩
 |KA lo K=>obtain⟨t,u,v,e⟩:=x;exact⟨t,u,v,k _ _ (.inl rfl) e⟩
 |Xa g u G=>obtain⟨e,q⟩:=x;exact⟨k _ _ (.inl rfl) e,G q⟩
 |Ik B=>
  have e:h.get? a=some { cls:=.none,data:=.fields B }:=x;show h'.get? a=some { cls:=.none,data:=.fields B };exact k a _ (.inl rfl) e
 |met f y=>
  have e:h.get? a=some (W.methodObj (.ref f) (.ref y)):=x;show h'.get? a=some (W.methodObj (.ref f) (.ref y));exact k a _ (.inl rfl) e
 |ext L=>obtain⟨p,⟨o,e⟩,st⟩:=x;exact⟨st _ _ p λo q=>k _ _ (.inl rfl) q,⟨o,k _ _ (.inl rfl) e⟩,st⟩
theorem Kh.lt(x:Kh P w H h)(e:H a=some o):a<h.objs.size:=(x a o e).lt
theorem Kh.fresh(x:Kh P w H h)(e:h.objs.size<=a):H a=none:=by
 cases q:H a with
 |none=>rfl
 |some u=>exact absurd (Ca (x.lt q) e) (wd _)
theorem Kh.kept(x:Kh P w H h)(k:∀ b u,h.get? b=some u->h'.get? b=some u):Kh P w H h':=λa o e=>
 (x a o e).ej (λb u _ q=>k b u q) (λ_ q=>q) λ_ _ q=>q
theorem Kh.laid(x:Kh P w H h)(k:∀ b u,h.get? b=some u->h'.get? b=some u)(hp:h.objs.size<=a)(d:mi P w (upd H a o) h' a o):Kh P w (upd H a o) h':=λb u e=>by
 have hn:=x.fresh hp;by_cases hb:b=a
 ·subst hb;rw[rg]at e;cases e;exact d
 ·rw[jd hb]at e;exact(x b u e).ej (λc v _ q=>k c v q) (λc q=>by rw[jd (Jn q hn)];exact q) λc xs q=>by rw[jd (Jn q hn)];exact q
end
noncomputable def Rd(H:Hp)(a:Addr)(u:HO):Prop:=H a=some u\/∃ o,H a=some (.Xa o u)
theorem Rd.of{H:Hp}{a:Addr}{u:HO}(h:H a=some u):Rd H a u:=.inl h
theorem Rd.ok{P:ra}{w:Ea}{H:Hp}{h:Heap}{a:Addr}{u:HO}(r:Rd H a u)(x:Kh P w H h):mi P w H h a u:=by
 rcases r with r|⟨o,r⟩
 ·exact x a u r
 ·obtain⟨_,q⟩:=x a _ r;exact q
noncomputable def jy:Option HO->Prop
 |some (.lst _)=>True
 |some (.dK _)=>True
 |some (.dT _)=>True
 |some (.set _ _)=>True
 |some (.ins _ _ _)=>True
 |some (.ext _)=>True
 |_=>False
section
variable{P:ra}{w:Ea}{H:Hp}{h h':Heap}{x e:Addr}{o':HO}
theorem Kh.write(ok:Kh P w H h)(i:jy (H x))(he:e=x\/H e=some (.own x))(k:∀ b u,b≠e->h.get? b=some u->h'.get? b=some u)(j:∃ u,h'.get? e=some u)
  (l:mi P w (upd H x o') h' x o'):Kh P w (upd H x o') h':=λb u q=>by
 have d:∀ c y,H c=some (.own y)->c≠x:=λc y r z=>by subst z;rw[r]at i;exact i
 have f:∀ c xs,H c=some (.tup xs)->c≠x:=λc xs r z=>by subst z;rw[r]at i;exact i
 by_cases hb:b=x
 ·subst hb;rw[rg]at q;cases q;exact l
 ·rw[jd hb]at q;by_cases a:b=e
  ·have m:H b=some (.own x):=by
    rcases he with z|z
    ·exact absurd (a.trans z) hb
    ·rw[a];exact z
   rw[q]at m;cases m;obtain⟨v,hv⟩:=j;exact⟨v,by rw[a];exact hv⟩
  ·refine(ok b u q).ej (λc v g r=>k c v ?_ r) (λc r=>by rw[jd (d c b r)];exact r) λc xs r=>by rw[jd (f c xs r)];exact r
   rcases g with rfl|g
   ·exact a
   ·rintro rfl;rcases he with z|z
    ·exact d c b g z
    ·rw[g]at z;cases z;exact hb rfl
end
structure Un(fs ex:List Addr)(H H':Hp)(h h':Heap):Prop where
 keep:∀ b o,h.get? b=some o->H b=none->b ∉ fs->b ∉ ex->h'.get? b=some o
 slot:∀ b o,h.get? b=some o->H b=none->b∈fs->b ∉ ex->∃ sl,h'.get? b=some { o with slots:=sl }
 free:∀ b o,h.get? b=some o->H b=none->b ∉ ex->H' b=none
 there:∀ b o,h.get? b=some o->b ∉ ex->∃ o',h'.get? b=some o'
 yh:∀ b xs,H b=some (.tup xs)->H' b=some (.tup xs)
 Hg:∀ b o u,H b=some (.Xa o u)->H' b=some (.Xa o u)
 kh:∀ b ps,H b=some (.Ik ps)->∃ more,H' b=some (.Ik (ps++more))
section
variable{fs fs' ex ex':List Addr}{H H1 H2:Hp}{h h1 h2 h':Heap}{a x e:Addr}{o:HO}
theorem Un.any(u:Un fs ex H H1 h h1){b:Addr}{ob:gc}(q:h.get? b=some ob)(n:H b=none)(a:b ∉ ex):∃ c,h1.get? b=some { ob with slots:=c }:=by
 by_cases hb:b∈fs
 ·exact u.slot b ob q n hb a
 ·exact⟨ob.slots,u.keep b ob q n hb a⟩
theorem Un.trans(a:Un fs ex H H1 h h1)(b:Un fs ex H1 H2 h1 h2):Un fs ex H H2 h h2 where
 keep:=λc e q n g d=>b.keep c e (a.keep c e q n g d) (a.free c e q n d) g d
 slot:=λc e q n g d=>by
  obtain⟨m,f⟩:=a.slot c e q n g d;obtain⟨k,i⟩:=b.slot c _ f (a.free c e q n d) g d;exact⟨k,i⟩
 free:=λc e q n d=>by
  obtain⟨j,f⟩:=a.there c e q d;exact b.free c j f (a.free c e q n d) d
 there:=λc e q d=>by
  obtain⟨j,f⟩:=a.there c e q d;exact b.there c j f d
 yh:=λc xs q=>b.yh c xs (a.yh c xs q)
 Hg:=λc e xs q=>b.Hg c e xs (a.Hg c e xs q)
 kh:=λc l q=>by
  obtain⟨m1,f⟩:=a.kh c l q;obtain⟨m2,i⟩:=b.kh c _ f;exact⟨m1++m2,by rw[i,xj]⟩
theorem Un.kept(k:∀ b u,h.get? b=some u->h'.get? b=some u):Un fs ex H H h h':=
 ⟨λb a q _ _ _=>k b a q,λb a q _ _ _=>⟨a.slots,k b a q⟩,λ_ _ _ n _=>n,λb a q _=>⟨a,k b a q⟩,λ_ _ q=>q,λ_ _ _ q=>q,λ_ c q=>⟨#[],by rw[q];simp⟩⟩
theorem Un.refl:Un fs ex H H h h:=Un.kept λ_ _ q=>q
theorem Un.laid(k:∀ b u,h.get? b=some u->h'.get? b=some u)(hp:h.objs.size<=a)(hn:H a=none):Un fs ex H (upd H a o) h h' where
 keep:=λb u q _ _ _=>k b u q
 slot:=λb u q _ _ _=>⟨u.slots,k b u q⟩
 free:=λb u q n _=>by rw[jd (Ba (Ca (qa q) hp))];exact n
 there:=λb u q _=>⟨u,k b u q⟩
 yh:=λb xs q=>by rw[jd (Jn q hn)];exact q
 Hg:=λb u xs q=>by rw[jd (Jn q hn)];exact q
 kh:=λb c q=>⟨#[],by rw[jd (Jn q hn),q];simp⟩
theorem Un.write(c:jy (H x))(he:e=x\/H e=some (.own x))(k:∀ b u,b≠e->h.get? b=some u->h'.get? b=some u)(d:∃ u,h'.get? e=some u):Un fs ex H (upd H x o) h h':=by
 have f:∀ b,H b=none->b≠x:=λb n z=>by subst z;rw[n]at c;exact c
 have hb:∀ b,H b=none->b≠e:=λb n z=>by
  subst z;rcases he with r|r
  ·exact f b n r
  ·rw[n]at r;cases r
 have hm:∀ b u,H b=some u->¬ jy (some u)->b≠x:=λb u q nm z=>by subst z;rw[q]at c;exact nm c
 refine⟨λb u q n _ _=>k b u (hb b n) q,λb u q n _ _=>⟨u.slots,k b u (hb b n) q⟩,λb u q n _=>by rw[jd (f b n)];exact n,λb u q _=>?_,
  λb xs q=>by rw[jd (hm b _ q λz=>z)];exact q,λb u xs q=>by rw[jd (hm b _ q λz=>z)];exact q,λb g q=>⟨#[],by rw[jd (hm b _ q λz=>z),q];simp⟩⟩
 by_cases a:b=e
 ·subst a;exact d
 ·exact⟨u,k b u a q⟩
theorem Un.mono(u:Un fs ex H H1 h h1)(hs:∀ b∈fs,b∈fs')(c:∀ b∈ex,b∈ex'):Un fs' ex' H H1 h h1:=
 ⟨λb a q n hb he=>u.keep b a q n (λz=>hb (hs b z)) λz=>he (c b z),λ_ _ q n _ he=>u.any q n λz=>he (c _ z),λb a q n he=>u.free b a q n λz=>he (c b z),λb a q he=>u.there b a q λz=>he (c b z),u.yh,u.Hg,u.kh⟩
end
noncomputable def PB(h:Heap)(H:Hp):List Addr:=(List.range h.objs.size).filter λa=>(H a).isSome
noncomputable def Lp(h:Heap)(H:Hp):Heap:=W.hideAll h (PB h H)
theorem GK(h:Heap)(H:Hp):(Lp h H).objs.size=h.objs.size:=W.hideAll_size _ _
theorem LL{h:Heap}{H:Hp}{b:Addr}{o:gc}(e:h.get? b=some o)(n:H b=none):(Lp h H).get? b=some o:=
 KC _ e λhm=>by
  have q:(H b).isSome=true:=(om.mp hm).2;rw[n]at q;simp at q
theorem qM{h:Heap}{H:Hp}{b:Addr}{o:gc}(e:(Lp h H).get? b=some o):h.get? b=some o/\H b=none:=by
 have a:h.get? b=some o:=Dq (PB h H) e;refine⟨a,?_⟩;cases q:H b with
 |none=>rfl
 |some x=>
  have hm:b∈PB h H:=om.mpr ⟨Yu.mpr (qa a),by simp[q]⟩;have z:(Lp h H).get? b=none:=W.hideAll_none (PB h H) hm;rw[z]at e;cases e
noncomputable def K0(g h:Heap)(L:Addr):List (Addr × gc):=(List.range h.objs.size).filterMap λa=>if a=L\/(g.get? a).isSome=true then none else (h.get? a).map λo=>(a,o)
noncomputable def Kg(g h:Heap)(L d:Addr):List (Addr × gc):=(K0 g h L).filter λp=>decide (p.1≠d)
structure Mod(K:W.Frag)(mg:ma->Option Value)(base:Heap):Prop where
 Cu:K.In base
 glob:base.Ns mainGlobals mg
 blt:∃ mb,base.Ns builtinsNs mb/\∀ x:ma,x ≠ "__name__"->mb x=bootBuiltins x
 nolimit:base.NoLimit
structure Cx where
 prog:ra
 w:Ea
 K:W.Frag
 mg:ma->Option Value
 base:Heap
 A:Da
 N:List ma
 s₀:aa
 H₀:Hp
 env:ag
 outer:List ag
 stack:List ag
 ex:List Addr
 fn:ma->Bool
 calm:Bool
 pn:List (Addr × gc)
 xe:Value->aa->Prop
noncomputable def xi(l:List ag):List Addr:=l.filterMap (·.frame)
noncomputable abbrev Cx.fs(X:Cx):List Addr:=xi X.outer
noncomputable def qA(sc:Scope)(x:ma):Prop:=sc.names.lookup x=some .local\/sc.names.lookup x=some .cell\/sc.names.lookup x=some .free
noncomputable def Loc(sc:Scope)(x:ma):Prop:=sc.names.lookup x=some .local\/sc.names.lookup x=some .cell
noncomputable def EY(env:ag)(h:Heap)(m:ma->Option Value)(x:ma)(u:Value):Prop:=
 (env.kindOf x=some .local/\m x=some u)\/((env.kindOf x=some .cell\/env.kindOf x=some .free)/\∃ c,env.cells.lookup x=some c/\h.IsCell c (some u))
structure Cx.Ok(X:Cx):Prop where
 mod:Mod X.K X.mg X.base
 kind:X.env.scope.kind=.function
 glob:X.env.globals=mainGlobals
 blt:X.env.builtins=builtinsNs
 above:X.s₀.heap.objs.size<=X.env.locals
 inj:∀ x y c,X.env.cells.lookup x=some c->X.env.cells.lookup y=some c->x=y
 has:∀ x,(X.env.kindOf x=some .cell\/X.env.kindOf x=some .free)->∃ c,X.env.cells.lookup x=some c
 Fu:∀ x c,X.fn x=true->X.env.cells.lookup x=some c->X.s₀.heap.objs.size<=c
 hd:X.calm=true->X.A.handled=none
 frames:X.A.frames=some X.stack
 wn:X.stack=X.outer\/(X.stack=X.env::X.outer/\X.env.frame=some X.env.locals)
 Iv:∀ b∈X.ex,b≠X.env.locals/\∀ x c,X.env.cells.lookup x=some c->c≠b
 bs:∀ b o,X.base.get? b=some o->X.s₀.heap.get? b=some o/\X.H₀ b=none
 Jp:X.base.objs.size<=X.s₀.heap.objs.size
 wo:∀ b o,X.base.get? b=some o->b ∉ X.ex
 Go:∀ b∈X.ex,b ∉ X.fs
 yi:X.s₀.heap.FunFrames X.base X.outer
 vr:∀ b∈X.fs,X.H₀ b=none
structure Inv(X:Cx)(pins:List (Addr × gc))(σ:List (Option V))(H:Hp)(s:aa):Prop where
 ok:X.Ok
 os:s.os=X.s₀.os
 bare:bg s.gens
 base:Un X.fs X.ex X.H₀ H X.s₀.heap s.heap
 loc:∃ m,s.heap.Ns X.env.locals m/\∀ (i:Nat) (x:ma) (v:V),X.N[i]?=some x->σ[i]?=some (some v)->qA X.env.scope x->∃ u,Qc v u/\EY X.env s.heap m x u
 cell:∀ x c,X.env.cells.lookup x=some c->∃ v,s.heap.IsCell c v
 free:H X.env.locals=none
 Gf:∀ x c,X.env.cells.lookup x=some c->H c=none
 pin:∀ p∈X.pn++pins,s.heap.get? p.1=some p.2/\H p.1=none/\p.1≠X.env.locals/\p.1 ∉ X.fs/\∀ v,p.2.data≠.cell v
 Qb:Kh X.prog X.w H s.heap
 len:σ.length=X.N.length
section
variable{X:Cx}{pins:List (Addr × gc)}{σ:List (Option V)}{H H':Hp}{s:aa}{h':Heap}
theorem Cx.Ok.TF(ok:X.Ok){b:Addr}{o:gc}(e:X.base.get? b=some o):b ∉ X.fs:=λhb=>by
 have:=(ok.yi.mem hb).1;rw[e]at this;cases this
theorem Inv.bs(I:Inv X pins σ H s):∀ b o,X.base.get? b=some o->s.heap.get? b=some o/\H b=none:=λb o e=>
 ⟨I.base.keep b o (I.ok.bs b o e).1 (I.ok.bs b o e).2 (I.ok.TF e) (I.ok.wo b o e),I.base.free b o (I.ok.bs b o e).1 (I.ok.bs b o e).2 (I.ok.wo b o e)⟩
theorem Inv.bk(I:Inv X pins σ H s):∀ b o,X.base.get? b=some o->s.heap.get? b=some o:=λb o e=>(I.bs b o e).1
theorem Inv.mod(I:Inv X pins σ H s):Mod X.K X.mg X.base:=I.ok.mod
theorem Inv.Xi(I:Inv X pins σ H s):X.K.In s.heap:=I.ok.mod.Cu.keeps I.bk
theorem Inv.nolimit(I:Inv X pins σ H s):s.heap.NoLimit:=I.ok.mod.nolimit.keeps I.bk
theorem Inv.lt(I:Inv X pins σ H s):X.env.locals<s.heap.objs.size:=let ⟨_,hn,_⟩:=I.loc;hn.lt
theorem Inv.sz(I:Inv X pins σ H s):X.s₀.heap.objs.size<=s.heap.objs.size:=Hb I.ok.above (Ze I.lt)
theorem Inv.Rz(I:Inv X pins σ H s){a:Addr}(h:s.heap.objs.size<=a):a ∉ X.fs:=λhb=>by
 obtain⟨_,o,b,_⟩:=I.ok.yi.mem hb;exact absurd (Ca (qa b) (Hb I.sz h)) (wd _)
theorem Inv.fu(I:Inv X pins σ H s):∀ x c,X.env.cells.lookup x=some c->c≠X.env.locals:=λx c e z=>by
 obtain⟨v,o,d,hd⟩:=I.cell x c e;obtain⟨m,⟨h,g,f,b,a,_⟩,_⟩:=I.loc;rw[z,b]at d;cases d;rw[a]at hd;cases hd
theorem Inv.yi(I:Inv X pins σ H s):s.heap.FunFrames X.base X.outer:=by
 have all:∀ (l:List ag),(∀ b∈xi l,b∈X.fs)->X.s₀.heap.FunFrames X.base l->s.heap.FunFrames X.base l:=by
  intro l;induction l with
  |nil=>intro _ _;trivial
  |cons env r i=>
   intro hs f;obtain⟨d,⟨L,o,c,hn,g,hd⟩,h⟩:=f;have a:L∈X.fs:=hs L (by unfold xi;rw[Ig,c];exact Ub);obtain⟨j,e⟩:=I.base.slot L o g (I.ok.vr L a) a λz=>I.ok.Go L z a;exact⟨d,⟨L,_,c,hn,e,hd⟩,i (λb hb=>hs b (by unfold xi;rw[Ig,c];exact jb _ hb)) h⟩
 exact all X.outer (λ_ hb=>hb) I.ok.yi
theorem Inv.stack(I:Inv X pins σ H s):s.heap.FunFrames X.base X.stack:=by
 rcases I.ok.wn with e|⟨e,a⟩
 ·rw[e];exact I.yi
 ·rw[e];obtain⟨m,hn,_⟩:=I.loc;refine .cons (by rw[I.ok.kind];decide) a hn ?_ I.yi;exact Heap.get?_none_of_le (Hb I.ok.Jp I.ok.above)
theorem Inv.qp(I:Inv X pins σ H s):∀ b∈xi X.stack,b∈X.env.locals::X.fs:=λb hb=>by
 rcases I.ok.wn with e|⟨e,a⟩
 ·rw[e]at hb;exact jb _ hb
 ·rw[e]at hb;unfold xi at hb;rw[Ig,a]at hb;exact hb
theorem Inv.tj(I:Inv X pins σ H s):∀ b∈xi X.stack,H b=none:=λb hb=>by
 rcases Pa.mp (I.qp b hb)with e|hb
 ·rw[e];exact I.free
 ·obtain⟨_,o,a,_⟩:=I.ok.yi.mem hb;exact I.base.free b o a (I.ok.vr b hb) λz=>I.ok.Go b z hb
theorem Inv.step{g':Array Fp}{t':Nat}{d':YG}{ch:List Addr}(I:Inv X pins σ H s)
  (g:∀ b∈ch,(b∈X.ex\/X.s₀.heap.objs.size<=b)/\b≠X.env.locals/\(∀ x c,X.env.cells.lookup x=some c->c≠b)/\∀ p∈X.pn++pins,p.1≠b)
  (keep:∀ b o,b≠X.env.locals->b ∉ X.fs->b ∉ ch->s.heap.get? b=some o->H b=none->h'.get? b=some o)
  (slot:∀ b o,b≠X.env.locals->b∈X.fs->b ∉ ch->s.heap.get? b=some o->H b=none->∃ D,h'.get? b=some { o with slots:=D }) (free:∀ b o,b ∉ ch->s.heap.get? b=some o->H b=none->H' b=none)
  (there:∀ b o,b ∉ ch->s.heap.get? b=some o->∃ C,h'.get? b=some C)
  (yh:∀ b xs,H b=some (.tup xs)->H' b=some (.tup xs)) (Hg:∀ b o u,H b=some (.Xa o u)->H' b=some (.Xa o u)) (kh:∀ b ps,H b=some (.Ik ps)->∃ more,H' b=some (.Ik (ps++more)))
  (ns:∀ m,s.heap.Ns X.env.locals m->h'.Ns X.env.locals m) (Qb:Kh X.prog X.w H' h') (K:bg g') :
  Inv X pins σ H' { s with heap:=h',gens:=g',drawn:=d',toks:=t' }:=by
 have B:∀ b o,X.s₀.heap.get? b=some o->b≠X.env.locals:=λb o e=>Ba (Ca (qa e) I.ok.above);have t:∀ b o,X.s₀.heap.get? b=some o->b ∉ X.ex->b ∉ ch:=λb o e a hb=>by
  rcases(g b hb).1 with z|z
  ·exact a z
  ·exact absurd (Ca (qa e) z) (wd _)
 have f:∀ x c,X.env.cells.lookup x=some c->∀ v,s.heap.IsCell c v->h'.IsCell c v:=λx c e v ⟨o,y,hd⟩=>by
  have h:c ∉ ch:=λz=>(g c z).2.2.1 x c e rfl;by_cases F:c∈X.fs
  ·obtain⟨D,q⟩:=slot c o (I.fu x c e) F h y (I.Gf x c e);exact⟨_,q,hd⟩
  ·exact⟨o,keep c o (I.fu x c e) F h y (I.Gf x c e),hd⟩
 refine⟨I.ok,I.os,K,⟨λb o e n hb a=>?_,λb o e n hb a=>?_,λb o e n a=>?_,λb o e a=>?_,λb xs e=>yh b xs (I.base.yh b xs e),λb o xs e=>Hg b o xs (I.base.Hg b o xs e),λb ps e=>?_⟩,?_,λx c e=>?_,?_,λx c e=>?_,λp hp=>?_,Qb,I.len⟩
 ·exact keep b o (B b o e) hb (t b o e a) (I.base.keep b o e n hb a) (I.base.free b o e n a)
 ·obtain⟨D,j⟩:=I.base.slot b o e n hb a;obtain⟨E,A⟩:=slot b _ (B b o e) hb (t b o e a) j (I.base.free b o e n a);exact⟨E,A⟩
 ·obtain⟨C,j⟩:=I.base.there b o e a;exact free b C (t b o e a) j (I.base.free b o e n a)
 ·obtain⟨C,j⟩:=I.base.there b o e a;exact there b C (t b o e a) j
 ·obtain⟨m1,j⟩:=I.base.kh b ps e;obtain⟨m2,A⟩:=kh b _ j;exact⟨m1++m2,by rw[A,xj]⟩
 ·obtain⟨m,hn,L⟩:=I.loc;refine⟨m,ns m hn,λi x v j A J=>?_⟩;obtain⟨u,r,l⟩:=L i x v j A J;refine⟨u,r,?_⟩;rcases l with l|⟨k,c,e,z⟩
  ·exact .inl l
  ·exact .inr ⟨k,c,e,f x c e _ z⟩
 ·obtain⟨v,z⟩:=I.cell x c e;exact⟨v,f x c e v z⟩
 ·obtain⟨m,⟨o,_,_,y,_⟩,_⟩:=I.loc;exact free _ o (λz=>(g _ z).2.1 rfl) y I.free
 ·obtain⟨v,o,y,hd⟩:=I.cell x c e;exact free c o (λz=>(g c z).2.2.1 x c e rfl) y (I.Gf x c e)
 ·obtain⟨e,n,ne,G,d⟩:=I.pin p hp;have h:p.1 ∉ ch:=λz=>(g p.1 z).2.2.2 p hp rfl;exact⟨keep p.1 p.2 ne G h e n,free p.1 p.2 h e n,ne,G,d⟩
theorem Inv.un{t':Nat}(I:Inv X pins σ H s)(u:Un X.fs [] H H' s.heap h')(Qb:Kh X.prog X.w H' h'):Inv X pins σ H' { s with heap:=h',toks:=t' }:=by
 obtain⟨m,⟨o,j,i,f,r⟩,_⟩:=id I.loc;obtain⟨p,g⟩:=u.any f I.free (by simp);exact I.step (g':=s.gens) (d':=s.drawn) (ch:=[]) (λ_ z=>nomatch z) (λb o _ hb _ e n=>u.keep b o e n hb (by simp)) (λb o _ hb _ e n=>u.slot b o e n hb (by simp)) (λb o _ e n=>u.free b o e n (by simp)) (λb o _ e=>u.there b o e (by simp)) u.yh u.Hg u.kh (λk hm=>by
  obtain⟨l,d,c,a,h⟩:=hm;rw[f]at a;cases a;exact⟨_,d,c,g,h⟩) Qb I.bare
theorem Inv.call{g':Array Fp}{t':Nat}{d':YG}{ch:List Addr}(I:Inv X pins σ H s)(u:Un (xi X.stack) ch H H' s.heap h')(Qb:Kh X.prog X.w H' h')(k:bg g')
  (d:∀ b∈ch,(b∈X.ex\/X.s₀.heap.objs.size<=b)/\b≠X.env.locals/\(∀ x c,X.env.cells.lookup x=some c->c≠b)/\∀ p∈X.pn++pins,p.1≠b) :
  Inv X pins σ H' { s with heap:=h',gens:=g',drawn:=d',toks:=t' }:=by
 obtain⟨m,⟨o,t,q,j,r⟩,_⟩:=id I.loc;obtain⟨A,i⟩:=u.any j I.free λz=>(d _ z).2.1 rfl;exact I.step (ch:=ch) d (λb o i hb a e n=>u.keep b o e n (λz=>(Pa.mp (I.qp b z)).elim i hb) a) (λb o _ _ a e n=>u.any e n a) (λb o a e n=>u.free b o e n a) (λb o a e=>u.there b o e a) u.yh u.Hg u.kh (λv hm=>by
  obtain⟨y,h,g,f,l⟩:=hm;rw[j]at f;cases f;exact⟨_,h,g,i,l⟩) Qb k
theorem Inv.turned{t':Nat}{it:Addr}(I:Inv X pins σ H s)(k:∀ b o,b≠it->s.heap.get? b=some o->h'.get? b=some o)(hn:H it=none)(f:it≠X.env.locals)
  (h1:it∈X.ex\/X.s₀.heap.objs.size<=it) (i:∀ x c,X.env.cells.lookup x=some c->c≠it) (h3:∀ p∈X.pn++pins,p.1≠it):Inv X pins σ H { s with heap:=h',toks:=t' }:=by
 have d:∀ b u,H b=some u->b≠it:=λb u e z=>by rw[z,hn]at e;cases e
 refine I.step (g':=s.gens) (d':=s.drawn) (ch:=[it]) (λb hb=>?_) (λb o _ _ a e _=>k b o (λz=>a (by simp[z])) e) (λb o _ _ a e _=>⟨o.slots,k b o (λz=>a (by simp[z])) e⟩) (λ_ _ _ _ n=>n)
  (λb o a e=>⟨o,k b o (λz=>a (by simp[z])) e⟩) (λ_ _ e=>e) (λ_ _ _ e=>e) (λb l e=>⟨#[],by rw[e];simp⟩) (λm hm=>?_) (λb u e=>?_) I.bare
 ·have e:b=it:=by simpa using hb
  subst e;exact⟨h1,f,i,h3⟩
 ·obtain⟨o,h,g,j,r⟩:=hm;exact⟨o,h,g,k _ o (Ee f) j,r⟩
 ·refine(I.Qb b u e).ej (λc v a q=>k c v ?_ q) (λ_ q=>q) λ_ _ q=>q;rcases a with z|z
  ·rw[z];exact d b u e
  ·exact d c _ z
theorem Inv.tok(I:Inv X pins σ H s)(t:Nat):Inv X pins σ H { s with toks:=t }:=I.un (h':=s.heap) (t':=t) Un.refl I.Qb
theorem Inv.kept{t':Nat}(I:Inv X pins σ H s)(k:∀ b u,s.heap.get? b=some u->h'.get? b=some u):Inv X pins σ H { s with heap:=h',toks:=t' }:=I.un (Un.kept k) (I.Qb.kept k)
theorem Inv.laid{a:Addr}{o:HO}{t':Nat}(I:Inv X pins σ H s)(k:∀ b u,s.heap.get? b=some u->h'.get? b=some u)(hp:s.heap.objs.size<=a)(c:mi X.prog X.w (upd H a o) h' a o) :
  Inv X pins σ (upd H a o) { s with heap:=h',toks:=t' }:=I.un (Un.laid k hp (I.Qb.fresh hp)) (I.Qb.laid k hp c)
theorem Inv.write{x e:Addr}{o:HO}{t':Nat}(I:Inv X pins σ H s)(d:jy (H x))(he:e=x\/H e=some (.own x))(k:∀ b u,b≠e->s.heap.get? b=some u->h'.get? b=some u)(a:∃ u,h'.get? e=some u)
  (c:mi X.prog X.w (upd H x o) h' x o):Inv X pins σ (upd H x o) { s with heap:=h',toks:=t' }:=I.un (Un.write d he k a) (I.Qb.write d he k a c)
theorem Inv.ki{a:List (Addr × gc)}(I:Inv X pins σ H s)(h:∀ p∈a,s.heap.get? p.1=some p.2/\H p.1=none/\p.1≠X.env.locals/\p.1 ∉ X.fs/\∀ v,p.2.data≠.cell v):Inv X a σ H s:=
 ⟨I.ok,I.os,I.bare,I.base,I.loc,I.cell,I.free,I.Gf,λp hp=>(wg.mp hp).elim (λz=>I.pin p (La _ z)) (h p),I.Qb,I.len⟩
theorem DD{N:List ma}(hN:N.Nodup){i j:Nat}{x:ma}(a:N[i]?=some x)(b:N[j]?=some x):i=j:=by
 obtain⟨h1,c⟩:=ja.mp a;obtain⟨e,d⟩:=ja.mp b;exact(List.getElem_inj hN).mp (c.trans d.symm)
theorem CJ{M:Yj}{A:Da}{E:Value->aa->Prop}{i:Nat}{x:ma}{v:V}{u:Value}{Q:Unit->aa->Prop}(I:Inv X pins σ H s)(hN:X.N.Nodup)(P:X.N[i]?=some x)(t:Loc X.env.scope x)(r:Qc v u)
  (h:∀ s',Inv X pins (σ.set i (some v)) H s'->(∃ a,Ye a s.heap s'.heap/\(a=X.env.locals\/X.env.cells.lookup x=some a))->Q () s') (hf:X.fn x=true\/X.env.scope.names.lookup x=some .local:=by first|exact .inl rfl|exact .inr rfl|assumption):wpAny M A (eA X.env x u) Q E s:=by
 obtain⟨m,hn,hl⟩:=id I.loc;have O:(X.env.scope.kind == .class || (X.env.scope.kind == .module && X.env.locals != X.env.globals))=false:=by rw[I.ok.kind];rfl
 have D:i<σ.length:=by rw[I.len];exact(ja.mp P).1
 have fu:=I.fu;have g:∀ {a:Addr} {h':Heap},(∃ o,s.heap.get? a=some o/\H a=none)->Ye a s.heap h'->Kh X.prog X.w H h':=fun {a h'} ha hs b ob e=>by
  obtain⟨_,_,B⟩:=ha;refine(I.Qb b ob e).ej (λc U l q=>(hs.2 c ?_).trans q) (λ_ q=>q) λ_ _ q=>q;rintro rfl;rcases l with rfl|l
  ·rw[B]at e;cases e
  ·rw[B]at l;cases l
 rcases t with F|F
 ·refine wpAny_storeName_local F hn (λh' Y hs=>?_) O;obtain⟨oL,_,_,Z,_⟩:=id hn;refine h _ ⟨I.ok,I.os,I.bare,⟨λb o e n hb t=>?_,λb o e n hb t=>?_,I.base.free,λb o e t=>?_,I.base.yh,I.base.Hg,I.base.kh⟩,⟨_,Y,λj y v' f C W=>?_⟩,λy c e=>?_,I.free,I.Gf,λp hp=>?_,g ⟨oL,Z,I.free⟩ hs,by simpa using I.len⟩ ⟨_,hs,.inl rfl⟩
  ·exact(hs.2 b (Ba (Ca (qa e) I.ok.above))).trans (I.base.keep b o e n hb t)
  ·obtain⟨sl,f⟩:=I.base.slot b o e n hb t;exact⟨sl,(hs.2 b (Ba (Ca (qa e) I.ok.above))).trans f⟩
  ·obtain⟨o',f⟩:=I.base.there b o e t;exact⟨o',(hs.2 b (Ba (Ca (qa e) I.ok.above))).trans f⟩
  ·by_cases J:j=i
   ·subst J;rw[P]at f;cases f;rw[Wh D]at C;cases C;exact⟨u,r,.inl ⟨F,by simp⟩⟩
   ·rw[Hi (Ee J)]at C;obtain⟨u',r',q⟩:=hl j y v' f C W;refine⟨u',r',?_⟩;rcases q with⟨k,e⟩|⟨k,c,e,z⟩
    ·refine .inl ⟨k,?_⟩;have:y≠x:=λe=>J (DD hN f (e ▸ P));simp[this,e]
    ·exact .inr ⟨k,c,e,z.sameBut hs (fu y c e)⟩
  ·obtain⟨U,z⟩:=I.cell y c e;exact⟨U,z.sameBut hs (fu y c e)⟩
  ·obtain⟨e,n,ne,nf,d⟩:=I.pin p hp;exact⟨(hs.2 p.1 ne).trans e,n,ne,nf,d⟩
 ·have G:X.fn x=true:=by
   rcases hf with z|z
   ·exact z
   ·rw[z]at F;cases F
  obtain⟨c,l⟩:=I.ok.has x (.inl F);obtain⟨U,z⟩:=I.cell x c l;refine wpAny_storeName_cell I.ok.kind F l z (λh' K hs=>?_);obtain⟨oc,R,S⟩:=id z;refine h { s with heap:=h' } ⟨I.ok,I.os,I.bare,⟨λb o e n hb t=>?_,λb o e n hb t=>?_,I.base.free,λb o e t=>?_,I.base.yh,I.base.Hg,I.base.kh⟩,⟨m,hn.sameBut hs (Ee (fu x c l)),λj y v' f C W=>?_⟩,λy T e=>?_,I.free,I.Gf,λp hp=>?_,g ⟨oc,R,I.Gf x c l⟩ hs,by simpa using I.len⟩ ⟨c,hs,.inr l⟩
  ·exact(hs.2 b (Ba (Ca (qa e) (I.ok.Fu x c G l)))).trans (I.base.keep b o e n hb t)
  ·obtain⟨sl,f⟩:=I.base.slot b o e n hb t;exact⟨sl,(hs.2 b (Ba (Ca (qa e) (I.ok.Fu x c G l)))).trans f⟩
  ·obtain⟨o',f⟩:=I.base.there b o e t;exact⟨o',(hs.2 b (Ba (Ca (qa e) (I.ok.Fu x c G l)))).trans f⟩
  ·by_cases J:j=i
   ·subst J;rw[P]at f;cases f;rw[Wh D]at C;cases C;exact⟨u,r,.inr ⟨.inl F,c,l,K⟩⟩
   ·rw[Hi (Ee J)]at C;obtain⟨u',r',q⟩:=hl j y v' f C W;refine⟨u',r',?_⟩;rcases q with q|⟨k,T,e,z'⟩
    ·exact .inl q
    ·refine .inr ⟨k,T,e,z'.sameBut hs ?_⟩;rintro rfl;exact J (DD hN f (I.ok.inj _ _ _ e l ▸ P))
  ·by_cases L:T=c
   ·subst L;exact⟨_,K⟩
   ·obtain⟨w2,z2⟩:=I.cell y T e;exact⟨w2,z2.sameBut hs L⟩
  ·obtain⟨e,n,ne,nf,d⟩:=I.pin p hp;refine⟨(hs.2 p.1 ?_).trans e,n,ne,nf,d⟩;intro q;rw[q,R]at e;have q':oc=p.2:=nb e;exact d U (by rw[<-q'];exact S)
theorem xC{M:Yj}{A:Da}{E:Value->aa->Prop}{i:Nat}{x:ma}{v:V}{u:Value}{Q:Unit->aa->Prop}(I:Inv X pins σ H s)(hN:X.N.Nodup)(c:X.N[i]?=some x)(d:Loc X.env.scope x)(r:Qc v u)
  (h:∀ s',Inv X pins (σ.set i (some v)) H s'->Q () s') (b:X.fn x=true\/X.env.scope.names.lookup x=some .local:=by first|exact .inl rfl|exact .inr rfl|assumption):wpAny M A (eA X.env x u) Q E s:=
 CJ I hN c d r (λs' a _=>h s' a) b
theorem Inv.Ar{s':aa}{ch:List Addr}(I:Inv X pins σ H s)(f:s'.os=s.os)(u:Un (xi X.stack) ch H H' s.heap s'.heap)(Qb:Kh X.prog X.w H' s'.heap)(d:bg s'.gens)
  (a:∀ b∈ch,(b∈X.ex\/X.s₀.heap.objs.size<=b)/\b≠X.env.locals/\(∀ x c,X.env.cells.lookup x=some c->c≠b)/\∀ p∈X.pn++pins,p.1≠b):Inv X pins σ H' s':=by
 obtain⟨h',g',d',t',g⟩:=s';have e:g=s.os:=f;subst e;exact I.call (g':=g') (t':=t') (d':=d') u Qb d a
end
noncomputable abbrev XK:=Value->Option Addr->Hp->Prop
noncomputable abbrev St:=List (Option V)
noncomputable abbrev VK:=V->Hp->Prop
noncomputable abbrev TE:=St->Hp->VK->Prop
noncomputable abbrev TT:=St->Hp->(Bool->Hp->Prop)->Prop
noncomputable abbrev TA:=St->Hp->(List V->Hp->Prop)->Prop
structure Ends where
 nx:St->Hp->Prop
 rt:VK
 bk:St->Hp->Prop:=λ_ _=>False
 ct:St->Hp->Prop:=λ_ _=>False
noncomputable abbrev TS:=Ends->St->Hp->Prop
noncomputable def EP(X:Cx)(a:List (Addr × gc))(σ:St)(Q:VK)(u:Value)(s':aa):Prop:=∃ v b,Inv X a σ b s'/\Qc v u/\Q v b
noncomputable def TP(X:Cx)(a:List (Addr × gc))(σ:St)(Q:Bool->Hp->Prop)(b:Bool)(s':aa):Prop:=∃ c,Inv X a σ c s'/\Q b c
noncomputable def AP(X:Cx)(a:List (Addr × gc))(σ:St)(Q:List V->Hp->Prop)(us:List Value)(s':aa):Prop:=∃ c b,Inv X a σ b s'/\Od c us/\Q c b
noncomputable def SP(X:Cx)(b:List (Addr × gc))(D:Ends)(f:Flow)(s':aa):Prop:=
 match f with
 | .next=>∃ a c,Inv X b a c s'/\D.nx a c
 | .brk=>∃ a c,Inv X b a c s'/\D.bk a c
 | .cont=>∃ a c,Inv X b a c s'/\D.ct a c
 | .ret u=>∃ v a c,Inv X b a c s'/\Qc v u/\D.rt v c
noncomputable def PE(X:Cx)(e:Ga)(t:TE):Prop:=
 ∀ (a:List (Addr × gc)) (s:aa) (σ:St) (H:Hp) (Q:VK),Inv X a σ H s->t σ H Q->wpAny (model X.prog X.w) X.A (Wb e X.env) (EP X a σ Q) X.xe s
noncomputable def PT(X:Cx)(e:Ga)(t:TT):Prop:=
 ∀ (a:List (Addr × gc)) (s:aa) (σ:St) (H:Hp) (Q:Bool->Hp->Prop),Inv X a σ H s->t σ H Q->wpAny (model X.prog X.w) X.A (yw e X.env (Wb e X.env)) (TP X a σ Q) X.xe s
noncomputable def PW(X:Cx)(e:Ga)(t:TT):Prop:=
 ∀ (a:fo Value) (pins:List (Addr × gc)) (s:aa) (σ:St) (H:Hp) (Q:Bool->Hp->Prop),Inv X pins σ H s->t σ H Q->wpAny (model X.prog X.w) X.A (yw e X.env a) (TP X pins σ Q) X.xe s
theorem PW.pt{X:Cx}{e:Ga}{t:TT}(h:PW X e t):PT X e t:=h _
noncomputable def PA(X:Cx)(b:List Ga)(t:TA):Prop:=
 ∀ (a:Ae) (pins:List (Addr × gc)) (s:aa) (σ:St) (H:Hp) (Q:List V->Hp->Prop),Inv X pins σ H s->t σ H Q->wpAny (model X.prog X.w) X.A (spliced (Dc a (pa b X.env))) (AP X pins σ Q) X.xe s
noncomputable def PS(X:Cx)(st:Stmt)(t:TS):Prop:=
 ∀ (a:List (Addr × gc)) (s:aa) (σ:St) (H:Hp) (D:Ends),Inv X a σ H s->t D σ H->wpAny (model X.prog X.w) X.A (exec st X.env) (SP X a D) X.xe s
noncomputable def Mp(X:Cx)(st:List Stmt)(t:TS):Prop:=
 ∀ (a:List (Addr × gc)) (s:aa) (σ:St) (H:Hp) (D:Ends),Inv X a σ H s->t D σ H->wpAny (model X.prog X.w) X.A (execs st X.env) (SP X a D) X.xe s
theorem zd{c:Type}{t:fo c}{Q b:c->aa->Prop}{M:Yj}{A:Da}{E:Value->aa->Prop}{s:aa}(h:wpAny M A t Q E s)(d:∀ a s,Q a s->b a s):wpAny M A t b E s:=Mb h d λ_ _ x=>x
section
variable{X:Cx}
theorem bin{a b:Ga}{j tb:TE}(n:PE X a j)(hb:PE X b tb){c:List (Addr × gc)}{s:aa}{σ:St}{H:Hp}{R:V->V->Hp->Prop}(I:Inv X c σ H s)(h:j σ H λx i=>tb σ i λy d=>R x y d)
  {k:Type} {Q:k->aa->Prop} {f:Value->Value->fo k}
  (o:∀ v u s2 x y d,Inv X c σ d s2->Qc x v->Qc y u->R x y d->wpAny (model X.prog X.w) X.A (f v u) Q X.xe s2) :
  wpAny (model X.prog X.w) X.A (Wb a X.env) (λv e=>wpAny (model X.prog X.w) X.A (Wb b X.env) (λu g=>wpAny (model X.prog X.w) X.A (f v u) Q X.xe g) X.xe e) X.xe s:=by
 refine zd (n c s σ H _ I h) λv s1 ⟨x,i,l,r,p⟩=>?_;refine zd (hb c s1 σ i _ l p) λu s2 ⟨y,d,m,t,q⟩=>?_;exact o v u s2 x y d m r t q
noncomputable def cX(i:Nat):TE:=λa H Q=>∃ v,a[i]?=some (some v)/\Q v H
noncomputable def tC(v:V):TE:=λ_ H Q=>Q v H
theorem O2{i:Nat}{x:ma}{j:Ae}(hN:X.N[i]?=some x)(hv:qA X.env.scope x)(hd:(x == ("__debug__" : ma))=false:=by decide)(g:(x == ("__classdict__" : ma))=false:=by decide):PE X (.Name x j) (cX i):=by
 intro f s o H Q I h;obtain⟨v,e,h⟩:=h;obtain⟨m,hn,n⟩:=I.loc;obtain⟨u,r,l⟩:=n i x v hN e hv;have b:EP X f o Q u s:=⟨v,H,I,r,h⟩
 rcases l with⟨d,hm⟩|⟨d,c,k,a⟩
 ·exact pw (uu I.ok.kind d hn hm b) hd
 ·rcases d with d|d
  ·exact pw (Zu I.ok.kind d k a b) hd
  ·exact pw (wpAny_loadName_free I.ok.kind d k a b g) hd
theorem GZ{i j pos}:PE X (.Constant (.int i) j pos) (tC (.int i)):=λ_ _ _ H _ I h=>wpAny_Constant_int ⟨.int i,H,I.tok _,⟨_,rfl⟩,h⟩
theorem kW{b j pos}:PE X (.Constant (.bool b) j pos) (tC (.bl b)):=λ_ _ _ H _ I h=>Constant_bool ⟨.bl b,H,I,rfl,h⟩
theorem aX{j pos}:PE X (.Constant .none j pos) (tC .Jb):=λ_ _ _ H _ I h=>Constant_none ⟨.Jb,H,I,rfl,h⟩
theorem WZ{x j pos}:PE X (.Constant (.str x) j pos) (tC (.str x)):=λ_ _ _ H _ I h=>Calls.Constant_str ⟨.str x,H,I.tok _,⟨_,rfl⟩,h⟩
noncomputable def Gl(X:Cx)(x:ma):Prop:=X.env.kindOf x=some .globalImplicit
theorem Ow{E:Value->aa->Prop}{a:List (Addr × gc)}{s:aa}{σ:St}{H:Hp}{x:ma}{u:Value}{b:Ae}{Q:Value->aa->Prop}(I:Inv X a σ H s)(c:Gl X x)(hm:X.mg x=some u)(h:Q u s)
  (hd:(x == ("__debug__" : ma))=false:=by decide):wpAny (model X.prog X.w) X.A (Wb (.Name x b) X.env) Q E s:=
 Jm I.ok.kind c (Calls.loadGlobal_global (by rw[I.ok.glob];exact I.mod.glob.keeps I.bk) hm h) hd
theorem Wu{E:Value->aa->Prop}{a:List (Addr × gc)}{s:aa}{σ:St}{H:Hp}{x:ma}{u:Value}{b:Ae}{Q:Value->aa->Prop}(I:Inv X a σ H s)(d:Gl X x)(hm:X.mg x=none)(hv:bootBuiltins x=some u)(h:Q u s)
  (hn:x ≠ "__name__":=by decide) (hd:(x == ("__debug__" : ma))=false:=by decide):wpAny (model X.prog X.w) X.A (Wb (.Name x b) X.env) Q E s:=by
 obtain⟨mb,h1,c⟩:=I.mod.blt;exact Jm I.ok.kind d (Calls.loadGlobal_builtin (by rw[I.ok.glob];exact I.mod.glob.keeps I.bk) hm (by rw[I.ok.blt];exact h1.keeps I.bk) ((c x hn).trans hv) h) hd
theorem kG{x:ma}{v:V}{u:Value}{a:Ae}(b:Gl X x)(hm:X.mg x=some u)(r:Qc v u)(hd:(x == ("__debug__" : ma))=false:=by decide):PE X (.Name x a) (tC v):=
 λ_ _ _ H _ I h=>Ow I b hm ⟨v,H,I,r,h⟩ hd
theorem rR{x:ma}{v:V}{u:Value}{a:Ae}(b:Gl X x)(hm:X.mg x=none)(hv:bootBuiltins x=some u)(r:Qc v u)(hn:x ≠ "__name__":=by decide)(hd:(x == ("__debug__" : ma))=false:=by decide):PE X (.Name x a) (tC v):=
 λ_ _ _ H _ I h=>Wu I b hm hv ⟨v,H,I,r,h⟩ hn hd
variable{a b:Ga}{ta tb:TE}{pos:Ae}
noncomputable def PC(X:Cx)(f:io)(a b:Ga)(t:TE):Prop:=
 ∀ (c:List (Addr × gc)) (s:aa) (σ:St) (H:Hp) (Q:VK),Inv X c σ H s->t σ H Q->
  wpAny (model X.prog X.w) X.A (Wb a X.env) (λv d=>wpAny (model X.prog X.w) X.A (Wb b X.env) (λu e=>wpAny (model X.prog X.w) X.A (Ab f v u) (EP X c σ Q) X.xe e) X.xe d) X.xe s
theorem NP(b:Ga){a:io}(h:a≠.In)(e:a≠.NotIn):se a b=false:=by
 have c:(a == ZG)=false:=by cases a<;>first|rfl|exact absurd rfl h
 have d:(a == Vx)=false:=by cases a<;>first|rfl|exact absurd rfl e
 cases b<;>simp[se,c,d]
noncomputable def tB(t:TE):TT:=λb H Q=>t b H λx a=>∃ c,x=.bl c/\Q c a
theorem E4{f:io}{t:TE}(h:PC X f a b t)(h1:se f b=false:=by first|exact NP _ (by decide) (by decide)|rfl):PT X (.Compare a [f] [b] pos) (tB t):=by
 intro e s m H Q I j;refine vt (zd (h e s m H _ I j) λv s1 h1=>zd h1 λu s2 i=>zd i λc s3 ⟨x,H1,g,l,k⟩=>?_) h1;obtain⟨d,rfl,q⟩:=k;cases l;exact Rc ⟨H1,g,q⟩
theorem o0{e:Ga}{t:TE}(h:PE X e t)(he:∀ a,yw e X.env a=(do let v <-a;Xo e.pos;cg [v] (truthy v)):=by intro _;rfl):PT X e (tB t):=by
 intro b s j H Q I f;refine isTrue_plain (zd (h b s j H _ I f) λv s1 ⟨x,H1,c,i,g⟩=>?_) (he _);obtain⟨d,rfl,q⟩:=g;cases i;exact Rc ⟨H1,c,q⟩
variable{tA tB':TT}{Kg:List Ga}
noncomputable def eP(t u:TT):TT:=λb H Q=>t b H λc a=>if c=true then u b a Q else Q false a
noncomputable def CZ(t u:TT):TT:=λb H Q=>t b H λc a=>if c=true then Q true a else u b a Q
noncomputable def KU(t:TT):TT:=λb H Q=>t b H λc a=>Q (!c) a
theorem lW(d:PT X a tA):PW X (.BoolOp .And [a] pos) tA:=by
 intro g b s f H Q I h;refine isTrue_and (zd (d b s f H Q I h) λc s1 e=>?_);cases c with
 |true=>exact isTrue_and_nil e
 |false=>exact e
theorem VS(d:PT X a tA):PW X (.BoolOp .Or [a] pos) tA:=by
 intro g b s f H Q I h;refine isTrue_or (zd (d b s f H Q I h) λc s1 e=>?_);cases c with
 |false=>exact isTrue_or_nil e
 |true=>exact e
theorem V1(i:PT X a tA)(hb:PW X (.BoolOp .And (b::Kg) pos) tB'):PW X (.BoolOp .And (a::b::Kg) pos) (eP tA tB'):=by
 intro j d s g H Q I h;refine isTrue_and (zd (i d s g H _ I h) λc s1 ⟨H1,e,f⟩=>?_);cases c with
 |true=>exact hb j d s1 g H1 Q e f
 |false=>exact⟨H1,e,f⟩
theorem EW(i:PT X a tA)(hb:PW X (.BoolOp .Or (b::Kg) pos) tB'):PW X (.BoolOp .Or (a::b::Kg) pos) (CZ tA tB'):=by
 intro j d s g H Q I h;refine isTrue_or (zd (i d s g H _ I h) λc s1 ⟨H1,e,f⟩=>?_);cases c with
 |true=>exact⟨H1,e,f⟩
 |false=>exact hb j d s1 g H1 Q e f
theorem IS(e:PT X a tA):PT X (.UnaryOp .Not a pos) (KU tA):=by
 intro b s f H Q I h;exact isTrue_not (e b s f H (λc d=>Q (!c) d) I h)
noncomputable def t1(ta tb:TE):TE:=λb H Q=>ta b H λx a=>∃ c,x=.bl c/\if c=true then tb b a Q else Q (.bl false) a
noncomputable def xT(ta tb:TE):TE:=λb H Q=>ta b H λx a=>∃ c,x=.bl c/\if c=true then Q (.bl true) a else tb b a Q
noncomputable def uU(ta:TE):TE:=λb H Q=>ta b H λx a=>∃ c,x=.bl c/\Q (.bl (!c)) a
theorem pX{op}{t:TE}(h:PE X a t):PE X (.BoolOp op [a] pos) t:=λb s d H Q I c=>BoolOp_one (h b s d H Q I c)
theorem YX(i:PE X a ta)(hb:PE X (.BoolOp .And (b::Kg) pos) tb):PE X (.BoolOp .And (a::b::Kg) pos) (t1 ta tb):=by
 intro d s g H Q I h;refine BoolOp_and (zd (i d s g H _ I h) λv s1 ⟨x,H1,f,j,e⟩=>?_);obtain⟨c,rfl,e⟩:=e;cases j;refine Rc ?_;cases c with
 |true=>exact hb d s1 g H1 Q f e
 |false=>exact⟨.bl false,H1,f,rfl,e⟩
theorem V2(i:PE X a ta)(hb:PE X (.BoolOp .Or (b::Kg) pos) tb):PE X (.BoolOp .Or (a::b::Kg) pos) (xT ta tb):=by
 intro d s g H Q I h;refine BoolOp_or (zd (i d s g H _ I h) λv s1 ⟨x,H1,f,j,e⟩=>?_);obtain⟨c,rfl,e⟩:=e;cases j;refine Rc ?_;cases c with
 |false=>exact hb d s1 g H1 Q f e
 |true=>exact⟨.bl true,H1,f,rfl,e⟩
theorem tV(f:PE X a ta):PE X (.UnaryOp .Not a pos) (uU ta):=by
 intro b s i H Q I h;refine UnaryOp_ (zd (f b s i H _ I h) λv s1 ⟨x,H1,e,g,d⟩=>?_);obtain⟨c,rfl,d⟩:=d;cases g;exact not_of (Rc ⟨.bl (!c),H1,e,rfl,d⟩)
noncomputable def K3(t:TT)(ta tb:TE):TE:=λa H Q=>t a H λc b=>if c=true then ta a b Q else tb a b Q
theorem eR{c:Ga}(k:PT X c tA)(j:PE X a ta)(hb:PE X b tb):PE X (.IfExp c a b pos) (K3 tA ta tb):=by
 intro e s f H Q I h;refine wpAny_IfExp (zd (k e s f H _ I h) λd s1 ⟨H1,g,i⟩=>?_);cases d with
 |true=>exact j e s1 f H1 Q g i
 |false=>exact hb e s1 f H1 Q g i
end
noncomputable def Me(K:W.Frag)(H:Hp)(a:Addr)(xs:List V):Prop:=
 Rd H a (.lst xs)\/
  ∃ (o:gc) (b:Array Value) (n:Nat),K.lookup a=some o/\o.cls=.type "list"/\o.dict=none/\o.data=.seq b n/\b.size<=sizeLine/\Od xs b.toList
noncomputable def nh(K:W.Frag)(H:Hp)(a:Addr)(xs:List V):Prop:=
 Rd H a (.tup xs)\/
  ∃ (o:gc) (b:Array Value) (n:Nat),K.lookup a=some o/\o.cls=.type "tuple"/\o.data=.seq b n/\b.size<=sizeLine/\Od xs b.toList
noncomputable def AX:Value->Option V
 | .none=>some .Jb
 | .bool b=>some (.bl b)
 | .int i _=>some (.int i)
 | .str x _=>some (.str x)
 | .bytes b _=>some (.NA b)
 | .float b _=>some (.Qv b)
 | .ref a=>some (.ref a)
 | .type n=>some (.ty n)
 |_=>none
theorem Qc.abs{x:V}{u:Value}(r:Qc x u):AX u=some x:=by
 cases x with
 |Jb=>cases r;rfl
 |bl _=>cases r;rfl
 |int _=>obtain⟨t,rfl⟩:=r;rfl
 |str _=>obtain⟨t,rfl⟩:=r;rfl
 |NA _=>obtain⟨t,rfl⟩:=r;rfl
 |Qv _=>obtain⟨t,rfl⟩:=r;rfl
 |ref _=>cases r;rfl
 |ty _=>cases r;rfl
theorem Qc.inj{x y:V}{u:Value}(r:Qc x u)(q:Qc y u):x=y:=nb (r.abs.symm.trans q.abs)
theorem Od.inj:∀ {xs ys:List V} {us:List Value},Od xs us->Od ys us->xs=ys
 |_,_,_,.nil,.nil=>rfl
 |_,_,_,.cons r t,.cons a b=>by rw[r.inj a,Od.inj t b]
section
variable{X:Cx}{pins:List (Addr × gc)}{σ:St}{H:Hp}{s:aa}{a:Addr}{xs ys:List V}
theorem Me.of{K:W.Frag}(h:H a=some (.lst xs)):Me K H a xs:=.inl (.inl h)
theorem nh.of{K:W.Frag}(h:H a=some (.tup xs)):nh K H a xs:=.inl (.inl h)
theorem Inv.list(I:Inv X pins σ H s)(h:Me X.K H a xs):∃ its:List Value,Od xs its/\PlainL s.heap a its.toArray/\xs.length<=sizeLine:=by
 rcases h with h|⟨o,its,n,c,b,hd,hs,d,r⟩
 ·obtain⟨z,its,n,r,e⟩:=h.ok I.Qb;exact⟨its,r,⟨_,n,e,rfl,rfl,rfl⟩,z⟩
 ·refine⟨its.toList,r,⟨o,n,I.Xi a o c,b,hd,by simpa using hs⟩,?_⟩;have e:=r.length;simp only[xg]at e;omega
theorem Inv.tuple(I:Inv X pins σ H s)(h:nh X.K H a xs):∃ its:List Value,Od xs its/\jr s.heap a its.toArray/\xs.length<=sizeLine:=by
 rcases h with h|⟨o,its,n,c,b,hs,d,r⟩
 ·obtain⟨z,its,r,p⟩:=h.ok I.Qb;exact⟨its,r,p,z⟩
 ·refine⟨its.toList,r,⟨o,I.Xi a o c,b,n,by simpa using hs⟩,?_⟩;have e:=r.length;simp only[xg]at e;omega
theorem Inv.wj(I:Inv X pins σ H s)(h:Me X.K H a xs)(h':Me X.K H a ys):xs=ys:=by
 obtain⟨b,r,⟨o,n,e,_,_,d⟩,_⟩:=I.list h;obtain⟨its',g,⟨j,i,f,_,_,c⟩,_⟩:=I.list h';rw[e]at f;cases f;rw[d]at c;injection c with d1 _;have:b=its':=by simpa using we Array.toList d1
 subst this;exact r.inj g
theorem Inv.mq(I:Inv X pins σ H s)(h:nh X.K H a xs)(h':nh X.K H a ys):xs=ys:=by
 obtain⟨b,r,⟨o,e,_,n,d⟩,_⟩:=I.tuple h;obtain⟨its',g,⟨j,f,_,i,c⟩,_⟩:=I.tuple h';rw[e]at f;cases f;rw[d]at c;injection c with d1 _;have:b=its':=by simpa using we Array.toList d1
 subst this;exact r.inj g
end
noncomputable abbrev Cx.zk(X:Cx)(E:Value->aa->Prop):Cx:={ X with xe:=E }
noncomputable abbrev Cx.Dm(X:Cx):Cx:=X.zk λ_ _=>False
theorem Cx.Ok.zk{X:Cx}(ok:X.Ok)(E:Value->aa->Prop):(X.zk E).Ok:=
 ⟨ok.mod,ok.kind,ok.glob,ok.blt,ok.above,ok.inj,ok.has,ok.Fu,ok.hd,ok.frames,ok.wn,ok.Iv,ok.bs,ok.Jp,ok.wo,ok.Go,ok.yi,ok.vr⟩
theorem Cx.Ok.Ug{X:Cx}{E:Value->aa->Prop}(ok:(X.zk E).Ok):X.Ok:=
 ⟨ok.mod,ok.kind,ok.glob,ok.blt,ok.above,ok.inj,ok.has,ok.Fu,ok.hd,ok.frames,ok.wn,ok.Iv,ok.bs,ok.Jp,ok.wo,ok.Go,ok.yi,ok.vr⟩
section
variable{X:Cx}{pins:List (Addr × gc)}{σ:St}{H:Hp}{s:aa}{E:Value->aa->Prop}
theorem Inv.zk(I:Inv X pins σ H s)(E:Value->aa->Prop):Inv (X.zk E) pins σ H s:=⟨I.ok.zk E,I.os,I.bare,I.base,I.loc,I.cell,I.free,I.Gf,I.pin,I.Qb,I.len⟩
theorem Inv.Ug(I:Inv (X.zk E) pins σ H s):Inv X pins σ H s:=⟨I.ok.Ug,I.os,I.bare,I.base,I.loc,I.cell,I.free,I.Gf,I.pin,I.Qb,I.len⟩
theorem SP.Ug{D:Ends}{f:Flow}{s':aa}(h:SP (X.zk E) pins D f s'):SP X pins D f s':=by
 cases f with
 |next=>obtain⟨a,b,I,q⟩:=h;exact⟨a,b,I.Ug,q⟩
 |brk=>obtain⟨a,b,I,q⟩:=h;exact⟨a,b,I.Ug,q⟩
 |cont=>obtain⟨a,b,I,q⟩:=h;exact⟨a,b,I.Ug,q⟩
 |ret u=>obtain⟨v,a,b,I,r,q⟩:=h;exact⟨v,a,b,I.Ug,r,q⟩
theorem PE.Dm{e:Ga}{t:TE}(h:PE X.Dm e t):PE X e t:=λpins s σ H Q I c=>
 Mb (h pins s σ H Q (I.zk _) c) (λ_ _ ⟨v,a,b,r,q⟩=>⟨v,a,b.Ug,r,q⟩) λ_ _ z=>False.elim z
theorem PT.Dm{e:Ga}{t:TT}(h:PT X.Dm e t):PT X e t:=λpins s σ H Q I c=>
 Mb (h pins s σ H Q (I.zk _) c) (λ_ _ ⟨a,b,q⟩=>⟨a,b.Ug,q⟩) λ_ _ z=>False.elim z
theorem Mp.Dm{st:List Stmt}{t:TS}(h:Mp X.Dm st t):Mp X st t:=λpins s σ H D I a=>
 Mb (h pins s σ H D (I.zk _) a) (λ_ _ q=>q.Ug) λ_ _ z=>False.elim z
end
section
variable{X:Cx}{st:Stmt}{Kg:List Stmt}{t u:TS}{e:Ga}{te:TE}{pos:Ae}
noncomputable def A2:TS:=λD a H=>D.nx a H
noncomputable def gY(t u:TS):TS:=λD a H=>t { D with nx:=u D } a H
theorem tU:Mp X [] A2:=λ_ _ a H _ I h=>aj ⟨a,H,I,h⟩
theorem T3(h1:PS X st t)(e:Mp X Kg u):Mp X (st::Kg) (gY t u):=by
 intro a s g H D I h;refine Zz (zd (h1 a s g H { D with nx:=u D } I h) λf s1 q=>?_);cases f with
 |next=>
  obtain⟨b,c,d,q⟩:=q;exact e a s1 b c D d q
 |ret v=>exact q
 |brk=>exact q
 |cont=>exact q
theorem DR(h1:PS X st t):Mp X [st] t:=by
 intro a s b H D I h;refine Zz (zd (h1 a s b H D I h) λf s1 q=>?_);cases f with
 |next=>exact aj q
 |ret v=>exact q
 |brk=>exact q
 |cont=>exact q
theorem Inv.quiet{a:List (Addr × gc)}{σ:St}{H:Hp}{s:aa}(I:Inv X a σ H s):L7 X.env=false:=by simp[L7,I.ok.kind]
noncomputable def JS(te:TE):TS:=λD a H=>te a H λ_ b=>D.nx a b
theorem dR(he:PE X e te)(hs:Di e none pos.line X.env=pure false:=by rfl):PS X (.Expr e pos) (JS te):=by
 intro a s b H D I h;exact wpAny_Expr_any (zd (he a s b H _ I h) λv s1 ⟨x,H1,c,f,d⟩=>⟨b,H1,c,d⟩) I.quiet hs
noncomputable def G0(te:TE):TS:=λD a H=>te a H D.rt
theorem qX(he:PE X e te):PS X (.Return (some e) pos) (G0 te):=by
 intro a s b H D I h;exact wpAny_Return_some (zd (he a s b H _ I h) λv s1 ⟨x,H1,c,f,d⟩=>⟨x,b,H1,c,f,d⟩)
noncomputable def cT(c:TT)(t u:TS):TS:=λD a H=>c a H λb d=>if b=true then t D a d else u D a d
theorem tQ{c:Ga}{a b:List Stmt}{j:TT}(l:PT X c j)(k:Mp X a t)(hb:Mp X b u):PS X (.If c a b pos) (cT j t u):=by
 intro e s f H D I h;refine wpAny_If (zd (l e s f H _ I h) λd s1 ⟨H1,g,i⟩=>?_);cases d with
 |true=>exact k e s1 f H1 D g i
 |false=>exact hb e s1 f H1 D g i
end
noncomputable abbrev TG:=V->St->Hp->(St->Hp->Prop)->Prop
noncomputable abbrev Ou:=List V->St->Hp->(St->Hp->Prop)->Prop
noncomputable def PG(X:Cx)(a:Ga)(t:TG):Prop:=
 ∀ (b:List (Addr × gc)) (s:aa) (σ:St) (H:Hp) (v:V) (u:Value) (Q:St->Hp->Prop),Inv X b σ H s->Qc v u->t v σ H Q->
  wpAny (model X.prog X.w) X.A (Zj a X.env u) (λ_ e=>∃ c d,Inv X b c d e/\Q c d) X.xe s
noncomputable def Wy(X:Cx)(ts:List Ga)(t:Ou):Prop:=
 ∀ (a:List (Addr × gc)) (s:aa) (σ:St) (H:Hp) (d:List V) (us:List Value) (Q:St->Hp->Prop),Inv X a σ H s->Od d us->t d σ H Q->
  wpAny (model X.prog X.w) X.A (assignInOrder ((Ke ts X.env).map (·.2)) us) (λ_ e=>∃ b c,Inv X a b c e/\Q b c) X.xe s
noncomputable abbrev CC:=V->V->V->Hp->(Hp->Prop)->Prop
noncomputable def CH(X:Cx)(t:CC):Prop:=
 ∀ (a:List (Addr × gc)) (s:aa) (σ:St) (H:Hp) (o i v:V) (d c u:Value) (Q:Hp->Prop),Inv X a σ H s->Qc o d->Qc i c->Qc v u->t o i v H Q->
  wpAny (model X.prog X.w) X.A (Wx d c u) (λ_ e=>∃ b,Inv X a σ b e/\Q b) X.xe s
noncomputable abbrev bC:=V->V->Hp->VK->Prop
noncomputable def SE(X:Cx)(b:ak)(t:bC):Prop:=
 ∀ (a:List (Addr × gc)) (s:aa) (σ:St) (H:Hp) (x y:V) (v u:Value) (Q:VK),Inv X a σ H s->Qc x v->Qc y u->t x y H Q->
  wpAny (model X.prog X.w) X.A (fA b v u) (EP X a σ Q) X.xe s
section
variable{X:Cx}{pos:Ae}
noncomputable def ZH(i:Nat):TG:=λv a H Q=>Q (a.set i (some v)) H
theorem sU{i:Nat}{x:ma}(hN:X.N.Nodup)(d:X.N[i]?=some x)(e:Loc X.env.scope x)(c:X.fn x=true\/X.env.scope.names.lookup x=some .local:=by first|exact .inl rfl|exact .inr rfl|assumption):PG X (.Name x pos) (ZH i):=by
 intro a s g H v u Q I r h;exact Mx (xC I hN d e r (λf b=>⟨_,H,b,h⟩) c)
noncomputable def rV:Ou:=λa b H Q=>a=[]/\Q b H
noncomputable def RZ(t:TG)(u:Ou):Ou:=λc d H Q=>∃ v r,c=v::r/\t v d H λa b=>u r a b Q
theorem y0:Wy X [] rV:=by
 intro a s b H d c Q I r h;obtain⟨e,h⟩:=h;subst e;cases r;exact assignInOrder_nil ⟨b,H,I,h⟩
theorem zU{e:Ga}{b:List Ga}{t:TG}{u:Ou}(h1:PG X e t)(g:Wy X b u)
  (hs:(Ke (e::b) X.env).map (·.2)=Zj e X.env::(Ke b X.env).map (·.2):=by rfl):Wy X (e::b) (RZ t u):=by
 intro a s k H n l Q I r h;obtain⟨v,m,f,h⟩:=h;subst f;cases r with
 |cons r j=>
  rw[hs];refine assignInOrder_cons (zd (h1 a s k H _ _ _ I r h) λ_ s1 ⟨c,H1,d,i⟩=>?_);exact g a s1 c H1 _ _ Q d j i
noncomputable def fX(K:W.Frag)(n:Nat)(t:Ou):TG:=λv b H Q=>∃ a xs,v=.ref a/\nh K H a xs/\xs.length=n/\t xs b H Q
theorem HW{d:List Ga}{k:Nat}{t:Ou}{n:Nat}(q:X.calm=true)(h:Wy X d t)
  (hn:(Ke d X.env).length=n:=by rfl) (f:(Ke d X.env).findIdx? (·.1)=none:=by rfl):PG X (.Tuple d k pos) (fX X.K n t):=by
 intro c s j H v u Q I r g;obtain⟨a,xs,m,x,w,g⟩:=g;subst m;cases r;obtain⟨A,i,y,B⟩:=I.tuple x;refine assign_Tuple_tuple (I.ok.hd q) y (by simp[hn,<-w,i.length]) f λp z=>?_;have l:Inv X c j H { s with heap:=p }:=I.kept (t':=s.toks) λb o e=>z b o (Ba (qa e)) e;exact h c _ j H xs _ Q l (by simpa using i) g
noncomputable def vR(to e:TE)(t:CC):TG:=λv a H Q=>to a H λo b=>e a b λi c=>t o i v c λd=>Q a d
theorem LX{o i:Ga}{to e:TE}{t:CC}(p:PE X o to)(n:PE X i e)(hs:CH X t)
  (m:∀ v,Zj (.Subscript o i pos) X.env v=(do
   let b <-cg [v] (Wb o X.env);let c <-cg [v,b] (Wb i X.env)
   Xo pos
   cg [v,b,c] (Wx b c v)
   release [v,b,c] []):=by intro _;rfl):PG X (.Subscript o i pos) (vR to e t):=by
 intro a s d H v u Q I r h;rw[m];refine ba (md (zd (p a s d H _ I h) λb s1 ⟨x,H1,j,A,q⟩=>?_));refine ba (md (zd (n a s1 d H1 _ j q) λc s2 ⟨y,f,k,B,w⟩=>?_));refine ba (Fq (ba (md (zd (hs a s2 d f x y v b c u _ k A B r w) λ_ s3 ⟨g,l,z⟩=>?_))));exact wpAny_release ⟨d,g,l,z⟩
noncomputable def cL(c:TE)(g:TG):TS:=λD a H=>c a H λx b=>g x a b D.nx
theorem nP{b e:Ga}{c:TE}{g:TG}(he:PE X e c)(i:PG X b g)(hs:oO [b] e pos.line X.env=pure false:=by rfl)(j:pO [b] e X.env=pure none:=by rfl)
  (h1:(Ke [b] X.env).map (·.2)=[Zj b X.env]:=by rfl):PS X (.Assign [b] e pos) (cL c g):=by
 intro a s d H D I h;refine wpAny_Assign_stores (zd (he a s d H _ I h) λv s1 ⟨x,H1,f,l,k⟩=>?_) hs j;rw[h1];exact zd (i a s1 d H1 x v _ f l k) λ_ s2 q=>q
theorem nW{i:Nat}{x:ma}{e:Ga}{c:TE}{a:Ae}(hN:X.N.Nodup)(j:X.N[i]?=some x)(k:Loc X.env.scope x)(he:PE X e c)(hs:Di e (some (.Name x a)) pos.line X.env=pure false:=by rfl)(g:X.fn x=true\/X.env.scope.names.lookup x=some .local:=by first|exact .inl rfl|exact .inr rfl|assumption) :
  PS X (.Assign [.Name x a] e pos) (cL c (ZH i)):=by
 intro b s n H D I h;refine wpAny_Assign_Name (zd (he b s n H _ I h) λv s1 ⟨y,H1,d,m,l⟩=>?_) hs;exact xC d hN j k m (λs2 f=>⟨_,H1,f,l⟩) g
noncomputable def xO(i:Nat)(d:TE)(e:bC):TS:=λD a H=>∃ x,a[i]?=some (some x)/\d a H λy b=>e x y b λz c=>D.nx (a.set i (some z)) c
theorem ZO{i:Nat}{x:ma}{e:Ga}{q:TE}{o:ak}{t:bC}{f:Ae}(hN:X.N.Nodup)(p:X.N[i]?=some x)(n:Loc X.env.scope x)(he:PE X e q)(O:SE X o t)(L:X.fn x=true\/X.env.scope.names.lookup x=some .local:=by first|exact .inl rfl|exact .inr rfl|assumption) :
  PS X (.AugAssign (.Name x f) o e pos) (xO i q t):=by
 intro a s B H D I h;obtain⟨v,J,h⟩:=h;obtain⟨m,hn,M⟩:=I.loc;have AA:qA X.env.scope x:=by rcases n with k|k;exact .inl k;exact .inr (.inl k)
 obtain⟨u,r,l⟩:=M i x v p J AA;refine wpAny_AugAssign_Name ?_;have go:wpAny (model X.prog X.w) X.A (Wb e X.env) (λw g=>wpAny (model X.prog X.w) X.A (fA o u w) (λr j=>wpAny (model X.prog X.w) X.A (eA X.env x r) (λ_=>SP X a D .next) X.xe j) X.xe g) X.xe s:=by
  refine zd (he a s B H _ I h) λw s1 ⟨y,H1,E,R,P⟩=>?_;refine zd (O a s1 B H1 v y u w _ E r R P) λz s2 ⟨U,C,F,S,Q⟩=>?_;exact xC F hN p n S (λT G=>⟨_,C,G,Q⟩) L
 rcases l with⟨b,hm⟩|⟨b,c,K,d⟩
 ·exact uu I.ok.kind b hn hm go
 ·rcases b with b|b
  ·exact Zu I.ok.kind b K d go
  ·rcases n with k|k
   ·have:X.env.scope.names.lookup x=some .free:=b;rw[k]at this;cases this
   ·have:X.env.scope.names.lookup x=some .free:=b;rw[k]at this;cases this
noncomputable def PM(f:Int->Int->Int):bC:=λx y H Q=>∃ i j,x=.int i/\y=.int j/\Q (.int (f i j)) H
theorem JI:SE X .Add (PM λi j=>i+j):=by
 intro a s g H x y v u Q I d e h;obtain⟨i,j,b,c,q⟩:=h;subst b;subst c;obtain⟨t,rfl⟩:=d;obtain⟨f,rfl⟩:=e;exact iadd_int ⟨.int _,H,I.tok _,⟨_,rfl⟩,q⟩
end
section
variable{X:Cx}{pos:Ae}
end
structure It where
 go:Nat->Hp->Prop
 gx:Nat->Hp->V->Hp->Prop
 stop:Nat->Hp->Prop
noncomputable def Ck(X:Cx)(a:List (Addr × gc))(H:Hp)(b:Addr):Prop:=
 H b=none/\b≠X.env.locals/\b ∉ X.fs/\(b∈X.ex\/X.s₀.heap.objs.size<=b)/\(∀ x c,X.env.cells.lookup x=some c->c≠b)/\∀ p∈X.pn++a,p.1≠b
theorem Inv.Do{X:Cx}{a:List (Addr × gc)}{σ:St}{H d:Hp}{s:aa}{b:Addr}(I:Inv X a σ H s)(hb:s.heap.objs.size<=b)(hn:d b=none):Ck X a d b:=by
 refine⟨hn,Qf (Ca I.lt hb),I.Rz hb,.inr (Hb I.sz hb),λx c e z=>?_,λp hp z=>?_⟩
 ·obtain⟨v,q⟩:=I.cell x c e;exact absurd (Ca q.lt (by rw[z];exact hb)) (wd _)
 ·exact absurd (Ca (qa (I.pin p hp).1) (by rw[z];exact hb)) (wd _)
structure Turn(P:ra)(w:Ea)(K:W.Frag)(tg:Ga)(J:It)(fp:List Addr)(it:Addr)(tn:Nat->Heap->Prop):Prop where
 mem:it∈fp
 obj:∀ i h,tn i h->∀ b∈fp,∃ o,h.get? b=some o/\∀ v,o.data≠.cell v
 keep:∀ i h h',tn i h->(∀ b∈fp,∀ o,h.get? b=some o->h'.get? b=some o)->tn i h'
 item:∀ (X:Cx),X.prog=P->X.w=w->X.K=K->X.calm=true->∀ (i:Nat) (pins:List (Addr × gc)) (s:aa) (σ:St) (H:Hp) (E:Value->aa->Prop),Inv X pins σ H s->(∀ b∈fp,Ck X pins H b)->tn i s.heap->J.go i H->
  wpAny (model P w) X.A (pyNext (.ref it)) (λr s1=>∃ u,r=some u/\
   wpAny (model P w) X.A (letOwnedTupleGo tg (.ref it) u) (λ_ s2=>∃ x H',Inv X pins σ H' s2/\Qc x u/\J.gx i H x H'/\tn (i+1) s2.heap/\∀ b∈fp,H' b=none) E s1) E s
 done:∀ (X:Cx),X.prog=P->X.w=w->X.K=K->X.calm=true->∀ (i:Nat) (pins:List (Addr × gc)) (s:aa) (σ:St) (H:Hp) (E:Value->aa->Prop),Inv X pins σ H s->(∀ b∈fp,Ck X pins H b)->tn i s.heap->J.stop i H->
  wpAny (model P w) X.A (pyNext (.ref it)) (λr s1=>r=none/\Inv X pins σ H s1) E s
 self:∀ (A:Da) (i:Nat) (s:aa) (Q:Value->aa->Prop) (E:Value->aa->Prop),tn i s.heap->Q (.ref it) s->wpAny (model P w) A (pyIter (.ref it)) Q E s
noncomputable abbrev TI:=St->Hp->(It->Hp->Prop)->Prop
noncomputable def AK(X:Cx)(a:List (Addr × gc))(σ:St)(h:Ga)(R:It->Hp->Prop)(d:Value)(s2:aa):Prop:=
 ∃ (f:Addr) (e:List Addr) (g:Nat->Heap->Prop) (J:It) (c:Hp),d=.ref f/\Inv X a σ c s2/\Turn X.prog X.w X.K h J e f g/\g 0 s2.heap/\(∀ b∈e,Ck X a c b)/\R J c
noncomputable def PI(X:Cx)(c b:Ga)(d:TI):Prop:=
 ∀ (a:List (Addr × gc)) (s:aa) (σ:St) (H:Hp) (R:It->Hp->Prop),Inv X a σ H s->d σ H R->
  wpAny (model X.prog X.w) X.A (Wb b X.env) (λv s1=>wpAny (model X.prog X.w) X.A (pyIter v) (AK X a σ c R) X.xe s1) X.xe s
theorem eE {M : Yj} {A : Da} {E : Value -> aa -> Prop} {s : aa} {b : Ga} {it : Addr} {u : Value} {o : gc} {n : String} {vs : Array Value} {Q : Unit -> aa -> Prop} (d : s.heap.get? it = some o) (c : o.cls = .type n) (hd : o.data = .fields vs)
    (hn : ["enumerate", "zip", "dict_itemiterator", "dict_reverseitemiterator", "odict_iterator", "itertools.zip_longest", "itertools.pairwise"].contains n = false) (a : Q () s) : wpAny M A (letOwnedTupleGo b (.ref it) u) Q E s := by
  unfold letOwnedTupleGo;cases b <;> first
    | exact na a
    | (cases u <;> first
        | exact na a
        | (refine ba (qw d ?_)
           rw [c, hd];show wpAny M A (if (["enumerate", "zip", "dict_itemiterator", "dict_reverseitemiterator", "odict_iterator", "itertools.zip_longest", "itertools.pairwise"].contains n && vs[0]? == some (Wd _)) = true then _ else _) Q E s;rw [ka (by intro h; rw [hn, Bool.false_and] at h; cases h)];exact na a))
noncomputable def eF(K:W.Frag)(a:Addr):It:=
 ⟨λi H=>∃ xs x,Me K H a xs/\xs[i]?=some x,λi H x b=>b=H/\∀ xs,Me K H a xs->xs[i]?=some x,λi H=>∃ xs,Me K H a xs/\xs.length<=i⟩
noncomputable def YD(K:W.Frag)(a:Addr):It:=
 ⟨λi H=>∃ xs x,nh K H a xs/\xs[i]?=some x,λi H x b=>b=H/\∀ xs,nh K H a xs->xs[i]?=some x,λi H=>∃ xs,nh K H a xs/\xs.length<=i⟩
noncomputable def mF(b:Int)(n:Nat):It:=⟨λi _=>i<n,λi H x a=>a=H/\x=.int (b+i),λi _=>n<=i⟩
theorem J0{P:ra}{w:Ea}{K:W.Frag}{V:Ga}(a it:Addr):Turn P w K V (eF K a) [it] it (λi h=>h.IsListIter it a i) where
 mem:=by simp
 obj:=λi h st b hb=>by
  have e:b=it:=by simpa using hb
  subst e;obtain⟨o,e,c,d⟩:=st;exact⟨o,e,λv z=>by rw[d]at z;cases z⟩
 keep:=λi h j st k=>st.at λo e=>k it (by simp) o e
 item:=by
  intro X B D A L i f s M H E I l st C;subst B D A;obtain⟨xs,x,m,F⟩:=C;obtain⟨G,J,p,S⟩:=I.list m;obtain⟨u,hu,T⟩:=J.get F;obtain⟨n,q,Q,r,t,y⟩:=l it (by simp);refine wpAny_pyNext_list_item st p.isList (x:=u) (by simpa using hu) λj g U=>?_;have N:Inv X f M H { s with heap:=j }:=I.turned (t':=s.toks) (λb o hb e=>(U.2 b hb).trans e) n q r t y;obtain⟨o,e,c,d⟩:=id g;exact⟨u,rfl,eE (s:={ s with heap:=j }) e c d (by decide) ⟨x,H,N,T,⟨rfl,λZ R=>by rw[I.wj R m];exact F⟩,g,λb hb=>(l b hb).1⟩⟩
 done:=by
  intro X B D A L i f s M H E I l st C;subst B D A;obtain⟨xs,m,F⟩:=C;obtain⟨G,J,p,S⟩:=I.list m;obtain⟨n,q,Q,r,t,y⟩:=l it (by simp);have Y:=J.length;exact wpAny_pyNext_list_end (I.ok.hd L) st p.isList (by simp;omega) λj O=>⟨rfl,I.turned (t':=s.toks) (λb o hb e=>O b o hb e) n q r t y⟩
 self:=λ_ _ _ _ _ st h=>wpAny_pyIter_listiter st h
theorem jP{P:ra}{w:Ea}{K:W.Frag}{V:Ga}(a it:Addr):Turn P w K V (YD K a) [it] it (λi h=>h.IsTupleIter it a i) where
 mem:=by simp
 obj:=λi h st b hb=>by
  have e:b=it:=by simpa using hb
  subst e;obtain⟨o,e,c,d⟩:=st;exact⟨o,e,λv z=>by rw[d]at z;cases z⟩
 keep:=λi h l st k=>st.at λo e=>k it (by simp) o e
 item:=by
  intro X C F B L i f s M H E I m st D;subst C F B;obtain⟨xs,x,n,G⟩:=D;obtain⟨g,J,p,S⟩:=I.tuple n;obtain⟨u,hu,T⟩:=J.get G;obtain⟨q,r,Q,t,y,A⟩:=m it (by simp);refine wpAny_pyNext_tuple_item st (show s.heap.IsTuple a g.toArray from p) (x:=u) (by simpa using hu) λl j U=>?_;have N:Inv X f M H { s with heap:=l }:=I.turned (t':=s.toks) (λb o hb e=>(U.2 b hb).trans e) q r t y A;obtain⟨o,e,c,d⟩:=id j;exact⟨u,rfl,eE (s:={ s with heap:=l }) e c d (by decide) ⟨x,H,N,T,⟨rfl,λZ R=>by rw[I.mq R n];exact G⟩,j,λb hb=>(m b hb).1⟩⟩
 done:=by
  intro X C F B L i f s M H E I m st D;subst C F B;obtain⟨xs,n,G⟩:=D;obtain⟨g,J,p,S⟩:=I.tuple n;obtain⟨q,r,Q,t,y,A⟩:=m it (by simp);have Y:=J.length;exact wpAny_pyNext_tuple_end (I.ok.hd L) st (show s.heap.IsTuple a g.toArray from p) (by simp;omega) λl O=>⟨rfl,I.turned (t':=s.toks) (λb o hb e=>O b o hb e) q r t y A⟩
 self:=λ_ _ _ _ _ st h=>wpAny_pyIter_tupleiter st h
theorem uV{P:ra}{w:Ea}{K:PySem.W.Frag}{L:Ga}(it:Addr)(g:Int)(n:Nat):Turn P w K L (mF g n) [it] it (λi h=>M7 h it (g+(i:Nat) * 1) ((n:Int) - (i:Nat)) 1) where
 mem:=by simp
 obj:=λi h st b hb=>by
  have e:b=it:=by simpa using hb
  subst e;exact⟨_,st,λv z=>by
   have M:Data.fields _=Data.cell v:=z;cases M⟩
 keep:=λi h d st k=>k it (by simp) _ st
 item:=by
  intro X u A r x i a s C H E I f st y;subst u A r;obtain⟨j,l,G,m,p,q⟩:=f it (by simp);have W:=Walks.range (prog:=X.prog) (w:=X.w) (I.ok.hd x) it g 1 n;refine W.item i s _ _ y st λv d B hv c J=>?_;obtain⟨t,rfl⟩:=hv;have D:Inv X a C H { s with heap:=d,toks:=B }:=I.turned (λb o hb e=>J b o (by simpa using hb) e) j l m p q;refine⟨_,rfl,eE (s:={ s with heap:=d,toks:=B }) (n:="range_iterator") c rfl rfl (by decide) ⟨.int (g+i),H,D,⟨t,?_⟩,⟨rfl,rfl⟩,c,λb hb=>(f b hb).1⟩⟩;rw[Int.mul_one]
 done:=by
  intro X u A r x i a s C H E I f st y;subst u A r;obtain⟨j,l,G,m,p,q⟩:=f it (by simp);exact wpAny_pyNext_range_end (I.ok.hd x) st (by have:n<=i:=y;omega) λd F=>⟨rfl,I.turned (t':=s.toks) (λb o hb e=>F b o hb e) j l m p q⟩
 self:=λ_ _ _ _ _ st h=>wpAny_pyIter_rangeiter st h
section
variable{X:Cx}{tg:Ga}
theorem IY{c:List (Addr × gc)}{σ:St}{H:Hp}{s:aa}{R:It->Hp->Prop}{E:Value->aa->Prop}{lo a:Int}{t u v:i4}{tk:Nat}(I:Inv X c σ H s)(h1:-(2 ^ 62)<=lo)(h:lo<2 ^ 62)(h3:-(2 ^ 62)<=a)(h4:a<2 ^ 62)
  (q:R (mF lo (a - lo).toNat) H):wpAny (model X.prog X.w) X.A (pyIter (.ref s.heap.objs.size)) (AK X c σ tg R) E { s with heap:=s.heap.push { cls:=.type "range",data:=.fields #[.int lo t,.int a u,.int 1 v] },toks:=tk }:=by
 refine wpAny_pyIter_range (IsRange.new ..) (small_one h1 h h3 h4) ?_;have d:Inv X c σ H { s with heap:=s.heap.push { cls:=.type "range",data:=.fields #[.int lo t,.int a u,.int 1 v] },toks:=tk }:=I.kept λb o e=>ia _ e;refine⟨(s.heap.push { cls:=.type "range",data:=.fields #[.int lo t,.int a u,.int 1 v] }).objs.size,[(s.heap.push { cls:=.type "range",data:=.fields #[.int lo t,.int a u,.int 1 v] }).objs.size],_,_,H,rfl,
  d.kept (t':=tk) λb o e=>ia _ e,uV _ lo (a - lo).toNat,?_,λb hb=>?_,q⟩
 ·have f:lo+((0:Nat):Int) * 1=lo:=by simp
  have g:(((a - lo).toNat:Nat):Int) - ((0:Nat):Int)=gA lo a 1:=by rw[rangeSize_one];split<;>omega
  show M7 _ _ (lo+((0:Nat):Int) * 1) ((((a - lo).toNat:Nat):Int) - ((0:Nat):Int)) 1;rw[f,g];exact Sa _ rfl
 ·have e:b=(s.heap.push { cls:=.type "range",data:=.fields #[.int lo t,.int a u,.int 1 v] }).objs.size:=by simpa using hb
  subst e;exact d.Do (xa _) (d.Qb.fresh (xa _))
noncomputable def PX(b:TA):TI:=λd H R=>b d H λc a=>∃ j:Int,c=[.int j]/\-(2 ^ 62)<=j/\j<2 ^ 62/\R (mF 0 j.toNat) a
theorem w1{a:Ga}{f:TA}{p c:Ae}(k:Gl X "range")(hm:X.mg "range" = none)(i:PA X [a] f)(hs:pa [a] X.env=[(false,Wb a X.env)]:=by rfl):PI X tg (.Call (.Name "range" p) [a] [] c) (PX f):=by
 intro b s o H R I h;refine Call_ (Wu I k hm boot_range (re (zd (i c b s o H _ I h) λus s1 ⟨u,H1,g,m,d⟩=>?_) hs rfl));obtain⟨j,e,d,l,q⟩:=d;subst e;cases m with
 |cons r n=>
  cases n;obtain⟨t,rfl⟩:=r;exact call_range_1 (IY g (by omega) (by omega) d l (by simpa using q))
noncomputable def G3(j:TI)(g:TG)(tb:TS):TS:=λD a H=>j a H λJ f=>∃ W:Nat->Nat->St->Hp->Prop,(∃ m,W 0 m a f)/\∀ i m a H,W i m a H->
 (J.stop i H/\D.nx a H)\/(J.go i H/\∃ N:St->Hp->Prop,(∀ c b,N c b->∃ e,e<m/\W (i+1) e c b)/\∀ x b,J.gx i H x b->g x a b λd h=>tb { D with nx:=N,ct:=N,bk:=D.nx } d h)
noncomputable def Ky(a:List Addr)(h:Heap):List (Addr × gc):=a.filterMap λb=>(h.get? b).map λo=>(b,o)
theorem zC{a:List Addr}{h:Heap}{b:Addr}{o:gc}(hb:b∈a)(e:h.get? b=some o):(b,o)∈Ky a h:=Fj.mpr ⟨b,hb,by rw[e];rfl⟩
theorem hW{a:List Addr}{h:Heap}{p:Addr × gc}(hp:p∈Ky a h):p.1∈a/\h.get? p.1=some p.2:=by
 obtain⟨b,hb,e⟩:=Fj.mp hp;cases q:h.get? b with
 |none=>rw[q]at e;cases e
 |some o=>
  rw[q]at e;have c:(b,o)=p:=nb e;subst c;exact⟨hb,q⟩
theorem Inv.pinned{a:List (Addr × gc)}{σ:St}{H:Hp}{s:aa}{c:List Addr}(I:Inv X a σ H s)(j:∀ b∈c,Ck X a H b)(k:∀ b∈c,∃ o,s.heap.get? b=some o/\∀ v,o.data≠.cell v):Inv X (a++Ky c s.heap) σ H s:=
 I.ki λp hp=>(wg.mp hp).elim (λz=>I.pin p (Ka _ z)) λz=>by
  obtain⟨hb,e⟩:=hW z;obtain⟨g,h,i,_⟩:=j p.1 hb;obtain⟨o,f,d⟩:=k p.1 hb;rw[e]at f;cases f;exact⟨e,g,h,i,d⟩
theorem Inv.oj{a pl:List (Addr × gc)}{σ:St}{H:Hp}{s:aa}(I:Inv X (a++pl) σ H s):Inv X a σ H s:=I.ki λp hp=>I.pin p (Ka _ (La _ hp))
theorem iM{p:Ga}{z:List Stmt}{wi:TI}{g:TG}{tb:TS}{R:Ae}(hp:On (model X.prog X.w) X.A X.env X.xe)(hc:X.calm=true)(hi:PI X tg p wi)(hg:PG X tg g)(hb:Mp X z tb)
  (hs:∀ x,dg p X.env x=pure x:=by intro _;rfl):PS X (.For tg p z [] R) (G3 wi g tb):=by
 intro a s σ H D I h;refine wpAny_For (zd (hi a s σ H _ I h) λv s1 h1=>zd h1 λa0 s2 h2=>?_) hs;obtain⟨it,E,tn,J,H2,e,I2,T,U,f2,W,⟨m0,w0⟩,L⟩:=h2;subst e;have q:∀ {H':Hp},(∀ b∈E,H' b=none)->∀ b∈E,Ck X a H' b:=λhn b hb=>⟨hn b hb,(f2 b hb).2⟩
 refine codeAny_forLoop_any (λn s'=>∃ i t H',Inv X a t H' s'/\tn i s'.heap/\(∀ b∈E,H' b=none)/\W i n t H') ?_ m0 ⟨0,σ,H2,I2,U,λb hb=>(f2 b hb).1,w0⟩;rintro n s3 ⟨i,y,M,Z,K,F,w3⟩;rcases L i n y M w3 with⟨stop,qn⟩|⟨go,N,hN,step⟩
 ·refine Wg hp (zd (T.done X rfl rfl rfl hc i a s3 y M X.xe Z (q F) K stop) λr s4 ⟨Q,I4⟩=>?_);subst Q;exact aj ⟨y,M,I4,qn⟩
 ·refine Wg hp (zd (T.item X rfl rfl rfl hc i a s3 y M X.xe Z (q F) K go) λr s4 ⟨u,Q,h4⟩=>?_);subst Q;refine Wg hp (zd h4 λ_ s5 ⟨x,Y,I5,r5,y5,C,P⟩=>?_);have O:=I5.pinned (q P) (T.obj _ _ C);refine Wg hp (zd (hg _ s5 y Y x u _ O r5 (step x Y y5)) λ_ s6 ⟨V,H6,I6,q6⟩=>?_);refine Wg hp (zd (hb _ s6 V H6 _ I6 q6) λf S B=>?_);have l:∀ {c:St} {j:Hp},Inv X (a++Ky E s5.heap) c j S->N c j->∃ m,m<n/\∃ i t H',Inv X a t H' S/\tn i S.heap/\(∀ b∈E,H' b=none)/\W i m t H':=fun {c j} k G=>by
   obtain⟨m',hm,w7⟩:=hN c j G;refine⟨m',hm,i+1,c,j,k.oj,T.keep _ _ _ C λb hb o e=>(k.pin (b,o) (Ka _ (Ka _ (zC hb e)))).1,λb hb=>?_,w7⟩;obtain⟨o,e,d⟩:=T.obj _ _ C b hb;exact(k.pin (b,o) (Ka _ (Ka _ (zC hb e)))).2.1
  cases f with
  |next=>obtain⟨c,j,k,G⟩:=B;exact l k G
  |cont=>obtain⟨c,j,k,G⟩:=B;exact l k G
  |brk=>obtain⟨c,j,k,B⟩:=B;exact⟨c,j,k.oj,B⟩
  |ret v=>obtain⟨x7,c,j,k,r7,B⟩:=B;exact⟨x7,c,j,k.oj,r7,B⟩
end
noncomputable abbrev R2:=V->V->Hp->VK->Prop
noncomputable def gh(X:Cx)(f:Value->Value->fo Value)(r:R2):Prop:=
 ∀ (a:List (Addr × gc)) (s:aa) (σ:St) (H:Hp) (x y:V) (v u:Value) (Q:VK),Inv X a σ H s->Qc x v->Qc y u->r x y H Q->
  wpAny (model X.prog X.w) X.A (f v u) (EP X a σ Q) X.xe s
noncomputable def TB(X:Cx)(f:Value->fo Value)(r:V->Hp->VK->Prop):Prop:=
 ∀ (a:List (Addr × gc)) (s:aa) (σ:St) (H:Hp) (x:V) (v:Value) (Q:VK),Inv X a σ H s->Qc x v->r x H Q->
  wpAny (model X.prog X.w) X.A (f v) (EP X a σ Q) X.xe s
noncomputable def bn(X:Cx)(f:Value)(r:List V->Hp->VK->Prop):Prop:=
 ∀ (a:List (Addr × gc)) (s:aa) (σ:St) (H:Hp) (xs:List V) (us:List Value) (Q:VK),Inv X a σ H s->Od xs us->r xs H Q->
  wpAny (model X.prog X.w) X.A (call f us) (EP X a σ Q) X.xe s
noncomputable def Ew(r:R2)(d tb:TE):TE:=λa H Q=>d a H λx b=>tb a b λy c=>r x y c Q
noncomputable def G1(r:V->Hp->VK->Prop)(b:TE):TE:=λc H Q=>b c H λx a=>r x a Q
noncomputable def rI(C:Int->Int->Prop)(g:Int->Int->V):R2:=λx y H Q=>∃ i j,x=.int i/\y=.int j/\C i j/\Q (g i j) H
noncomputable def gp(g:Int->Int->V):R2:=λx y H Q=>∃ i j,x=.int i/\y=.int j/\Q (g i j) H
noncomputable def rU(g:Int->V):V->Hp->VK->Prop:=λx H Q=>∃ i,x=.int i/\Q (g i) H
section
variable{X:Cx}{a b c:Ga}{ta tb tc:TE}{pos:Ae}
theorem ME(l:PE X a ta)(hb:PE X b tb){c:List (Addr × gc)}{s:aa}{σ:St}{H:Hp}{R:V->V->Hp->Prop}(I:Inv X c σ H s)
  (h:ta σ H λx i=>tb σ i λy d=>R x y d) {Q:Value->aa->Prop} {f:Value->Value->fo Value}
  (m:∀ v u s2 x y d,Inv X c σ d s2->Qc x v->Qc y u->R x y d->wpAny (model X.prog X.w) X.A (f v u) Q X.xe s2) :
  wpAny (model X.prog X.w) X.A (Wb a X.env) (λv e=>wpAny (model X.prog X.w) X.A (Wb b X.env) (λu g=>wpAny (model X.prog X.w) X.A (f v u) Q X.xe g) X.xe e) X.xe s:=by
 refine zd (l c s σ H _ I h) λv s1 ⟨x,i,j,p,n⟩=>?_;refine zd (hb c s1 σ i _ j n) λu s2 ⟨y,d,k,q,o⟩=>?_;exact m v u s2 x y d k p q o
theorem GQ{d:ak}{r:R2}(i:gh X (Ce d) r)(g:PE X a ta)(hb:PE X b tb):PE X (.BinOp a d b pos) (Ew r ta tb):=by
 intro c s l H Q I h;exact wpAny_BinOp (ME g hb I h λv u s2 x y e f j k q=>i c s2 l e x y v u Q f j k q)
theorem bX{c:UnaryOp}{r:V->Hp->VK->Prop}(g:TB X (j4 c) r)(f:PE X a ta):PE X (.UnaryOp c a pos) (G1 r ta):=by
 intro b s d H Q I h;exact UnaryOp_ (zd (f b s d H _ I h) λv s1 ⟨x,H1,e,j,i⟩=>g b s1 d H1 x v Q e j i)
theorem uC{f:Value->Value->fo Value}{C:Int->Int->Prop}{g:Int->Int->Int}
  (a:∀ (i j:Int) (t u:i4) (s:aa) (Q:Value->aa->Prop) (E:Value->aa->Prop),C i j->Q (.int (g i j) s.toks) { s with toks:=s.toks+1 }->wpAny (model X.prog X.w) X.A (f (.int i t) (.int j u)) Q E s) :
  gh X f (rI C λi j=>.int (g i j)):=by
 intro b s l H x y v u Q I d e h;obtain⟨i,j,rfl,rfl,c,q⟩:=h;obtain⟨t,rfl⟩:=d;obtain⟨k,rfl⟩:=e;exact a i j t k s _ _ c ⟨.int (g i j),H,I.tok _,⟨_,rfl⟩,q⟩
theorem rM{f:Value->Value->fo Value}{g:Int->Int->Int}
  (a:∀ (i j:Int) (t u:i4) (s:aa) (Q:Value->aa->Prop) (E:Value->aa->Prop),Q (.int (g i j) s.toks) { s with toks:=s.toks+1 }->wpAny (model X.prog X.w) X.A (f (.int i t) (.int j u)) Q E s) :
  gh X f (gp λi j=>.int (g i j)):=by
 intro b s k H x y v u Q I c d h;obtain⟨i,j,rfl,rfl,q⟩:=h;obtain⟨t,rfl⟩:=c;obtain⟨e,rfl⟩:=d;exact a i j t e s _ _ ⟨.int (g i j),H,I.tok _,⟨_,rfl⟩,q⟩
theorem YB{f:Value->Value->fo Value}{g:Int->Int->Bool}
  (a:∀ (i j:Int) (t u:i4) (s:aa) (Q:Value->aa->Prop) (E:Value->aa->Prop),Q (.bool (g i j)) s->wpAny (model X.prog X.w) X.A (f (.int i t) (.int j u)) Q E s) :
  gh X f (gp λi j=>.bl (g i j)):=by
 intro b s k H x y v u Q I c d h;obtain⟨i,j,rfl,rfl,q⟩:=h;obtain⟨t,rfl⟩:=c;obtain⟨e,rfl⟩:=d;exact a i j t e s _ _ ⟨.bl (g i j),H,I,rfl,q⟩
noncomputable def AN(i j:Int):Prop:=0<j/\j<1073741824
noncomputable def PL(i j:Int):Prop:=0<=j/\j<=1000000/\i.natAbs<2 ^ 64
noncomputable def yB(i j:Int):Prop:=(-(2 ^ 64)<i/\i<2 ^ 64)\/(-(2 ^ 64)<j/\j<2 ^ 64)
theorem yB.ok{i j:Int}(h:yB i j):IntMulOk i j:=by
 rcases h with⟨h1,a⟩|⟨h1,a⟩
 ·exact .of_left (UN h1 a)
 ·exact .of_right (UN h1 a)
theorem vU:gh X (Ce .Add) (gp λi j=>.int (i+j)):=rM λ_ _ _ _ _ _ _ q=>add_int q
theorem jw:gh X (Ce .Sub) (gp λi j=>.int (i - j)):=rM λ_ _ _ _ _ _ _ q=>sub_int q
theorem OW:gh X (Ce .Mult) (rI yB λi j=>.int (i * j)):=uC λ_ _ _ _ _ _ _ a q=>mul_int q a.ok
theorem JO:gh X (Ce .FloorDiv) (rI AN λi j=>.int (i / j)):=uC λi j _ _ _ _ _ a q=>by
 have h1:(0:Int)<j:=a.1;have b:j<1073741824:=a.2;exact floordiv_int (by omega) (by rw[Int.fdiv_eq_ediv_of_nonneg i (by omega)];exact q) (.inl (PyProof.noPylong_small (by omega)))
theorem Su:gh X (Ce .Mod) (rI (λ_ j=>0<j) λi j=>.int (i % j)):=uC λi j _ _ _ _ _ a q=>by
 have h1:(0:Int)<j:=a;exact mod_int' (by omega) (by rw[Int.fmod_eq_emod_of_nonneg i (by omega)];exact q)
theorem lG:gh X (Ce .Pow) (rI PL λi j=>.int (i ^ j.toNat)):=uC λ_ _ _ _ _ _ _ a q=>pow_int_small a.1 a.2.1 a.2.2 q
theorem hZ{f:Value->fo Value}{g:Int->Int}
  (a:∀ (i:Int) (t:i4) (s:aa) (Q:Value->aa->Prop) (E:Value->aa->Prop),Q (.int (g i) s.toks) { s with toks:=s.toks+1 }->wpAny (model X.prog X.w) X.A (f (.int i t)) Q E s) :
  TB X f (rU λi=>.int (g i)):=by
 intro b s d H x v Q I c h;obtain⟨i,rfl,q⟩:=h;obtain⟨t,rfl⟩:=c;exact a i t s _ _ ⟨.int (g i),H,I.tok _,⟨_,rfl⟩,q⟩
theorem wS:TB X (j4 .USub) (rU λi=>.int (-i)):=hZ λ_ _ _ _ _ q=>neg_int q
end
section
variable{X:Cx}{a b c:Ga}{ta tb tc:TE}{pos:Ae}
theorem jM{a:List (Addr × gc)}{σ:St}{H:Hp}{s:aa}{Q:VK}{k b:Bool}(I:Inv X a σ H s)(q:Q (.bl k) H)(e:k=b):EP X a σ Q (.bool b) s:=by
 subst e;exact⟨.bl k,H,I,rfl,q⟩
theorem Dw:gh X (Ab .Lt) (gp λi j=>.bl (decide (i<j))):=YB λ_ _ _ _ _ _ _ q=>lt_int q
theorem OH:gh X (Ab .LtE) (gp λi j=>.bl (decide (i<=j))):=YB λ_ _ _ _ _ _ _ q=>le_int q
theorem EE:gh X (Ab .Gt) (gp λi j=>.bl (decide (j<i))):=YB λ_ _ _ _ _ _ _ q=>gt_int q
theorem DI:gh X (Ab .GtE) (gp λi j=>.bl (decide (j<=i))):=YB λ_ _ _ _ _ _ _ q=>ge_int q
theorem qB:gh X (Ab .Is) (λx y H Q=>y=.Jb/\Q (.bl (decide (x=.Jb))) H):=by
 intro a s d H x y v u Q I b c h;obtain⟨rfl,q⟩:=h;cases c;refine is_none_gen (jM I q ?_);cases x<;>first
  |(cases b;rfl)
  |(obtain⟨t,rfl⟩:=b;rfl)
theorem AS:gh X (Ab .IsNot) (λx y H Q=>y=.Jb/\Q (.bl (!decide (x=.Jb))) H):=by
 intro a s d H x y v u Q I b c h;obtain⟨rfl,q⟩:=h;cases c;refine isnot_none_gen (jM I q ?_);cases x<;>first
  |(cases b;rfl)
  |(obtain⟨t,rfl⟩:=b;rfl)
theorem gh.or{f:Value->Value->fo Value}{r b:R2}(h:gh X f r)(h':gh X f b):gh X f (λx y H Q=>r x y H Q\/b x y H Q):=by
 intro a s e H x y v u Q I c d q;rcases q with q|q
 ·exact h a s e H x y v u Q I c d q
 ·exact h' a s e H x y v u Q I c d q
theorem ve(b:Ga){a:io}(h:a≠.In:=by decide)(e:a≠.NotIn:=by decide):se a b=false:=by
 have c:(a == ZG)=false:=by cases a<;>first|rfl|exact absurd rfl h
 have d:(a == Vx)=false:=by cases a<;>first|rfl|exact absurd rfl e
 cases b<;>simp[se,c,d]
theorem oY{d:io}{r:R2}(i:gh X (Ab d) r)(g:PE X a ta)(hb:PE X b tb)(hm:se d b=false):PE X (.Compare a [d] [b] pos) (Ew r ta tb):=by
 intro c s l H Q I h;exact wpAny_Compare1 (ME g hb I h λv u s2 x y e f j k q=>i c s2 l e x y v u Q f j k q) hm
noncomputable def BU(t:TE):TT:=λb H Q=>t b H λx a=>∃ k,x=.bl k/\Q k a
theorem LK{f:io}{r:R2}(p:gh X (Ab f) r)(o:PE X a ta)(hb:PE X b tb)(hm:se f b=false):PT X (.Compare a [f] [b] pos) (BU (Ew r ta tb)):=by
 intro d s g H Q I h;refine vt (zd (o d s g H _ I h) λv s1 ⟨x,H1,l,A,q⟩=>zd (hb d s1 g H1 _ l q) λu s2 ⟨y,i,m,B,t⟩=>
  zd (p d s2 g i x y v u _ m A B t) λc s3 ⟨z,j,n,C,k,e,w⟩=>?_) hm
 subst e;cases C;exact Rc ⟨j,n,w⟩
noncomputable def yX(r f:R2)(ta tb tc:TE):TE:=λa H Q=>ta a H λx c=>tb a c λy d=>r x y d λz b=>∃ k,z=.bl k/\
 (if k=true then tc a b λg e=>f y g e Q else Q (.bl false) b)
theorem SY{l g:io}{r p:R2}(F:gh X (Ab l) r)(j:gh X (Ab g) p)(D:PE X a ta)(hb:PE X b tb)(E:PE X c tc)
  (hm:lastMarks [l,g] [b,c]=false:=by with_unfolding_all rfl):PE X (.Compare a [l,g] [b,c] pos) (yX r p ta tb tc):=by
 intro f s i H Q I h;refine Compare_chain (zd (D f s i H _ I h) λv s1 ⟨x,H1,A,L,G⟩=>chain_link (zd (hb f s1 i H1 _ A G) λu s2 ⟨y,t,B,q,J⟩=>
  zd (F f s2 i t x y v u _ B L q J) λd s3 ⟨z,m,n,M,k,e,o⟩=>?_)) hm
 subst e;cases M;refine Rc ?_;cases k with
 |false=>exact ite_ff ⟨.bl false,m,n,rfl,o⟩
 |true=>exact ite_tt (chain_last (zd (E f s3 i m _ n o) λO s4 ⟨P,w,C,N,K⟩=>j f s4 i w y P u O Q C q N K))
theorem uD:(sizeLine:Nat)<2 ^ 63:=by rw[B7];decide
theorem IV:gh X (Ce .Add) (λx y H Q=>∃ i j,x=.str i/\y=.str j/\i.length+j.length<=sizeLine/\Q (.str (i++j)) H):=by
 intro a s g H x y v u Q I c d h;obtain⟨i,j,rfl,rfl,b,q⟩:=h;obtain⟨t,rfl⟩:=c;obtain⟨e,rfl⟩:=d;exact add_str (λe f=>⟨.str (i++j),H,I.tok _,⟨_,rfl⟩,q⟩) b
theorem Dt{x:V}{us:List Value}(r:Od [x] us):∃ u,us=[u]/\Qc x u:=by
 cases r with
 |cons a b=>cases b;exact⟨_,rfl,a⟩
theorem MI{x y:V}{us:List Value}(r:Od [x,y] us):∃ u w',us=[u,w']/\Qc x u/\Qc y w':=by
 cases r with
 |cons a b=>
  cases b with
  |cons c d=>cases d;exact⟨_,_,rfl,a,c⟩
theorem LW(c:X.calm=true):bn X (.builtin "min") (λxs H Q=>∃ i j,xs=[.int i,.int j]/\Q (.int (if j<i then j else i)) H):=by
 intro b s m H xs g Q I r h;obtain⟨i,j,rfl,q⟩:=h;obtain⟨u,l,rfl,⟨t,rfl⟩,⟨e,rfl⟩⟩:=MI r;refine min_two_ints (I.ok.hd c) λd f k=>⟨_,H,I.kept k,?_,q⟩
 by_cases a:j<i
 ·rw[da a,da a];exact⟨_,rfl⟩
 ·rw[ka a,ka a];exact⟨_,rfl⟩
end
structure pp(h:Heap)(x dx C:Addr)(mA:ma->Option Value):Prop where
 obj:h.get? x=some (W.instObj C dx)
 ns:h.Ns1 dx mA
 ne:dx≠x
theorem GY{h:Heap}{c:Addr}{f:ma->Option Value}(n:h.Ns1 c f):∃ od,h.get? c=some od/\∀ name,W.lookIn name od=some (f name):=by
 obtain⟨o,d,l,j,hd,i,_,hm⟩:=n;refine⟨o,j,λname=>?_⟩;have e:=hm name;unfold nsFind findBy at e;rw[<-Array.find?_toList]at e;unfold W.lookIn;rw[hd];dsimp only;split
 ·rename_i y q
  rw[q]at e;exact we some e
 ·rename_i q
  rw[q]at e;have a:d.toList.any (·.refKey)=false:=by
   rw[List.any_eq_false];intro y k;obtain⟨z,t,b⟩:=i y (Array.mem_toList_iff.mp k);simp[l4,b]
  have g:¬ d.toList.any (·.refKey)=true:=by rw[a];exact Ra
  rw[ka g];exact we some e
theorem pp.look{h:Heap}{x a C:Addr}{b:ma->Option Value}(I:pp h x a C b):∃ od,W.InstAt h x (W.instObj C a) C (some od)/\∀ name,W.lookIn name od=some (b name):=
 let ⟨od,d,c⟩:=GY I.ns
 ⟨od,⟨I.obj,rfl,rfl,d⟩,c⟩
section
variable{prog:ra}{w:Ea}{A:Da}{E:Value->aa->Prop}{s:aa}{K:W.Frag}{x dx C f:Addr}{mA:ma->Option Value}{name:ma}{v:Value}
theorem SQ{a:Bool}{Q:Value->aa->Prop}(X:K.In s.heap)(I:pp s.heap x dx C mA)(d:W.plainGet K C name=true)(e:W.hasDictIn K C=true)
  (c:W.findIn K (.ref C) name=some none) (hv:mA name=some v) (b:W.handedIn v=true) (h:Q v { s with toks:=s.toks+1 }) :
  wpAny (model prog w) A (m4 (.ref x) name a) Q E s:=by
 obtain⟨g,J,f⟩:=I.look;exact W.get_value X J (xp d).1 (W.findObj_own e c rfl (by rw[f,hv])) b h
theorem ET{pl:fo Bool}{Q:Value × List Value->aa->Prop}(X:K.In s.heap)(I:pp s.heap x dx C mA)(a:W.plainGet K C name=true)
  (b:W.findIn K (.ref C) name=some (some (.ref f))) (d:W.isFn K (.ref f)=true) (hv:mA name=none) (h:Q (.ref f,[.ref x]) s) :
  wpAny (model prog w) A (lr (.ref x) name pl) Q E s:=by
 obtain⟨e,J,c⟩:=I.look;exact W.method_fn X J (xp a).1 (xp a).2 b (Zf.mp d) (by show (W.lookIn name e).map (·.isSome)=some false;rw[c,hv];rfl) h
theorem iU{ns:List ma}{Q:Unit->aa->Prop}(X:K.In s.heap)(I:pp s.heap x dx C mA)
  (hs:W.findIn K (.ref C) "__setattr__" = some (some (.builtin "object.__setattr__"))) (hp:W.plainOver K C=true) (n:W.takerIn K C name=some none) (m:W.hasDictIn K C=true)
  (o:PySem.Within mA ns) (hsz:ns.length<=sizeLine)
  (h:∀ h',pp h' x dx C (λy=>if y=name then some v else mA y)->Ye dx s.heap h'->Q () { s with heap:=h',toks:=s.toks+2 }) :
  wpAny (model prog w) A (setAttr (.ref x) name v) Q E s:=by
 obtain⟨z,J,t⟩:=I.look;refine W.set_plain X J hs (W.osa_open (s:={ s with toks:=s.toks+1 }) (r:=none) X J hp n λb=>?_);obtain⟨q,l,f⟩:=W.any_some m;have p:s.heap.get? x=some ⟨.ref C,some dx,.plain,#[]⟩:=I.obj;refine ba (na (ba (ba (wpAny_loadPart p (ba (W.Looks.here (s:={ s with toks:=s.toks+1 }) (W.looks_clsIn X l) ?_))))));rw[f];refine na (a:=some dx) (ba (na (ba ?_)));refine wpAny_nsSet1 (s:={ s with toks:=s.toks+1 }) I.ns λh' c d=>?_;obtain⟨u,k,j,i,g,e⟩:=c.count (LC name v o);refine ba (wpAny_lookBehind i (by rw[g];exact pastItsLine_dict (Hb e (by rw[Db];omega))) ?_);exact na (h _ ⟨(d.2 _ (Ee I.ne)).trans I.obj,c,I.ne⟩ d)
theorem GU{R:zw->aa->Prop}{vs:List Value}{a:List (ma × Value)}(X:K.In s.heap)(hm:W.makesIn K C=true)
  (c:W.findIn K (.ref C) "__init__" = some (some (.ref f))) (b:W.typeIn K (.ref f)=some (.type "function"))
  (h:codeAny (model prog w) (A.under (.builtin "type.__call__" ⟨.ref C::vs,a⟩)) (.call (.ref f) ⟨.ref (s.heap.objs.size+1)::vs,a⟩) (W.InitBack (s.heap.objs.size+1) R)
   { s with heap:=(s.heap.push W.emptyDict).push (W.instObj C s.heap.objs.size) }) :
  codeAny (model prog w) A (.call (.ref C) ⟨vs,a⟩) R s:=by
 obtain⟨e,g,d,t,os⟩:=s;exact W.make_core (W.makes_of X hm) (aA X c) (λself=>W.bind_fn X self b) (.inl rfl) h
end
noncomputable def Zl(f:ma)(v:V):List (ma × V)->List (ma × V)
 |[]=>[(f,v)]
 |(g,x)::r=>if g=f then (g,v)::r else (g,x)::Zl f v r
theorem dJ(f g:ma)(v:V):∀ fs:List (ma × V),(Zl f v fs).lookup g=if g=f then some v else fs.lookup g
 |[]=>by
  show List.lookup g [(f,v)]=_;by_cases h:g=f
  ·have hb:(g == f)=true:=Zf.mpr h;simp only[List.lookup,hb,da h]
  ·have hb:(g == f)=false:=Ld.mpr h;simp only[List.lookup,hb,ka h]
 |(k,x)::r=>by
  have b:=dJ f g v r;rw[show Zl f v ((k,x)::r)=(if k=f then (k,v)::r else (k,x)::Zl f v r)from rfl];by_cases a:k=f
  ·rw[da a];by_cases h:g=k
   ·have hb:(g == k)=true:=Zf.mpr h;simp only[List.lookup,hb,da (h.trans a)]
   ·have hb:(g == k)=false:=Ld.mpr h;simp only[List.lookup,hb,ka (λe:g=f=>h (e.trans a.symm))]
  ·rw[ka a];by_cases h:g=k
   ·have hb:(g == k)=true:=Zf.mpr h;simp only[List.lookup,hb,ka (λe:g=f=>a (h.symm.trans e))]
   ·have hb:(g == k)=false:=Ld.mpr h;simp only[List.lookup,hb];exact b
theorem IG(f:ma)(v:V):∀ fs:List (ma × V),f∈(Zl f v fs).map (·.1)/\∀ g,g∈fs.map (·.1)->g∈(Zl f v fs).map (·.1)
 |[]=>⟨by simp[Zl],λg h=>by simp at h⟩
 |(k,x)::r=>by
  obtain⟨b,c⟩:=IG f v r;rw[show Zl f v ((k,x)::r)=(if k=f then (k,v)::r else (k,x)::Zl f v r)from rfl];by_cases a:k=f
  ·rw[da a];subst a;exact⟨by simp,λg h=>by simpa using h⟩
  ·rw[ka a];refine⟨?_,λg h=>?_⟩
   ·rw[yb];exact jb _ b
   ·rw[yb]at h ⊢;rcases Pa.mp h with e|e
    ·exact Pa.mpr (.inl e)
    ·exact jb _ (c g e)
theorem KM(f:ma)(v:V):∀ fs:List (ma × V),(Zl f v fs).length<=fs.length+1
 |[]=>by simp[Zl]
 |(k,x)::r=>by
  have b:=KM f v r;rw[show Zl f v ((k,x)::r)=(if k=f then (k,v)::r else (k,x)::Zl f v r)from rfl];by_cases a:k=f
  ·rw[da a,Db,Db];omega
  ·rw[ka a,Db,Db];omega
theorem Gm.some_of{v:V}{o:Option Value}(r:Gm (some v) o):∃ u,o=some u/\Qc v u:=by
 cases o with
 |none=>exact(show False from r).elim
 |some u=>exact⟨u,rfl,r⟩
theorem Gm.none_of{o:Option Value}(r:Gm none o):o=none:=by
 cases o with
 |none=>rfl
 |some u=>exact(show False from r).elim
theorem YP{v:V}{u:Value}(r:Qc v u):W.handedIn u=true:=by
 cases v with
 |Jb=>cases (show u=pb from r);rfl
 |bl b=>cases (show u=Ve b from r);rfl
 |int i=>obtain⟨t,e⟩:=(show ∃ t,u=Af i t from r);cases e;rfl
 |str x=>obtain⟨t,e⟩:=(show ∃ t,u=Ii x t from r);cases e;rfl
 |NA b=>obtain⟨t,e⟩:=(show ∃ t,u=Ux b t from r);cases e;rfl
 |Qv b=>obtain⟨t,e⟩:=(show ∃ t,u=Ep b t from r);cases e;rfl
 |ref a=>cases (show u=eb a from r);rfl
 |ty n=>cases (show u=dA n from r);rfl
section
variable{P:ra}{w:Ea}{H H':Hp}{h h':Heap}{a C dx:Addr}{fs fs':List (ma × V)}
theorem EC(Qb:Kh P w H h)(e:H a=some (.ins C dx fs)):∃ b,pp h a dx C b/\(∀ f,Gm (fs.lookup f) (b f))/\PySem.Within b (fs.map (·.1))/\fs.length<=1000/\H dx=some (.own a):=by
 obtain⟨d,z,ne,c,b,n,r,q⟩:=(show mi P w H h a (.ins C dx fs)from Qb a _ e)
 exact⟨b,⟨c,n,ne⟩,r,q,z,d⟩
end
structure Wm(K:W.Frag)(C:Addr):Prop where
 pg:W.plainGet K C Str.empty=true
 hd:W.hasDictIn K C=true
 po:W.plainOver K C=true
 sa:W.findIn K (.ref C) "__setattr__" = some (some (.builtin "object.__setattr__"))
theorem Wm.get{K:W.Frag}{C:Addr}(c:Wm K C)(f:ma):W.plainGet K C f=true:=c.pg
noncomputable def Eg(K:W.Frag)(C:Addr)(f:ma):Prop:=W.findIn K (.ref C) f=some none
theorem Eg.Uy{K:W.Frag}{C:Addr}{f:ma}(n:Eg K C f):W.takerIn K C f=some none:=by
 unfold W.takerIn;rw[show W.findIn K (.ref C) f=some none from n];rfl
structure v7(K:W.Frag)(C:Addr)(f:ma)(v:V)(u:Value):Prop where
 at_:W.findIn K (.ref C) f=some (some u)
 rel:Qc v u
 get:W.specialIn K u "__get__" = some none
 cp:W.copiedNames.contains f=false
structure qf(K:W.Frag)(C:Addr)(m:ma)(f:Addr):Prop where
 at_:W.findIn K (.ref C) m=some (some (.ref f))
 fn:W.isFn K (.ref f)=true
 kp:W.keepIn K (.ref f)=true
section
variable{X:Cx}{pins:List (Addr × gc)}{σ:St}{H:Hp}{s:aa}{a C dx:Addr}{fs:List (ma × V)}{f:ma}{v:V}{A:Da}{E:Value->aa->Prop}
theorem TH{b:Bool}{Q:Value->aa->Prop}(I:Inv X pins σ H s)(e:H a=some (.ins C dx fs))(c:Wm X.K C)(n:Eg X.K C f)(l:fs.lookup f=some v)
  (h:∀ u s',Inv X pins σ H s'->Qc v u->Q u s'):wpAny (model X.prog X.w) A (m4 (.ref a) f b) Q E s:=by
 obtain⟨g,O,r,_,_,_⟩:=EC I.Qb e;obtain⟨u,hu,d⟩:=Gm.some_of (v:=v) (o:=g f) (by rw[<-l];exact r f);exact SQ I.Xi O (c.get f) c.hd n hu (YP d) (h u _ (I.tok _) d)
theorem VM{m:ma}{g:Addr}{pl:fo Bool}{Q:Value × List Value->aa->Prop}(I:Inv X pins σ H s)(e:H a=some (.ins C dx fs))(c:Wm X.K C)(k:qf X.K C m g)(l:fs.lookup m=none)
  (h:Q (.ref g,[.ref a]) s):wpAny (model X.prog X.w) A (lr (.ref a) m pl) Q E s:=by
 obtain⟨b,O,r,_,_,_⟩:=EC I.Qb e;have hn:b m=none:=Gm.none_of (by rw[<-l];exact r m);exact ET I.Xi O (c.get m) k.at_ k.fn hn h
theorem mJ{y:V}{u:Value}{Q:Unit->aa->Prop}(I:Inv X pins σ H s)(e:H a=some (.ins C dx fs))(c:Wm X.K C)(n:Eg X.K C f)(D:fs.length<1000)(v:Qc y u)
  (h:∀ s',Inv X pins σ (upd H a (.ins C dx (Zl f y fs))) s'->Q () s'):wpAny (model X.prog X.w) A (setAttr (.ref a) f u) Q E s:=by
 obtain⟨j,O,r,k,_,i⟩:=EC I.Qb e;have t:(fs.map (·.1)).length<=sizeLine:=by rw[Yb,B7];omega
 refine iU I.Xi O c.sa c.po n.Uy c.hd k t λm d B=>h _ ?_;have hd:∃ o,m.get? dx=some o:=let ⟨o,_,_,l,_⟩:=d.ns;⟨o,l⟩;refine I.write (x:=a) (e:=dx) (by rw[e];exact True.intro) (.inr i) (λb q hb z=>(B.2 b hb).trans z) hd ?_;refine⟨by rw[jd O.ne];exact i,?_,O.ne,d.obj,_,d.ns,λg=>?_,λg p=>?_⟩
 ·have:=KM f y fs;omega
 ·show Gm ((Zl f y fs).lookup g) (if g=f then some u else j g);rw[dJ];by_cases q:g=f
  ·rw[da q,da q];exact v
  ·rw[ka q,ka q];exact r g
 ·by_cases q:g=f
  ·rw[q];exact(IG f y fs).1
  ·refine(IG f y fs).2 g (k g λz=>p ?_);show (if g=f then some u else j g)=none;rw[ka q];exact z
theorem Inv.made(I:Inv X pins σ H s):Inv X pins σ (upd (upd H s.heap.objs.size (.own (s.heap.objs.size+1))) (s.heap.objs.size+1) (.ins C s.heap.objs.size []))
  { s with heap:=(s.heap.push W.emptyDict).push (W.instObj C s.heap.objs.size) }:=by
 have c:(s.heap.push W.emptyDict).get? s.heap.objs.size=some W.emptyDict:=Sa s.heap rfl;have f:((s.heap.push W.emptyDict).push (W.instObj C s.heap.objs.size)).get? (s.heap.objs.size+1)=some (W.instObj C s.heap.objs.size):=by
  have:=Sa (s.heap.push W.emptyDict) (o:=W.instObj C s.heap.objs.size) rfl
  rwa [Jf]at this
 have g:(s.heap.push W.emptyDict).Ns s.heap.objs.size (λ_=>none):=⟨W.emptyDict,#[],_,c,rfl,(λe he=>absurd he (by simp)),λ_=>rfl⟩
 have d:=I.laid (a:=s.heap.objs.size) (o:=.own (s.heap.objs.size+1)) (h':=s.heap.push W.emptyDict) (t':=s.toks) (λb u q=>ia _ q) (xa _) ⟨_,c⟩;refine d.laid (a:=s.heap.objs.size+1) (o:=.ins C s.heap.objs.size []) (t':=s.toks) (λb u q=>ia _ q) (yp (Jf _ _)) ?_;have ne:s.heap.objs.size≠s.heap.objs.size+1:=Ba (Gc _);refine⟨by rw[jd ne,rg],Gq _,ne,f,λ_=>none,(D7 g).at λo q=>ia _ q,λ_=>True.intro,λy h=>absurd rfl h⟩
theorem BQ{prog:ra}{w:Ea}{env:ag}{e:Ga}{f:ma}{b:Ae}{s:aa}{Q:Value->aa->Prop}(hb:Md e f env (Wb e env)=Wb e env)
  (h:wpAny (model prog w) A (Wb e env) (λo a=>wpAny (model prog w) A (m4 o f true) Q E a) E s):wpAny (model prog w) A (Wb (.Attribute e f b) env) Q E s:=
 Attribute_any_ h (by rw[arm_eval_Attribute,hb])
end
noncomputable def pZ(K:W.Frag)(d:TE)(f:ma):TE:=λe H Q=>d e H λx b=>∃ a C c fs v,x=.ref a/\b a=some (.ins C c fs)/\Wm K C/\Eg K C f/\fs.lookup f=some v/\Q v b
noncomputable def ER(K:W.Frag)(g h:TE)(f:ma):TS:=λD b H=>h b H λy e=>g b e λx c=>∃ a C d fs,x=.ref a/\c a=some (.ins C d fs)/\Wm K C/\Eg K C f/\fs.length<1000/\
 D.nx b (upd c a (.ins C d (Zl f y fs)))
noncomputable def lI(X:Cx)(b:ak)(rd:V->V->Hp->VK->Prop):Prop:=
 ∀ (a:List (Addr × gc)) (s:aa) (σ:St) (H:Hp) (x y:V) (u v:Value) (Q:VK),Inv X a σ H s->Qc x u->Qc y v->rd x y H Q->wpAny (model X.prog X.w) X.A (fA b u v) (EP X a σ Q) X.xe s
noncomputable def nV(K:W.Frag)(j k:TE)(rd:V->V->Hp->VK->Prop)(f:ma):TS:=λD d H=>j d H λx e=>∃ a C i fs v,x=.ref a/\e a=some (.ins C i fs)/\Wm K C/\Eg K C f/\fs.lookup f=some v/\
 k d e λy h=>rd v y h λz g=>∃ c b,g a=some (.ins C c b)/\b.length<1000/\D.nx d (upd g a (.ins C c (Zl f z b)))
section
variable{X:Cx}{o e value:Ga}{f:ma}{pos pos' tpos:Ae}{ta tv:TE}
theorem T1(he:PE X e ta)(hb:Md e f X.env (Wb e X.env)=Wb e X.env):PE X (.Attribute e f pos) (pZ X.K ta f):=by
 intro b s m H Q I h;refine BQ hb (zd (he b s m H _ I h) λu s1 ⟨x,H1,d,k,a,C,o,fs,v,ex,i,c,n,l,q⟩=>?_);subst ex;obtain rfl:u=eb a:=k;exact TH d i c n l λp s2 g j=>⟨v,H1,g,j,q⟩
theorem F1(k:PE X o ta)(hv:PE X value tv)(hs:Di value (some (.Attribute o f pos')) pos.line X.env=pure false):PS X (.Assign [.Attribute o f pos'] value pos) (ER X.K ta tv f):=by
 intro b s d H D I h;refine plainObj_wpAny_Assign_Attribute (zd (hv b s d H _ I h) λu s1 ⟨y,H1,e,t,q⟩=>zd (k b s1 d H1 _ e q) λm s2 ⟨x,v,g,r,a,C,w,fs,ex,j,c,n,l,p⟩=>?_) hs;subst ex;obtain rfl:m=eb a:=r;exact mJ g j c n l t λz i=>⟨d,_,i,p⟩
theorem qR{i:ak}{rd:V->V->Hp->VK->Prop}(E:PE X o ta)(hv:PE X value tv)(g:lI X i rd):PS X (.AugAssign (.Attribute o f tpos) i value pos) (nV X.K ta tv rd f):=by
 intro b s d H D I h;refine wpAny_AugAssign_AttributeAny (zd (E b s d H _ I h) λG s1 ⟨x,H1,k,N,a,C,S,fs,v,ex,A,c,n,l,q⟩=>?_);subst ex;obtain rfl:G=eb a:=N;refine TH k A c n l λu s2 m M=>zd (hv b s2 d H1 _ m q) λQ s3 ⟨y,j,p,O,J⟩=>zd (g b s3 d j v y u Q _ p M O J) λU s4 ⟨z,R,r,P,w,B,e,F,L⟩=>?_;exact mJ r e c n F P λT t=>⟨d,_,t,L⟩
noncomputable def nR:V->V->Hp->VK->Prop:=λx y H Q=>∃ i j,x=.int i/\y=.int j/\Q (.int (i+j)) H
theorem aS:lI X .Add nR:=by
 rintro a s e H x y u v Q I c d ⟨i,j,rfl,rfl,q⟩;obtain⟨t,rfl⟩:=(show ∃ t,u=Af i t from c)
 obtain⟨b,rfl⟩:=(show ∃ b,v=Af j b from d)
 exact MC ⟨.int (i+j),H,I.tok _,⟨_,rfl⟩,q⟩
end
section
variable{X:Cx}{pins:List (Addr × gc)}{σ:St}{H:Hp}{s:aa}{A:Da}{E:Value->aa->Prop}{Q:Value->aa->Prop}{c:Value}{b:Bool}
inductive Nj(K:W.Frag)(H:Hp):V->Value->Prop where
 |Jb:Nj K H .Jb (.type "NoneType")
 |bl (x:Bool):Nj K H (.bl x) (.type "bool")
 |int (i:Int):Nj K H (.int i) (.type "int")
 |str (x:ma):Nj K H (.str x) (.type "str")
 |Qv (x:UInt64):Nj K H (.Qv x) (.type "float")
 |lst {a:Addr} {xs:List V} (e:H a=some (.lst xs)):Nj K H (.ref a) (.type "list")
 |Xa {a:Addr} {o:gc} {xs:List V} (e:H a=some (.Xa o (.lst xs))):Nj K H (.ref a) (.type "list")
 |tup {a:Addr} {xs:List V} (e:H a=some (.tup xs)):Nj K H (.ref a) (.type "tuple")
 |dK {a:Addr} {kvs:List (Key × V)} (e:H a=some (.dK kvs)):Nj K H (.ref a) (.type "dict")
 |dT {a:Addr} {kvs:List (List Key × V)} (e:H a=some (.dT kvs)):Nj K H (.ref a) (.type "dict")
 |ins {a C dx:Addr} {fs:List (ma × V)} (e:H a=some (.ins C dx fs)) (cl:Wm K C) (ha:W.findIn K (.ref C) "__class__" = some (some (.builtin "object.__class__")))
   (hn:W.specialIn K (.builtin "object.__class__") "__get__" = some (some (.builtin "getset_descriptor.__get__"))) (htk:W.takesIn K (.builtin "object.__class__")=some true)
   (hm:W.mroIn K C (.type "object")=some true):Nj K H (.ref a) (.ref C)
theorem rX{x:V}{u t:Value}(I:Inv X pins σ H s)(f:Qc x u)(ty:Nj X.K H x t)(e:W.kitOne X.K t c=some b)(h:∀ tk,Q (.bool b) { s with toks:=tk }) :
  wpAny (model X.prog X.w) A (call (.builtin "isinstance") [u,c]) Q E s:=by
 cases ty with
 |Jb=>cases (show u=pb from f);exact Oe W.kitx_none I.Xi True.intro e (λz=>nomatch z) h
 |bl y=>cases (show u=Ve y from f);exact Oe W.kitx_bool I.Xi True.intro e (λz=>nomatch z) h
 |int i=>obtain⟨t,q⟩:=(show ∃ t,u=Af i t from f);cases q;exact Oe W.kitx_int I.Xi True.intro e (λz=>nomatch z) h
 |str y=>obtain⟨t,q⟩:=(show ∃ t,u=Ii y t from f);cases q;exact Oe W.kitx_str I.Xi True.intro e (λz=>nomatch z) h
 |Qv y=>obtain⟨t,q⟩:=(show ∃ t,u=Ep y t from f);cases q;exact Oe W.kitx_float I.Xi True.intro e (λz=>nomatch z) h
 |@lst a xs d=>
  cases (show u=eb a from f);obtain⟨_,_,n,_,h1⟩:=(show mi X.prog X.w H s.heap a (.lst xs)from I.Qb a _ d)
  exact Oe VN I.Xi ⟨_,h1,rfl⟩ e (λz=>nomatch z) h
 |@Xa a v xs d=>
  cases (show u=eb a from f);obtain⟨_,_,_,n,_,h1⟩:=(show mi X.prog X.w H s.heap a (.Xa v (.lst xs))from I.Qb a _ d)
  exact Oe VN I.Xi ⟨_,h1,rfl⟩ e (λz=>nomatch z) h
 |@tup a xs d=>
  cases (show u=eb a from f);obtain⟨_,_,_,p⟩:=(show mi X.prog X.w H s.heap a (.tup xs)from I.Qb a _ d)
  obtain⟨o,h1,j,_⟩:=p;exact Oe W.kitx_tuple I.Xi ⟨o,h1,j⟩ e (λz=>nomatch z) h
 |@dK a g d=>
  cases (show u=eb a from f);obtain⟨_,_,G,_,p⟩:=(show mi X.prog X.w H s.heap a (.dK g)from I.Qb a _ d)
  obtain⟨o,m,l,h1,j,_⟩:=p;exact Oe Zr I.Xi ⟨o,h1,j.1⟩ e (λz=>nomatch z) h
 |@dT a g d=>
  cases (show u=eb a from f);obtain⟨_,_,xs,_,o,m,l,h1,j,_⟩:=(show mi X.prog X.w H s.heap a (.dT g)from I.Qb a _ d)
  exact Oe Zr I.Xi ⟨o,h1,j.1⟩ e (λz=>nomatch z) h
 |@ins a C B fs d cl r hn k hm=>
  cases (show u=eb a from f);obtain⟨D,O,_⟩:=EC I.Qb d;obtain⟨F,J,_⟩:=O.look;exact Oe (W.kitx_own (cl.get _) cl.hd r hn k hm) I.Xi J e (λz=>nomatch z) h
end
structure vd(k:Nat)(A:Da):Prop where
 hd:A.handled=none
 dp:A.depth+3 * k+5<recursionLimit
 un:A.units+16 * k+200<cLine
theorem vd.mono{j k:Nat}{A:Da}(r:vd k A)(h:j<=k):vd j A:=⟨r.hd,by have:=r.dp;omega,by have:=r.un;omega⟩
theorem vd.deeper{k:Nat}{A:Da}(r:vd (k+1) A)(env:ag):vd k (A.deeper env):=
 ⟨r.hd,by have:=r.dp;show A.depth+1+3 * k+5<_;omega,by have:=r.un;show A.units+3+16 * k+200<_;omega⟩
theorem vd.in1{k:Nat}{A:Da}(r:vd (k+1) A):vd k A.in1:=
 ⟨r.hd,by have:=r.dp;show A.depth+3 * k+5<_;omega,by have:=r.un;show A.units+1+16 * k+200<_;omega⟩
theorem PR{A:Da}{C:Addr}{us:List Value}{a:List (ma × Value)}:(A.under (.builtin "type.__call__" ⟨.ref C::us,a⟩)).depth=A.depth+1:=by
 first|rfl|simp[jo,Code.weight,Code.isCreation,Code.isGuard,Code.isCaller,hA,Yo,guardIds]
theorem vP{A:Da}{C:Addr}{us:List Value}{a:List (ma × Value)}:(A.under (.builtin "type.__call__" ⟨.ref C::us,a⟩)).units=A.units+1:=by
 first|rfl|simp[jo,Code.cUnits,hA,Yo]
theorem vd.make{k:Nat}{A:Da}(r:vd (k+1) A)(C:Addr)(us:List Value)(a:List (ma × Value)):vd k (A.under (.builtin "type.__call__" ⟨.ref C::us,a⟩)):=
 ⟨r.hd,by have:=r.dp;rw[PR];omega,by have:=r.un;rw[vP];omega⟩
theorem vd.depth{k:Nat}{A:Da}(r:vd k A):A.depth<recursionLimit:=by have:=r.dp;omega
theorem vd.units{k:Nat}{A:Da}(r:vd k A):A.units+64<cLine:=by have:=r.un;omega
noncomputable def AO:TA:=λ_ H Q=>Q [] H
noncomputable def iS(d:TE)(e:TA):TA:=λa H Q=>d a H λx b=>e a b λxs c=>Q (x::xs) c
section
variable{X:Cx}{e:Ga}{es:List Ga}{te:TE}{t:TA}{pos:Ae}
theorem nv:PA X [] AO:=λ_ _ _ _ H Q I h=>Calls.spliced_nil ⟨[],H,I,.nil,h⟩
theorem ou(g:PE X e te)(i:PA X es t)(hs:pa (e::es) X.env=(false,Wb e X.env)::pa es X.env:=by rfl):PA X (e::es) (iS te t):=by
 intro pos a s b H Q I h;rw[hs];show wpAny _ _ (spliced ((false,Wb e X.env)::Dc pos (pa es X.env))) _ _ s;refine Calls.spliced_cons (zd (g a s b H _ I h) λu s1 ⟨x,H1,d,l,j⟩=>?_);exact zd (i pos a s1 b H1 _ d j) λus s2 ⟨xs,c,f,m,k⟩=>⟨x::xs,c,f,.cons l m,k⟩
noncomputable def qY(t:TA):TE:=λb H Q=>t b H λxs a=>xs.length<=sizeLine/\∀ p,a p=none->Q (.ref p) (upd a p (.tup xs))
noncomputable def NY(t:TA):TE:=λb H Q=>t b H λxs a=>xs.length<=sizeLine/\∀ p,a p=none->Q (.ref p) (upd a p (.lst xs))
theorem MQ{x1}(h:PA X es t):PE X (.Tuple es x1 pos) (qY t):=by
 intro a s g H Q I f;refine wpAny_Tuple_spliced (zd (h pos a s g H _ I f) λus s1 ⟨xs,H1,c,r,z,q⟩=>⟨by rw[<-r.length];exact z,?_⟩);have d:H1 s1.heap.objs.size=none:=c.Qb.fresh (xa _);refine⟨.ref s1.heap.objs.size,upd H1 s1.heap.objs.size (.tup xs),c.laid (t':=s1.toks) (λb u e=>ia _ e) (xa _) ?_,rfl,q _ d⟩;exact⟨z,us,r,⟨_,Sa _ rfl,rfl,_,rfl⟩⟩
theorem FJ(h:PA X es t):PE X (.List es pos) (NY t):=by
 intro a s g H Q I f;refine wpAny_List_spliced (zd (h pos a s g H _ I f) λus s1 ⟨xs,H1,c,r,z,q⟩=>⟨by rw[<-r.length];exact z,?_⟩);have d:H1 s1.heap.objs.size=none:=c.Qb.fresh (xa _);refine⟨.ref s1.heap.objs.size,upd H1 s1.heap.objs.size (.lst xs),c.laid (t':=s1.toks) (λb u e=>ia _ e) (xa _) ?_,rfl,q _ d⟩;exact⟨z,us,0,r,Sa _ rfl⟩
end
noncomputable abbrev Sp:=List V->Hp->VK->XK->Prop
noncomputable abbrev Aq:=List ag->Hp->aa->XK->Value->aa->Prop
structure Lk(P:ra)(w:Ea)(K:W.Frag)(mg:ma->Option Value)(base:Heap)(A:Da)(outer:List ag)(s:aa)(H:Hp):Prop where
 frames:A.frames=some outer
 mod:Mod K mg base
 bs:∀ b o,base.get? b=some o->s.heap.get? b=some o/\H b=none
 Jp:base.objs.size<=s.heap.objs.size
 yi:s.heap.FunFrames base outer
 vr:∀ b∈xi outer,H b=none
 Qb:Kh P w H s.heap
 bare:bg s.gens
noncomputable def CE(outer:List ag)(P:ra)(w:Ea)(H:Hp)(s:aa)(Q:VK)(u:Value)(s':aa):Prop:=
 ∃ v a,s'.os=s.os/\bg s'.gens/\Un (xi outer) [] H a s.heap s'.heap/\Kh P w a s'.heap/\Qc v u/\Q v a
noncomputable def CR(a:Aq)(outer:List ag)(P:ra)(w:Ea)(H:Hp)(s:aa)(Q:VK)(E:XK)(r:zw)(s':aa):Prop:=
 match r with
 | .ok (.ret u)=>CE outer P w H s Q u s'
 | .ok _=>False
 | .error e=>a outer H s E e s'
structure Dg(P:ra)(w:Ea)(K:W.Frag)(mg:ma->Option Value)(base:Heap)(CX:Aq)(k:Nat)(f:Addr)(fd:Ad)(ps:List ma)(sp:Sp):Prop where
 len:∀ vs H Q E,sp vs H Q E->vs.length=ps.length
 run:∀ (A:Da) (outer:List ag) (s:aa) (H:Hp) (args:Args) (us:List Value) (vs:List V) (Q:VK) (E:XK),vd k A->Lk P w K mg base A outer s H->uf s fd args (ps.zip us)->Od vs us->sp vs H Q E->
  codeAny (model P w) A (.call (.ref f) args) (CR CX outer P w H s Q E) s
theorem Dg.mono{P:ra}{w:Ea}{K:W.Frag}{mg:ma->Option Value}{base:Heap}{b:Aq}{j k:Nat}{f:Addr}{c:Ad}{ps:List ma}{sp:Sp}(F:Dg P w K mg base b j f c ps sp)(h:j<=k) :
  Dg P w K mg base b k f c ps sp:=⟨F.len,λA outer s H a e g Q E d=>F.run A outer s H a e g Q E (d.mono h)⟩
theorem Dg.imp{P:ra}{w:Ea}{K:W.Frag}{mg:ma->Option Value}{base:Heap}{b:Aq}{k:Nat}{f:Addr}{c:Ad}{ps:List ma}{sp sp':Sp}(F:Dg P w K mg base b k f c ps sp)
  (h:∀ vs H Q E,sp' vs H Q E->sp vs H Q E):Dg P w K mg base b k f c ps sp':=
 ⟨λvs H Q E q=>F.len vs H Q E (h _ _ _ _ q),λA outer s H a e vs Q E d he hb hv hs=>F.run A outer s H a e vs Q E d he hb hv (h _ _ _ _ hs)⟩
theorem Lk.make{P:ra}{w:Ea}{K:W.Frag}{mg:ma->Option Value}{base:Heap}{A:Da}{outer:List ag}{s:aa}{H:Hp}(e:Lk P w K mg base A outer s H)(C:Addr)(us:List Value)(a:List (ma × Value)) :
  Lk P w K mg base (A.under (.builtin "type.__call__" ⟨.ref C::us,a⟩)) outer s H:=⟨by first|exact e.frames|(simpa [jo,Code.envs,Yo,pushEnvs]using e.frames),e.mod,e.bs,e.Jp,e.yi,e.vr,e.Qb,e.bare⟩
theorem Lk.in1{P:ra}{w:Ea}{K:W.Frag}{mg:ma->Option Value}{base:Heap}{A:Da}{outer:List ag}{s:aa}{H:Hp}(e:Lk P w K mg base A outer s H) :
  Lk P w K mg base A.in1 outer s H:=⟨e.frames,e.mod,e.bs,e.Jp,e.yi,e.vr,e.Qb,e.bare⟩
section
variable{X:Cx}{pins:List (Addr × gc)}{σ:St}{H:Hp}{s s':aa}
theorem Inv.wz(I:Inv X pins σ H s):Lk X.prog X.w X.K X.mg X.base X.A X.stack s H:=
 ⟨I.ok.frames,I.ok.mod,I.bs,Hb I.ok.Jp I.sz,I.stack,I.tj,I.Qb,I.bare⟩
theorem Inv.after{Q:VK}{u:Value}(I:Inv X pins σ H s)(h:CE X.stack X.prog X.w H s Q u s'):EP X pins σ Q u s':=by
 obtain⟨v,c,os,bare,un,Qb,r,q⟩:=h;obtain⟨e,g,d,t,a⟩:=s';obtain rfl:a=s.os:=os;exact⟨v,c,I.call (h':=e) (g':=g) (d':=d) (t':=t) (ch:=[]) un Qb bare (λb z=>absurd z (by simp)),r,q⟩
end
noncomputable def ip(K:W.Frag)(a:Ad)(ps:List ma)(ds:List Value):Prop:=
 ∀ (s:aa) (us:List Value),K.In s.heap->(us++ds).length=ps.length->uf s a ⟨us,[]⟩ (ps.zip (us++ds))
theorem ip.all{K:W.Frag}{a:Ad}{ps:List ma}(h:∀ us:List Value,us.length=ps.length->bindArgs a ⟨us,[]⟩=pure (ps.zip us)):ip K a ps []:=λs us _ b=>by
 rw[ii]at b ⊢;exact .of_eq (h us b)
section
variable{X:Cx}{CX:Aq}{k:Nat}{f C:Addr}{fd:Ad}{ps:List ma}{sp:Sp}{dvs:List V}{ds:List Value}{E:XK}{x m:ma}{p pos apos:Ae}{e o:Ga}{es:List Ga}{ta:TE}{t:TA}
structure Mk(K:W.Frag)(C f:Addr):Prop where
 makes:W.makesIn K C=true
 init:W.findIn K (.ref C) "__init__" = some (some (.ref f))
 fn:W.isFn K (.ref f)=true
 kp:W.keepIn K (.ref C)=true
end
section
variable{X:Cx}{CX:Aq}{k:Nat}{f C:Addr}{fd:Ad}{ps ks:List ma}{sp:Sp}{E:XK}{x m:ma}{p pos apos kpos:Ae}{e o:Ga}{es:List Ga}{kws:List Ui}{te ta:TE}{t tk:TA}{nm:Option ma}
structure uG(K:W.Frag)(fd:Ad)(ps ks:List ma)(g:List Value->List Value->List Value)(gV:List V->List V->List V):Prop where
 to:∀ (s:aa) (us ws:List Value),K.In s.heap->(g us ws).length=ps.length->uf s fd ⟨us,ks.zip ws⟩ (ps.zip (g us ws))
 rel:∀ {vs:List V} {us:List Value} {zs:List V} {ws:List Value},Od vs us->Od zs ws->Od (gV vs zs) (g us ws)
variable{g:List Value->List Value->List Value}{gV:List V->List V->List V}
end
structure wa(N P:List ma)(sc:Scope):Prop where
 kind:sc.kind=.function
 co:sc.isCoroutine=false
 gen:sc.isGenerator=false
 nd:N.Nodup
 pre:N.take P.length=P
 par:∀ x∈P,sc.names.lookup x=some .local\/sc.names.lookup x=some .cell
 Av:∀ y∈sc.names,y.2≠.free
theorem rJ{a:ma->Option De}{x:ma}:∀ {binds:List (ma × Value)} {m:ma->Option Value},(∀ v,(x,v) ∉ binds)->mr a binds m x=m x
 |[],_,_=>rfl
 |(n,v)::r,m,h=>by
  unfold mr;rw[rJ λw b=>h w (jb _ b)];split
  ·have:x≠n:=by rintro rfl;exact h v Ub
   simp[this]
  ·rfl
theorem TL{a:ma->Option De}{x:ma}:∀ {binds:List (ma × Value)} {m:ma->Option Value},(∀ v,(x,v) ∉ binds)->pr a binds m x=m x
 |[],_,_=>rfl
 |(n,v)::r,m,h=>by
  unfold pr;rw[TL λw b=>h w (jb _ b)];split
  ·rfl
  ·have:x≠n:=by rintro rfl;exact h v Ub
   simp[this]
theorem QN{a:ma->Option De}{x:ma}{v:Value}:∀ {P:List ma} {vs:List Value} {i:Nat} {m:ma->Option Value},P.Nodup->P[i]?=some x->vs[i]?=some v->a x=some .local->
  mr a (P.zip vs) m x=some v
 |[],_,_,_,_,h,_,_=>by simp at h
 |_::_,[],_,_,_,_,h,_=>by simp at h
 |p::P,w::vs,0,m,nd,h1,b,c=>by
  simp at h1 b;subst h1;subst b;show mr a ((p,w)::P.zip vs) m p=_;unfold mr;rw[rJ λv hv=>(yg.mp nd).1 (qm hv).1,da c];simp
 |p::P,w::vs,i+1,m,nd,h1,b,c=>by
  show mr a ((p,w)::P.zip vs) m x=_;unfold mr;exact QN (i:=i) (yg.mp nd).2 (by simpa using h1) (by simpa using b) c
theorem UJ{a:ma->Option De}{x:ma}{v:Value}:∀ {P:List ma} {vs:List Value} {i:Nat} {m:ma->Option Value},P.Nodup->P[i]?=some x->vs[i]?=some v->a x≠some .local->
  pr a (P.zip vs) m x=some v
 |[],_,_,_,_,h,_,_=>by simp at h
 |_::_,[],_,_,_,_,h,_=>by simp at h
 |p::P,w::vs,0,m,nd,h1,b,c=>by
  simp at h1 b;subst h1;subst b;show pr a ((p,w)::P.zip vs) m p=_;unfold pr;rw[TL λv hv=>(yg.mp nd).1 (qm hv).1,ka c];simp
 |p::P,w::vs,i+1,m,nd,h1,b,c=>by
  show pr a ((p,w)::P.zip vs) m x=_;unfold pr;exact UJ (i:=i) (yg.mp nd).2 (by simpa using h1) (by simpa using b) c
noncomputable def Tr(N:List ma)(vs:List V):St:=vs.map some++List.replicate (N.length - vs.length) none
noncomputable def Bo(b:Aq)(P:ra)(w:Ea)(K:W.Frag)(mg:ma->Option Value)(base:Heap)(N:List ma)(qual:ma)(scope:Scope)(f:Addr)(cd:Value)(A:Da)(outer:List ag)(s:aa)(H:Hp)(E:XK):Cx where
 prog:=P
 w:=w
 K:=K
 mg:=mg
 base:=base
 A:=A.deeper (eg qual scope s.heap.objs.size f cd)
 N:=N
 s₀:=s
 H₀:=H
 env:=eg qual scope s.heap.objs.size f cd
 outer:=outer
 stack:=eg qual scope s.heap.objs.size f cd::outer
 ex:=[]
 calm:=true
 fn:=λ_=>true
 pn:=[]
 xe:=λe d=>wpAny (model P w) (A.deeper (eg qual scope s.heap.objs.size f cd)) (Xx (eg qual scope s.heap.objs.size f cd) e) (λ_ a=>b outer H s E e a) (λc a=>b outer H s E c a) d
theorem GM{sc:Scope}{n:Nat}{x:ma}(h:sc.names.lookup x=some .cell):∃ c,(iA n sc.names []).lookup x=some c:=by
 have q:=sw sc.names n [] (.inl h);exact Xd.mp q
theorem yZ{t:Aq}{P:ra}{w:Ea}{K:W.Frag}{mg:ma->Option Value}{base:Heap}{N ps:List ma}{qual:ma}{scope:Scope}{f:Addr}{cd:Value}{A:Da}{outer:List ag}{s s1:aa}{H:Hp}{E:XK}{us:List Value}{vs:List V}
  (S:wa N ps scope) (hd:A.handled=none) (g:Lk P w K mg base A outer s H) (G:vs.length=ps.length) (r:Od vs us)
  (x:InCallC s s.heap.objs.size (mr (eg qual scope s.heap.objs.size f cd).kindOf (ps.zip us) λ_=>none) (iA (s.heap.objs.size+1) scope.names []) (pr (eg qual scope s.heap.objs.size f cd).kindOf (ps.zip us) λ_=>none) s1) :
  Inv (Bo t P w K mg base N qual scope f cd A outer s H E) [] (Tr N vs) H s1:=by
 have D:ps.length<=N.length:=by have:=we List.length S.pre;rw[El]at this;omega
 obtain⟨h1,I,rfl,B⟩:=x.done;have l:∀ b:Addr,b ∉ (Bo t P w K mg base N qual scope f cd A outer s H E).ex:=λb z=>absurd (show b∈([]:List Addr)from z) (by simp);refine⟨⟨g.mod,S.kind,rfl,rfl,xa _,λy z c h1 d=>?_,λy j=>?_,λy c _ h=>?_,λ_=>hd,Ro g.frames,.inr ⟨rfl,rfl⟩,λb z=>absurd z (l b),g.bs,g.Jp,λb _ _=>l b,λb z=>absurd z (l b),g.yi,g.vr⟩,
  rfl,g.bare,Un.kept B,⟨_,x.toInCall.ns,λi y v h1 d h3=>?_⟩,λy c h=>⟨_,x.cell y c h⟩,g.Qb.fresh (xa _),λy c h=>?_,λp hp=>absurd (show p∈([]:List (Addr × gc))from hp) (by simp),g.Qb.kept B,?_⟩
 ·exact name_of_addr x.apart (ee h1) (ee d)
 ·have j:scope.names.lookup y=some .cell\/scope.names.lookup y=some .free:=j;rcases j with j|j
  ·exact GM j
  ·exact absurd rfl (S.Av _ (ee j))
 ·exact Ze (x.above y c (ee h))
 ·have o:i<vs.length:=by
   unfold Tr at d;by_cases o:i<vs.length
   ·exact o
   ·rw[Sg (by simpa using o)]at d;rw[Ho]at d;split at d<;>cases d
  have C:vs[i]?=some v:=by
   unfold Tr at d;rw[gb (by simpa using o),Fb]at d;cases e:vs[i]? with
   |none=>rw[e]at d;cases d
   |some a=>rw[e]at d;cases d;rfl
  obtain⟨u,hu,F⟩:=r.get C;have hp:ps[i]?=some y:=by
   rw[<-S.pre,Yn (by omega)];exact h1
  have m:ps.Nodup:=by rw[<-S.pre];exact S.nd.sublist (List.take_sublist _ _)
  refine⟨u,F,?_⟩;rcases S.par y (Ja hp)with k|k
  ·exact .inl ⟨k,QN m hp hu k⟩
  ·obtain⟨c,e⟩:=GM (n:=s.heap.objs.size+1) k;refine .inr ⟨.inl k,c,e,?_⟩;have q:=x.cell y c e;rw[UJ m hp hu (by show scope.names.lookup y≠_;rw[k];decide)]at q;exact q
 ·exact g.Qb.fresh (Ze (x.above y c (ee h)))
 ·unfold Tr;show _=N.length;rw[Cd,Yb,List.length_replicate];omega
theorem WI{B:Aq}{P:ra}{w:Ea}{K:W.Frag}{mg:ma->Option Value}{base:Heap}{k:Nat}{f:Addr}{name qual:ma}{c:Arguments}{d:List Stmt}{scope:Scope}{T kV l U a ct oc:Value}{O od:Option Addr}
  {G:Array (Option Value)} {N ps:List ma} {sp:Sp} (lk:K.lookup f=some ⟨oc,od,.func (W.fnOf name qual c d scope T kV l U O a ct),G⟩) (C:W.codeIn K a qual=true) (S:wa N ps scope)
  (len:∀ vs H Q E,sp vs H Q E->vs.length=ps.length)
  (i:∀ (A:Da) (outer:List ag) (s:aa) (H:Hp) (vs:List V) (Q:VK) (E:XK),vd k (A.deeper (eg qual scope s.heap.objs.size f a))->sp vs H Q E->
   ∃ t,Mp (Bo B P w K mg base N qual scope f a A outer s H E) d t/\t { nx:=λ_ h=>Q .Jb h,rt:=Q } (Tr N vs) H) :
  Dg P w K mg base B (k+1) f (W.fnOf name qual c d scope T kV l U O a ct) ps sp:=by
 refine⟨len,λA outer s H R us vs Q E D m hb r z=>?_⟩;have Y:=len _ _ _ _ z;have M:K.In s.heap:=m.mod.Cu.keeps λb o e=>(m.bs b o e).1;have F:s.heap.NoLimit:=m.mod.nolimit.keeps λb o e=>(m.bs b o e).1;have j:∀ y∈ps.zip us,scope.names.lookup y.1=some .local\/(scope.names.lookup y.1=some .cell/\((iA (s.heap.objs.size+1) scope.names []).lookup y.1).isSome=true):=λ⟨n,v⟩ hy=>by
  rcases S.par n (qm hy).1 with q|q
  ·exact .inl q
  ·exact .inr ⟨q,sw _ _ _ (.inl q)⟩
 refine codeAny_call_function D.depth (M _ _ lk) rfl S.co S.gen rfl (W.codeRec_of M C) (hb _ _ _ _ ?_);refine wpAny_newFunctionEnv_cells S.kind j λenv he s1 x=>?_;subst he;refine⟨F.keeps x.toInCall.keep,codeAny_func ?_⟩;obtain⟨t,ht,Z⟩:=i A outer s H vs Q E (D.deeper _) z;have I:Inv (Bo B P w K mg base N qual scope f a A outer s H E) [] (Tr N vs) H s1:=yZ S D.hd m Y r x;refine Mb (ht [] s1 (Tr N vs) H _ I Z) (λX s' hs=>?_) λe s' hs=>hs;have p:∀ {g:St} {h:Hp} {v:V} {u:Value},Inv (Bo B P w K mg base N qual scope f a A outer s H E) [] g h s'->Qc v u->Q v h->CE outer P w H s Q u s':=
  fun {g h v u} J L q=>⟨v,h,J.os,J.bare,J.base,J.Qb,L,q⟩
 cases X with
 |ret u=>
  obtain⟨v,g,h,J,L,q⟩:=hs;exact p J L q
 |next=>
  obtain⟨g,h,J,q⟩:=hs;exact p (v:=V.Jb) (u:=pb) J rfl q
 |brk=>
  obtain⟨_,_,_,q⟩:=hs;exact False.elim q
 |cont=>
  obtain⟨_,_,_,q⟩:=hs;exact False.elim q
section
variable{X:Cx}{x:ma}{p pos:Ae}{e:Ga}{es:List Ga}{t:TA}{id T:String}{r:List V->Hp->VK->Prop}
noncomputable def zD(r:List V->Hp->VK->Prop)(t:TA):TE:=λc H Q=>t c H λb a=>r b a Q
theorem wF(i:bn X (.builtin id) r)(j:Gl X x)(hm:X.mg x=none)(hv:bootBuiltins x=some (.builtin id))(g:PA X (e::es) t)(hn:x ≠ "__name__":=by decide)(b:(x == ("__debug__" : ma))=false:=by decide)
  (he:pa (e::es) X.env=(false,Wb e X.env)::pa es X.env:=by rfl) (c:(Dc pos (pa es X.env)).any (·.1)=false:=by rfl):PE X (.Call (.Name x p) (e::es) [] pos) (zD r t):=by
 intro a s d H Q I h;refine Je (Wu I j hm hv ?_ hn b);exact NC (zd (g pos a s d H _ I h) λus s1 ⟨m,H1,f,l,k⟩=>i a s1 d H1 m us Q f l k) he c
theorem lN(i:bn X (.type T) r)(j:Gl X x)(hm:X.mg x=none)(hv:bootBuiltins x=some (.type T))(g:PA X (e::es) t)(hn:x ≠ "__name__":=by decide)(b:(x == ("__debug__" : ma))=false:=by decide)
  (he:pa (e::es) X.env=(false,Wb e X.env)::pa es X.env:=by rfl) (c:(Dc pos (pa es X.env)).any (·.1)=false:=by rfl):PE X (.Call (.Name x p) (e::es) [] pos) (zD r t):=by
 intro a s d H Q I h;refine Je (Wu I j hm hv ?_ hn b);exact re (zd (g pos a s d H _ I h) λus s1 ⟨m,H1,f,l,k⟩=>i a s1 d H1 m us Q f l k) he c
end
end L2
namespace HT
open PySem PyProof.Rows
section
open PySem.SeqAt
open PySem.AutoSeq1 (wpAny_loadPart')
open PySem.MeetsSeq PySem.MeetsSeq2 PySem.MeetsSeq3
end
section
variable{prog:ra}{w:Ea}{A:Da}{E:Value->aa->Prop}{s:aa}
theorem Jt{t b:Addr}{vs a:List Value}{Q:Value->aa->Prop}(u:jr s.heap t vs.toArray)(hb:jr s.heap b a.toArray)(hv:vs≠[])
  (h1:a=[]->Q (.ref t) s) (r:a≠[]->Q (.ref s.heap.objs.size) { s with heap:=s.heap.push { cls:=.type "tuple",data:=.seq (vs++a).toArray } })
  (hsz:vs.length+a.length<=sizeLine):wpAny (model prog w) A (Ce .Add (.ref t) (.ref b)) Q E s:=by
 obtain⟨⟨cls,m,data,q⟩,i,o,n,hd⟩:=id u;obtain⟨⟨l,d,k,h⟩,c,f,p,g⟩:=id hb;simp only at o hd f g;subst o hd f g;have e:vs.toArray++a.toArray=(vs++a).toArray:=by simp
 by_cases j:a=[]
 ·exact js ⟨_,i,rfl⟩ ⟨_,c,rfl⟩ Ln Hq Dh qh (Xg _ _)
   (tuple_addW1 t b vs.toArray a.toArray n p m d q h (by simpa using hv) (by simp[j])) ⟨i,c,h1 j⟩
 ·refine js ⟨_,i,rfl⟩ ⟨_,c,rfl⟩ Ln Hq Dh qh (Xg _ _)
   (tuple_addW2 t b vs.toArray a.toArray n p m d q h (by simpa using hv) (by simpa using j) (by rw[va,va];exact hsz)) ⟨i,c,?_⟩
  rw[e];exact r j
noncomputable def We(n d:Nat):Option Int->Nat
 |none=>d
 |some v=>if v<0 then (v+(n:Int)).toNat else min v.toNat n
theorem B2(n d:Nat)(hd:d<=n)(o:Option Int):We n d o<=n:=by
 cases o with
 |none=>exact hd
 |some v=>
  show (if v<0 then (v+(n:Int)).toNat else min v.toNat n)<=n;by_cases hv:v<0
  ·rw[da hv];omega
  ·rw[ka hv];exact Nat.min_le_right _ _
theorem IL(v:Int)(n d:Nat):(if v<0 then max (v+(n:Int)) 0 else min v (n:Int))=((We n d (some v):Nat):Int):=by
 show (if v<0 then max (v+(n:Int)) 0 else min v (n:Int))=(((if v<0 then (v+(n:Int)).toNat else min v.toNat n):Nat):Int);by_cases hv:v<0
 ·simp only[da hv];omega
 ·simp only[ka hv];omega
theorem iV(b a:Option Int)(n:Nat):fg b a 1 (n:Int)=(((We n 0 b:Nat):Int),((We n n a:Nat):Int)):=by
 have h1:¬ ((1:Int)<0):=by omega
 unfold fg;simp only[h1,Zn];refine WN ?_ ?_
 ·cases b with
  |none=>rfl
  |some v=>exact IL v n 0
 ·cases a with
  |none=>rfl
  |some v=>exact IL v n n
theorem mY(i j:Nat):Fe (i:Int) (j:Int) 1=j - i:=by
 unfold Fe;have h1:(1:Int) > 0:=by omega
 simp only[h1,Xf,Int.ediv_one];split<;>omega
theorem mI{v:Value}{o:Option Int}{Q:Option Int->aa->Prop}(p:ck v o)(h:Q o s):wpAny (model prog w) A (jA v) Q E s:=by
 cases p with
 |none=>exact UG h
 |int i t=>exact slicePart_int h
theorem LM{g:Addr}{e f:Value}{a c:Option Int}{n:Nat}{Q:Int × Int × Nat->aa->Prop}(hs:s.heap.IsSliceOf g e f .none)(pl:ck e a)(j:ck f c)
  (h:Q (((We n 0 a:Nat):Int),1,We n n c - We n 0 a) s):wpAny (model prog w) A (zj (.ref g) (pure (n:Int))) Q E s:=by
 obtain⟨os,d,i,b⟩:=id hs;unfold zj kA;refine ba (ba (Vj d b (x:=e) rfl (ba (Vj d b (x:=f) rfl (ba (Vj d b (x:=.none) rfl (na ?_)))))));refine ba (UG ?_);show wpAny _ _ (if ((1:Int) == 0)=true then _ else _) _ _ s;rw[ka (by decide)];refine ba (mI pl (ba (mI j (ba (na ?_)))));show wpAny _ _ (match fg a c 1 (n:Int)with|(a,c)=>pure (a,(1:Int),Fe a c 1)) _ _ s;rw[iV a c n];show wpAny _ _ (pure (((We n 0 a:Nat):Int),(1:Int),Fe ((We n 0 a:Nat):Int) ((We n n c:Nat):Int) 1)) _ _ s;rw[mY];exact na h
theorem jR(xs:Array Value)(i k:Nat):((List.range k).filterMap λ(m:Nat)=>xs[((i:Int)+(m:Int) * 1).toNat]?).toArray=((xs.toList.drop i).take k).toArray:=by
 have e:(λ(m:Nat)=>xs[((i:Int)+(m:Int) * 1).toNat]?)=λm=>xs[i+m]?:=by
  funext m;have:((i:Int)+(m:Int) * 1).toNat=i+m:=by omega
  rw[this]
 rw[e];have:=pick_run xs i k;rw[List.filterMap_map]at this;have a:((λx=>xs[x]?) ∘ λx=>i+x)=λm=>xs[i+m]?:=rfl;rw[a]at this;rw[this]
theorem uj{t k:Addr}{a:Array Value}{l n:Value}{c d:Option Int}{Q:Value->aa->Prop}(e:jr s.heap t a)(hs:s.heap.IsSliceOf k l n .none)(pl:ck l c)(r:ck n d)
  (p:¬ (We a.size 0 c=0/\We a.size a.size d=a.size))
  (h:Q (.ref s.heap.objs.size) { s with heap:=s.heap.push { cls:=.type "tuple",data:=.seq ((a.toList.drop (We a.size 0 c)).take (We a.size a.size d - We a.size 0 c)).toArray } })
  (hsz:a.size<=sizeLine):wpAny (model prog w) A (Zh (.ref t) (.ref k)) Q E s:=by
 have b:sizeOk (.seq ((a.toList.drop (We a.size 0 c)).take (We a.size a.size d - We a.size 0 c)).toArray):=by
  show ((a.toList.drop (We a.size 0 c)).take (We a.size a.size d - We a.size 0 c)).toArray.size<=sizeLine;rw[va,El,wt,xg];omega
 have u:We a.size a.size d<=a.size:=B2 _ _ (xa _) d;obtain⟨os,j,g,o⟩:=id hs;have f:s.TypeIs (.ref k) "slice":=⟨os,j,g⟩
 unfold Zh;try with_reducible refine md ?_
 first|refine ba (na ?_)|skip
 refine ba (Nx e.typeIs (by decide) ?_);refine ba (br (name:=Sf "__getitem__") e.typeIs Zb
  (Mn Zb e.typeIs av ?_ (tw _ _)))
 show wpAny _ _ (Aj (.ref t) >>= _) _ _ s;refine ba (XN e ?_);refine ba (ms f ?_);rw[da (by decide)];refine ba (LM hs pl r ?_);have i:¬ ((((We a.size 0 c:Nat):Int) == 0 && (1:Int) == 1 && (We a.size a.size d - We a.size 0 c) == a.size)=true):=by
  intro q;rw[ya,ya]at q;have v:((We a.size 0 c:Nat):Int)=0:=eq_of_beq q.1.1;have x:We a.size a.size d - We a.size 0 c=a.size:=eq_of_beq q.2;exact p ⟨by omega,by omega⟩
 show wpAny _ _ (if (((We a.size 0 c:Nat):Int) == 0 && (1:Int) == 1 && (We a.size a.size d - We a.size 0 c) == a.size)=true then _ else _) _ _ s;rw[ka i,jR];first
  |exact ba (m:=Le _) (ge (na ⟨_,rfl,na h⟩) b)
  |exact ba (m:=Le _) (ge (ba (na (na ⟨_,rfl,na h⟩))) b)
  |exact ba (ba (m:=Le _) (ge (na (na ⟨_,rfl,na h⟩)) b))
  |exact ba (ba (m:=Le _) (ge (na ⟨_,rfl,na h⟩) b))
end
end HT
namespace L2
open PySem PySem.Spec PyProof.Rows
noncomputable abbrev TO:=St->Hp->(Option Int->Hp->Prop)->Prop
noncomputable def PO(X:Cx)(e:Option Ga)(t:TO):Prop:=
 ∀ (a:List (Addr × gc)) (s:aa) (σ:St) (H:Hp) (Q:Option Int->Hp->Prop),Inv X a σ H s->t σ H Q->
  wpAny (model X.prog X.w) X.A (evalPart e X.env) (λu c=>∃ o b,Inv X a σ b c/\ck u o/\Q o b) X.xe s
noncomputable def V0:TO:=λ_ H Q=>Q none H
noncomputable def t0(t:TE):TO:=λb H Q=>t b H λx a=>∃ i,x=.int i/\Q (some i) a
theorem eI{ns:List Int}:∀ {us:List Value},Od (ns.map V.int) us->qk us ns:=by
 induction ns with
 |nil=>intro us r;rw[Xh]at r;cases r;exact .nil
 |cons n ns a=>
  intro us r;rw[yb]at r;cases r with
  |cons b c=>
   obtain⟨t,e⟩:=b;subst e;exact .cons n t (a c)
section
variable{X:Cx}{e:Ga}{te:TE}{lo hi:Option Ga}{tl th:TO}{pos p2:Ae}
theorem rY:PO X none V0:=by
 intro a s b H Q I h;rw[YN];exact na ⟨none,H,I,.none,h⟩
theorem fV(h:PE X e te):PO X (some e) (t0 te):=by
 intro a s g H Q I c;rw[evalPart_some];refine zd (h a s g H _ I c) λu s1 ⟨x,H1,b,f,d⟩=>?_;obtain⟨i,rfl,q⟩:=d;obtain⟨t,rfl⟩:=f;exact⟨some i,H1,b,.int i t,q⟩
noncomputable def ft(X:Cx)(r:V->Option Int->Option Int->Hp->VK->Prop):Prop:=
 ∀ (a:List (Addr × gc)) (s:aa) (σ:St) (H:Hp) (x:V) (v c d:Value) (lo hi:Option Int) (b:Addr) (Q:VK),Inv X a σ H s->Qc x v->s.heap.IsSliceOf b c d .none->ck c lo->ck d hi->r x lo hi H Q->
  ∃ T e,typeLookup (.type T) "__getitem__" = pure (some (.builtin e))/\s.TypeIs v T/\wpAny (model X.prog X.w) X.A (Zh v (.ref b)) (EP X a σ Q) X.xe s
theorem ft.or{r c:V->Option Int->Option Int->Hp->VK->Prop}(h:ft X r)(h':ft X c):ft X (λx lo hi H Q=>r x lo hi H Q\/c x lo hi H Q):=by
 intro a s i H x v f g lo hi e Q I d hs pl b q;rcases q with q|q
 ·exact h a s i H x v f g lo hi e Q I d hs pl b q
 ·exact h' a s i H x v f g lo hi e Q I d hs pl b q
noncomputable def gQ(r:V->Option Int->Option Int->Hp->VK->Prop)(te:TE)(tl th:TO):TE:=λa H Q=>te a H λx b=>tl a b λl c=>th a c λu d=>r x l u d Q
theorem GO{r:V->Option Int->Option Int->Hp->VK->Prop}(y:ft X r)(he:PE X e te)(t:PO X lo tl)(hu:PO X hi th):PE X (.Subscript e (.Slice lo hi none p2) pos) (gQ r te tl th):=by
 intro a s c H Q I h;refine uw (zd (he a s c H _ I h) λv s1 ⟨x,H1,j,E,B⟩=>?_);refine wpAny_Slice (zd (t a s1 c H1 _ j B) λd s2 ⟨l,i,k,pl,C⟩=>zd (hu a s2 c i _ k C) λf s3 ⟨u,g,m,pu,D⟩=>?_);rw[YN];refine na ?_;have n:Inv X a c g { s3 with heap:=s3.heap.push { cls:=.type "slice",data:=.fields #[d,f,.none] } }:=m.kept (t':=s3.toks) λb G q=>ia _ q;obtain⟨T,F,o,z,p⟩:=y a { s3 with heap:=s3.heap.push { cls:=.type "slice",data:=.fields #[d,f,.none] } } c g x v d f l u s3.heap.objs.size Q n E (Ox ..) pl pu D;show wpAny (model X.prog X.w) X.A (Nq e (.Slice lo hi none p2) v (.ref s3.heap.objs.size)) (EP X a c Q) X.xe { s3 with heap:=s3.heap.push { cls:=.type "slice",data:=.fields #[d,f,.none] } };exact tail_any (ops:=[.ref s3.heap.objs.size,v]) z o p (by with_unfolding_all rfl)
noncomputable def Iu(xs:List V)(lo hi:Option Int):List V:=(xs.drop (HT.We xs.length 0 lo)).take (HT.We xs.length xs.length hi - HT.We xs.length 0 lo)
theorem TJ(xs:List V)(lo hi:Option Int):(Iu xs lo hi).length<=xs.length:=by
 unfold Iu;rw[El,wt];omega
noncomputable def sM(K:W.Frag):V->Option Int->Option Int->Hp->VK->Prop:=λx lo hi H Q=>∃ a xs,x=.ref a/\nh K H a xs/\
 ¬ (HT.We xs.length 0 lo=0/\HT.We xs.length xs.length hi=xs.length)/\∀ p,H p=none->Q (.ref p) (upd H p (.tup (Iu xs lo hi)))
theorem LP:ft X (sM X.K):=by
 intro g s u H x v p t lo hi n Q I l hs pl k h;obtain⟨a,xs,rfl,j,i,q⟩:=h;cases l;obtain⟨d,r,e,f⟩:=I.tuple j;have c:d.toArray.size=xs.length:=by rw[va];exact r.length.symm
 refine⟨"tuple",_,Zb.lookup,e.typeIs,?_⟩;refine HT.uj e hs pl k (by rw[c];exact i) ?_ (by rw[c];exact f);rw[c];refine⟨.ref s.heap.objs.size,_,I.laid (t':=s.toks) (o:=.tup (Iu xs lo hi)) (λb m q=>ia _ q) (xa _) ?_,rfl,q _ (I.Qb.fresh (xa _))⟩;exact⟨Hb (TJ xs lo hi) f,_,(r.drop (HT.We xs.length 0 lo)).take (HT.We xs.length xs.length hi - HT.We xs.length 0 lo),OC _ _⟩
noncomputable def GX(K:W.Frag):R2:=λx y H Q=>∃ a b xs c,x=.ref a/\y=.ref b/\nh K H a xs/\nh K H b c/\xs≠[]/\xs.length+c.length<=sizeLine/\
 (c=[]->Q (.ref a) H)/\(c≠[]->∀ p,H p=none->Q (.ref p) (upd H p (.tup (xs++c))))
theorem Od.vn{xs:List V}{us:List Value}(r:Od xs us):us=[] ↔ xs=[]:=by
 cases r with
 |nil=>simp
 |cons _ _=>simp
theorem jV:gh X (Ce .Add) (GX X.K):=by
 intro g s B H x y v u Q I p r h;obtain⟨a,b,xs,t,rfl,rfl,i,hb,j,e,m,n⟩:=h;cases p;cases r;obtain⟨k,d,l,_⟩:=I.tuple i;obtain⟨f,c,p2,_⟩:=I.tuple hb;refine HT.Jt l p2 (λz=>j (d.vn.mp z)) (λz=>⟨.ref a,H,I,rfl,m (c.vn.mp z)⟩) (λz=>?_) (by rw[<-d.length,<-c.length];exact e);refine⟨.ref s.heap.objs.size,_,I.laid (t':=s.toks) (o:=.tup (xs++t)) (λb A q=>ia _ q) (xa _) ?_,rfl,n (λw=>z (c.vn.mpr w)) _ (I.Qb.fresh (xa _))⟩;exact⟨by rw[Cd];exact e,_,d.append c,OC _ _⟩
end
noncomputable def gw(n:Nat)(i:Int):Option Nat:=if 0<=i then (if i<n then some i.toNat else none)else if -(n:Int)<=i then some (i+n).toNat else none
noncomputable def Am{α:Type}(xs:List α)(i:Int):Option α:=(gw xs.length i).bind λj=>xs[j]?
theorem mP{n:Nat}{i:Int}{j:Nat}(h:gw n i=some j):seqIndex? i n=some j/\j<n/\-(n:Int)<=i/\i<n:=by
 unfold gw at h;by_cases h0:0<=i
 ·rw[da h0]at h;by_cases h1:i<n
  ·rw[da h1]at h;have e:i.toNat=j:=nb h;exact⟨by rw[E7 h0 h1,e],by omega,by omega,h1⟩
  ·rw[ka h1]at h;cases h
 ·rw[ka h0]at h;by_cases h1:-(n:Int)<=i
  ·rw[da h1]at h;have e:(i+n).toNat=j:=nb h;exact⟨by rw[V3 (by omega) h1,e],by omega,h1,by omega⟩
  ·rw[ka h1]at h;cases h
theorem HK{a:Type}{xs:List a}{i:Int}{v:a}(h:Am xs i=some v):∃ j,seqIndex? i xs.length=some j/\xs[j]?=some v/\j<xs.length/\-(xs.length:Int)<=i/\i<xs.length:=by
 unfold Am at h;cases e:gw xs.length i with
 |none=>rw[e]at h;cases h
 |some j=>
  rw[e]at h;obtain⟨h1,b,h3,h4⟩:=mP e;exact⟨j,h1,h,b,h3,h4⟩
theorem Mu{a:Type}{xs:List a}{j:Nat}{v:a}(h:xs[j]?=some v):Am xs (j:Int)=some v:=by
 have b:j<xs.length:=(ja.mp h).1;have e:gw xs.length (j:Int)=some j:=by
  unfold gw;rw[da (by omega),da (by omega)];simp
 unfold Am;rw[e];exact h
noncomputable def CL(b:Ga):Prop:=∀ o i,ko b false o i=n4 [o,i] (Zh o i)
noncomputable def Xt(X:Cx)(r:R2):Prop:=
 ∀ (b a:Ga) (pins:List (Addr × gc)) (s:aa) (σ:St) (H:Hp) (x y:V) (v u:Value) (Q:VK),Inv X pins σ H s->Qc x v->Qc y u->r x y H Q->
  ko a false v u=n4 [v,u] (Zh v u)->wpAny (model X.prog X.w) X.A (Nq b a v u) (EP X pins σ Q) X.xe s
noncomputable def Tq(X:Cx)(b:String)(r:V->List V->Hp->VK->Prop):Prop:=
 ∀ (a:List (Addr × gc)) (s:aa) (σ:St) (H:Hp) (x:V) (xs:List V) (v:Value) (us:List Value) (Q:VK),Inv X a σ H s->Qc x v->Od xs us->r x xs H Q->
  wpAny (model X.prog X.w) X.A (call (.builtin b) (v::us)) (EP X a σ Q) X.xe s
section
variable{X:Cx}{a b:Ga}{ta tb:TE}{pos:Ae}
theorem Xt.or{r d:R2}(h:Xt X r)(h':Xt X d):Xt X (λx y H Q=>r x y H Q\/d x y H Q):=by
 intro b a c s g H x y v u Q I e f q hs;rcases q with q|q
 ·exact h b a c s g H x y v u Q I e f q hs
 ·exact h' b a c s g H x y v u Q I e f q hs
theorem Tq.or{b:String}{r c:V->List V->Hp->VK->Prop}(h:Tq X b r)(h':Tq X b c):Tq X b (λx xs H Q=>r x xs H Q\/c x xs H Q):=by
 intro a s g H x xs v f Q I e d q;rcases q with q|q
 ·exact h a s g H x xs v f Q I e d q
 ·exact h' a s g H x xs v f Q I e d q
theorem XU{r:R2}(g:Xt X r)(f:PE X a ta)(hb:PE X b tb)(hs:CL b):PE X (.Subscript a b pos) (Ew r ta tb):=by
 intro c s k H Q I h;exact uw (ME f hb I h λv u s2 x y d e i j q=>g a b c s2 k d x y v u Q e i j q (hs _ _))
noncomputable def lE(K:W.Frag):R2:=λx y H Q=>∃ p xs i v,x=.ref p/\y=.int i/\Me K H p xs/\Am xs i=some v/\Q v H
noncomputable def jD(K:W.Frag):R2:=λx y H Q=>∃ p xs i v,x=.ref p/\y=.int i/\nh K H p xs/\Am xs i=some v/\Q v H
theorem Q0:Xt X (lE X.K):=by
 intro g f a s l H x y v u Q I B C h hs;obtain⟨p,xs,i,z,rfl,rfl,A,he,q⟩:=h;cases B;obtain⟨t,rfl⟩:=C;obtain⟨d,r,pl,E⟩:=I.list A;obtain⟨j,h1,m,h3,h4,n⟩:=HK he;obtain⟨w,k,e⟩:=r.get m;have o:=r.length;have hn:=uD;have b:EP X a l Q w s:=⟨z,H,I,e,q⟩
 by_cases h0:0<=i
 ·have c:i.toNat=j:=by
   rw[E7 h0 n]at h1;exact nb h1
  exact item_listR pl.isList h0 (by omega) (by rw[c];simpa using k) b hs
 ·have c:(i+(d.toArray.size:Int)).toNat=j:=by
   rw[V3 (by omega) h4]at h1;rw[va,<-o];exact nb h1
  exact rs (x:=w) pl.isList.typeIs Px.lookup
   (wpAny_getItem_list_neg (Q:=λr D=>r=w/\EP X a l Q r D) pl.isList (by omega) (by rw[va]<;>omega) (by omega) (by rw[c];simpa using k) ⟨rfl,b⟩) hs
theorem HQ:Xt X (jD X.K):=by
 intro e d a s f H x y v u Q I o A h hs;obtain⟨p,xs,i,z,rfl,rfl,m,he,q⟩:=h;cases o;obtain⟨t,rfl⟩:=A;obtain⟨n,r,pl,D⟩:=I.tuple m;obtain⟨j,h1,k,h3,h4,C⟩:=HK he;obtain⟨w,g,c⟩:=r.get k;have l:=r.length;have hn:=uD;have b:EP X a f Q w s:=⟨z,H,I,c,q⟩
 exact rs (x:=w) pl.typeIs slot_tuple_getitem.lookup
  (getItem_tuple (j:=j) (Q:=λr B=>r=w/\EP X a f Q r B) pl (by omega) (by omega) (by rw[va,<-l];exact h1) (by simpa using g) ⟨rfl,b⟩) hs
theorem Inv.lst{a:List (Addr × gc)}{σ:St}{H:Hp}{s:aa}{p:Addr}{xs:List V}(I:Inv X a σ H s)(h:H p=some (.lst xs)) :
  ∃ (its:List Value) (n:Nat),Od xs its/\s.heap.get? p=some { cls:=.type "list",data:=.seq its.toArray n }/\xs.length<=sizeLine:=by
 obtain⟨z,its,n,r,e⟩:=I.Qb p _ h;exact⟨its,n,r,e,z⟩
theorem X0(b a:Option Int)(n:Nat):(Ng b a none n).1=((HT.We n 0 b:Nat):Int)/\(Ng b a none n).2.1=((HT.We n n a:Nat):Int)/\(Ng b a none n).2.2=1:=by
 refine⟨?_,?_,rfl⟩
 ·cases b with
  |none=>simp[Ng,HT.We]
  |some i=>
   simp only[Ng,HT.We,cr,show (1:Int) > 0 by decide,Xf];by_cases h:i<0
   ·simp only[h,Xf]<;>omega
   ·simp only[h,Zn]<;>omega
 ·cases a with
  |none=>simp[Ng,HT.We]
  |some i=>
   simp only[Ng,HT.We,cr,show (1:Int) > 0 by decide,Xf];by_cases h:i<0
   ·simp only[h,Xf]<;>omega
   ·simp only[h,Zn]<;>omega
theorem U0(its:List Value)(a b:Option Int):slicePick its.toArray a b none=((its.drop (HT.We its.length 0 a)).take (HT.We its.length its.length b - HT.We its.length 0 a)).toArray:=by
 obtain⟨h1,c,h3⟩:=X0 a b its.toArray.size;unfold slicePick;rw[h1,c,h3];simp only[sliceRange_one,pick_run,va]<;>rfl
noncomputable def SL(K:W.Frag):V->Option Int->Option Int->Hp->VK->Prop:=λx c b H Q=>∃ a xs,x=.ref a/\Me K H a xs/\∀ p,H p=none->Q (.ref p) (upd H p (.lst (Iu xs c b)))
theorem AV:ft X (SL X.K):=by
 intro g s w H x v t u d e p Q I m hs pl l h;obtain⟨a,xs,rfl,i,q⟩:=h;cases m;obtain⟨k,r,f,j⟩:=I.list i;have c:=r.length;refine⟨"list",_,Px.lookup,f.isList.typeIs,?_⟩;refine wpAny_getItem_list_slice f.isList hs pl l .none (by simp) ?_ (by rw[va]<;>omega);rw[U0,<-c];refine⟨.ref s.heap.objs.size,_,I.laid (t':=s.toks) (o:=.lst (Iu xs d e)) (λb n q=>ia _ q) (xa _) ?_,rfl,q _ (I.Qb.fresh (xa _))⟩;exact⟨Hb (TJ xs d e) j,_,0,(r.drop (HT.We xs.length 0 d)).take (HT.We xs.length xs.length e - HT.We xs.length 0 d),Sa _ rfl⟩
noncomputable def Th:V->Bool
 | .Jb=>true
 | .bl _=>true
 | .int _=>true
 | .str _=>true
 |_=>false
noncomputable def Lj:V->V->Bool
 | .Jb,.Jb=>true
 | .bl a,.bl b=>a == b
 | .bl a,.int b=>(if a then 1 else 0) == b
 | .int a,.bl b=>a == (if b then 1 else 0)
 | .int a,.int b=>a == b
 | .str a,.str b=>a == b
 |_,_=>false
theorem uF{A:Da}{s:aa}{y x:V}{u v:Value}(f:Qc y u)(c:Qc x v)(g:Th y=true)(e:Th x=true):Vc A s u v (Lj y x):=by
 cases y with
 |Jb=>
  cases f;cases x with
  |Jb=>cases c;exact Gj _
  |bl b=>cases c;exact ZN b
  |int b=>obtain⟨t,rfl⟩:=c;exact aO b t
  |str b=>obtain⟨t,rfl⟩:=c;exact bO b t
  |_=>exact absurd (show false=true from e) Ra
 |bl a=>
  cases f;cases x with
  |Jb=>cases c;exact cO a
  |bl b=>cases c;exact dO a b
  |int b=>obtain⟨t,rfl⟩:=c;exact eO a b t
  |str b=>obtain⟨t,rfl⟩:=c;exact fO a b t
  |_=>exact absurd (show false=true from e) Ra
 |int a=>
  obtain⟨d,rfl⟩:=f;cases x with
  |Jb=>cases c;exact gO a d
  |bl b=>cases c;exact hO a d b
  |int b=>obtain⟨t,rfl⟩:=c;exact iO a d b t
  |str b=>obtain⟨t,rfl⟩:=c;exact Vn a d b t
  |_=>exact absurd (show false=true from e) Ra
 |str a=>
  obtain⟨d,rfl⟩:=f;cases x with
  |Jb=>cases c;exact jO a d
  |bl b=>cases c;exact kO a d b
  |int b=>obtain⟨t,rfl⟩:=c;exact Wn a d b t
  |str b=>obtain⟨t,rfl⟩:=c;exact lO a d b t
  |_=>exact absurd (show false=true from e) Ra
 |_=>exact absurd (show false=true from g) Ra
noncomputable def Ft(x:V)(u:Value):Bool:=match u with
 | .none=>Lj .Jb x
 | .bool b=>Lj (.bl b) x
 | .int i _=>Lj (.int i) x
 | .str z _=>Lj (.str z) x
 |_=>false
theorem xK{x y:V}{u:Value}(r:Qc y u)(f:Th y=true):Ft x u=Lj y x:=by
 cases y with
 |Jb=>cases r;rfl
 |bl b=>cases r;rfl
 |int i=>obtain⟨t,rfl⟩:=r;rfl
 |str z=>obtain⟨t,rfl⟩:=r;rfl
 |_=>exact absurd (show false=true from f) Ra
theorem mD{x:V}:∀ {xs:List V} {us:List Value},Od xs us->xs.all Th=true->us.any (Ft x)=xs.any λy=>Lj y x
 |_,_,.nil,_=>rfl
 |y::xs,u::us,.cons r t,f=>by
  rw[lf,ya]at f;rw[Yd,Yd,xK r f.1,mD t f.2]
theorem VE{A:Da}{s:aa}{x:V}{v:Value}(b:Qc x v)(a:Th x=true):∀ {xs:List V} {us:List Value},Od xs us->xs.all Th=true->∀ u∈us,Vc A s u v (Ft x u)
 |_,_,.nil,_=>λu hu=>by cases hu
 |y::xs,u::us,.cons r t,f=>λc hu=>by
  rw[lf,ya]at f;rcases Pa.mp hu with rfl|hu
  ·rw[xK r f.1];exact uF r b f.1 a
  ·exact VE b a t f.2 c hu
noncomputable def Lw(x:V)(xs:List V):Bool:=xs.any λy=>Lj y x
noncomputable def VA(K:W.Frag)(a:Bool):R2:=λx y H Q=>∃ p xs,y=.ref p/\(Me K H p xs\/nh K H p xs)/\Th x=true/\xs.all Th=true/\Q (.bl (if a then !Lw x xs else Lw x xs)) H
theorem AM:gh X (Ab .In) (VA X.K false):=by
 intro e s j H x y v u Q I f i h;obtain⟨p,xs,rfl,b,d,fs,q⟩:=h;cases i;rcases b with b|b
 ·obtain⟨a,r,pl,g⟩:=I.list b;refine xt (Ft x) pl.isList (λw c=>VE f d r fs w (by simpa using c)) ⟨.bl _,H,I,rfl,?_⟩;rw[show a.toArray.any (Ft x)=a.any (Ft x) by simp,mD r fs];exact q
 ·obtain⟨a,r,pl,g⟩:=I.tuple b;refine As (Ft x) pl (λw c=>VE f d r fs w (by simpa using c)) ⟨.bl _,H,I,rfl,?_⟩;rw[show a.toArray.any (Ft x)=a.any (Ft x) by simp,mD r fs];exact q
theorem Vq:bn X (.builtin "len") (λxs H Q=>∃ p ys,xs=[.ref p]/\(Me X.K H p ys\/nh X.K H p ys)/\Q (.int ys.length) H):=by
 intro e s j H xs i Q I r h;obtain⟨p,ys,rfl,b,q⟩:=h;obtain⟨u,rfl,g⟩:=Dt r;cases g;have hn:=uD;rcases b with b|b
 ·obtain⟨c,d,pl,f⟩:=I.list b;have a:=d.length;exact Calls.call_len_list pl.isList (by simp only[va]<;>omega) ⟨.int ys.length,H,I.tok _,⟨s.toks+1,by rw[va,a]⟩,q⟩
 ·obtain⟨c,d,pl,f⟩:=I.tuple b;have a:=d.length;exact len_tuple pl (by simp only[va]<;>omega) ⟨.int ys.length,H,I.tok _,⟨s.toks+1,by rw[va,a]⟩,q⟩
theorem bn.or{f:Value}{r b:List V->Hp->VK->Prop}(h:bn X f r)(h':bn X f b):bn X f (λxs H Q=>r xs H Q\/b xs H Q):=by
 intro a s e H xs d Q I c q;rcases q with q|q
 ·exact h a s e H xs d Q I c q
 ·exact h' a s e H xs d Q I c q
theorem CA:bn X (.type "list") (λxs H Q=>∃ p ys,xs=[.ref p]/\(Me X.K H p ys\/nh X.K H p ys)/\∀ l,H l=none->Q (.ref l) (upd H l (.lst ys))):=by
 intro m s z H xs A Q I r h;obtain⟨p,ys,rfl,j,q⟩:=h;obtain⟨u,rfl,y⟩:=Dt r;cases y;have g:∀ (a:List Value),Od ys a->ys.length<=sizeLine->∀ (c:Heap) (d:Nat),(∀ b x,s.heap.get? b=some x->c.get? b=some x)->
   c.get? s.heap.objs.size=some { cls:=.type "list",dict:=none,data:=.seq a.toArray d,slots:=#[] }->EP X m z Q (.ref s.heap.objs.size) { s with heap:=c }:=λa f k c d kp e=>
  ⟨.ref s.heap.objs.size,_,I.laid (t':=s.toks) kp (xa _) (show mi X.prog X.w _ c _ (.lst ys)from⟨k,a,d,f,e⟩),rfl,q _ (I.Qb.fresh (xa _))⟩
 rcases j with j|j
 ·obtain⟨a,f,pl,k⟩:=I.list j;have i:=f.length;obtain⟨o,v,t,n,hd⟩:=pl.isList;exact mO p (.inl rfl) v t hd (λc d kp e=>g a f k c d kp e) (by simp only[va]<;>omega)
 ·obtain⟨a,f,pl,k⟩:=I.tuple j;have i:=f.length;obtain⟨o,v,t,n,hd⟩:=pl;exact mO p (.inr rfl) v t hd (λc d kp e=>g a f k c d kp e) (by simp only[va]<;>omega)
noncomputable def LJ(K:W.Frag)(T:String)(x:V)(H:Hp):Prop:=match x with
 | .str _=>T = "str"
 | .int _=>T = "int"
 | .ref p=>(T = "list"/\∃ xs,Me K H p xs)\/(T = "tuple"/\∃ o,K.lookup p=some o/\o.cls=.type "tuple"/\o.dict=none)\/
   (T = "dict"/\((∃ a,H p=some (.dK a))\/∃ a,H p=some (.dT a)))\/(T = "set"/\∃ S n,H p=some (.set S n))
 |_=>False
theorem jU{d:List (Addr × gc)}{σ:St}{H:Hp}{s:aa}{T:String}{x:V}{v:Value}(I:Inv X d σ H s)(r:Qc x v)(ty:LJ X.K T x H) :
  s.TypeIs v T/\∀ a,v=.ref a->∃ ob,s.heap.get? a=some ob/\ob.dict=none:=by
 cases x with
 |str z=>
  obtain⟨t,rfl⟩:=r;cases (show T = "str" from ty);exact⟨typeIs_str s z t,λ_ e=>nomatch e⟩
 |int i=>
  obtain⟨t,rfl⟩:=r;cases (show T = "int" from ty);exact⟨typeIs_int s i t,λ_ e=>nomatch e⟩
 |ref p=>
  cases r;rcases ty with⟨rfl,xs,j⟩|⟨rfl,o,b,h,hd⟩|⟨rfl,b⟩|⟨rfl,S,n,b⟩
  ·obtain⟨k,_,pl,_⟩:=I.list j;refine⟨pl.isList.typeIs,λa e=>?_⟩;cases e;obtain⟨o,n,e,c,hd,_⟩:=pl;exact⟨o,e,hd⟩
  ·refine⟨⟨o,I.Xi p o b,h⟩,λa e=>?_⟩;cases e;exact⟨o,I.Xi _ o b,hd⟩
  ·have z:∃ o,s.heap.get? p=some o/\o.ExactDict:=by
    rcases b with⟨g,b⟩|⟨g,b⟩
    ·obtain⟨_,_,_,_,o,_,_,e,ex,_⟩:=I.Qb p _ b;exact⟨o,e,ex⟩
    ·obtain⟨_,_,_,_,o,_,_,e,ex,_⟩:=I.Qb p _ b;exact⟨o,e,ex⟩
   obtain⟨o,e,ex⟩:=z;refine⟨⟨o,e,ex.1⟩,λa f=>?_⟩;cases f;exact⟨o,e,ex.2.1⟩
  ·obtain⟨o,_,_,_,e,ex,_⟩:=I.Qb p _ b;refine⟨⟨o,e,ex.1⟩,λa f=>?_⟩;cases f;exact⟨o,e,ex.2.1⟩
 |_=>exact False.elim ty
noncomputable def L1(K:W.Frag)(T:String)(r:V->List V->Hp->VK->Prop)(to:TE)(t:TA):TE:=λb H Q=>to b H λx a=>LJ K T x a/\t b a λxs c=>r x xs c Q
variable{o e:Ga}{es:List Ga}{to:TE}{t:TA}{name:ma}{apos cpos:Ae}{T id:String}{r:V->List V->Hp->VK->Prop}
theorem vX(w:im T)(slot:Slot T name id)(g:Gp (.builtin id)=pure (.type "method_descriptor"))(hm:Tq X id r)(u:PE X o to)(q:PA X (e::es) t)
  (c:Md o name X.env (Wb o X.env)=Wb o X.env:=by rfl)
  (f:((Dc cpos (pa (e::es) X.env)).all (λx=>!x.1) && (Om cpos (ai [] X.env)).all (λx=>x.1.isSome)
   && decide ((e::es).length+([]:List Ui).length+(if ([]:List Ui).isEmpty then 0 else 1)<30))=true:=by rfl)
  (d:(apos.endLine == cpos.line)=true:=by rfl) (hs:pa (e::es) X.env=(false,Wb e X.env)::pa es X.env:=by rfl) (b:(Dc cpos (pa es X.env)).any (·.1)=false:=by rfl) :
  PE X (.Call (.Attribute o name apos) (e::es) [] cpos) (L1 X.K T r to t):=by
 intro a s i H Q I h;refine Bs c f d rfl (zd (u a s i H _ I h) λv s1 ⟨x,H1,j,l,ty,y⟩=>?_);obtain⟨h1,p⟩:=jU j l ty;refine⟨T,id,w,slot,g,h1,p,?_⟩;have k:=q cpos a s1 i H1 _ j y;rw[hs]at k ⊢;refine Rh (by show (false || (Dc cpos (pa es X.env)).any (·.1))=false;rw[b]<;>rfl) (Ci ?_);exact zd k λus s2 ⟨B,m,n,A,z⟩=>hm a s2 i m x B v us Q n l A z
end
noncomputable def ML(X:Cx)(b:String)(r:V->List V->Hp->VK->Prop):Prop:=
 ∀ (a:List (Addr × gc)) (s:aa) (σ:St) (H:Hp) (x:V) (xs:List V) (v:Value) (us:List Value) (Q:VK),Inv X a σ H s->Qc x v->Od xs us->r x xs H Q->
  wpAny (model X.prog X.w) X.A (call (.builtin b) (v::us)) (EP X a σ Q) X.xe s
theorem Od.one:∀ {x:V} {us:List Value},Od [x] us->∃ u,us=[u]/\Qc x u
 |_,_,.cons r .nil=>⟨_,rfl,r⟩
theorem Od.two:∀ {x y:V} {us:List Value},Od [x,y] us->∃ u v,us=[u,v]/\Qc x u/\Qc y v
 |_,_,_,.cons r (.cons q .nil)=>⟨_,_,rfl,r,q⟩
theorem Od.zero:∀ {us:List Value},Od [] us->us=[]
 |_,.nil=>rfl
section
variable{X:Cx}{pins:List (Addr × gc)}{σ:St}{H:Hp}{s:aa}{l b:Addr}{xs ys zs:List V}
theorem Inv.ez{its its':List Value}{n:Nat}{f:Array Value->Array Value}{t':Nat}(I:Inv X pins σ H s)(a:H l=some (.lst xs))
  (e:s.heap.get? l=some { cls:=.type "list",data:=.seq its.toArray n }) (b:f its.toArray=its'.toArray) (hv:Od ys its') (c:ys.length<=sizeLine) :
  Inv X pins σ (upd H l (.lst ys)) { s with heap:=s.heap.update l (dh f),toks:=t' }:=by
 have q:=W3 e f;rw[b]at q;refine I.write (x:=l) (e:=l) (by rw[a];exact trivial) (.inl rfl) (λd u hb hu=>(So s.heap (dh f) (Ee hb)).trans hu) ⟨_,q⟩ ?_;exact⟨c,its',_,hv,q⟩
theorem Inv.Mv{its:List Value}{t':Nat}(I:Inv X pins σ H s)(hv:Od ys its)(a:ys.length<=sizeLine) :
  Inv X pins σ (upd H s.heap.objs.size (.lst ys)) { s with heap:=s.heap.push { cls:=.type "list",data:=.seq its.toArray },toks:=t' }:=
 I.laid (λ_ _ q=>ia _ q) (xa _) ⟨a,its,0,hv,Sa _ rfl⟩
theorem Inv.fresh(I:Inv X pins σ H s):H s.heap.objs.size=none:=I.Qb.fresh (xa _)
theorem Inv.Lr(I:Inv X pins σ H s)(a:H l=some (.lst xs)):xs.length<=sizeLine/\∃ (its:List Value) (n:Nat),Od xs its/\xs.length=its.length/\s.heap.get? l=some { cls:=.type "list",data:=.seq its.toArray n }:=by
 obtain⟨z,its,n,r,e⟩:=I.Qb l _ a;exact⟨z,its,n,r,r.length,e⟩
theorem y3{n:Nat}(h:n<=sizeLine):Ag n=false:=by
 unfold Ag;exact Mc (by omega)
end
section
variable{X:Cx}
noncomputable def rF:V->List V->Hp->VK->Prop:=λx a H Q=>∃ l xs y,x=.ref l/\a=[y]/\H l=some (.lst xs)/\xs.length<sizeLine/\Q .Jb (upd H l (.lst (xs++[y])))
theorem vC:ML X "list.append" rF:=by
 intro c s o H x m v k Q I g f h;obtain⟨l,xs,y,rfl,rfl,b,j,q⟩:=h;cases g;obtain⟨u,rfl,d⟩:=f.one;obtain⟨z,a,n,r,i,e⟩:=I.Lr b;refine call_meets F.slot_list_append ⟨_,e,rfl⟩ F.entry_list_append (F.args_list_append_2 _ _) (PySem.list_append l a.toArray n u (by rw[va];omega)) ⟨e,?_⟩;refine⟨.Jb,_,I.ez (its':=a++[u]) b e (by simp) (r.append (.cons d .nil)) ?_,rfl,q⟩;rw[Cd,List.length_singleton];omega
noncomputable def vL:V->List V->Hp->VK->Prop:=λx c H Q=>∃ l b xs a,x=.ref l/\c=[.ref b]/\H l=some (.lst xs)/\H b=some (.lst a)/\xs.length+a.length<=sizeLine/\Q .Jb (upd H l (.lst (xs++a)))
theorem WP:ML X "list.extend" vL:=by
 intro i s J H x D v C Q I y w h;obtain⟨l,b,xs,G,rfl,rfl,g,k,B,q⟩:=h;cases y;obtain⟨u,rfl,t⟩:=w.one;cases t;obtain⟨z,c,n,r,A,e⟩:=I.Lr g;obtain⟨E,a,o,p,m,j⟩:=I.Lr k;have f:c.toArray.size+a.toArray.size<=sizeLine:=by rw[va,va];omega
 have d:¬ (!c.toArray.isEmpty && Ag (c.toArray.size+a.toArray.size))=true:=by
  rw[y3 f,bv];exact Ra
 refine call_meets F.slot_list_extend ⟨_,e,rfl⟩ F.entry_list_extend (F.args_list_extend_2 _ _)
  (F7 l c.toArray n b a.toArray o d (by rw[va];omega) (by omega)) ⟨e,j,?_⟩
 refine⟨.Jb,_,I.ez (its':=c++a) g e (by simp) (r.append p) ?_,rfl,q⟩;rw[Cd];omega
noncomputable def kP:R2:=λx y H Q=>∃ l b xs a,x=.ref l/\y=.ref b/\H l=some (.lst xs)/\H b=some (.lst a)/\xs.length+a.length<=sizeLine/\∀ p,H p=none->Q (.ref p) (upd H p (.lst (xs++a)))
theorem fQ:gh X (Ce .Add) kP:=by
 intro d s D H x y v u Q I o p h;obtain⟨l,b,xs,C,rfl,rfl,j,i,w,q⟩:=h;cases o;cases p;obtain⟨z,c,n,r,t,e⟩:=I.Lr j;obtain⟨B,a,A,m,k,f⟩:=I.Lr i;refine PySem.P.add_list e f ?_ (by rw[va,va];omega);have g:c.toArray++a.toArray=(c++a).toArray:=by simp
 rw[g];exact⟨.ref _,_,I.Mv (t':=s.toks) (r.append m) (by rw[Cd];omega),rfl,q _ I.fresh⟩
end
section
variable{prog:ra}{w:Ea}{A:Da}{E:Value->aa->Prop}{s:aa}
set_option maxRecDepth 100000 in
end
section
variable{X:Cx}
end
end L2
namespace Att
open PySem PySem.W PySem.Calls PyProof.Rows
theorem GP{P:aH}{h:Heap}:∀ (ns:List Int) (vs:List Value),WellAll P h vs (ns.map UC)->qk vs ns:=by
 intro ns;induction ns with
 |nil=>
  intro vs w;rw[Xh]at w;cases w;exact .nil
 |cons n ns c=>
  intro vs w;rw[yb]at w;cases w with
  |cons a b=>
   cases a;exact .cons _ _ (c _ b)
theorem PU{l:t4}{n:Nat}(hn:l.most=some n){P:aH}{h:Heap}{args:List WData}{c:List Value}
  (b:l.row.toRowW.claim.pre args=true) (j:WellAll P h c args) :
  ∃ a vs ns,c=[eb a]/\args=[WData.list (ns.map UC)]/\h.get? a=some { cls:=.type "list",data:=.seq vs.toArray }/\qk vs ns/\ns.length<=n:=by
 have i:WShape.hasAll [] args [.list .int]=true:=(pre_splitW b).1;have k:l.pre.holds [] { args:=args }=true:=(pre_splitW b).2;obtain⟨d,r,rfl,h1,m⟩:=hasAllW_cons i;obtain rfl:=hasAllW_nil m;obtain⟨xs,rfl,h3⟩:=hasW_list h1;obtain⟨ns,rfl⟩:=items_int h3;have f:ns.length<=n:=by
  unfold OpenLaw.pre at k;have h4:(WTm.not (.lt (.lit (.int (n:Int))) (.len (.arg 0)))).holds [] { args:=[.list (ns.map .int)] }=true:=by
   have h4:=(holds_andW k).1;rw[hn]at h4;exact h4
  have g:=condW_of h4 (w_not (w_lt w_lit (w_len_list (w_arg rfl))));rw[Yb]at g;refine Nat.le_of_not_lt λq=>?_;have p:(n:Int)<((ns.length:Nat):Int):=by omega
  first
   |(rw[Ge p]at g;exact absurd g (by decide))
   |(simp at g;omega)
 cases j with
 |cons s t=>
  cases t;cases s with
  |list o e=>exact⟨_,_,ns,rfl,rfl,o,GP ns _ e,f⟩
theorem mX(l:t4)(args:List WData):l.row.toRowW.claim.post args (.bool true) args=true:=
 postW_of (r:=l.row.toRowW) (X:=(true == true))
  (show Yx [] (.bool true) .bool=true by first|rfl|decide|simp[Yx,WShape.arms,WShape.armsAll])
  (show (WTm.eq .res (.lit (.bool true))).value [] { args:=args,res:=some (.bool true),after:=args }=some (.bool (true == true))from w_eq_bool (w_res rfl) w_lit) rfl
theorem gk{l:t4}{n:Nat}{q:ra}{c:List ma}{x:(ma->Option Value)->Heap->Prop}{y:Ea->Heap->Prop}{d:DefRec}
  (hn:l.most=some n) (s:d.params.defaults=[])
  (call:∀ (w:Ea) (s₀ b:aa) (mg mb:ma->Option Value) (h:Addr) (o:gc) (v cd e:Value) (a:Addr) (vs:List Value) (ns:List Int),
   Ground q c [] x w s₀ mg mb b.heap->y w b.heap->
   b.heap.get? h=some o->o.data=.func (docDef d.name d.params d.body d.scope v cd e)->b.heap.CodeRec cd d.name->mg d.name=some (.ref h)->
   b.heap.get? a=some { cls:=.type "list",data:=.seq vs.toArray }->qk vs ns->ns.length<=n->b.gens=#[]->
   codeAny (model l.prog w) gg (.call (.ref h) ⟨[.ref a],[]⟩) (λr m=>r=.ok (.ret (.bool true))/\OldK b.heap m.heap/\m.os=b.os/\bg m.gens) b) :
  WalkO q c x y l.row.toRowW d [] (λf vs=>PySem.call f vs):=by
 intro w s₀ b mg mb G Y h o v cd e D kV I hd p A t F z C L k B K u H;obtain rfl:D=.none:=Dflts.none A s;obtain rfl:kV=.none:=Dflts.noKw A;obtain⟨a,vs,ns,rfl,rfl,j,g,i⟩:=PU hn k u;refine enter_call (rh (call w s₀ b mg mb h o v cd e a vs ns G Y I (fd_plain hd) p t j g i F) λr m J=>?_);obtain⟨rfl,E,h3,h4⟩:=J;exact⟨.inl ⟨.bool true,.bool true,[],rfl,λ_=>rfl,.bool true,mX l _,λ_=>⟨List.Pairwise.nil,λ_ hm=>(nomatch hm)⟩⟩,E,h3,h4⟩
section
variable{prog:ra}{w:Ea}{A:Da}{E:Value->aa->Prop}{s:aa}{K:Frag}
noncomputable def Z5(h:Heap)(L d:Addr):List (Addr × gc):=(List.range h.objs.size).filterMap λa=>if a=L\/a=d then none else (h.get? a).map λo=>(a,o)
end
end Att
namespace L2
open PySem PySem.Spec PyProof.Rows
theorem Ly:∀ {vs:List Value} {ns:List Int},qk vs ns->Od (ns.map V.int) vs
 |_,_,.nil=>.nil
 |_,_,.cons n t h=>.cons ⟨t,rfl⟩ (Ly h)
noncomputable def wG(H:Hp):Prop:=∀ b,H b=none\/∃ o xs,H b=some (.Xa o (.lst xs))
theorem D3{P:ra}{w:Ea}{K:W.Frag}{mg mb:ma->Option Value}{N:Aq}{k:Nat}{E a:Addr}{R:Ad}{x:ma}{sp:Sp}{s₁:aa}{vs:List Value}{ns:List Int}
  (O:K.In s₁.heap) (t:s₁.heap.Ns mainGlobals mg) (hb:s₁.heap.Ns builtinsNs mb) (I:∀ x:ma,x ≠ "__name__"->mb x=bootBuiltins x) (p:s₁.heap.NoLimit) (hg:s₁.gens=#[])
  (C:s₁.heap.get? a=some { cls:=.type "list",data:=.seq vs.toArray }) (U:qk vs ns) (X:ns.length<=sizeLine) (hr:vd k gg)
  (F:∀ base:Heap,K.In base->base.Ns mainGlobals mg->Dg P w K mg base N k E R [x] sp) (i:∀ (s:aa) (u:Value),uf s R ⟨[u],[]⟩ [(x,u)])
  (L:∀ H:Hp,wG H->Me K H a (ns.map V.int)->sp [.ref a] H (λv _=>v=.bl true) λ_ _ _=>False)
  (G:∀ H e s',N [] H s₁ (λ_ _ _=>False) e s'->False) :
  codeAny (model P w) gg (.call (.ref E) ⟨[.ref a],[]⟩) (λr s'=>r=.ok (.ret (.bool true))/\OldK s₁.heap s'.heap/\s'.os=s₁.os/\bg s'.gens) s₁:=by
 have Y:=Ly U;have A:=U.length;have g:∀ H:Hp,wG H->Me K H a (ns.map V.int)->Kh P w H s₁.heap->(∀ b,H b≠none->b=a)->(H a≠none->K.lookup a=none)->
   codeAny (model P w) gg (.call (.ref E) ⟨[.ref a],[]⟩) (λr s'=>r=.ok (.ret (.bool true))/\OldK s₁.heap s'.heap/\s'.os=s₁.os/\bg s'.gens) s₁:=by
  intro H T hS Qb S hK;have c:∀ {b:Addr} {o:gc},s₁.heap.get? b=some o->H b=none->(Lp s₁.heap H).get? b=some o:=λe n=>LL e n;have M:∀ {b:Addr} {o:gc} {j:Array lA} {ep:Nat},s₁.heap.get? b=some o->o.data=.dict j ep->H b=none:=fun {b o j ep} e d=>by
   cases q:H b with
   |none=>rfl
   |some u=>
    have D:b=a:=S b (by rw[q];simp);subst D;rw[C]at e;cases e;have Z:Data.seq vs.toArray _=Data.dict j ep:=d;cases Z
  have f:∀ {b:Addr} {m:ma->Option Value},s₁.heap.Ns b m->(Lp s₁.heap H).Ns b m:=fun {b m} ⟨o,j,ep,e,d,r⟩=>⟨o,j,ep,c e (M e d),d,r⟩
  have l:K.In (Lp s₁.heap H):=λb o e=>c (O b o e) (by
   cases q:H b with
   |none=>rfl
   |some u=>
    have D:b=a:=S b (by rw[q];simp);subst D;rw[hK (by rw[q];simp)]at e;cases e)
  have hM:Mod K mg (Lp s₁.heap H):=⟨l,f t,⟨mb,f hb,I⟩,let ⟨mc,h1,h2⟩:=p;⟨mc,f h1,h2⟩⟩
  have e0:Lk P w K mg (Lp s₁.heap H) gg [] s₁ H:=⟨rfl,hM,λb o e=>qM e,yp (GK _ _),trivial,λb hb=>absurd (show b∈([]:List Addr)from hb) (by simp),Qb,.of_eq hg⟩
  refine rh ((F _ l (f t)).run gg [] s₁ H ⟨[.ref a],[]⟩ [.ref a] [.ref a] _ _ hr e0 (i s₁ (.ref a)) (.cons rfl .nil) (L H T hS)) λr s' h=>?_;cases r with
  |error e=>exact(G H e s' h).elim
  |ok fl=>
   cases fl with
   |next=>exact False.elim h
   |brk=>exact False.elim h
   |cont=>exact False.elim h
   |ret u=>
    obtain⟨v,H',os,bare,un,y,r',q⟩:=h;have q':v=.bl true:=q;subst q';obtain rfl:u=Ve true:=r';refine⟨rfl,OldK.of_keep λb o e=>?_,os,bare⟩;cases q:H b with
    |none=>exact un.keep b o e q (by intro z;exact absurd (show b∈([]:List Addr)from z) (by simp)) (by simp)
    |some u=>
     rcases T b with z|⟨ob,xs,z⟩
     ·rw[q]at z;cases z
     ·have z2:=un.Hg b ob _ z;obtain⟨Q,_⟩:=Qb b _ z;obtain⟨e2,_⟩:=y b _ z2;rw[e]at Q;cases Q;exact e2
 cases J:K.lookup a with
 |some o=>
  have e:=O a o J;rw[C]at e;cases e;refine g (λ_=>none) (λ_=>.inl rfl) (.inr ⟨_,vs.toArray,_,J,rfl,rfl,rfl,by rw[va,A];exact X,by simpa using Y⟩) (λb u z=>by have B:(none:Option HO)=some u:=z;cases B) (λb z=>absurd rfl z) λz=>absurd rfl z
 |none=>
  refine g (λb=>if b=a then some (.Xa { cls:=.type "list",data:=.seq vs.toArray } (.lst (ns.map V.int)))else none) (λb=>?_) (.inl (.inr ⟨{ cls:=.type "list",data:=.seq vs.toArray },da rfl⟩)) (λb u z=>?_) (λb z=>?_) λ_=>J
  ·by_cases hb:b=a
   ·exact .inr ⟨_,_,da hb⟩
   ·exact .inl (ka hb)
  ·by_cases hb:b=a
   ·have B:=(da hb).symm.trans z;cases B;subst hb;exact⟨C,by rw[Yb];exact X,vs,_,Y,C⟩
   ·have B:=(ka hb).symm.trans z;cases B
  ·by_cases hb:b=a
   ·exact hb
   ·exact absurd (ka hb) z
noncomputable abbrev Ch{K:W.Frag}{h:Heap}(_:K.In h):W.Frag:=K
theorem R4{l:W.OpenLaw}{n k:Nat}{q:ra}{j:List ma}{L:(ma->Option Value)->Heap->Prop}{I:Ea->Heap->Prop}{d:DefRec}{K:aH->W.Frag}{D:Ea->Aq}{sp:Ea->Sp}{x:ma}
  (hn:l.most=some n) (B:n<=sizeLine) (z:d.params.defaults=[]) (U:vd k gg)
  (Q:∀ (w:Ea) (h:Heap),I w h->(K w.params).In h)
  (F:∀ (w:Ea) (mg:ma->Option Value) (r:Addr) (h:Heap),(K w.params).In h->h.Ns mainGlobals mg->mg d.name=some (.ref r)->
   ∃ t:Ad,(∀ (s:aa) (u:Value),uf s t ⟨[u],[]⟩ [(x,u)])/\
    ∀ base:Heap,(K w.params).In base->base.Ns mainGlobals mg->Dg l.prog w (K w.params) mg base (D w) k r t [x] (sp w))
  (C:∀ (w:Ea) (H:Hp) (a:Addr) (ns:List Int),ns.length<=n->wG H->Me (K w.params) H a (ns.map V.int)->sp w [.ref a] H (λv _=>v=.bl true) λ_ _ _=>False)
  (y:∀ (w:Ea) (H:Hp) (s:aa) (e:Value) (s':aa),D w [] H s (λ_ _ _=>False) e s'->False) :
  W.WalkO q j L I l.row.toRowW d [] (λf J=>PySem.call f J):=by
 refine Att.gk hn z λw s₀ p mg mb r o pm X M a J ns G Y Z hd R A m i c S=>?_;have E:=Q w _ Y;obtain⟨t,hb,N⟩:=F w mg r _ E G.T.g A;exact D3 E G.T.g G.T.b G.T.builtins G.T.nolimit S m i (Hb c B) U N hb (λH O P=>C w H a ns c O P) λH e s'=>y w H p e s'
noncomputable def Em(s:Stmt):Arguments:=match s with
 | .FunctionDef _ a _ _ _ _ _ _ _ _=>a
 |_=>{ posonlyargs:=[],args:=[],vararg:=none,kwonlyargs:=[],kw_defaults:=[],kwarg:=none,defaults:=[] }
noncomputable def Ni(s:Stmt):List Stmt:=match s with
 | .FunctionDef _ _ b _ _ _ _ _ _ _=>b
 |_=>[]
noncomputable def Ec(s:Stmt):Scope:=match s with
 | .FunctionDef _ _ _ _ _ _ sc _ _ _=>sc
 |_=>{ kind:=.function,names:=[],isGenerator:=false,isCoroutine:=false }
noncomputable abbrev rL:Aq:=λ_ _ _ _ _ _=>False
noncomputable abbrev E0:XK:=λ_ _ _=>False
structure Nu(K:W.Frag)(x qual:ma)(st:Stmt)(f:Addr)(fd:Ad):Prop where
 ex:∃ (oc:Value) (od:Option Addr) (kV doc pm:Value) (an:Option Addr) (cdv ct:Value) (osl:Array (Option Value)),
  fd=W.fnOf x qual (Em st) (Ni st) (Ec st) .none kV doc pm an cdv ct/\K.lookup f=some ⟨oc,od,.func fd,osl⟩/\W.codeIn K cdv qual=true
 kp:W.keepIn K (.ref f)=true
section
variable{P:ra}{w:Ea}{K:W.Frag}{mg:ma->Option Value}{base:Heap}
theorem Nu.ok{x qual:ma}{st:Stmt}{f:Addr}{e:Ad}{N ps:List ma}{k:Nat}{sp:Sp}(F:Nu K x qual st f e)(S:wa N ps (Ec st))(len:∀ vs H Q E,sp vs H Q E->vs.length=ps.length)
  (b:∀ (a:Value) (A:Da) (outer:List ag) (s:aa) (H:Hp) (vs:List V) (Q:VK) (E:XK),vd k (A.deeper (eg qual (Ec st) s.heap.objs.size f a))->sp vs H Q E->
   ∃ t,Mp (Bo rL P w K mg base N qual (Ec st) f a A outer s H E).Dm (Ni st) t/\t { nx:=λ_ g=>Q .Jb g,rt:=Q } (Tr N vs) H):Dg P w K mg base rL (k+1) f e ps sp:=by
 obtain⟨o,p,kV,i,r,n,a,ct,m,rfl,l,c⟩:=F.ex;refine WI l c S len λA outer s H vs Q E j d=>?_;obtain⟨t,h,q⟩:=b a A outer s H vs Q E j d;exact⟨t,h.Dm,q⟩
theorem Nu.binds{x qual:ma}{st:Stmt}{f:Addr}{e:Ad}{ps:List ma}(F:Nu K x qual st f e)
  (h:∀ (kV b d:Value) (c:Option Addr) (a ct:Value) (us:List Value),us.length=ps.length->bindArgs (W.fnOf x qual (Em st) (Ni st) (Ec st) .none kV b d c a ct) ⟨us,[]⟩=pure (ps.zip us)):ip K e ps []:=by
 obtain⟨k,l,kV,b,d,c,a,ct,i,rfl,j,g⟩:=F.ex;exact .all (h kV b d c a ct)
theorem XJ{x qual:ma}{st:Stmt}{f:Addr}{h:Value}{od e:Option Addr}{d:Array (Option Value)}{kV b g a ct:Value}(l:K.lookup f=some ⟨h,od,.func (W.fnOf x qual (Em st) (Ni st) (Ec st) .none kV b g e a ct),d⟩)
  (c:W.codeIn K a qual=true) (k:W.keepIn K (.ref f)=true):Nu K x qual st f (W.fnOf x qual (Em st) (Ni st) (Ec st) .none kV b g e a ct):=⟨⟨h,od,kV,b,g,e,a,ct,d,rfl,l,c⟩,k⟩
end
theorem sK{n:Nat}(h:n<=1000):n<sizeLine:=Cs h (by decide)
section
variable{X:Cx}
end
noncomputable def Ts(H a:Hp):Prop:=∀ b o,H b=some o->a b=some o
theorem Ts.refl(H:Hp):Ts H H:=λ_ _ h=>h
theorem Ts.trans{H d H2:Hp}(a:Ts H d)(b:Ts d H2):Ts H H2:=λc o h=>b c o (a c o h)
theorem Ts.free{H a:Hp}(e:Ts H a){l:Addr}(h:a l=Option.none):H l=Option.none:=by
 cases q:H l with
 |none=>rfl
 |some o=>
  rw[e l o q]at h;cases h
theorem Ts.seq{K:W.Frag}{H b:Hp}{a:Addr}{xs:List V}(e:Ts H b)(h:Me K H a xs):Me K b a xs:=by
 rcases h with(h|⟨o,h⟩)|h
 ·exact .inl (.inl (e _ _ h))
 ·exact .inl (.inr ⟨o,e _ _ h⟩)
 ·exact .inr h
end L2
namespace L4
open PySem PySem.Spec PyProof.Rows L2
theorem xM{c:Type}(a:c):∃ b,b=a:=⟨a,rfl⟩
noncomputable def hide{b:Type}(a:b):b:=Classical.choose (xM a)
@[simp] theorem sq{b:Type}(a:b):hide a=a:=X3 (xM a)
inductive D where
 |Jb|bl (b:Bool)|int (i:Int)|str (x:ma)|tup (xs:List D)|Lf (ns:List Int)|ref (n:Nat)
 |lst (xs:List D)|Lb (ks:List Key) (xs:List D)|obj (c:Nat) (ns:List ma) (xs:List D)|pq (c:Nat)|gt (ss:List ma)
inductive Ob where
 |lst (xs:List D)
 |Lb (kvs:List (Key × D))
 |ins (c:Nat) (fs:List (ma × D))
 |Be (kvs:List (Key × D))
 |cj (ks:List (List Key))
noncomputable abbrev ub:=List Ob
noncomputable abbrev St:=L2.St
noncomputable abbrev Ev:=List (Option D)
structure Xn where
 cls:Nat
inductive Out(α:Type) where
 |ok (a:α) (σ:ub)
 |ex (x:Xn) (σ:ub)
 |bad
noncomputable abbrev M(a:Type):=ub->Out a
noncomputable def ret{α:Type}(a:α):M α:=λb=>.ok a b
noncomputable def bad{α:Type}:M α:=λ_=>.bad
noncomputable def Out.bind{c β:Type}(o:Out c)(k:c->M β):Out β:=match o with
 | .ok a b=>k a b
 | .ex x b=>.ex x b
 | .bad=>.bad
noncomputable def Pc{a β:Type}(m:M a)(k:a->M β):M β:=λb=>(m b).bind k
inductive Fl where
 |nx (ρ:Ev)|rt (d:D)|bk (ρ:Ev)|ct (ρ:Ev)|xc (ρ:Ev) (x:Xn)
structure Tab where
 P:Addr
 line:Int
 col:Int
 qual:ma
structure Tx where
 ul:List Tab
 bm:Addr
structure Tb where
 K:W.Frag
 ca:Nat->Addr
 tx:Tx
noncomputable def Qq(q:ma)(c:Addr):Heap->Prop:=λh=>∃ o a t,h.get? c=some o/\o.data=.fields a/\a[1]?=some (.str q t)
noncomputable def HA(bm:Addr):Heap->Prop:=λh=>∃ o,h.get? bm=some o/\o.cls=.type "module"/\o.dict=some builtinsNs/\o.data=.plain
noncomputable def Pp(T:Tb)(μ:List Addr)(H:Hp):Prop:=∀ t∈T.tx.ul,(T.tx.bm ∉ μ/\∃ b,H T.tx.bm=some (.Xa b (.ext (HA T.tx.bm))))/\t.P ∉ μ/\∃ a,H t.P=some (.Ik a)/\(a=#[]\/∃ c,a=#[Wd t.line,Wd t.col,.ref c]/\c ∉ μ/\H c=some (.ext (Qq t.qual c)))
theorem Pp.grow{T:Tb}{μ:List Addr}{H H':Hp}(h:Pp T μ H)(k:∀ b u,H b=some u->H' b=some u):Pp T μ H':=λt g=>by
 obtain⟨⟨a1,i,a2⟩,a,j,d,f⟩:=h t g;exact⟨⟨a1,i,k _ _ a2⟩,a,j,k _ _ d,f.imp id λ⟨c,e,n,z⟩=>⟨c,e,n,k _ _ z⟩⟩
theorem Pp.sub{T:Tb}{μ μ':List Addr}{H:Hp}(h:Pp T μ' H)(k:∀ b∈μ,b∈μ'):Pp T μ H:=λt g=>by
 obtain⟨⟨a1,a2⟩,a,i,d,f⟩:=h t g;exact⟨⟨λz=>a1 (k _ z),a2⟩,λz=>a (k _ z),i,d,f.imp id λ⟨c,e,n,z⟩=>⟨c,e,λy=>n (k _ y),z⟩⟩
theorem Pp.more{T:Tb}{μ:List Addr}{H:Hp}{p:Addr}(h:Pp T μ H)(hp:H p=none):Pp T (μ++[p]) H:=λt g=>by
 obtain⟨⟨a1,i,a2⟩,d,j,a,f⟩:=h t g;have ne:∀ {b:Addr} {u:HO},H b=some u->b ∉ μ->b ∉ μ++[p]:=fun {b u} e n z=>(wg.mp z).elim n λy=>by
  have k:b=p:=by simpa using y
  subst k;rw[hp]at e;cases e
 exact⟨⟨ne a2 a1,i,a2⟩,ne a d,j,a,f.imp id λ⟨c,e,n,z⟩=>⟨c,e,ne z n,z⟩⟩
theorem Pp.out{T:Tb}{μ:List Addr}{H H':Hp}{a:Addr}(h:Pp T μ H)(k:∀ b,b≠a->H' b=H b)(j:a∈μ\/∃ kvs,H a=some (.dK kvs)):Pp T μ H':=λt l=>by
 obtain⟨⟨a1,m,a2⟩,f,o,g,i⟩:=h t l;have ne:∀ {b:Addr} {u:HO},H b=some u->b ∉ μ->(∀ kvs,u≠.dK kvs)->H' b=some u:=fun {b u} e n d=>by
  rw[k b (λz=>by
   subst z;rcases j with y|⟨kvs,y⟩
   ·exact n y
   ·rw[e]at y;cases y;exact d kvs rfl)]
  exact e
 exact⟨⟨a1,m,ne a2 a1 (λ_ z=>by cases z)⟩,f,o,ne g f (λ_ z=>by cases z),i.imp id λ⟨c,e,n,z⟩=>⟨c,e,n,ne z n (λ_ y=>by cases y)⟩⟩
noncomputable def Tb.cv(T:Tb)(x:Xn):Value:=.ref (T.ca x.cls)
noncomputable def Ax(c:Nat):Option Nat:=if c<100 then none else some (c / 100 - 1)
noncomputable def B0(C a:Addr):Heap->Prop:=λh=>∃ o,h.get? a=some o/\o.cls=.ref C
noncomputable def Vu(C:Addr)(dd:Option Addr)(a:Addr):Heap->Prop:=λh=>∃ o,h.get? a=some o/\o.cls=.ref C/\∀ b,dd=some b->o.dict=some b/\∃ c,o.data=.fields c
noncomputable def jz(b:Addr)(n:Nat):Heap->Prop:=λh=>∃ o,h.get? b=some o/\∃ a c t,o.data=.dict a c/\StrKeys a/\nsFind a "pot" = some (.int n t)
noncomputable def DB(K:W.Frag)(H:Hp)(a:Addr)(ns:List Int):Prop:=
 (∃ o,H a=some (.Xa o (.lst (ns.map V.int))))\/
  ∃ (o:gc) (b:Array Value) (n:Nat),K.lookup a=some o/\o.cls=.type "list"/\o.dict=none/\o.data=.seq b n/\b.size<=sizeLine/\Od (ns.map V.int) b.toList
theorem DB.seq{K:W.Frag}{H:Hp}{a:Addr}{ns:List Int}(h:DB K H a ns):Me K H a (ns.map V.int):=by
 rcases h with⟨o,h⟩|h
 ·exact .inl (.inr ⟨o,h⟩)
 ·exact .inr h
noncomputable def Ex(K:W.Frag)(a:Addr)(ss:List ma):Prop:=∃ (o:gc) (b:Array Value) (n:Nat),K.lookup a=some o/\o.cls=.type "tuple"/\o.data=.seq b n/\b.size<=sizeLine/\Od (ss.map V.str) b.toList
mutual
noncomputable def Rep(T:Tb)(μ:List Addr)(H:Hp):D->V->Prop
 | .Jb,v=>v=.Jb
 | .bl b,v=>v=.bl b
 | .int i,v=>v=.int i
 | .str x,v=>v=.str x
 | .tup ds,v=>∃ p e,v=.ref p/\H p=some (.tup e)/\Qa T μ H ds e
 | .Lf ns,v=>∃ a,v=.ref a/\DB T.K H a ns
 | .ref n,v=>∃ a,v=.ref a/\μ[n]?=some a
 | .lst ds,v=>∃ a e,v=.ref a/\a ∉ μ/\H a=some (.lst e)/\Qa T μ H ds e
 | .Lb j ds,v=>∃ a d,v=.ref a/\a ∉ μ/\Rd H a (.dK d)/\d.map (·.1)=j/\Qa T μ H ds (d.map (·.2))
 | .obj c ns ds,v=>∃ a h fs,v=.ref a/\a ∉ μ/\H a=some (.ins (T.ca c) h fs)/\fs.map (·.1)=ns/\Qa T μ H ds (fs.map (·.2))
 | .pq c,v=>∃ a g,v=.ref a/\a ∉ μ/\H a=some (.ext (Vu (T.ca c) g a))/\∀ n,Ax c=some n->∃ f,g=some f/\f ∉ μ/\H f=some (.ext (jz f n))
 | .gt ss,v=>∃ a,v=.ref a/\Ex T.K a ss
noncomputable def Qa(T:Tb)(μ:List Addr)(H:Hp):List D->List V->Prop
 |[],a=>a=[]
 |d::ds,a=>∃ v r,a=v::r/\Rep T μ H d v/\Qa T μ H ds r
end
noncomputable def Kp(o b:HO):Prop:=b=o\/(∃ d a,o=.dK a/\b=.Xa d (.dK a))\/∃ e c,o=.Ik e/\b=.Ik c
theorem Kp.trans{a b c:HO}(x:Kp a b)(y:Kp b c):Kp a c:=by
 rcases x with rfl|⟨h,d,rfl,rfl⟩|⟨g,e,rfl,rfl⟩
 ·exact y
 ·rcases y with rfl|⟨_,_,z,_⟩|⟨_,_,z,_⟩
  ·exact .inr (.inl ⟨h,d,rfl,rfl⟩)
  ·cases z
  ·cases z
 ·rcases y with rfl|⟨_,_,z,_⟩|⟨_,f,_,rfl⟩
  ·exact .inr (.inr ⟨g,e,rfl,rfl⟩)
  ·cases z
  ·exact .inr (.inr ⟨g,f,rfl,rfl⟩)
structure Ext(μ:List Addr)(H:Hp)(μ':List Addr)(H':Hp):Prop where
 pre:∃ r,μ'=μ++r
 tup:∀ p xs,H p=some (.tup xs)->H' p=some (.tup xs)
 Xa:∀ p o u,H p=some (.Xa o u)->H' p=some (.Xa o u)
 keep:∀ p o,H p=some o->p ∉ μ->(∃ o',H' p=some o'/\Kp o o')/\p ∉ μ'
theorem Ext.refl(μ:List Addr)(H:Hp):Ext μ H μ H:=⟨⟨[],by simp⟩,λ_ _ h=>h,λ_ _ _ h=>h,λ_ _ h n=>⟨⟨_,h,.inl rfl⟩,n⟩⟩
theorem Ext.trans{μ c d:List Addr}{H e H2:Hp}(a:Ext μ H c e)(b:Ext c e d H2):Ext μ H d H2:=by
 obtain⟨⟨r,rfl⟩,x,i,l⟩:=a;obtain⟨⟨w,rfl⟩,y,j,m⟩:=b;exact⟨⟨r++w,by simp⟩,λp xs h=>y p xs (x p xs h),λp o u h=>j p o u (i p o u h),λp o h n=>let ⟨⟨t,h1,f⟩,q⟩:=l p o h n;let ⟨⟨v,k,g⟩,s⟩:=m p t h1 q;⟨⟨v,k,f.trans g⟩,s⟩⟩
theorem Ext.Hh{μ μ':List Addr}{H a:Hp}(e:Ext μ H μ' a)(p:Addr)(o:HO)(h:H p=some o)(n:p ∉ μ)(hd:(∀ kvs,o≠.dK kvs)/\∀ ps,o≠.Ik ps:=by exact⟨(λ_ z=>by cases z),(λ_ z=>by cases z)⟩):a p=some o/\p ∉ μ':=by
 obtain⟨⟨d,h1,c⟩,b⟩:=e.keep p o h n;rcases c with rfl|⟨_,kvs,z,_⟩|⟨ps,_,z,_⟩
 ·exact⟨h1,b⟩
 ·exact absurd z (hd.1 kvs)
 ·exact absurd z (hd.2 ps)
theorem Ext.rd{μ μ':List Addr}{H b:Hp}(e:Ext μ H μ' b)(p:Addr)(kvs:List (Key × V))(h:Rd H p (.dK kvs))(n:p ∉ μ):Rd b p (.dK kvs)/\p ∉ μ':=by
 rcases h with h|⟨a,h⟩
 ·obtain⟨⟨g,h1,c⟩,f⟩:=e.keep p _ h n;rcases c with rfl|⟨a,d,z,rfl⟩|⟨_,_,z,_⟩
  ·exact⟨.inl h1,f⟩
  ·cases z;exact⟨.inr ⟨a,h1⟩,f⟩
  ·cases z
 ·exact⟨.inr ⟨a,e.Xa _ _ _ h⟩,(e.keep p _ h n).2⟩
theorem Ext.get{μ μ':List Addr}{H b:Hp}(e:Ext μ H μ' b){n:Nat}{a:Addr}(h:μ[n]?=some a):μ'[n]?=some a:=by
 obtain⟨⟨r,rfl⟩,_,_⟩:=e;rw[gb (ja.mp h).1];exact h
mutual
theorem Rep.mono{T:Tb}{μ μ':List Addr}{H k:Hp}(e:Ext μ H μ' k):∀ (d:D) (v:V),Rep T μ H d v->Rep T μ' k d v
 | .Jb,v,h=>by simpa [Rep]using h
 | .bl b,v,h=>by simpa [Rep]using h
 | .int i,v,h=>by simpa [Rep]using h
 | .str x,v,h=>by simpa [Rep]using h
 | .tup ds,v,h=>by
  rw[Rep]at h ⊢;obtain⟨p,g,h1,f,h3⟩:=h;exact⟨p,g,h1,e.tup _ _ f,Qa.mono e ds g h3⟩
 | .Lf ns,v,h=>by
  rw[Rep]at h ⊢;obtain⟨a,h1,f⟩:=h;refine⟨a,h1,?_⟩;rcases f with⟨o,f⟩|f
  ·exact .inl ⟨o,e.Xa _ _ _ f⟩
  ·exact .inr f
 | .ref n,v,h=>by
  rw[Rep]at h ⊢;obtain⟨a,h1,f⟩:=h;exact⟨a,h1,e.get f⟩
 | .lst ds,v,h=>by
  rw[Rep]at h ⊢;obtain⟨a,g,h1,f,h3,h4⟩:=h;exact⟨a,g,h1,(e.Hh _ _ h3 f).2,(e.Hh _ _ h3 f).1,Qa.mono e ds g h4⟩
 | .Lb w ds,v,h=>by
  rw[Rep]at h ⊢;obtain⟨a,g,h1,f,h3,j,h4⟩:=h;exact⟨a,g,h1,(e.rd _ _ h3 f).2,(e.rd _ _ h3 f).1,j,Qa.mono e ds _ h4⟩
 | .obj c ns ds,v,h=>by
  rw[Rep]at h ⊢;obtain⟨a,t,g,h1,f,h3,j,h4⟩:=h;exact⟨a,t,g,h1,(e.Hh _ _ h3 f).2,(e.Hh _ _ h3 f).1,j,Qa.mono e ds _ h4⟩
 | .pq c,v,h=>by
  rw[Rep]at h ⊢;obtain⟨a,s,h1,f,h3,h4⟩:=h;exact⟨a,s,h1,(e.Hh _ _ h3 f).2,(e.Hh _ _ h3 f).1,λn q=>let ⟨r,u,l,m⟩:=h4 n q;⟨r,u,(e.Hh _ _ m l).2,(e.Hh _ _ m l).1⟩⟩
 | .gt ss,v,h=>by rw[Rep]at h ⊢;exact h
theorem Qa.mono{T:Tb}{μ μ':List Addr}{H a:Hp}(e:Ext μ H μ' a):∀ (ds:List D) (vs:List V),Qa T μ H ds vs->Qa T μ' a ds vs
 |[],vs,h=>by simpa [Qa]using h
 |d::ds,vs,h=>by
  rw[Qa]at h ⊢;obtain⟨v,r,h1,b,h3⟩:=h;exact⟨v,r,h1,Rep.mono e d v b,Qa.mono e ds r h3⟩
end
theorem Qa.nil{T:Tb}{μ:List Addr}{H:Hp}:Qa T μ H [] []:=by rw[Qa]
theorem Qa.cons{T:Tb}{μ:List Addr}{H:Hp}{d:D}{v:V}{ds:List D}{vs:List V}(h1:Rep T μ H d v)(a:Qa T μ H ds vs):Qa T μ H (d::ds) (v::vs):=by
 rw[Qa];exact⟨v,vs,rfl,h1,a⟩
theorem Qa.length{T:Tb}{μ:List Addr}{H:Hp}:∀ {ds:List D} {vs:List V},Qa T μ H ds vs->ds.length=vs.length
 |[],vs,h=>by rw[Qa]at h;subst h;rfl
 |d::ds,vs,h=>by
  rw[Qa]at h;obtain⟨v,r,rfl,_,h3⟩:=h;simp[Qa.length h3]
theorem Qa.get{T:Tb}{μ:List Addr}{H:Hp}:∀ {ds:List D} {vs:List V} {i:Nat} {d:D},Qa T μ H ds vs->ds[i]?=some d->∃ v,vs[i]?=some v/\Rep T μ H d v
 |[],vs,i,d,h,e=>by simp at e
 |d::ds,vs,0,x,h,e=>by
  rw[Qa]at h;obtain⟨v,r,rfl,a,h3⟩:=h;simp at e;subst e;exact⟨v,rfl,a⟩
 |d::ds,vs,i+1,x,h,e=>by
  rw[Qa]at h;obtain⟨v,r,rfl,a,h3⟩:=h;simpa using Qa.get (i:=i) h3 (by simpa using e)
theorem Qa.append{T:Tb}{μ:List Addr}{H:Hp}:∀ {ds a:List D} {vs us:List V},Qa T μ H ds vs->Qa T μ H a us->Qa T μ H (ds++a) (vs++us)
 |[],a,vs,us,h,b=>by rw[Qa]at h;subst h;simpa using b
 |d::ds,a,vs,us,h,b=>by
  rw[Qa]at h;obtain⟨v,r,rfl,c,h3⟩:=h;exact Qa.cons c (Qa.append h3 b)
theorem Qa.set{T:Tb}{μ:List Addr}{H:Hp}{d:D}{v:V}(hd:Rep T μ H d v):∀ {ds:List D} {vs:List V} (i:Nat),Qa T μ H ds vs->Qa T μ H (ds.set i d) (vs.set i v)
 |[],vs,i,h=>by rw[Qa]at h;subst h;simpa using Qa.nil
 |x::ds,vs,0,h=>by
  rw[Qa]at h;obtain⟨w,r,rfl,a,h3⟩:=h;exact Qa.cons hd h3
 |x::ds,vs,i+1,h=>by
  rw[Qa]at h;obtain⟨w,r,rfl,a,h3⟩:=h;exact Qa.cons a (Qa.set hd i h3)
theorem Qa.drop{T:Tb}{μ:List Addr}{H:Hp}:∀ {ds:List D} {vs:List V} (n:Nat),Qa T μ H ds vs->Qa T μ H (ds.drop n) (vs.drop n)
 |ds,vs,0,h=>by simpa using h
 |[],vs,n+1,h=>by rw[Qa]at h;subst h;simpa using Qa.nil
 |x::ds,vs,n+1,h=>by
  rw[Qa]at h;obtain⟨w,r,rfl,a,h3⟩:=h;simpa using Qa.drop n h3
theorem Qa.take{T:Tb}{μ:List Addr}{H:Hp}:∀ {ds:List D} {vs:List V} (n:Nat),Qa T μ H ds vs->Qa T μ H (ds.take n) (vs.take n)
 |ds,vs,0,h=>by simpa using Qa.nil
 |[],vs,n+1,h=>by rw[Qa]at h;subst h;simpa using Qa.nil
 |x::ds,vs,n+1,h=>by
  rw[Qa]at h;obtain⟨w,r,rfl,a,h3⟩:=h;exact Qa.cons a (Qa.take n h3)
noncomputable def lq(T:Tb)(μ:List Addr)(H:Hp):List (ma × D)->List (ma × V)->Prop:=Paired λp q=>p.1=q.1/\Rep T μ H p.2 q.2
noncomputable def Uh(T:Tb)(μ:List Addr)(H:Hp):List (Key × D)->List (Key × V)->Prop:=Paired λp q=>p.1=q.1/\Rep T μ H p.2 q.2
noncomputable def on(T:Tb)(μ:List Addr)(H:Hp)(a:Addr):Ob->Prop
 | .lst ds=>∃ b,H a=some (.lst b)/\Qa T μ H ds b
 | .Lb d=>∃ b,H a=some (.dK b)/\Uh T μ H d b
 | .ins c fs=>∃ e b,H a=some (.ins (T.ca c) e b)/\lq T μ H fs b
 | .Be d=>∃ g b,H a=some (.Xa g (.dK b))/\Uh T μ H d b
 | .cj f=>∃ b,H a=some (.dT b)/\b.map (·.1)=f
structure Rel(T:Tb)(μ:List Addr)(H:Hp)(σ:ub):Prop where
 len:μ.length=σ.length
 nd:μ.Nodup
 obs:∀ (n:Nat) (o:Ob),σ[n]?=some o->∃ a,μ[n]?=some a/\on T μ H a o
 tb:Pp T μ H
noncomputable def Lg(T:Tb)(μ:List Addr)(H:Hp)(ρ:Ev)(st:St):Prop:=ρ.length=st.length/\∀ (i:Nat) (d:D),ρ[i]?=some (some d)->∃ v,st[i]?=some (some v)/\Rep T μ H d v
theorem Lg.mono{T:Tb}{μ μ':List Addr}{H a:Hp}{ρ:Ev}{st:St}(e:Ext μ H μ' a)(h:Lg T μ H ρ st):Lg T μ' a ρ st:=
 ⟨h.1,λi d q=>let ⟨v,h1,b⟩:=h.2 i d q;⟨v,h1,Rep.mono e d v b⟩⟩
theorem Lg.set{T:Tb}{μ:List Addr}{H:Hp}{ρ:Ev}{st:St}{d:D}{v:V}(h:Lg T μ H ρ st)(i:Nat)(r:Rep T μ H d v):Lg T μ H (ρ.set i (some d)) (st.set i (some v)):=by
 refine⟨by simpa using h.1,λj x q=>?_⟩;rw[bc]at q;by_cases a:i=j
 ·subst a;rw[da rfl]at q;split at q
  ·rename_i c
   cases q;exact⟨v,by rw[bc,da rfl,da (by rw[<-h.1];exact c)],r⟩
  ·cases q
 ·rw[ka a]at q;obtain⟨w,h1,b⟩:=h.2 j x q;exact⟨w,by rw[bc,ka a];exact h1,b⟩
noncomputable def gP(e:Addr)(cls a0:Value)(h:Heap):Prop:=∃ b a,h.get? e=some b/\b.cls=cls/\b.data=.fields a/\1<a.size/\a[0]?=some a0/\a[1]?=some .none
noncomputable def uo(B:Heap)(l:List ag)(e:Addr)(cls a0:Value)(h:Heap):Prop:=B.StaysIn h/\B.get? e=none/\h.FunFrames B l/\((∃ a,h.TracedAtW B e cls a0 a)\/gP e cls a0 h)
noncomputable def tO(o:gc)(n:Nat):Prop:=∃ a b t,o.data=.dict a b/\StrKeys a/\nsFind a "pot" = some (.int n t)
noncomputable def Gy(f:Option Nat)(e:Addr)(B h h0:Heap)(d:Hp):Prop:=∀ n,f=some n->∃ a b c,h.get? e=some c/\c.dict=some a/\B.get? a=some b/\tO b n/\d a=none/\h0.get? a=none
structure qv(P:ra)(w:Ea)(outer:List ag)(H:Hp)(s:aa)(cls:Value)(fd:Option Nat)(H':Hp)(e:Value)(s':aa):Prop where
 ex:∃ (ea:Addr) (a0:Value) (B:Heap),e=.ref ea/\uo B outer ea cls a0 s'.heap/\H' ea=none/\s.heap.get? ea=none/\
  (∀ b o,H' b=some o->∃ ob,B.get? b=some ob)/\(∀ b o,s.heap.get? b=some o->H b=none->b ∉ xi outer->B.get? b=some o)/\(∀ b o,s.heap.get? b=some o->b ∉ xi outer->∃ o',B.get? b=some o')/\Gy fd ea B s'.heap s.heap H'
 os:s'.os=s.os
 bare:bg s'.gens
 un:Un (xi outer) [] H H' s.heap s'.heap
 Qb:Kh P w H' s'.heap
noncomputable def jl(P:ra)(w:Ea):Aq:=λouter H s E e c=>∃ cls b a,qv P w outer H s cls b a e c/\E cls b a
structure Mw(X:Cx)(st:St)(cls:Value)(fd:Option Nat)(H':Hp):Prop where
 dC:∀ (pins:List (Addr × gc)) (H:Hp) (s:aa) (e:Value) (s':aa),Inv X pins st H s->qv X.prog X.w X.stack H s cls fd H' e s'->X.xe e s'
noncomputable abbrev XE(X:Cx)(st:St):XK:=λcls b a=>Mw X st cls b a
noncomputable def Ib{d e:Type}(T:Tb)(E:XK)(R:List Addr->Hp->d->e->Prop)(μ:List Addr)(H:Hp)(o:Out d)(Q:e->Hp->Prop):Prop:=match o with
 | .ok a σ=>∀ b g c,Ext μ H b c->Rel T b c σ->R b c a g->Q g c
 | .ex x σ=>∀ b c,Ext μ H b c->Rel T b c σ->E (T.cv x) (Ax x.cls) c
 | .bad=>False
theorem Ib.mono{j k:Type}{T:Tb}{E:XK}{R:List Addr->Hp->j->k->Prop}{μ c:List Addr}{H i:Hp}{o:Out j}{Q:k->Hp->Prop}(e:Ext μ H c i)(h:Ib T E R μ H o Q):Ib T E R c i o Q:=by
 cases o with
 |ok a σ=>exact λb g d f r q=>h b g d (e.trans f) r q
 |ex x σ=>exact λb d f r=>h b d (e.trans f) r
 |bad=>exact h
theorem Ib.imp{d e:Type}{T:Tb}{E:XK}{R:List Addr->Hp->d->e->Prop}{μ:List Addr}{H:Hp}{o:Out d}{Q Q':e->Hp->Prop}(h:Ib T E R μ H o Q)(k:∀ g b,Q g b->Q' g b):Ib T E R μ H o Q':=by
 cases o with
 |ok a σ=>exact λc g b f r q=>k _ _ (h c g b f r q)
 |ex x σ=>exact h
 |bad=>exact h
theorem Ib.bind{i o p s:Type}{T:Tb}{E:XK}{R:List Addr->Hp->i->p->Prop}{l:List Addr->Hp->o->s->Prop}{μ:List Addr}{H:Hp}{m:M i}{k:i->M o}{σ:ub}{Q:s->Hp->Prop}{Q1:p->Hp->Prop}
  (h:Ib T E l μ H (Pc m k σ) Q) (f:∀ a b c g d,m σ=.ok a b->Ext μ H c d->Rel T c d b->R c d a g->Ib T E l c d (k a b) Q->Q1 g d):Ib T E R μ H (m σ) Q1:=by
 unfold Pc at h;cases e:m σ with
 |ok a b=>
  rw[e]at h;exact λj g t n r q=>f a b j g t e n r q (h.mono n)
 |ex x b=>rw[e]at h;exact h
 |bad=>rw[e]at h;exact h
theorem Ib.here{T:Tb}{E:XK}{b a:Type}{R:List Addr->Hp->b->a->Prop}{μ:List Addr}{H:Hp}{d:b}{σ:ub}{g:a}{Q:a->Hp->Prop}(h:Ib T E R μ H (.ok d σ) Q)(r:Rel T μ H σ)(p:R μ H d g):Q g H:=h μ g H (Ext.refl _ _) r p
section
variable(T:Tb)(X:Cx)
noncomputable def tF(f:Ev->M D):TE:=λst H Q=>∃ a b c,Lg T a H b st/\Rel T a H c/\Ib T (XE X st) (Rep T) a H (f b c) Q
noncomputable def kF:List Addr->Hp->Bool->Bool->Prop:=λ_ _ a b=>b=a
noncomputable def tT(f:Ev->M Bool):TT:=λst H Q=>∃ a b c,Lg T a H b st/\Rel T a H c/\Ib T (XE X st) kF a H (f b c) Q
noncomputable def tL(f:Ev->M (List D)):TA:=λst H Q=>∃ a b c,Lg T a H b st/\Rel T a H c/\Ib T (XE X st) (Qa T) a H (f b c) Q
inductive wl where
 |nx (st:St)|rt (v:V)|bk (st:St)|ct (st:St)|xc (st:St) (cls:Value) (fd:Option Nat)
noncomputable def nk(T:Tb)(μ:List Addr)(H:Hp):Fl->wl->Prop
 | .nx a,.nx st=>Lg T μ H a st
 | .rt d,.rt v=>Rep T μ H d v
 | .bk a,.bk st=>Lg T μ H a st
 | .ct a,.ct st=>Lg T μ H a st
 | .xc a x,.xc st cls fd=>Lg T μ H a st/\cls=T.cv x/\fd=Ax x.cls
 |_,_=>False
noncomputable def qj(X:Cx)(D:Ends):wl->Hp->Prop
 | .nx st,H=>D.nx st H
 | .rt v,H=>D.rt v H
 | .bk st,H=>D.bk st H
 | .ct st,H=>D.ct st H
 | .xc st cls fd,H=>Mw X st cls fd H
noncomputable abbrev EN:XK:=λ_ _ _=>False
noncomputable def tS(g:Ev->M Fl):TS:=λD st H=>∃ a b c,Lg T a H b st/\Rel T a H c/\Ib T EN (nk T) a H (g b c) (qj X D)
end
noncomputable def xs{c:Type}(ρ:Ev)(m:M c)(k:c->M Fl):M Fl:=λd=>match m d with
 | .ok a b=>k a b
 | .ex x b=>.ok (.xc ρ x) b
 | .bad=>.bad
theorem Ib.xs{n o:Type}{T:Tb}{X:Cx}{D:Ends}{R:List Addr->Hp->n->o->Prop}{μ:List Addr}{H:Hp}{ρ:Ev}{st:St}{m:M n}{k:n->M Fl}{σ:ub}{Q1:o->Hp->Prop}(p:Lg T μ H ρ st)
  (h:Ib T EN (nk T) μ H (L4.xs ρ m k σ) (qj X D)) (f:∀ a b c g i,m σ=.ok a b->Ext μ H c i->Rel T c i b->R c i a g->Ib T EN (nk T) c i (k a b) (qj X D)->Q1 g i):Ib T (XE X st) R μ H (m σ) Q1:=by
 unfold L4.xs at h;cases e:m σ with
 |ok a b=>
  rw[e]at h;exact λd g l j r q=>f a b d g l e j r q (h.mono j)
 |ex x b=>
  rw[e]at h;intro d l j r;exact h d (.xc st (T.cv x) (Ax x.cls)) l j r ⟨p.mono j,rfl,rfl⟩
 |bad=>rw[e]at h;exact h
noncomputable abbrev FE(T:Tb)(X:Cx)(e:Ga)(f:Ev->M D):Prop:=PE X e (tF T X f)
noncomputable abbrev FT(T:Tb)(X:Cx)(e:Ga)(f:Ev->M Bool):Prop:=PT X e (tT T X f)
noncomputable abbrev FW(T:Tb)(X:Cx)(e:Ga)(f:Ev->M Bool):Prop:=PW X e (tT T X f)
noncomputable abbrev FA(T:Tb)(X:Cx)(a:List Ga)(f:Ev->M (List D)):Prop:=PA X a (tL T X f)
noncomputable abbrev FS(T:Tb)(X:Cx)(st:Stmt)(g:Ev->M Fl):Prop:=PS X st (tS T X g)
noncomputable abbrev xn(T:Tb)(X:Cx)(st:List Stmt)(g:Ev->M Fl):Prop:=Mp X st (tS T X g)
end L4
namespace L4
open PySem PySem.Spec PyProof.Rows L2
noncomputable def Oh:Nat:=1000
theorem Sv{n:Nat}(h:n<=Oh):n<=sizeLine:=Ze (sK h)
theorem iJ{n:Nat}(h:n<Oh):n<sizeLine:=sK (Ze h)
theorem xE{f:Type}{l:List f}(h:l.Nodup){i j:Nat}{a:f}(g:l[i]?=some a)(k:l[j]?=some a):i=j:=by
 obtain⟨b,c⟩:=ja.mp g;obtain⟨d,e⟩:=ja.mp k;have hp:=List.pairwise_iff_getElem.mp h;rcases Nat.lt_trichotomy i j with z|z|z
 ·exact absurd (c.trans e.symm) (hp i j b d z)
 ·exact z
 ·exact absurd (e.trans c.symm) (hp j i d b z)
section
variable{T:Tb}{μ μ':List Addr}{H H':Hp}{σ:ub}
theorem iF{a:Type}(e:Ext μ H μ' H'){xs:List (a × D)}{ys:List (a × V)}(h:Paired (λ(p:a × D) (q:a × V)=>p.1=q.1/\Rep T μ H p.2 q.2) xs ys) :
  Paired (λ(p:a × D) (q:a × V)=>p.1=q.1/\Rep T μ' H' p.2 q.2) xs ys:=L2.Paired.oo h λp q z=>⟨z.1,Rep.mono e _ _ z.2⟩
theorem on.mono(e:Ext μ H μ' H'){a:Addr}(d:H' a=H a):∀ {o:Ob},on T μ H a o->on T μ' H' a o
 | .lst ds,⟨b,h,r⟩=>⟨b,d.trans h,Qa.mono e _ _ r⟩
 | .Lb f,⟨b,h,r⟩=>⟨b,d.trans h,iF e r⟩
 | .ins c fs,⟨g,b,h,r⟩=>⟨g,b,d.trans h,iF e r⟩
 | .Be f,⟨i,b,h,r⟩=>⟨i,b,d.trans h,iF e r⟩
 | .cj j,⟨b,h,r⟩=>⟨b,d.trans h,r⟩
theorem on.some{a:Addr}:∀ {o:Ob},on T μ H a o->∃ u,H a=Option.some u/\(∀ xs,u≠.tup xs)
 | .lst ds,⟨b,h,r⟩=>⟨_,h,(λ_ z=>by cases z)⟩
 | .Lb d,⟨b,h,r⟩=>⟨_,h,(λ_ z=>by cases z)⟩
 | .ins c fs,⟨e,b,h,r⟩=>⟨_,h,(λ_ z=>by cases z)⟩
 | .Be d,⟨g,b,h,r⟩=>⟨_,h,(λ_ z=>by cases z)⟩
 | .cj f,⟨b,h,r⟩=>⟨_,h,(λ_ z=>by cases z)⟩
theorem on.Bz{a:Addr}:∀ {o:Ob},(∀ kvs,o≠.Be kvs)->on T μ H a o->∃ u,H a=Option.some u/\(∀ xs,u≠.tup xs)/\(∀ ob w,u≠.Xa ob w)
 | .lst ds,_,⟨b,h,r⟩=>⟨_,h,(λ_ z=>by cases z),(λ_ _ z=>by cases z)⟩
 | .Lb kvs,_,⟨b,h,r⟩=>⟨_,h,(λ_ z=>by cases z),(λ_ _ z=>by cases z)⟩
 | .ins c fs,_,⟨d,b,h,r⟩=>⟨_,h,(λ_ z=>by cases z),(λ_ _ z=>by cases z)⟩
 | .Be kvs,n,_=>absurd rfl (n kvs)
 | .cj e,_,⟨b,h,r⟩=>⟨_,h,(λ_ z=>by cases z),(λ_ _ z=>by cases z)⟩
theorem Rel.keep(r:Rel T μ H σ)(e:Ext μ H μ H')(k:∀ a∈μ,H' a=H a)(t:Pp T μ H'):Rel T μ H' σ:=
 ⟨r.len,r.nd,λn o h=>let ⟨a,h1,b⟩:=r.obs n o h;⟨a,h1,b.mono e (k a (Ja h1))⟩,t⟩
theorem Rel.mem(r:Rel T μ H σ){a:Addr}(h:a∈μ):∃ u,H a=some u/\(∀ xs,u≠.tup xs):=by
 obtain⟨n,hn⟩:=dq h;have c:n<σ.length:=by rw[<-r.len];exact(ja.mp hn).1
 obtain⟨d,h1,b⟩:=r.obs n σ[n] (by simp[c]);rw[hn]at h1;cases h1;exact b.some
theorem fk{p:Addr}{o:HO}(hp:H p=none):Ext μ H μ (upd H p o):=
 ⟨⟨[],by simp⟩,λq xs h=>by rw[jd (Jn h hp)];exact h,λq a u h=>by rw[jd (Jn h hp)];exact h,λq a h n=>⟨⟨a,by rw[jd (Jn h hp)];exact h,.inl rfl⟩,n⟩⟩
theorem Rel.fresh(r:Rel T μ H σ){p:Addr}{o:HO}(hp:H p=none):Rel T μ (upd H p o) σ:=
 r.keep (fk hp) (λa c=>by obtain⟨u,h,_⟩:=r.mem c;rw[jd (Jn h hp)]) (r.tb.grow λb u h=>by rw[jd (Jn h hp)];exact h)
theorem Et{p:Addr}{o:HO}(hp:H p=none):Ext μ H (μ++[p]) (upd H p o):=
 ⟨⟨[p],rfl⟩,(fk (μ:=μ) hp).tup,(fk (μ:=μ) hp).Xa,λq a h n=>⟨((fk (μ:=μ) hp).keep q a h n).1,λz=>(wg.mp z).elim n λz=>Jn h hp (by simpa using z)⟩⟩
theorem Rel.push(r:Rel T μ H σ){p:Addr}{o:HO}{ob:Ob}(hp:H p=none)(j:on T (μ++[p]) (upd H p o) p ob):Rel T (μ++[p]) (upd H p o) (σ++[ob]):=by
 refine⟨by simp[r.len],?_,λn x h=>?_,(r.tb.more hp).grow λb u h=>by rw[jd (Jn h hp)];exact h⟩
 ·rw[List.nodup_append];refine⟨r.nd,by simp,λa i b hb e=>?_⟩;have f:b=p:=by simpa using hb
  subst f;subst e;obtain⟨u,h,_⟩:=r.mem i;rw[hp]at h;cases h
 ·by_cases hn:n<σ.length
  ·rw[gb hn]at h;obtain⟨a,h1,c⟩:=r.obs n x h;obtain⟨u,hu,_⟩:=c.some;exact⟨a,by rw[gb (by rw[r.len];exact hn)];exact h1,c.mono (Et hp) (jd (Jn hu hp))⟩
  ·rw[Sg (by omega)]at h;have d:n - σ.length=0:=by
    have:=(ja.mp h).1;simp at this;omega
   rw[d]at h;simp at h;subst h;have g:n=μ.length:=by rw[r.len];omega
   subst g;exact⟨p,by simp,j⟩
theorem ly{p:Addr}{o:HO}(r:Rel T μ H σ):Rep T (μ++[p]) (upd H p o) (.ref σ.length) (.ref p):=by
 rw[Rep];exact⟨p,rfl,by rw[<-r.len];simp⟩
theorem Pt{a:Addr}{u o:HO}(hm:a∈μ)(b:H a=some u)(h1:∀ xs,u≠.tup xs)(c:∀ ob w,u≠.Xa ob w):Ext μ H μ (upd H a o):=
 ⟨⟨[],by simp⟩,λq xs h=>by rw[jd (hG h b (λz=>h1 xs z.symm))];exact h,λq ob w h=>by rw[jd (hG h b (λz=>c ob w z.symm))];exact h,λq ob h n=>⟨⟨ob,by rw[jd (λz=>n (by rw[z];exact hm))];exact h,.inl rfl⟩,n⟩⟩
theorem Rel.write(r:Rel T μ H σ){n:Nat}{a:Addr}{o:HO}{ob:Ob}(hn:μ[n]?=some a)(f:on T μ (upd H a o) a ob)(g:∀ kvs,σ[n]?≠some (.Be kvs):=by intro kvs z;simp_all [gi]):Ext μ H μ (upd H a o)/\Rel T μ (upd H a o) (σ.set n ob):=by
 obtain⟨u,hu,h1,c⟩:∃ u,H a=some u/\(∀ xs,u≠.tup xs)/\(∀ ob w,u≠.Xa ob w):=by
  have d:n<σ.length:=by rw[<-r.len];exact(ja.mp hn).1
  obtain⟨i,h1,c⟩:=r.obs n σ[n] (by simp[d]);rw[hn]at h1;cases h1;exact c.Bz λkvs z=>g kvs (by rw[Kb d,z])
 have e:Ext μ H μ (upd H a o):=Pt (Ja hn) hu h1 c;refine⟨e,by simp[r.len],r.nd,λm x h=>?_,r.tb.out (λb hb=>jd hb) (.inl (Ja hn))⟩;rw[bc]at h;by_cases hm:n=m
 ·subst hm;rw[da rfl]at h;split at h
  ·cases h;exact⟨a,hn,f⟩
  ·cases h
 ·rw[ka hm]at h;obtain⟨b,h3,h4⟩:=r.obs m x h;refine⟨b,h3,h4.mono e (jd λz=>hm ?_)⟩;subst z;exact xE r.nd hn h3
theorem Rel.at(r:Rel T μ H σ){n:Nat}{v:V}{o:Ob}(h:Rep T μ H (.ref n) v)(e:σ[n]?=some o):∃ a,v=.ref a/\μ[n]?=some a/\on T μ H a o:=by
 rw[Rep]at h;obtain⟨a,rfl,b⟩:=h;obtain⟨d,h1,c⟩:=r.obs n o e;rw[b]at h1;cases h1;exact⟨a,rfl,b,c⟩
end
noncomputable def ga(i:Nat):Ev->M D:=λa b=>match a[i]? with
 |some (some d)=>.ok d b
 |_=>.bad
noncomputable def eC(d:D):Ev->M D:=λ_=>ret d
noncomputable def vE(o:D->D->M D)(m:M D)(x:D):M D:=Pc m (o x)
noncomputable def Ha(o:D->D->M D)(a b:Ev->M D):Ev->M D:=λc=>Pc (a c) (vE o (b c))
noncomputable def Fd(o:D->M D)(a:Ev->M D):Ev->M D:=λb=>Pc (a b) o
noncomputable def Hw(d:D):M Bool:=match d with
 | .bl b=>ret b
 |_=>bad
noncomputable def jj{α:Type}(p q:M α)(c:Bool):M α:=if c=true then p else q
noncomputable def NF(c:Bool):M Bool:=ret (!c)
noncomputable def ow{α:Type}(k:Bool->M α)(d:D):M α:=Pc (Hw d) k
noncomputable def eT(f:Ev->M D):Ev->M Bool:=λa=>Pc (f a) Hw
noncomputable def Xy(a b:Ev->M Bool):Ev->M Bool:=λc=>Pc (a c) (jj (b c) (ret false))
noncomputable def mm(a b:Ev->M Bool):Ev->M Bool:=λc=>Pc (a c) (jj (ret true) (b c))
noncomputable def Al(a:Ev->M Bool):Ev->M Bool:=λb=>Pc (a b) NF
noncomputable def Bi(a b:Ev->M D):Ev->M D:=λc=>Pc (a c) (ow (jj (b c) (ret (.bl false))))
noncomputable def nL(a b:Ev->M D):Ev->M D:=λc=>Pc (a c) (ow (jj (ret (.bl true)) (b c)))
noncomputable def iE(c:Bool):M D:=ret (.bl (!c))
noncomputable def yE(a:Ev->M D):Ev->M D:=λb=>Pc (a b) (ow iE)
noncomputable def Ku(t:Ev->M Bool)(a b:Ev->M D):Ev->M D:=λc=>Pc (t c) (jj (a c) (b c))
noncomputable def Ma:Ev->M (List D):=λ_=>ret []
noncomputable def iG(x:D)(xs:List D):M (List D):=ret (x::xs)
noncomputable def fF(m:M (List D))(x:D):M (List D):=Pc m (iG x)
noncomputable def ua(e:Ev->M D)(r:Ev->M (List D)):Ev->M (List D):=λa=>Pc (e a) (fF (r a))
noncomputable def ju(ds:List D):M D:=if ds.length<=Oh then ret (.tup ds)else bad
noncomputable def vf(a:Ev->M (List D)):Ev->M D:=λb=>Pc (a b) ju
noncomputable def dz(ds:List D):M D:=λa=>.ok (.ref a.length) (a++[.lst ds])
noncomputable def nC(ds:List D):M D:=if ds.length<=Oh then dz ds else bad
noncomputable def Tw(a:Ev->M (List D)):Ev->M D:=λb=>Pc (a b) nC
noncomputable def Kx(ds:List D):M D:=if ds.length<=Oh then ret (.lst ds)else bad
noncomputable def Zi(a:Ev->M (List D)):Ev->M D:=λb=>Pc (a b) Kx
noncomputable def Kj(T:Tb)(r:R2)(o:D->D->M D):Prop:=∀ (E:XK) a H b x y v u Q,Rel T a H b->Rep T a H x v->Rep T a H y u->Ib T E (Rep T) a H (o x y b) Q->r v u H Q
noncomputable def HN(T:Tb)(r:V->Hp->VK->Prop)(o:D->M D):Prop:=∀ (E:XK) a H b x v Q,Rel T a H b->Rep T a H x v->Ib T E (Rep T) a H (o x b) Q->r v H Q
noncomputable def Tp(T:Tb)(r:List V->Hp->VK->Prop)(o:List D->M D):Prop:=∀ (E:XK) a H c xs b Q,Rel T a H c->Qa T a H xs b->Ib T E (Rep T) a H (o xs c) Q->r b H Q
section
variable{T:Tb}{X:Cx}{a b c:Ga}{fa fb:Ev->M D}{ta tb:Ev->M Bool}{pos:Ae}
theorem la(i:Nat){x:ma}(hN:X.N[i]?=some x:=by rfl)(hv:qA X.env.scope x:=by first|exact Or.inl rfl|exact Or.inr (Or.inl rfl)|exact Or.inr (Or.inr rfl))(hd:(x == ("__debug__" : ma))=false:=by decide)
  (b:(x == ("__classdict__" : ma))=false:=by decide):FE T X (.Name x pos) (ga i):=by
 intro a s st H Q I h;obtain⟨j,g,k,he,f,hp⟩:=h;refine O2 hN hv hd b a s st H Q I ?_;unfold ga at hp;cases e:g[i]? with
 |none=>rw[e]at hp;exact hp.elim
 |some o=>
  cases o with
  |none=>rw[e]at hp;exact hp.elim
  |some d=>
   rw[e]at hp;obtain⟨v,h1,c⟩:=he.2 i d e;exact⟨v,h1,hp.here f c⟩
theorem Bx{e:Ga}{v:V}{d:D}(h:PE X e (tC v))(r:∀ μ H,Rep T μ H d v):FE T X e (eC d):=by
 intro a s st H Q I b;obtain⟨μ,f,g,he,c,hp⟩:=b;exact h a s st H Q I (Ib.here hp c (r _ _))
theorem Ya{i:Int}{j}:FE T X (.Constant (.int i) j pos) (eC (.int i)):=Bx GZ λ_ _=>by rw[Rep]
theorem cn{i:Bool}{j}:FE T X (.Constant (.bool i) j pos) (eC (.bl i)):=Bx kW λ_ _=>by rw[Rep]
theorem Js{j}:FE T X (.Constant .none j pos) (eC .Jb):=Bx aX λ_ _=>by rw[Rep]
theorem Fg{i:ma}{j}:FE T X (.Constant (.str i) j pos) (eC (.str i)):=Bx WZ λ_ _=>by rw[Rep]
theorem Wt{x:ma}{u:Value}{i:Int}(a:Gl X x)(hm:X.mg x=some u)(r:Qc (.int i) u)(hd:(x == ("__debug__" : ma))=false:=by decide):FE T X (.Name x pos) (eC (.int i)):=Bx (kG a hm r hd) λ_ _=>by rw[Rep]
theorem two{r:R2}{o:D->D->M D}(hs:Kj T r o){st:St}{H:Hp}{Q:VK}(h:tF T X (Ha o fa fb) st H Q):Ew r (tF T X fa) (tF T X fb) st H Q:=by
 obtain⟨s,e,t,he,j,hp⟩:=h;exact⟨s,e,t,he,j,hp.bind λx c a v w _ g p k m=>⟨a,e,c,he.mono g,p,m.bind λy d b u f _ i q l n=>hs _ b f d x y v u Q q (Rep.mono i _ _ k) l n⟩⟩
theorem zh{d:ak}{r:R2}{o:D->D->M D}(f:gh X (Ce d) r)(hs:Kj T r o)(e:FE T X a fa)(hb:FE T X b fb):FE T X (.BinOp a d b pos) (Ha o fa fb):=
 λc s st H Q I h=>GQ f e hb c s st H Q I (two hs h)
theorem Zk{d:io}{r:R2}{o:D->D->M D}(f:gh X (Ab d) r)(hs:Kj T r o)(e:FE T X a fa)(hb:FE T X b fb)(hm:se d b=false):FE T X (.Compare a [d] [b] pos) (Ha o fa fb):=
 λc s st H Q I h=>oY f e hb hm c s st H Q I (two hs h)
theorem nc{r:R2}{o:D->D->M D}(e:Xt X r)(hs:Kj T r o)(d:FE T X a fa)(hb:FE T X b fb)(hp:CL b):FE T X (.Subscript a b pos) (Ha o fa fb):=
 λc s st H Q I h=>XU e d hb hp c s st H Q I (two hs h)
theorem ZX{e:UnaryOp}{r:V->Hp->VK->Prop}{o:D->M D}(i:TB X (j4 e) r)(hs:HN T r o)(g:FE T X a fa):FE T X (.UnaryOp e a pos) (Fd o fa):=by
 intro b s st H Q I h;refine bX i g b s st H Q I ?_;obtain⟨n,p,q,he,j,hp⟩:=h;exact⟨n,p,q,he,j,hp.bind λx d c v f _ t m k l=>hs _ c f d x v Q m k l⟩
theorem UB{E:XK}{d:D}{σ:ub}{μ:List Addr}{H:Hp}{v:V}{b e:Type}{a:List Addr->Hp->b->e->Prop}{k:Bool->M b}{Q:e->Hp->Prop}(r:Rep T μ H d v)(h:Ib T E a μ H (Pc (Hw d) k σ) Q):∃ c,d=.bl c/\v=.bl c/\Ib T E a μ H (k c σ) Q:=by
 cases d with
 |bl c=>rw[Rep]at r;exact⟨c,rfl,r,h⟩
 |_=>exact h.elim
theorem CF{E:XK}{d:D}{σ:ub}{μ:List Addr}{H:Hp}{v:V}{Q:Bool->Hp->Prop}(r:Rep T μ H d v)(h:Ib T E kF μ H (Hw d σ) Q):∃ c,v=.bl c/\Ib T E kF μ H (.ok c σ) Q:=by
 cases d with
 |bl c=>rw[Rep]at r;exact⟨c,r,h⟩
 |_=>exact h.elim
theorem zf{e:io}{r:R2}{o:D->D->M D}(i:gh X (Ab e) r)(hs:Kj T r o)(g:FE T X a fa)(hb:FE T X b fb)(hm:se e b=false):FT T X (.Compare a [e] [b] pos) (eT (Ha o fa fb)):=by
 intro c s st H Q I h;refine LK i g hb hm c s st H Q I ?_;refine two (o:=o) hs ?_;obtain⟨p,u,w,he,j,hp⟩:=h;refine⟨p,u,w,he,j,hp.bind λd x t v y _ z n l m=>?_⟩;obtain⟨k,f,q⟩:=CF l m;exact⟨k,f,q.here n rfl⟩
theorem Cj{e:Ga}{f:Ev->M D}(h:FE T X e f)(he:∀ a,yw e X.env a=(do let v <-a;Xo e.pos;cg [v] (truthy v)):=by intro _;rfl):FT T X e (eT f):=by
 intro b s st H Q I j;refine o0 h he b s st H Q I ?_;obtain⟨o,r,t,g,i,hp⟩:=j;refine⟨o,r,t,g,i,hp.bind λd u p v w _ x n l m=>?_⟩;obtain⟨k,c,q⟩:=CF l m;exact⟨k,c,q.here n rfl⟩
theorem lm(h:FT T X a ta):FT T X (.UnaryOp .Not a pos) (Al ta):=by
 intro b s st H Q I f;refine IS h b s st H Q I ?_;obtain⟨k,m,n,d,e,hp⟩:=f;exact⟨k,m,n,d,e,hp.bind λc o l v p _ q j g i=>by cases g;exact i.here j rfl⟩
variable{Kg:List Ga}
theorem NE(h:FT T X a ta):FW T X (.BoolOp .And [a] pos) ta:=lW h
theorem bp(h:FT T X a ta):FW T X (.BoolOp .Or [a] pos) ta:=VS h
theorem bD(h:FT T X a ta)(hb:FW T X (.BoolOp .And (b::Kg) pos) tb):FW T X (.BoolOp .And (a::b::Kg) pos) (Xy ta tb):=by
 intro p e s st H Q I n;refine V1 h hb p e s st H Q I ?_;obtain⟨q,k,r,i,m,hp⟩:=n;refine⟨q,k,r,i,m,hp.bind λc g f v t _ l j o d=>?_⟩;cases o;cases c with
 |true=>unfold jj at d;rw[da rfl]at d ⊢;exact⟨f,k,g,i.mono l,j,d⟩
 |false=>unfold jj at d;rw[ka Ra]at d ⊢;exact d.here j rfl
theorem Rm(h:FT T X a ta)(hb:FW T X (.BoolOp .Or (b::Kg) pos) tb):FW T X (.BoolOp .Or (a::b::Kg) pos) (mm ta tb):=by
 intro p e s st H Q I n;refine EW h hb p e s st H Q I ?_;obtain⟨q,k,r,i,m,hp⟩:=n;refine⟨q,k,r,i,m,hp.bind λc g f v t _ l j o d=>?_⟩;cases o;cases c with
 |true=>unfold jj at d;rw[da rfl]at d ⊢;exact d.here j rfl
 |false=>unfold jj at d;rw[ka Ra]at d ⊢;exact⟨f,k,g,i.mono l,j,d⟩
theorem Cm{op}(h:FE T X a fa):FE T X (.BoolOp op [a] pos) fa:=pX h
theorem Mi(h:FE T X a fa)(hb:FE T X (.BoolOp .And (b::Kg) pos) fb):FE T X (.BoolOp .And (a::b::Kg) pos) (Bi fa fb):=by
 intro e s st H Q I o;refine YX h hb e s st H Q I ?_;obtain⟨t,k,u,i,n,hp⟩:=o;refine⟨t,k,u,i,n,hp.bind λd g f v w _ l j p r=>?_⟩;obtain⟨c,rfl,m,q⟩:=UB p r;refine⟨c,m,?_⟩;cases c with
 |true=>unfold jj at q;rw[da rfl]at q ⊢;exact⟨f,k,g,i.mono l,j,q⟩
 |false=>unfold jj at q;rw[ka Ra]at q ⊢;exact Ib.here q j (by rw[Rep])
theorem qS(h:FE T X a fa)(hb:FE T X (.BoolOp .Or (b::Kg) pos) fb):FE T X (.BoolOp .Or (a::b::Kg) pos) (nL fa fb):=by
 intro e s st H Q I o;refine V2 h hb e s st H Q I ?_;obtain⟨t,k,u,i,n,hp⟩:=o;refine⟨t,k,u,i,n,hp.bind λd g f v w _ l j p r=>?_⟩;obtain⟨c,rfl,m,q⟩:=UB p r;refine⟨c,m,?_⟩;cases c with
 |true=>unfold jj at q;rw[da rfl]at q ⊢;exact Ib.here q j (by rw[Rep])
 |false=>unfold jj at q;rw[ka Ra]at q ⊢;exact⟨f,k,g,i.mono l,j,q⟩
theorem mQ(h:FE T X a fa):FE T X (.UnaryOp .Not a pos) (yE fa):=by
 intro b s st H Q I i;refine tV h b s st H Q I ?_;obtain⟨m,o,p,f,g,hp⟩:=i;refine⟨m,o,p,f,g,hp.bind λd r n v t _ u l j k=>?_⟩;obtain⟨c,rfl,e,q⟩:=UB j k;exact⟨c,e,Ib.here q l (by rw[Rep])⟩
theorem iz(n:FT T X c ta)(m:FE T X a fa)(hb:FE T X b fb):FE T X (.IfExp c a b pos) (Ku ta fa fb):=by
 intro f s st H Q I p;refine eR n m hb f s st H Q I ?_;obtain⟨r,j,t,i,o,hp⟩:=p;refine⟨r,j,t,i,o,hp.bind λd h g v u _ k l q e=>?_⟩;cases q;cases d with
 |true=>unfold jj at e;rw[da rfl]at e ⊢;exact⟨g,j,h,i.mono k,l,e⟩
 |false=>unfold jj at e;rw[ka Ra]at e ⊢;exact⟨g,j,h,i.mono k,l,e⟩
variable{e:Ga}{es:List Ga}{fe:Ev->M D}{fs:Ev->M (List D)}
theorem Ta:FA T X [] Ma:=by
 intro pos a s st H Q I c;refine nv pos a s st H Q I ?_;obtain⟨e,f,g,d,b,hp⟩:=c;exact Ib.here hp b Qa.nil
theorem za(k:FE T X e fe)(b:FA T X es fs)(hs:pa (e::es) X.env=(false,Wb e X.env)::pa es X.env:=by rfl):FA T X (e::es) (ua fe fs):=by
 intro pos a s st H Q I l;refine ou k b hs pos a s st H Q I ?_;obtain⟨t,h,w,g,b,hp⟩:=l;exact⟨t,h,w,g,b,hp.bind λd f c v y _ i q m o=>⟨c,h,f,g.mono i,q,o.bind λA x u B z _ j r n p=>Ib.here p r (Qa.cons (Rep.mono j _ _ m) n)⟩⟩
theorem PD{E:XK}{μ:List Addr}{H:Hp}{σ:ub}{ds:List D}{vs:List V}{Q:VK}{p:Addr}(h:Ib T E (Rep T) μ H (.ok (.tup ds) σ) Q)(r:Rel T μ H σ)(q:Qa T μ H ds vs)(hp:H p=none):Q (.ref p) (upd H p (.tup vs)):=
 h μ (.ref p) _ (fk hp) (r.fresh hp) (by rw[Rep];exact⟨p,vs,rfl,rg,Qa.mono (fk hp) _ _ q⟩)
theorem fC{E:XK}{μ:List Addr}{H:Hp}{σ:ub}{ds:List D}{vs:List V}{Q:VK}{p:Addr}(h:Ib T E (Rep T) μ H (dz ds σ) Q)(r:Rel T μ H σ)(q:Qa T μ H ds vs)(hp:H p=none):Q (.ref p) (upd H p (.lst vs)):=
 h (μ++[p]) (.ref p) _ (Et hp) (r.push hp ⟨vs,rg,Qa.mono (Et hp) _ _ q⟩) (ly r)
theorem Hf{x1}(h:FA T X es fs):FE T X (.Tuple es x1 pos) (vf fs):=by
 intro a s st H Q I i;refine MQ h a s st H Q I ?_;obtain⟨k,m,n,f,g,hp⟩:=i;refine⟨k,m,n,f,g,hp.bind λe o l t q _ r j d b=>?_⟩;unfold ju at b;by_cases c:e.length<=Oh
 ·rw[da c]at b;exact⟨by rw[<-d.length];exact Sv c,λp hp=>PD b j d hp⟩
 ·rw[ka c]at b;exact b.elim
theorem QA(h:FA T X es fs):FE T X (.List es pos) (Tw fs):=by
 intro a s st H Q I i;refine FJ h a s st H Q I ?_;obtain⟨k,m,n,f,g,hp⟩:=i;refine⟨k,m,n,f,g,hp.bind λe o l t q _ r j d b=>?_⟩;unfold nC at b;by_cases c:e.length<=Oh
 ·rw[da c]at b;exact⟨by rw[<-d.length];exact Sv c,λp hp=>fC b j d hp⟩
 ·rw[ka c]at b;exact b.elim
theorem RA{E:XK}{μ:List Addr}{H:Hp}{σ:ub}{ds:List D}{vs:List V}{Q:VK}{p:Addr}(h:Ib T E (Rep T) μ H (.ok (.lst ds) σ) Q)(r:Rel T μ H σ)(q:Qa T μ H ds vs)(hp:H p=none):Q (.ref p) (upd H p (.lst vs)):=
 h μ (.ref p) _ (fk hp) (r.fresh hp) (by rw[Rep];exact⟨p,vs,rfl,λhm=>(by obtain⟨u,hu,_⟩:=r.mem hm;rw[hp]at hu;cases hu),rg,Qa.mono (fk hp) _ _ q⟩)
theorem ml(h:FA T X es fs):FE T X (.List es pos) (Zi fs):=by
 intro a s st H Q I i;refine FJ h a s st H Q I ?_;obtain⟨k,m,n,f,g,hp⟩:=i;refine⟨k,m,n,f,g,hp.bind λe o l t q _ r j d b=>?_⟩;unfold Kx at b;by_cases c:e.length<=Oh
 ·rw[da c]at b;exact⟨by rw[<-d.length];exact Sv c,λp hp=>RA b j d hp⟩
 ·rw[ka c]at b;exact b.elim
end
noncomputable def oI(g:Int->Int->Int):D->D->M D
 | .int i,.int j=>ret (.int (g i j))
 |_,_=>bad
noncomputable def oB(g:Int->Int->Bool):D->D->M D
 | .int i,.int j=>ret (.bl (g i j))
 |_,_=>bad
noncomputable def Bu(C:Int->Int->Bool)(g:Int->Int->Int):D->D->M D
 | .int i,.int j=>if C i j=true then ret (.int (g i j))else bad
 |_,_=>bad
noncomputable def SG(i j:Int):Bool:=hide ((decide (-(2 ^ 64)<i) && decide (i<2 ^ 64)) || (decide (-(2 ^ 64)<j) && decide (j<2 ^ 64)))
noncomputable def nG(_ j:Int):Bool:=hide (decide (0<j) && decide (j<1073741824))
noncomputable def vF(_ j:Int):Bool:=hide (decide (0<j))
noncomputable def qu(i j:Int):Bool:=hide (decide (0<=j) && decide (j<=1000000) && decide (i.natAbs<2 ^ 64))
noncomputable abbrev Xu:=oI (λi j=>i - j)
noncomputable abbrev XA:=Bu SG (λi j=>i * j)
noncomputable abbrev cB:=Bu nG (λi j=>i / j)
noncomputable abbrev wq:=Bu vF (λi j=>i % j)
noncomputable abbrev Yr:=Bu qu (λi j=>i ^ j.toNat)
noncomputable abbrev oLt:=oB (λi j=>decide (i<j))
noncomputable abbrev oLe:=oB (λi j=>decide (i<=j))
noncomputable abbrev HC:=oB (λi j=>decide (j<i))
noncomputable abbrev oD:=oB (λi j=>decide (j<=i))
noncomputable def hD:D->M D
 | .int i=>ret (.int (-i))
 |_=>bad
noncomputable def rD(T:Tb)(o:D->D->M D):R2:=λv u H Q=>∃ (E:XK) (a:List Addr) (σ:ub) (x y:D),Rel T a H σ/\Rep T a H x v/\Rep T a H y u/\Ib T E (Rep T) a H (o x y σ) Q
theorem de{T:Tb}{o:D->D->M D}:Kj T (rD T o) o:=λE a H b x y v u Q r p q h=>⟨E,a,b,x,y,r,p,q,h⟩
section
variable{T:Tb}{X:Cx}
theorem Tn{μ:List Addr}{H:Hp}{i:Int}{v:V}(h:Rep T μ H (.int i) v):v=.int i:=by simpa [Rep]using h
theorem YO{g:Int->Int->Int}:Kj T (gp λi j=>.int (g i j)) (oI g):=by
 intro E a H b x y v u Q r p q h;cases x with
 |int i=>
  cases y with
  |int j=>exact⟨i,j,Tn p,Tn q,Ib.here h r (by rw[Rep])⟩
  |_=>exact h.elim
 |_=>exact h.elim
theorem RB{g:Int->Int->Bool}:Kj T (gp λi j=>.bl (g i j)) (oB g):=by
 intro E a H b x y v u Q r p q h;cases x with
 |int i=>
  cases y with
  |int j=>exact⟨i,j,Tn p,Tn q,Ib.here h r (by rw[Rep])⟩
  |_=>exact h.elim
 |_=>exact h.elim
theorem fB{C:Int->Int->Bool}{b:Int->Int->Prop}{g:Int->Int->Int}(d:∀ i j,C i j=true->b i j):Kj T (rI b λi j=>.int (g i j)) (Bu C g):=by
 intro E f H k x y v u Q r p q h;cases x with
 |int i=>
  cases y with
  |int j=>
   by_cases a:C i j=true
   ·have c:Ib T E (Rep T) f H (ret (.int (g i j)) k) Q:=by
     have e:Bu C g (.int i) (.int j)=ret (.int (g i j)):=by show (if C i j=true then _ else _)=_;rw[da a]
     rw[e]at h;exact h
    exact⟨i,j,Tn p,Tn q,d i j a,Ib.here c r (by rw[Rep])⟩
   ·have e:Bu C g (.int i) (.int j)=bad:=by show (if C i j=true then _ else _)=_;rw[ka a]
    rw[e]at h;exact h.elim
  |_=>exact h.elim
 |_=>exact h.elim
theorem cw:Kj T (gp λi j=>.int (i - j)) Xu:=YO
theorem AZ:Kj T (rI yB λi j=>.int (i * j)) XA:=fB λi j h=>by
 simp only[SG,sq,sf,ya,Fc]at h;exact h
theorem fR:Kj T (rI AN λi j=>.int (i / j)) cB:=fB λi j h=>by
 simp only[nG,sq,ya,Fc]at h;exact h
theorem Tu:Kj T (rI (λ_ j=>0<j) λi j=>.int (i % j)) wq:=fB λi j h=>by
 simp only[vF,sq,Fc]at h;exact h
theorem xF:Kj T (rI PL λi j=>.int (i ^ j.toNat)) Yr:=fB λi j h=>by
 simp only[qu,sq,ya,Fc]at h;exact⟨h.1.1,h.1.2,h.2⟩
theorem lx:Kj T (gp λi j=>.bl (decide (i<j))) oLt:=RB
theorem oJ:Kj T (gp λi j=>.bl (decide (i<=j))) oLe:=RB
theorem nE:Kj T (gp λi j=>.bl (decide (j<i))) HC:=RB
theorem nI:Kj T (gp λi j=>.bl (decide (j<=i))) oD:=RB
theorem XV:HN T (rU λi=>.int (-i)) hD:=by
 intro E a H b x v Q r p h;cases x with
 |int i=>exact⟨i,Tn p,Ib.here h r (by rw[Rep])⟩
 |_=>exact h.elim
end
noncomputable def sc:D->Option V
 | .Jb=>some .Jb
 | .bl b=>some (.bl b)
 | .int i=>some (.int i)
 | .str x=>some (.str x)
 |_=>none
noncomputable def gi(σ:ub)(n:Nat):Option (List D):=match σ[n]? with
 |some (.lst xs)=>some xs
 |_=>none
theorem TM{σ:ub}{n:Nat}{xs:List D}(h:gi σ n=some xs):σ[n]?=some (.lst xs):=by
 unfold gi at h;cases e:σ[n]? with
 |none=>rw[e]at h;cases h
 |some o=>rw[e]at h;cases o<;>simp at h;subst h;rfl
inductive Kd where
 |s (v:V)|t (xs:List D)|l (xs:List D)|o
noncomputable def kd(σ:ub):D->Kd
 | .Jb=>.s .Jb
 | .bl b=>.s (.bl b)
 | .int i=>.s (.int i)
 | .str x=>.s (.str x)
 | .tup xs=>.t xs
 | .lst xs=>.l xs
 | .ref n=>match gi σ n with
  |some xs=>.l xs
  |none=>.o
 |_=>.o
noncomputable def Bm(f:D->D->Option Bool):List D->List D->Option Bool
 |[],[]=>some true
 |[],_::_=>some false
 |_::_,[]=>some false
 |x::xs,y::a=>match f x y,Bm f xs a with
  |some b,some c=>some (b && c)
  |_,_=>none
noncomputable def zn(f:D->D->Option Bool):Kd->Kd->Option Bool
 | .s a,.s b=>some (Lj a b)
 | .t xs,.t c=>Bm f xs c
 | .l xs,.l c=>Bm f xs c
 | .s _,.t _=>some false
 | .t _,.s _=>some false
 | .s _,.l _=>some false
 | .l _,.s _=>some false
 | .t _,.l _=>some false
 | .l _,.t _=>some false
 |_,_=>none
noncomputable def Wi(σ:ub):Nat->D->D->Option Bool
 |0,x,y=>zn (λ_ _=>none) (kd σ x) (kd σ y)
 |n+1,x,y=>zn (Wi σ n) (kd σ x) (kd σ y)
noncomputable def tq(f:D->D->Option Bool)(xs ys:List D)(j:Nat):Bool:=match xs[j]?,ys[j]? with
 |some a,some b=>(f a b).getD false
 |_,_=>false
theorem fM(f:D->D->Option Bool):∀ (xs ys:List D) (b:Bool),Bm f xs ys=some b->
  (∀ (j:Nat) (a c:D),xs[j]?=some a->ys[j]?=some c->∃ k,f a c=some k)/\b=((List.range (min xs.length ys.length)).all (tq f xs ys) && xs.length == ys.length)
 |[],[],b,h=>by simp[Bm]at h;subst h;simp
 |[],y::ys,b,h=>by simp[Bm]at h;subst h;simp
 |x::xs,[],b,h=>by simp[Bm]at h;subst h;simp
 |x::xs,y::ys,b,h=>by
  unfold Bm at h;cases d:f x y with
  |none=>rw[d]at h;cases h
  |some b1=>
   cases e:Bm f xs ys with
   |none=>rw[d,e]at h;cases h
   |some l=>
    rw[d,e]at h;cases h;obtain⟨h1,r⟩:=fM f xs ys l e;refine⟨λj a c g i=>?_,?_⟩
    ·cases j with
     |zero=>simp at g i;subst g;subst i;exact⟨b1,d⟩
     |succ j=>exact h1 j a c (by simpa using g) (by simpa using i)
    ·have m:min (x::xs).length (y::ys).length=min xs.length ys.length+1:=by simp[Nat.succ_min_succ]
     have n:∀ j,tq f (x::xs) (y::ys) (j+1)=tq f xs ys j:=λj=>by simp[tq]
     have o:tq f (x::xs) (y::ys) 0=b1:=by simp[tq,d]
     rw[m,To,lf,Uo,o,r];have p:(tq f (x::xs) (y::ys) ∘ Nat.succ)=tq f xs ys:=funext λj=>n j;have q:((x::xs).length == (y::ys).length)=(xs.length == ys.length):=by simp
     rw[p,q,ev]
section
variable{T:Tb}{μ:List Addr}{H:Hp}{σ:ub}
theorem Rel.lst(r:Rel T μ H σ){n:Nat}{v:V}{xs:List D}(h:Rep T μ H (.ref n) v)(e:gi σ n=some xs):∃ a vs,v=.ref a/\μ[n]?=some a/\H a=some (.lst vs)/\Qa T μ H xs vs:=by
 obtain⟨a,rfl,h1,vs,b,h3⟩:=r.at h (TM e);exact⟨a,vs,rfl,h1,b,h3⟩
theorem sB{d:D}{v a:V}(h:Rep T μ H d v)(e:sc d=some a):v=a:=by
 cases d<;>simp[sc]at e<;>subst e<;>simpa [Rep]using h
theorem GH{d:D}{a:V}(e:sc d=some a):Th a=true:=by
 cases d<;>simp[sc]at e<;>subst e<;>rfl
theorem QW{a:V}(h:Th a=true):Lj a a=true:=by cases a<;>simp[Th,Lj]at h ⊢
theorem Du(r:Rel T μ H σ){d:D}{v:V}(h:Rep T μ H d v):match kd σ d with
  | .s a=>v=a/\Th a=true
  | .t xs=>∃ p c,v=.ref p/\H p=some (.tup c)/\Qa T μ H xs c
  | .l xs=>∃ p c,v=.ref p/\H p=some (.lst c)/\Qa T μ H xs c
  | .o=>True:=by
 cases d with
 |Jb=>exact⟨by simpa [Rep]using h,rfl⟩
 |bl b=>exact⟨by simpa [Rep]using h,rfl⟩
 |int b=>exact⟨by simpa [Rep]using h,rfl⟩
 |str b=>exact⟨by simpa [Rep]using h,rfl⟩
 |tup xs=>rw[Rep]at h;exact h
 |lst xs=>rw[Rep]at h;obtain⟨a,c,h1,_,f,h3⟩:=h;exact⟨a,c,h1,f,h3⟩
 |ref n=>
  unfold kd;dsimp only;cases e:gi σ n with
  |none=>trivial
  |some xs=>obtain⟨a,c,h1,_,f,h3⟩:=r.lst h e;exact⟨a,c,h1,f,h3⟩
 |_=>trivial
theorem pG{f:D->D->Option Bool}(g:∀ (x y:D) (v:V) (b:Bool),Rep T μ H x v->Rep T μ H y v->f x y=some b->b=true):∀ (xs ys:List D) (vs:List V) (b:Bool),Qa T μ H xs vs->Qa T μ H ys vs->Bm f xs ys=some b->b=true
 |[],ys,vs,b,c,a,h=>by
  rw[Qa]at c;subst c;cases ys with
  |nil=>simp[Bm]at h;exact h
  |cons y ys=>rw[Qa]at a;obtain⟨_,_,z,_⟩:=a;cases z
 |x::xs,ys,vs,b,c,a,h=>by
  rw[Qa]at c;obtain⟨v,r,rfl,k,m⟩:=c;cases ys with
  |nil=>rw[Qa]at a;cases a
  |cons y ys=>
   rw[Qa]at a;obtain⟨p,o,z,l,n⟩:=a;cases z;unfold Bm at h;cases d:f x y with
   |none=>rw[d]at h;cases h
   |some i=>
    cases e:Bm f xs ys with
    |none=>rw[d,e]at h;cases h
    |some j=>
     rw[d,e]at h;cases h;rw[g x y v i k l d,pG g xs ys r j m n e];rfl
theorem qG(r:Rel T μ H σ){f:D->D->Option Bool}(A:∀ (x y:D) (v:V) (b:Bool),Rep T μ H x v->Rep T μ H y v->f x y=some b->b=true){x y:D}{v:V}{b:Bool}(B:Rep T μ H x v)(C:Rep T μ H y v)(h:zn f (kd σ x) (kd σ y)=some b):b=true:=by
 have n:=Du r B;have g:=Du r C;generalize kd σ x=E at h n;generalize kd σ y=u at h g;cases E with
 |s a=>
  obtain⟨rfl,i⟩:=n;cases u with
  |s c=>obtain⟨rfl,_⟩:=g;cases h;exact QW i
  |t xs=>obtain⟨p,k,rfl,_⟩:=g;simp[Th]at i
  |l xs=>obtain⟨p,k,rfl,_⟩:=g;simp[Th]at i
  |o=>cases h
 |t xs=>
  obtain⟨p,k,rfl,h1,w⟩:=n;cases u with
  |s c=>obtain⟨e,i⟩:=g;rw[<-e]at i;simp[Th]at i
  |t m=>
   obtain⟨q,z,e,d,j⟩:=g;cases e;rw[h1]at d;cases d;exact pG A xs m k b w j h
  |l m=>obtain⟨q,z,e,d,j⟩:=g;cases e;rw[h1]at d;cases d
  |o=>cases h
 |l xs=>
  obtain⟨p,k,rfl,h1,w⟩:=n;cases u with
  |s c=>obtain⟨e,i⟩:=g;rw[<-e]at i;simp[Th]at i
  |t m=>obtain⟨q,z,e,d,j⟩:=g;cases e;rw[h1]at d;cases d
  |l m=>
   obtain⟨q,z,e,d,j⟩:=g;cases e;rw[h1]at d;cases d;exact pG A xs m k b w j h
  |o=>cases h
 |o=>cases h
theorem VI(r:Rel T μ H σ):∀ (n:Nat) (x y:D) (v:V) (b:Bool),Rep T μ H x v->Rep T μ H y v->Wi σ n x y=some b->b=true
 |0,x,y,v,b,a,c,h=>qG r (λ_ _ _ _ _ _ z=>by cases z) a c h
 |n+1,x,y,v,b,a,c,h=>qG r (λx y v b a1 a2 d=>VI r n x y v b a1 a2 d) a c h
end
section
variable{T:Tb}{X:Cx}{pins:List (Addr × gc)}{st:St}{μ:List Addr}{H:Hp}{s:aa}{σ:ub}
theorem kC{A:Da}{a:V}{u:Value}{p:Addr}{its:Array Value}(c:Th a=true)(r:Qc a u)(hp:s.heap.IsTuple p its)(hu:A.units<cLine):Vc A s u (.ref p) false/\Vc A s (.ref p) u false/\Og A s u (.ref p) false/\Og A s (.ref p) u false/\Jg A s u (.ref p) true/\Jg A s (.ref p) u true:=by
 cases a with
 |Jb=>cases r;exact⟨.none_tuple hp hu,.tuple_none hp hu,.none_tuple hp hu,.tuple_none hp hu,.none_tuple hp hu,.tuple_none hp hu⟩
 |bl b=>cases r;exact⟨.bool_tuple b hp hu,.tuple_bool b hp hu,.bool_tuple b hp hu,.tuple_bool b hp hu,.bool_tuple b hp hu,.tuple_bool b hp hu⟩
 |int b=>obtain⟨t,rfl⟩:=r;exact⟨.int_tuple b t hp hu,.tuple_int b t hp hu,.int_tuple b t hp hu,.tuple_int b t hp hu,.int_tuple b t hp hu,.tuple_int b t hp hu⟩
 |str b=>obtain⟨t,rfl⟩:=r;exact⟨.str_tuple b t hp hu,.tuple_str b t hp hu,.str_tuple b t hp hu,.tuple_str b t hp hu,.str_tuple b t hp hu,.tuple_str b t hp hu⟩
 |_=>simp[Th]at c
theorem bM{A:Da}{a:V}{u:Value}{p:Addr}{its:Array Value}(c:Th a=true)(r:Qc a u)(hp:s.heap.IsList p its)(hu:A.units<cLine):Og A s u (.ref p) false/\Og A s (.ref p) u false/\Jg A s u (.ref p) true/\Jg A s (.ref p) u true:=by
 cases a with
 |Jb=>cases r;exact⟨.none_list hp hu,.list_none hp hu,.none_list hp hu,.list_none hp hu⟩
 |bl b=>cases r;exact⟨.bool_list b hp hu,.list_bool b hp hu,.bool_list b hp hu,.list_bool b hp hu⟩
 |int b=>obtain⟨t,rfl⟩:=r;exact⟨.int_list b t hp hu,.list_int b t hp hu,.int_list b t hp hu,.list_int b t hp hu⟩
 |str b=>obtain⟨t,rfl⟩:=r;exact⟨.str_list b t hp hu,.list_str b t hp hu,.str_list b t hp hu,.list_str b t hp hu⟩
 |_=>simp[Th]at c
theorem PP{A:Da}{a:V}{u:Value}{p:Addr}{its:Array Value}(c:Th a=true)(r:Qc a u)(hp:s.heap.IsList p its)(hu:A.units<cLine):Vc A s u (.ref p) false:=by
 cases a with
 |Jb=>cases r;exact .none_list hp hu
 |bl b=>cases r;exact .bool_list b hp hu
 |int b=>obtain⟨t,rfl⟩:=r;exact .int_list b t hp hu
 |str b=>obtain⟨t,rfl⟩:=r;exact .str_list b t hp hu
 |_=>simp[Th]at c
theorem LS{A:Da}{a:V}{u:Value}{p:Addr}{its:Array Value}(c:Th a=true)(r:Qc a u)(hp:s.heap.IsList p its)(hu:A.units<cLine):Vc A s (.ref p) u false:=by
 cases a with
 |Jb=>cases r;exact .list_none hp hu
 |bl b=>cases r;exact .list_bool b hp hu
 |int b=>obtain⟨t,rfl⟩:=r;exact .list_int b t hp hu
 |str b=>obtain⟨t,rfl⟩:=r;exact .list_str b t hp hu
 |_=>simp[Th]at c
theorem RO{A:Da}{a b:V}{u w:Value}(f:Qc a u)(d:Qc b w)(g:Th a=true)(e:Th b=true):Og A s u w (Lj a b)/\Jg A s u w (!Lj a b):=by
 cases a with
 |Jb=>
  cases f;cases b with
  |Jb=>cases d;exact⟨.none_none,.none_none⟩
  |bl y=>cases d;exact⟨.none_bool y,.none_bool y⟩
  |int y=>obtain⟨t,rfl⟩:=d;exact⟨.none_int y t,.none_int y t⟩
  |str y=>obtain⟨t,rfl⟩:=d;exact⟨.none_str y t,.none_str y t⟩
  |_=>simp[Th]at e
 |bl x=>
  cases f;cases b with
  |Jb=>cases d;exact⟨.bool_none x,.bool_none x⟩
  |bl y=>cases d;exact⟨.bool_bool x y,.bool_bool x y⟩
  |int y=>obtain⟨t,rfl⟩:=d;exact⟨.bool_int x y t,.bool_int x y t⟩
  |str y=>obtain⟨t,rfl⟩:=d;exact⟨.bool_str x y t,.bool_str x y t⟩
  |_=>simp[Th]at e
 |int x=>
  obtain⟨c,rfl⟩:=f;cases b with
  |Jb=>cases d;exact⟨.int_none x c,.int_none x c⟩
  |bl y=>cases d;exact⟨.int_bool x c y,.int_bool x c y⟩
  |int y=>obtain⟨t,rfl⟩:=d;exact⟨.int_int x c y t,.int_int x c y t⟩
  |str y=>obtain⟨t,rfl⟩:=d;exact⟨.int_str x c y t,.int_str x c y t⟩
  |_=>simp[Th]at e
 |str x=>
  obtain⟨c,rfl⟩:=f;cases b with
  |Jb=>cases d;exact⟨.str_none x c,.str_none x c⟩
  |bl y=>cases d;exact⟨.str_bool x c y,.str_bool x c y⟩
  |int y=>obtain⟨t,rfl⟩:=d;exact⟨.str_int x c y t,.str_int x c y t⟩
  |str y=>obtain⟨t,rfl⟩:=d;exact⟨.str_str x c y t,.str_str x c y t⟩
  |_=>simp[Th]at e
 |_=>simp[Th]at g
theorem LA{xs:List V}{us:List Value}{i:Nat}{u:Value}(r:Od xs us)(h:us[i]?=some u):∃ x,xs[i]?=some x/\Qc x u:=by
 have c:=r.length;have b:=(ja.mp h).1;obtain⟨d,h1,a⟩:=r.get (i:=i) (x:=xs[i]'(by omega)) (by simp);rw[h]at h1;cases h1;exact⟨_,by simp,a⟩
theorem zE{ds:List D}{vs:List V}{i:Nat}{v:V}(r:Qa T μ H ds vs)(h:vs[i]?=some v):∃ d,ds[i]?=some d/\Rep T μ H d v:=by
 have c:=r.length;have b:=(ja.mp h).1;obtain⟨e,h1,a⟩:=r.get (i:=i) (d:=ds[i]'(by omega)) (by simp);rw[h]at h1;cases h1;exact⟨_,by simp,a⟩
theorem AE{A:Da}{f:D->D->Option Bool}(C:∀ (x y:D) (v w:V) (p q:Value) (b:Bool),Rep T μ H x v->Rep T μ H y w->Qc v p->Qc w q->f x y=some b->Vc A s p q b)
  {xs ys:List D} {vs r:List V} {us zs:List Value} {b:Bool} (n:Qa T μ H xs vs) (o:Qa T μ H ys r) (l:Od vs us) (m:Od r zs) (h:Bm f xs ys=some b) :
  (∀ j (h1:j<us.toArray.size) (g:j<zs.toArray.size),Vc A s us.toArray[j] zs.toArray[j] (tq f xs ys j))/\b=((List.range (min us.toArray.size zs.toArray.size)).all (tq f xs ys) && us.toArray.size == zs.toArray.size):=by
 obtain⟨h1,g⟩:=fM f xs ys b h;have l1:=n.length;have E:=o.length;have F:=l.length;have G:=m.length;refine⟨λj K g2=>?_,?_⟩
 ·obtain⟨v,t,J⟩:=LA (i:=j) (u:=us.toArray[j]) l (by simp);obtain⟨w,z,a⟩:=LA (i:=j) (u:=zs.toArray[j]) m (by simp);obtain⟨x,c,I⟩:=zE n t;obtain⟨y,d,p4⟩:=zE o z;obtain⟨k,e⟩:=h1 j x y c d;have B:tq f xs ys j=k:=by simp[tq,c,d,e]
  rw[B];exact C x y v w _ _ k I p4 J a e
 ·simp only[va];rw[g,l1,E,F,G]
noncomputable abbrev kJ(A:Da)(s:aa)(v w:Value)(b:Bool):Prop:=Og A s v w b/\Jg A s v w (!b)
theorem tD{A:Da}(I:Inv X pins st H s)(r:Rel T μ H σ)(hu:A.units+1<cLine){f:D->D->Option Bool}
  (Y:∀ (x y:D) (v w:V) (M N:Value) (b:Bool),Rep T μ H x v->Rep T μ H y w->Qc v M->Qc w N->f x y=some b->Vc A.in1 s M N b)
  {x y:D} {v w:V} {M N:Value} {b:Bool} (Z:Rep T μ H x v) (hy:Rep T μ H y w) (L:Qc v M) (d:Qc w N) (h:zn f (kd σ x) (kd σ y)=some b):kJ A s M N b:=by
 have g:A.units<cLine:=by omega
 have P:=Du r Z;have m:=Du r hy;generalize kd σ x=k1 at h P;generalize kd σ y=R at h m;cases k1 with
 |o=>cases h
 |s a=>
  obtain⟨rfl,Q⟩:=P;cases R with
  |o=>cases h
  |s c=>obtain⟨rfl,G⟩:=m;cases h;exact RO L d Q G
  |t C=>
   obtain⟨q,O,rfl,j,z⟩:=m;cases h;cases d;obtain⟨k,_,u,_⟩:=L2.Inv.tuple I (nh.of (K:=X.K) j);obtain⟨_,_,a1,a2,E,F⟩:=kC Q L u g;exact⟨a1,E⟩
  |l C=>
   obtain⟨q,O,rfl,j,z⟩:=m;cases h;cases d;obtain⟨k,_,pl,_⟩:=L2.Inv.list I (Me.of (K:=X.K) j);obtain⟨a1,a2,E,F⟩:=bM Q L pl.isList g;exact⟨a1,E⟩
 |t xs=>
  obtain⟨p,vs,rfl,h1,W⟩:=P;cases L;obtain⟨k,S,hp,_⟩:=L2.Inv.tuple I (nh.of (K:=X.K) h1);cases R with
  |o=>cases h
  |s c=>
   obtain⟨rfl,G⟩:=m;cases h;obtain⟨_,_,a1,a2,E,F⟩:=kC G d hp g;exact⟨a2,F⟩
  |t C=>
   obtain⟨q,O,rfl,j,z⟩:=m;cases d;obtain⟨i,U,u,_⟩:=L2.Inv.tuple I (nh.of (K:=X.K) j);obtain⟨J,g2⟩:=AE (A:=A.in1) Y W z S U h;rw[g2];exact⟨.tuples hp u (by omega) J,.tuples hp u (by omega) J⟩
  |l C=>
   obtain⟨q,O,rfl,j,z⟩:=m;cases h;cases d;obtain⟨i,_,pl,_⟩:=L2.Inv.list I (Me.of (K:=X.K) j);exact⟨.tuple_list hp pl.isList g,.tuple_list hp pl.isList g⟩
 |l xs=>
  obtain⟨p,vs,rfl,h1,W⟩:=P;cases L;obtain⟨k,S,pl,_⟩:=L2.Inv.list I (Me.of (K:=X.K) h1);cases R with
  |o=>cases h
  |s c=>
   obtain⟨rfl,G⟩:=m;cases h;obtain⟨a1,a2,E,F⟩:=bM G d pl.isList g;exact⟨a2,F⟩
  |t C=>
   obtain⟨q,O,rfl,j,z⟩:=m;cases h;cases d;obtain⟨i,_,u,_⟩:=L2.Inv.tuple I (nh.of (K:=X.K) j);exact⟨.list_tuple pl.isList u g,.list_tuple pl.isList u g⟩
  |l C=>
   obtain⟨q,O,rfl,j,z⟩:=m;cases d;obtain⟨i,U,n,_⟩:=L2.Inv.list I (Me.of (K:=X.K) j);obtain⟨J,g2⟩:=AE (A:=A.in1) Y W z S U h;by_cases B:k.toArray.size=i.toArray.size
   ·have e:b=(List.range k.toArray.size).all (tq f xs C):=by rw[g2,<-B];simp
    rw[e];exact⟨.lists pl.isList n.isList B (by omega) J,.lists pl.isList n.isList B (by omega) J⟩
   ·have e:b=false:=by rw[g2,Ld.mpr B,bv]
    rw[e];exact⟨.lists_lengths pl.isList n.isList (by simpa using B) (by omega),.lists_lengths pl.isList n.isList (by simpa using B) (by omega)⟩
theorem oK{A:Da}(I:Inv X pins st H s)(r:Rel T μ H σ)(hu:A.units+1<cLine){f:D->D->Option Bool}
  (Q:∀ (x y:D) (v w:V) (F G:Value) (b:Bool),Rep T μ H x v->Rep T μ H y w->Qc v F->Qc w G->f x y=some b->Vc A.in1 s F G b)
  (hs:∀ (x y:D) (v:V) (b:Bool),Rep T μ H x v->Rep T μ H y v->f x y=some b->b=true)
  {x y:D} {v w:V} {F G:Value} {b:Bool} (J:Rep T μ H x v) (L:Rep T μ H y w) (n:Qc v F) (d:Qc w G) (h:zn f (kd σ x) (kd σ y)=some b):Vc A s F G b:=by
 have k:A.units<cLine:=by omega
 have M:=(tD I r hu Q J L n d h).1;by_cases i:v=w
 ·subst i;have hb:=qG r hs J L h;have m:=Du r J;have g:=Du r L;generalize kd σ x=O at h m;generalize kd σ y=E at h g;cases O with
  |o=>cases h
  |s a=>
   obtain⟨rfl,j⟩:=m;cases E with
   |o=>cases h
   |s c=>obtain⟨rfl,u⟩:=g;cases h;exact uF n d j u
   |t C=>obtain⟨q,B,e,_⟩:=g;rw[e]at j;simp[Th]at j
   |l C=>obtain⟨q,B,e,_⟩:=g;rw[e]at j;simp[Th]at j
  |t xs=>
   obtain⟨p,P,rfl,_⟩:=m;cases n;cases d;rw[hb];exact Gj _
  |l xs=>
   obtain⟨p,P,rfl,_⟩:=m;cases n;cases d;rw[hb];exact Gj _
 ·have m:=Du r J;have g:=Du r L;generalize kd σ x=O at h m;generalize kd σ y=E at h g;cases O with
  |o=>cases h
  |s a=>
   obtain⟨rfl,j⟩:=m;cases E with
   |o=>cases h
   |s c=>obtain⟨rfl,u⟩:=g;cases h;exact uF n d j u
   |t C=>
    obtain⟨q,B,rfl,N,U⟩:=g;cases h;cases d;obtain⟨z,_,R,_⟩:=L2.Inv.tuple I (nh.of (K:=X.K) N);exact(kC j n R k).1
   |l C=>
    obtain⟨q,B,rfl,N,U⟩:=g;cases h;cases d;obtain⟨z,_,pl,_⟩:=L2.Inv.list I (Me.of (K:=X.K) N);exact PP j n pl.isList k
  |t xs=>
   obtain⟨p,P,rfl,h1,S⟩:=m;cases n;cases E with
   |o=>cases h
   |s c=>
    obtain⟨rfl,u⟩:=g;cases h;obtain⟨z,_,hp,_⟩:=L2.Inv.tuple I (nh.of (K:=X.K) h1);exact(kC u d hp k).2.1
   |t C=>obtain⟨q,B,rfl,_⟩:=g;cases d;exact .of_refs (λe=>i (by rw[e])) M
   |l C=>obtain⟨q,B,rfl,_⟩:=g;cases d;exact .of_refs (λe=>i (by rw[e])) M
  |l xs=>
   obtain⟨p,P,rfl,h1,S⟩:=m;cases n;cases E with
   |o=>cases h
   |s c=>
    obtain⟨rfl,u⟩:=g;cases h;obtain⟨z,_,pl,_⟩:=L2.Inv.list I (Me.of (K:=X.K) h1);exact LS u d pl.isList k
   |t C=>obtain⟨q,B,rfl,_⟩:=g;cases d;exact .of_refs (λe=>i (by rw[e])) M
   |l C=>obtain⟨q,B,rfl,_⟩:=g;cases d;exact .of_refs (λe=>i (by rw[e])) M
theorem wB(I:Inv X pins st H s)(r:Rel T μ H σ):∀ (n:Nat) (A:Da) (x y:D) (v w:V) (c d:Value) (b:Bool),A.units+n+1<cLine->Rep T μ H x v->Rep T μ H y w->Qc v c->Qc w d->Wi σ n x y=some b->Vc A s c d b
 |0,A,x,y,v,w,c,d,b,hu,f,g,i,a,h=>oK I r (by omega) (λ_ _ _ _ _ _ _ _ _ _ _ z=>by cases z) (λ_ _ _ _ _ _ z=>by cases z) f g i a h
 |n+1,A,x,y,v,w,c,d,b,hu,f,g,i,a,h=>oK I r (by omega) (λx y v w c d b a1 a2 e j k=>wB I r n A.in1 x y v w c d b (by show A.units+1+n+1<cLine;omega) a1 a2 e j k) (λx y v b a1 a2 e=>VI r n x y v b a1 a2 e) f g i a h
theorem rK{A:Da}(I:Inv X pins st H s)(r:Rel T μ H σ)(n:Nat)(hu:A.units+n+1<cLine){x y:D}{v w:V}{c d:Value}{b:Bool}(e:Rep T μ H x v)(f:Rep T μ H y w)(g:Qc v c)(a:Qc w d)(h:Wi σ n x y=some b):kJ A s c d b:=by
 cases n with
 |zero=>exact tD I r (by omega) (λ_ _ _ _ _ _ _ _ _ _ _ z=>by cases z) e f g a h
 |succ n=>exact tD I r (by omega) (λx y v w c d b a1 a2 i j k=>wB I r n A.in1 x y v w c d b (by show A.units+1+n+1<cLine;omega) a1 a2 i j k) e f g a h
end
section
variable{T:Tb}{X:Cx}{pins:List (Addr × gc)}{st:St}{μ:List Addr}{H:Hp}{s:aa}{σ:ub}
noncomputable def oEq(x y:D):M D:=λσ=>match Wi σ 8 x y with
 |some b=>.ok (.bl b) σ
 |none=>.bad
noncomputable def di(x y:D):M D:=λσ=>match Wi σ 8 x y with
 |some b=>.ok (.bl (!b)) σ
 |none=>.bad
theorem Vg(hu:X.A.units+9<cLine):gh X (Ab .Eq) (rD T oEq):=by
 intro pins s st H v u i g Q I f d h;obtain⟨E,μ,σ,x,y,r,a,c,hp⟩:=h;unfold oEq at hp;cases e:Wi σ 8 x y with
 |none=>rw[e]at hp;exact hp.elim
 |some b=>
  rw[e]at hp;have:=(rK I r 8 (by omega) a c f d e).1 X.prog X.w X.xe (EP X pins st Q) ⟨.bl b,H,I,rfl,Ib.here hp r (by rw[Rep])⟩;exact this
theorem Qn(hu:X.A.units+9<cLine):gh X (Ab .NotEq) (rD T di):=by
 intro pins s st H v u i g Q I f d h;obtain⟨E,μ,σ,x,y,r,a,c,hp⟩:=h;unfold di at hp;cases e:Wi σ 8 x y with
 |none=>rw[e]at hp;exact hp.elim
 |some b=>
  rw[e]at hp;have:=(rK I r 8 (by omega) a c f d e).2 X.prog X.w X.xe (EP X pins st Q) ⟨.bl (!b),H,I,rfl,Ib.here hp r (by rw[Rep])⟩;exact this
noncomputable def Os(x y:D):M D:=λσ=>match y with
 | .Jb=>(match x with
  | .Jb=>.ok (.bl true) σ
  |_=>.ok (.bl false) σ)
 |_=>.bad
noncomputable def ED(x y:D):M D:=λσ=>match y with
 | .Jb=>(match x with
  | .Jb=>.ok (.bl false) σ
  |_=>.ok (.bl true) σ)
 |_=>.bad
theorem aN{x:D}{v:V}(h:Rep T μ H x v):decide (v=.Jb)=(match x with | .Jb=>true|_=>false):=by
 cases x with
 |Jb=>rw[Rep]at h;subst h;rfl
 |tup ds=>rw[Rep]at h;obtain⟨p,_,rfl,_⟩:=h;simp
 |Lf ds=>rw[Rep]at h;obtain⟨p,rfl,_⟩:=h;simp
 |ref ds=>rw[Rep]at h;obtain⟨p,rfl,_⟩:=h;simp
 |lst ds=>rw[Rep]at h;obtain⟨p,_,rfl,_⟩:=h;simp
 |Lb a ds=>rw[Rep]at h;obtain⟨p,_,rfl,_⟩:=h;simp
 |obj c a ds=>rw[Rep]at h;obtain⟨p,_,_,rfl,_⟩:=h;simp
 |pq c=>rw[Rep]at h;obtain⟨p,_,rfl,_⟩:=h;simp
 |gt ds=>rw[Rep]at h;obtain⟨p,rfl,_⟩:=h;simp
 |_=>rw[Rep]at h;subst h;simp
theorem oC:Kj T (λx y H Q=>y=.Jb/\Q (.bl (decide (x=.Jb))) H) Os:=by
 intro E μ H σ x y v u Q r p q h;cases y with
 |Jb=>
  refine⟨by rw[Rep]at q;exact q,?_⟩;rw[aN p];cases x<;>exact Ib.here h r (by rw[Rep])
 |_=>exact h.elim
theorem ZY:Kj T (λx y H Q=>y=.Jb/\Q (.bl (!decide (x=.Jb))) H) ED:=by
 intro E μ H σ x y v u Q r p q h;cases y with
 |Jb=>
  refine⟨by rw[Rep]at q;exact q,?_⟩;rw[aN p];cases x<;>exact Ib.here h r (by rw[Rep]<;>rfl)
 |_=>exact h.elim
theorem qZ{ds:List D}{vs:List V}{k:Int}{d:D}(r:Qa T μ H ds vs)(h:Am ds k=some d):∃ v,Am vs k=some v/\Rep T μ H d v:=by
 unfold Am at h ⊢;rw[<-r.length];cases e:gw ds.length k with
 |none=>rw[e]at h;cases h
 |some j=>rw[e]at h;exact r.get h
theorem iB:∀ (ns:List Int),Qa T μ H (ns.map D.int) (ns.map V.int)
 |[]=>Qa.nil
 |n::ns=>Qa.cons (by rw[Rep]) (iB ns)
noncomputable def Vk(σ:ub):D->Option (List D)
 | .tup xs=>some xs
 | .Lf ns=>some (ns.map D.int)
 | .ref n=>gi σ n
 | .lst xs=>some xs
 | .gt ss=>some (ss.map D.str)
 |_=>none
noncomputable def Ua(x i:D):M D:=λσ=>match i with
 | .int k=>(match Vk σ x with
  |some xs=>(match Am xs k with
   |some d=>.ok d σ
   |none=>.bad)
  |none=>.bad)
 |_=>.bad
theorem bB:∀ (ss:List ma),Qa T μ H (ss.map D.str) (ss.map V.str)
 |[]=>Qa.nil
 |n::ns=>Qa.cons (by rw[Rep]) (bB ns)
theorem iw(r:Rel T μ H σ){x:D}{v:V}{xs:List D}(h:Rep T μ H x v)(e:Vk σ x=some xs):∃ p vs,v=.ref p/\Qa T μ H xs vs/\(Me T.K H p vs\/nh T.K H p vs):=by
 cases x with
 |tup ds=>cases e;rw[Rep]at h;obtain⟨p,vs,rfl,h1,b⟩:=h;exact⟨p,vs,rfl,b,.inr (nh.of h1)⟩
 |Lf ns=>cases e;rw[Rep]at h;obtain⟨p,rfl,h1⟩:=h;exact⟨p,_,rfl,iB ns,.inl h1.seq⟩
 |ref n=>obtain⟨a,vs,rfl,_,h1,b⟩:=r.lst h e;exact⟨a,vs,rfl,b,.inl (Me.of h1)⟩
 |lst ds=>cases e;rw[Rep]at h;obtain⟨p,vs,rfl,_,h1,b⟩:=h;exact⟨p,vs,rfl,b,.inl (Me.of h1)⟩
 |gt ss=>cases e;rw[Rep]at h;obtain⟨p,rfl,h1⟩:=h;exact⟨p,_,rfl,bB ss,.inr (.inr h1)⟩
 |_=>cases e
theorem lc(g:T.K=X.K):Kj T (λx y H Q=>lE X.K x y H Q\/jD X.K x y H Q) Ua:=by
 intro E μ H σ x y v u Q r p q h;cases y with
 |int k=>
  unfold Ua at h;cases e:Vk σ x with
  |none=>simp only[e]at h;exact h.elim
  |some xs=>
   simp only[e]at h;cases c:Am xs k with
   |none=>rw[c]at h;exact h.elim
   |some d=>
    rw[c]at h;obtain⟨a,f,rfl,h1,b⟩:=iw r p e;obtain⟨w,h3,h4⟩:=qZ h1 c;rw[g]at b;rcases b with b|b
    ·exact .inl ⟨a,f,k,w,rfl,Tn q,b,h3,Ib.here h r h4⟩
    ·exact .inr ⟨a,f,k,w,rfl,Tn q,b,h3,Ib.here h r h4⟩
 |_=>exact h.elim
theorem pc:Xt X (λx y H Q=>lE X.K x y H Q\/jD X.K x y H Q):=Q0.or HQ
noncomputable def Gw(d:D):Bool:=(sc d).isSome
noncomputable def Fx(x y:D):Bool:=match sc x,sc y with
 |some a,some b=>Lj a b
 |_,_=>false
noncomputable def aC(a:Bool)(x y:D):M D:=λσ=>match Vk σ y with
 |some xs=>if (Gw x && xs.all Gw)=true then .ok (.bl (if a then !(xs.any λz=>Fx z x)else xs.any λz=>Fx z x)) σ else .bad
 |none=>.bad
theorem fJ:∀ {ds:List D} {vs:List V},Qa T μ H ds vs->ds.all Gw=true->vs.all Th=true
 |[],vs,h,_=>by rw[Qa]at h;subst h;rfl
 |d::ds,vs,h,e=>by
  rw[Qa]at h;obtain⟨v,r,rfl,h1,c⟩:=h;rw[lf,ya]at e ⊢;obtain⟨a,b⟩:=Xd.mp e.1;exact⟨by rw[sB h1 b];exact GH b,fJ c e.2⟩
theorem RK{x:D}{a:V}(ex:sc x=some a):∀ {ds:List D} {vs:List V},Qa T μ H ds vs->ds.all Gw=true->(ds.any λz=>Fx z x)=vs.any λy=>Lj y a
 |[],vs,h,_=>by rw[Qa]at h;subst h;rfl
 |d::ds,vs,h,e=>by
  rw[Qa]at h;obtain⟨v,r,rfl,h1,f⟩:=h;rw[lf,ya]at e;obtain⟨c,b⟩:=Xd.mp e.1;rw[Yd,Yd,RK ex f e.2];have:Fx d x=Lj v a:=by unfold Fx;rw[b,ex,sB h1 b]
  rw[this]
theorem OR(k:T.K=X.K)(d:Bool):Kj T (VA X.K d) (aC d):=by
 intro E μ H σ x y v u Q r p q h;unfold aC at h;cases e:Vk σ y with
 |none=>rw[e]at h;exact h.elim
 |some xs=>
  rw[e]at h;by_cases c:(Gw x && xs.all Gw)=true
  ·simp only[c,Xf]at h;rw[ya]at c;obtain⟨a,f⟩:=Xd.mp c.1;obtain⟨b,i,rfl,h1,g⟩:=iw r q e;rw[k]at g;refine⟨b,i,rfl,g,by rw[sB p f];exact GH f,fJ h1 c.2,?_⟩;have j:Lw v i=xs.any λz=>Fx z x:=by unfold Lw;rw[RK f h1 c.2,sB p f]
   rw[j];exact Ib.here h r (by rw[Rep])
  ·simp only[c]at h;exact h.elim
noncomputable def Dl(xs:List D):M D:=λσ=>match xs with
 |[x]=>(match Vk σ x with
  |some a=>.ok (.int a.length) σ
  |none=>.bad)
 |_=>.bad
theorem Uq(f:T.K=X.K):Tp T (λxs H Q=>∃ p ys,xs=[.ref p]/\(Me X.K H p ys\/nh X.K H p ys)/\Q (.int ys.length) H) Dl:=by
 intro E μ H σ xs d Q r p h
 match xs with
 |[]=>exact h.elim
 |[x]=>
  rw[Qa]at p;obtain⟨v,w,rfl,g,c⟩:=p;rw[Qa]at c;subst c;unfold Dl at h;cases e:Vk σ x with
  |none=>simp only[e]at h;exact h.elim
  |some ys=>
   simp only[e]at h;obtain⟨b,d,rfl,h1,a⟩:=iw r g e;rw[f]at a;exact⟨b,d,rfl,a,by rw[<-h1.length];exact Ib.here h r (by rw[Rep])⟩
 |_::_::_=>exact h.elim
noncomputable def vp(xs:List D):M D:=λσ=>match xs with
 |[x]=>(match Vk σ x with
  |some a=>dz a σ
  |none=>.bad)
 |_=>.bad
theorem uB(f:T.K=X.K):Tp T (λxs H Q=>∃ p ys,xs=[.ref p]/\(Me X.K H p ys\/nh X.K H p ys)/\∀ l,H l=none->Q (.ref l) (upd H l (.lst ys))) vp:=by
 intro E μ H σ xs d Q r p h
 match xs with
 |[]=>exact h.elim
 |[x]=>
  rw[Qa]at p;obtain⟨v,w,rfl,i,c⟩:=p;rw[Qa]at c;subst c;unfold vp at h;cases e:Vk σ x with
  |none=>simp only[e]at h;exact h.elim
  |some ys=>
   simp only[e]at h;obtain⟨b,d,rfl,h1,a⟩:=iw r i e;rw[f]at a;exact⟨b,d,rfl,a,λl g=>fC h r h1 g⟩
 |_::_::_=>exact h.elim
end
noncomputable def Nh(o:List D->M D)(fs:Ev->M (List D)):Ev->M D:=λa=>Pc (fs a) o
section
variable{T:Tb}{X:Cx}{x:ma}{p pos:Ae}{e:Ga}{es:List Ga}{fs:Ev->M (List D)}{id ty:String}{r:List V->Hp->VK->Prop}{o:List D->M D}
theorem SI(hs:Tp T r o){st:St}{H:Hp}{Q:VK}(h:tF T X (Nh o fs) st H Q):zD r (tL T X fs) st H Q:=by
 obtain⟨k,l,m,he,e,hp⟩:=h;exact⟨k,l,m,he,e,hp.bind λd b a j c _ n i f g=>hs _ a c b d j Q i f g⟩
theorem Hn(f:bn X (.builtin id) r)(hs:Tp T r o)(g:Gl X x)(hm:X.mg x=none)(hv:bootBuiltins x=some (.builtin id))(d:FA T X (e::es) fs)(hn:x ≠ "__name__":=by decide)(b:(x == ("__debug__" : ma))=false:=by decide)
  (he:pa (e::es) X.env=(false,Wb e X.env)::pa es X.env:=by rfl) (c:(Dc pos (pa es X.env)).any (·.1)=false:=by rfl):FE T X (.Call (.Name x p) (e::es) [] pos) (Nh o fs):=
 λa s st H Q I h=>wF f g hm hv d hn b he c a s st H Q I (SI hs h)
theorem fx(f:bn X (.type ty) r)(hs:Tp T r o)(g:Gl X x)(hm:X.mg x=none)(hv:bootBuiltins x=some (.type ty))(d:FA T X (e::es) fs)(hn:x ≠ "__name__":=by decide)(b:(x == ("__debug__" : ma))=false:=by decide)
  (he:pa (e::es) X.env=(false,Wb e X.env)::pa es X.env:=by rfl) (c:(Dc pos (pa es X.env)).any (·.1)=false:=by rfl):FE T X (.Call (.Name x p) (e::es) [] pos) (Nh o fs):=
 λa s st H Q I h=>lN f g hm hv d hn b he c a s st H Q I (SI hs h)
end
noncomputable def Qg(σ:ub):D->Option (List D)
 | .ref n=>gi σ n
 | .lst xs=>some xs
 |_=>none
theorem Rel.ls{T:Tb}{μ:List Addr}{H:Hp}{σ:ub}(r:Rel T μ H σ){x:D}{v:V}{xs:List D}(h:Rep T μ H x v)(e:Qg σ x=some xs):∃ a vs,v=.ref a/\H a=some (.lst vs)/\Qa T μ H xs vs:=by
 cases x with
 |ref n=>obtain⟨a,vs,h1,_,b,h3⟩:=r.lst h e;exact⟨a,vs,h1,b,h3⟩
 |lst c=>cases e;rw[Rep]at h;obtain⟨a,vs,h1,_,b,h3⟩:=h;exact⟨a,vs,h1,b,h3⟩
 |_=>cases e
noncomputable def ku(o:D->List D->M D)(m:M (List D))(x:D):M D:=λa=>match Qg a x with
 |some _=>Pc m (o x) a
 |none=>.bad
noncomputable def Pw(o:D->List D->M D)(f:Ev->M D)(fs:Ev->M (List D)):Ev->M D:=λa=>Pc (f a) (ku o (fs a))
noncomputable def Hx(T:Tb)(r:V->List V->Hp->VK->Prop)(o:D->List D->M D):Prop:=∀ (E:XK) a H c x xs v b Q,Rel T a H c->Rep T a H x v->Qa T a H xs b->Ib T E (Rep T) a H (o x xs c) Q->r v b H Q
noncomputable def Qm(x:D)(xs:List D):M D:=λb=>match x,xs with
 | .ref n,[y]=>(match gi b n with
  |some a=>if a.length<Oh then .ok .Jb (b.set n (.lst (a++[y])))else .bad
  |none=>.bad)
 |_,_=>.bad
section
variable{T:Tb}{X:Cx}{o e:Ga}{es:List Ga}{f:Ev->M D}{fs:Ev->M (List D)}{name:ma}{apos cpos:Ae}{id:String}{r:V->List V->Hp->VK->Prop}{g:D->List D->M D}
theorem HB(K:im "list")(slot:Slot "list" name id)(p:Gp (.builtin id)=pure (.type "method_descriptor"))(hm:Tq X id r)(hs:Hx T r g)(F:FE T X o f)(E:FA T X (e::es) fs)
  (c:Md o name X.env (Wb o X.env)=Wb o X.env:=by rfl)
  (i:((Dc cpos (pa (e::es) X.env)).all (λx=>!x.1) && (Om cpos (ai [] X.env)).all (λx=>x.1.isSome)
   && decide ((e::es).length+([]:List Ui).length+(if ([]:List Ui).isEmpty then 0 else 1)<30))=true:=by rfl)
  (d:(apos.endLine == cpos.line)=true:=by rfl) (n:pa (e::es) X.env=(false,Wb e X.env)::pa es X.env:=by rfl) (b:(Dc cpos (pa es X.env)).any (·.1)=false:=by rfl) :
  FE T X (.Call (.Attribute o name apos) (e::es) [] cpos) (Pw g f fs):=by
 intro j s st H Q I h;refine vX K slot p hm F E c i d n b j s st H Q I ?_;obtain⟨P,z,R,he,G,hp⟩:=h;refine⟨P,z,R,he,G,hp.bind λx l q v S _ C y w k=>?_⟩;unfold ku at k;cases m:Qg l x with
 |none=>rw[m]at k;exact k.elim
 |some xs=>
  rw[m]at k;obtain⟨a,N,rfl,h1,U⟩:=y.ls w m;refine⟨.inl ⟨rfl,N,Me.of h1⟩,q,z,l,he.mono C,y,k.bind λB u t O A _ D M J L=>?_⟩;exact hs _ t A u x B (.ref a) O Q M (Rep.mono D _ _ w) J L
theorem IA:Hx T rF Qm:=by
 intro E j H l x xs v b Q r p q h;cases x with
 |ref n=>
  match xs with
  |[]=>exact h.elim
  |[y]=>
   rw[Qa]at q;obtain⟨w,z,rfl,k,f⟩:=q;rw[Qa]at f;subst f;unfold Qm at h;cases c:gi l n with
   |none=>simp only[c]at h;exact h.elim
   |some i=>
    simp only[c]at h;by_cases d:i.length<Oh
    ·rw[da d]at h;obtain⟨a,b,rfl,hn,h1,e⟩:=r.lst p c;have g:=r.write (o:=.lst (b++[w])) (ob:=.lst (i++[y])) hn ⟨_,rg,by
      have ex:Ext j H j (upd H a (.lst (b++[w]))):=Pt (Ja hn) h1 (λ_ z=>by cases z) (λ_ _ z=>by cases z);exact Qa.append (Qa.mono ex _ _ e) (Qa.cons (Rep.mono ex _ _ k) Qa.nil)⟩
     exact⟨a,b,w,rfl,rfl,h1,by rw[<-e.length];exact iJ d,h _ _ _ g.1 g.2 (by rw[Rep])⟩
    ·rw[ka d]at h;exact h.elim
  |_::_::_=>exact h.elim
 |_=>exact h.elim
end
inductive BT where
 |int|bool|str|tuple|list|dict
noncomputable def BT.nm:BT->String
 | .int=>"int" | .bool=>"bool" | .str=>"str" | .tuple=>"tuple" | .list=>"list" | .dict=>"dict"
noncomputable def BC(σ:ub)(c:BT):D->Option Bool
 | .Jb=>some false
 | .bl _=>some (match c with | .int=>true | .bool=>true|_=>false)
 | .int _=>some (match c with | .int=>true|_=>false)
 | .str _=>some (match c with | .str=>true|_=>false)
 | .tup _=>some (match c with | .tuple=>true|_=>false)
 | .Lf _=>none
 | .lst _=>some (match c with | .list=>true|_=>false)
 | .Lb _ _=>some (match c with | .dict=>true|_=>false)
 | .obj _ _ _=>none
 | .pq _=>none
 | .gt _=>none
 | .ref n=>match σ[n]? with
  |some (.lst _)=>some (match c with | .list=>true|_=>false)
  |some (.Lb _)=>some (match c with | .dict=>true|_=>false)
  |_=>none
noncomputable def Ym(c:BT)(x:D):M D:=λa=>match BC a c x with
 |some b=>.ok (.bl b) a
 |none=>.bad
section
variable{T:Tb}{X:Cx}
noncomputable def HH(K:W.Frag)(H:Hp)(x:V)(t:Value):Prop:=Nj K H x t\/∃ a b,x=.ref a/\Rd H a (.dK b)/\t=.type "dict"
noncomputable def NV(K:W.Frag)(c:String):List V->Hp->VK->Prop:=λxs H Q=>∃ x t b,xs=[x,.ty c]/\HH K H x t/\W.kitOne K t (.type c)=some b/\Q (.bl b) H
theorem dY(c:String):bn X (.builtin "isinstance") (NV X.K c):=by
 intro g s st H xs n Q I r h;obtain⟨x,t,b,rfl,ty,e,q⟩:=h;obtain⟨u,u2,rfl,i,f⟩:=MI r;cases f;rcases ty with ty|⟨a,d,rfl,rd,rfl⟩
 ·exact rX I i ty e λk=>⟨.bl b,H,I.tok _,rfl,q⟩
 ·cases (show u=eb a from i);obtain⟨_,_,v,_,p⟩:=(show mi X.prog X.w H s.heap a (.dK d)from rd.ok I.Qb)
  obtain⟨o,m,l,h1,j,_⟩:=p;exact Oe Zr I.Xi ⟨o,h1,j.1⟩ e (λz=>nomatch z) λk=>⟨.bl b,H,I.tok _,rfl,q⟩
theorem UZ{μ:List Addr}{H:Hp}{σ:ub}{x:D}{v:V}{c:BT}{b:Bool}(r:Rel T μ H σ)(p:Rep T μ H x v)(h:BC σ c x=some b):∃ t,HH X.K H v t/\W.kitOne X.K t (.type c.nm)=some b:=by
 cases x with
 |Jb=>rw[Rep]at p;subst p;refine⟨_,.inl (.Jb),?_⟩;cases c<;>cases h<;>rfl
 |bl i=>rw[Rep]at p;subst p;refine⟨_,.inl (.bl i),?_⟩;cases c<;>cases h<;>rfl
 |int i=>rw[Rep]at p;subst p;refine⟨_,.inl (.int i),?_⟩;cases c<;>cases h<;>rfl
 |str i=>rw[Rep]at p;subst p;refine⟨_,.inl (.str i),?_⟩;cases c<;>cases h<;>rfl
 |tup ds=>rw[Rep]at p;obtain⟨q,d,rfl,h1,_⟩:=p;refine⟨_,.inl (.tup h1),?_⟩;cases c<;>cases h<;>rfl
 |Lf ns=>cases h
 |lst ds=>rw[Rep]at p;obtain⟨q,d,rfl,_,h1,_⟩:=p;refine⟨_,.inl (.lst h1),?_⟩;cases c<;>cases h<;>rfl
 |Lb j ds=>rw[Rep]at p;obtain⟨q,d,rfl,_,h1,_⟩:=p;refine⟨_,.inr ⟨q,_,rfl,h1,rfl⟩,?_⟩;cases c<;>cases h<;>rfl
 |obj f j ds=>cases h
 |pq f=>cases h
 |gt ss=>cases h
 |ref n=>
  unfold BC at h;dsimp only at h;cases e:σ[n]? with
  |none=>rw[e]at h;cases h
  |some o=>
   rw[e]at h;obtain⟨a,rfl,_,g⟩:=r.at p e;cases o with
   |lst xs=>obtain⟨d,h3,_⟩:=g;refine⟨_,.inl (.lst h3),?_⟩;cases c<;>cases h<;>rfl
   |Lb xs=>obtain⟨d,h3,_⟩:=g;refine⟨_,.inl (.dK h3),?_⟩;cases c<;>cases h<;>rfl
   |ins f fs=>cases h
   |Be xs=>cases h
   |cj _=>cases h
theorem Xs(c:BT){a:ma}{e:Ga}{f:Ev->M D}{p j g:Ae}(he:FE T X e f)(A:Gl X "isinstance")(hm:X.mg "isinstance" = none)(m:Gl X a)(n:X.mg a=none)(r:bootBuiltins a=some (.type c.nm))(o:a ≠ "__name__":=by decide)(l:(a == ("__debug__" : ma))=false:=by decide)
  (hs:pa [e,.Name a j] X.env=(false,Wb e X.env)::pa [.Name a j] X.env:=by rfl) (q:(Dc g (pa [.Name a j] X.env)).any (·.1)=false:=by rfl) :
  FE T X (.Call (.Name "isinstance" p) [e,.Name a j] [] g) (Fd (Ym c) f):=by
 intro d s st H Q I h;refine wF (dY c.nm) A hm boot_isinstance (ou he (ou (rR m n r (v:=.ty c.nm) rfl o l) nv) hs) (by decide) (by decide) hs q d s st H Q I ?_;obtain⟨E,G,J,z,B,hp⟩:=h;refine⟨E,G,J,z,B,hp.bind λx u F v K _ L w C i=>?_⟩;unfold Ym at i;cases k:BC u c x with
 |none=>rw[k]at i;exact i.elim
 |some b=>
  rw[k]at i;obtain⟨t,h1,y⟩:=UZ (X:=X) w C k;exact⟨v,t,b,rfl,h1,y,Ib.here i w (by rw[Rep])⟩
end
noncomputable def xf:Ev->M Fl:=λa=>ret (.nx a)
noncomputable def FB(h:Ev->M Fl):Fl->M Fl
 | .nx a=>h a
 | .rt d=>ret (.rt d)
 | .bk a=>ret (.bk a)
 | .ct a=>ret (.ct a)
 | .xc a x=>ret (.xc a x)
noncomputable def kc(g h:Ev->M Fl):Ev->M Fl:=λa=>Pc (g a) (FB h)
noncomputable def TD:D->M Fl:=λd=>ret (.rt d)
noncomputable def pd(f:Ev->M D):Ev->M Fl:=λa=>xs a (f a) TD
noncomputable def oG(ρ:Ev):D->M Fl:=λ_=>ret (.nx ρ)
noncomputable def xr(f:Ev->M D):Ev->M Fl:=λa=>xs a (f a) (oG a)
noncomputable def tz(i:Nat)(ρ:Ev):D->M Fl:=λd=>ret (.nx (ρ.set i (some d)))
noncomputable def jg(i:Nat)(f:Ev->M D):Ev->M Fl:=λa=>xs a (f a) (tz i a)
noncomputable def rf(t:Ev->M Bool)(a b:Ev->M Fl):Ev->M Fl:=λc=>xs c (t c) (jj (a c) (b c))
section
variable{T:Tb}{X:Cx}{st':Stmt}{Kg:List Stmt}{g h:Ev->M Fl}{e:Ga}{f:Ev->M D}{pos:Ae}
theorem Df:xn T X [] xf:=by
 intro a s st H D I d;obtain⟨e,f,h,b,c,hp⟩:=d;exact tU a s st H D I (Ib.here (g:=wl.nx st) hp c b)
theorem MO{μ:List Addr}{H:Hp}{σ:ub}{a:Fl}{gl:wl}{D:Ends}{N:St->Hp->Prop}(r:Rel T μ H σ)(q:nk T μ H a gl)(k:Fl->M Fl)
  (hn:∀ ρ,a=.nx ρ->∀ st,gl=.nx st->Lg T μ H ρ st->N st H) (b:(∀ ρ,a≠.nx ρ)->Ib T EN (nk T) μ H (.ok a σ) (qj X D)):qj X { D with nx:=N } gl H:=by
 cases a with
 |nx ρ=>cases gl with
  |nx st=>exact hn ρ rfl st rfl q
  |_=>exact q.elim
 |rt d=>cases gl with
  |rt v=>have z:=Ib.here (g:=wl.rt v) (b λ_ z=>by cases z) r q;exact z
  |_=>exact q.elim
 |bk ρ=>cases gl with
  |bk v=>have z:=Ib.here (g:=wl.bk v) (b λ_ z=>by cases z) r q;exact z
  |_=>exact q.elim
 |ct ρ=>cases gl with
  |ct v=>have z:=Ib.here (g:=wl.ct v) (b λ_ z=>by cases z) r q;exact z
  |_=>exact q.elim
 |xc ρ x=>cases gl with
  |xc v c fd=>have z:=Ib.here (g:=wl.xc v c fd) (b λ_ z=>by cases z) r q;exact z
  |_=>exact q.elim
theorem rc(h1:FS T X st' g)(k:xn T X Kg h):xn T X (st'::Kg) (kc g h):=by
 intro b s st H D I n;refine T3 h1 k b s st H D I ?_;obtain⟨q,r,t,l,m,hp⟩:=n;refine⟨q,r,t,l,m,hp.bind λj d c gl u _ v f o e=>?_⟩;refine MO (X:=X) f o (λ_=>bad) (λa i p w he=>?_) (λhn=>?_)
 ·subst i;exact⟨c,a,d,he,f,e⟩
 ·cases j with
  |nx a=>exact(hn a rfl).elim
  |_=>exact e
theorem Cc(h1:FS T X st' g):xn T X [st'] g:=DR h1
theorem ud(he:FE T X e f):FS T X (.Return (some e) pos) (pd f):=by
 intro a s st H D I h;refine qX he a s st H D I ?_;obtain⟨l,n,o,b,c,hp⟩:=h;exact⟨l,n,o,b,c,hp.xs b λd p m v q _ r k j i=>Ib.here (g:=wl.rt v) i k j⟩
theorem iu(he:FE T X e f)(hs:Di e none pos.line X.env=pure false:=by rfl):FS T X (.Expr e pos) (xr f):=by
 intro a s st H D I i;refine dR he hs a s st H D I ?_;obtain⟨l,n,o,b,h,hp⟩:=i;exact⟨l,n,o,b,h,hp.xs b λd p m v q _ c k r j=>Ib.here (g:=wl.nx st) j k (b.mono c)⟩
theorem Rg{i:Nat}{x:ma}{a:Ae}(hN:X.N.Nodup)(k:X.N[i]?=some x)(n:Loc X.env.scope x)(he:FE T X e f)(hs:Di e (some (.Name x a)) pos.line X.env=pure false:=by rfl)(j:X.fn x=true\/X.env.scope.names.lookup x=some .local:=by first|exact .inl rfl|exact .inr rfl|assumption) :
  FS T X (.Assign [.Name x a] e pos) (jg i f):=by
 intro b s st H D I m;refine nW hN k n he hs j b s st H D I ?_;obtain⟨r,u,w,c,l,hp⟩:=m;exact⟨r,u,w,c,l,hp.xs c λd y t v z _ h q p o=>Ib.here (g:=wl.nx (st.set i (some v))) o q ((c.mono h).set i p)⟩
theorem Bf{c:Ga}{a b:List Stmt}{n:Ev->M Bool}{k l:Ev->M Fl}(p:FT T X c n)(o:xn T X a k)(hb:xn T X b l):FS T X (.If c a b pos) (rf n k l):=by
 intro e s st H D I r;refine tQ p o hb e s st H D I ?_;obtain⟨u,i,w,h,q,hp⟩:=r;refine⟨u,i,w,h,q,hp.xs h λc g f v x _ j m t d=>?_⟩;cases t;cases c with
 |true=>unfold jj at d;rw[da rfl]at d ⊢;exact⟨f,i,g,h.mono j,m,d⟩
 |false=>unfold jj at d;rw[ka Ra]at d ⊢;exact⟨f,i,g,h.mono j,m,d⟩
noncomputable def gD(T:Tb)(e:D->Ev->Option Ev):TG:=λv st H Q=>∃ b f c d a,Lg T b H c st/\Rel T b H f/\Rep T b H d v/\e d c=some a/\∀ st',Lg T b H a st'->Q st' H
noncomputable def jS(T:Tb)(e:List D->Ev->Option Ev):Ou:=λf st H Q=>∃ b g d c a,Lg T b H d st/\Rel T b H g/\Qa T b H c f/\e c d=some a/\∀ st',Lg T b H a st'->Q st' H
noncomputable abbrev FG(T:Tb)(X:Cx)(t:Ga)(a:D->Ev->Option Ev):Prop:=PG X t (gD T a)
noncomputable abbrev OB(T:Tb)(X:Cx)(ts:List Ga)(a:List D->Ev->Option Ev):Prop:=Wy X ts (jS T a)
noncomputable def yf(i:Nat):D->Ev->Option Ev:=λd a=>some (a.set i (some d))
noncomputable def Cq:List D->Ev->Option Ev
 |[],a=>some a
 |_::_,_=>none
noncomputable def Fk(t:D->Ev->Option Ev)(u:List D->Ev->Option Ev):List D->Ev->Option Ev
 |[],_=>none
 |d::ds,b=>(t d b).bind λa=>u ds a
noncomputable def Xp(n:Nat)(t:List D->Ev->Option Ev):D->Ev->Option Ev
 | .tup ds,a=>if ds.length=n then t ds a else none
 |_,_=>none
theorem Ji{i:Nat}{x:ma}(hN:X.N.Nodup)(e:X.N[i]?=some x)(j:Loc X.env.scope x)(c:X.fn x=true\/X.env.scope.names.lookup x=some .local:=by first|exact .inl rfl|exact .inr rfl|assumption):FG T X (.Name x pos) (yf i):=by
 intro a s st H v u Q I r h;obtain⟨m,o,n,d,k,b,l,hd,g,f⟩:=h;cases g;exact sU hN e j c a s st H v u Q I r (f _ (b.set i hd))
theorem Yw:OB T X [] Cq:=by
 intro a s st H k g Q I r h;obtain⟨l,n,m,b,i,e,j,hd,c,f⟩:=h;cases b with
 |nil=>cases c;rw[Qa]at hd;subst hd;exact y0 a s st H [] g Q I r ⟨rfl,f _ e⟩
 |cons d b=>cases c
theorem Xq{c:List Ga}{t:D->Ev->Option Ev}{u:List D->Ev->Option Ev}(h1:FG T X e t)(x:OB T X c u)
  (hs:(Ke (e::c) X.env).map (·.2)=Zj e X.env::(Ke c X.env).map (·.2):=by rfl):OB T X (e::c) (Fk t u):=by
 intro a s st H E B Q I r h;obtain⟨n,o,C,f,k,y,l,hd,m,z⟩:=h;cases f with
 |nil=>cases m
 |cons d f=>
  rw[Qa]at hd;obtain⟨v,w,rfl,i,j⟩:=hd;obtain⟨b,p,q⟩:=vh.mp m;refine zU h1 x hs a s st H (v::w) B Q I r ⟨v,w,rfl,n,o,C,d,b,y,l,i,p,λA g=>?_⟩;exact⟨n,o,b,f,k,g,l,j,q,z⟩
theorem Lx{c:List Ga}{k:Nat}{t:List D->Ev->Option Ev}{n:Nat}(l:X.calm=true)(h:OB T X c t)
  (hn:(Ke c X.env).length=n:=by rfl) (f:(Ke c X.env).findIdx? (·.1)=none:=by rfl):FG T X (.Tuple c k pos) (Xp n t):=by
 intro b s st H v u Q I r w;obtain⟨y,A,z,d,g,j,q,hd,a,o⟩:=w;cases d with
 |tup ds=>
  have m:=hd;rw[Rep]at hd;obtain⟨p,x,rfl,h1,i⟩:=hd;unfold Xp at a;dsimp only at a;by_cases e:ds.length=n
  ·rw[da e]at a;exact HW l h hn f b s st H (.ref p) u Q I r ⟨p,x,rfl,nh.of h1,by rw[<-i.length];exact e,y,A,z,ds,g,j,q,i,a,o⟩
  ·rw[ka e]at a;cases a
 |_=>cases a
end
inductive Src where
 |seq (ds:List D)
 |rq (n:Nat)
noncomputable def Src.nx:Src->Nat->ub->Option (Option D)
 | .seq ds,i,_=>some ds[i]?
 | .rq n,i,σ=>(gi σ n).map λxs=>xs[i]?
noncomputable def Yt(T:Tb)(b:List Addr)(f:Hp)(src:Src)(J:It):Prop:=∀ a H e i,Ext b f a H->Rel T a H e->match src.nx i e with
 |none=>True
 |some none=>J.stop i H
 |some (some d)=>J.go i H/\∀ x c,J.gx i H x c->c=H/\Rep T a H d x
noncomputable def tI(T:Tb)(X:Cx)(f:Ev->M Src):TI:=λst H R=>∃ a b c,Lg T a H b st/\Rel T a H c/\Ib T (XE X st) (Yt T) a H (f b c) R
noncomputable abbrev FI(T:Tb)(X:Cx)(b a:Ga)(f:Ev->M Src):Prop:=PI X b a (tI T X f)
noncomputable def dw(n:Nat):List D:=(List.range n).map λ(i:Nat)=>D.int (i:Int)
noncomputable def Kw(d:D):M Src:=λa=>match d with
 | .tup ds=>.ok (.seq ds) a
 | .lst ds=>.ok (.seq ds) a
 | .Lf ns=>.ok (.seq (ns.map D.int)) a
 | .ref n=>(match gi a n with
  |some _=>.ok (.rq n) a
  |none=>.bad)
 |_=>.bad
noncomputable def Vi(f:Ev->M D):Ev->M Src:=λa=>Pc (f a) Kw
noncomputable def pC(j:Int):Bool:=hide (decide (-(2 ^ 62)<=j) && decide (j<2 ^ 62))
noncomputable def zx(d:D):M Src:=λa=>match d with
 | .int j=>if pC j=true then .ok (.seq (dw j.toNat)) a else .bad
 |_=>.bad
noncomputable def cz(f:Ev->M D):Ev->M Src:=λa=>Pc (f a) zx
section
variable{T:Tb}{X:Cx}{tg iter:Ga}{f:Ev->M D}
noncomputable def oP(K:W.Frag)(c:TE):TI:=λd H R=>c d H λx b=>∃ a,x=.ref a/\(((∃ xs,Me K b a xs)/\R (eF K a) b)\/((∃ xs,nh K b a xs)/\R (YD K a) b))
theorem wW{l:Ga}{j:TE}(k:PE X l j):PI X tg l (oP X.K j):=by
 intro f s t H R I h;refine zd (k f s t H _ I h) λv s1 ⟨x,H1,c,n,i⟩=>?_;obtain⟨a,e,i⟩:=i;subst e;cases n;rcases i with⟨⟨xs,g⟩,q⟩|⟨⟨xs,g⟩,q⟩
 ·obtain⟨d,r,p,m⟩:=c.list g;refine Km p.isList ?_;refine⟨s1.heap.objs.size,[s1.heap.objs.size],_,_,H1,rfl,c.kept (t':=s1.toks) λb o e=>ia _ e,J0 a _,⟨_,Sa _ rfl,rfl,rfl⟩,λb hb=>?_,q⟩;have e:b=s1.heap.objs.size:=by simpa using hb
  subst e;exact c.Do (xa _) (c.Qb.fresh (xa _))
 ·obtain⟨d,r,p,m⟩:=c.tuple g;refine vw (show s1.heap.IsTuple a d.toArray from p) ?_;refine⟨s1.heap.objs.size,[s1.heap.objs.size],_,_,H1,rfl,c.kept (t':=s1.toks) λb o e=>ia _ e,jP a _,⟨_,Sa _ rfl,rfl,rfl⟩,λb hb=>?_,q⟩;have e:b=s1.heap.objs.size:=by simpa using hb
  subst e;exact c.Do (xa _) (c.Qb.fresh (xa _))
theorem KJ{g:List Addr}{k:Hp}{a:Addr}{ds:List D}{K:W.Frag}(h:∀ b c,Ext g k b c->∃ vs,Me K c a vs/\Qa T b c ds vs):Yt T g k (.seq ds) (eF K a):=by
 intro b c l i ex n;obtain⟨vs,h3,h4⟩:=h b c ex;show match some ds[i]? with|none=>True|some none=>_|some (some d)=>_
 cases e:ds[i]? with
 |none=>exact⟨vs,h3,by rw[<-h4.length];exact Sb.mp e⟩
 |some d=>
  obtain⟨v,f,j⟩:=h4.get e;refine⟨⟨vs,v,h3,f⟩,λx m y=>?_⟩;obtain⟨rfl,y⟩:=y;have:=y vs h3;rw[f]at this;cases this;exact⟨rfl,j⟩
theorem JX{g:List Addr}{k:Hp}{a:Addr}{ds:List D}{K:W.Frag}(h:∀ b c,Ext g k b c->∃ vs,nh K c a vs/\Qa T b c ds vs):Yt T g k (.seq ds) (YD K a):=by
 intro b c l i ex n;obtain⟨vs,h3,h4⟩:=h b c ex;show match some ds[i]? with|none=>True|some none=>_|some (some d)=>_
 cases e:ds[i]? with
 |none=>exact⟨vs,h3,by rw[<-h4.length];exact Sb.mp e⟩
 |some d=>
  obtain⟨v,f,j⟩:=h4.get e;refine⟨⟨vs,v,h3,f⟩,λx m y=>?_⟩;obtain⟨rfl,y⟩:=y;have:=y vs h3;rw[f]at this;cases this;exact⟨rfl,j⟩
theorem Rn(L:T.K=X.K)(h:FE T X iter f):FI T X tg iter (Vi f):=by
 intro r s st H R I N;refine wW h r s st H R I ?_;obtain⟨P,Q,S,J,M,hp⟩:=N;refine⟨P,Q,S,J,M,hp.bind λd B A v D _ Y t j c=>?_⟩;cases d with
 |tup ds=>
  rw[Rep]at j;obtain⟨p,m,rfl,h1,l⟩:=j;exact⟨p,rfl,.inr ⟨⟨m,nh.of h1⟩,Ib.here (R:=Yt T) c t (JX λb g ex=>⟨m,nh.of (ex.tup _ _ h1),Qa.mono ex _ _ l⟩)⟩⟩
 |lst ds=>
  rw[Rep]at j;obtain⟨p,m,rfl,hn,h1,l⟩:=j;exact⟨p,rfl,.inl ⟨⟨m,Me.of h1⟩,Ib.here (R:=Yt T) c t (KJ λb g ex=>⟨m,Me.of (ex.Hh _ _ h1 hn).1,Qa.mono ex _ _ l⟩)⟩⟩
 |Lf ns=>
  rw[Rep]at j;obtain⟨p,rfl,h1⟩:=j;have o:∀ b g,Ext A D b g->Me X.K g p (ns.map V.int):=λb g ex=>by
   have l:Rep T b g (.Lf ns) (.ref p):=Rep.mono ex _ _ (by rw[Rep];exact⟨p,rfl,h1⟩);rw[Rep]at l;obtain⟨Z,E,h3⟩:=l;cases E;rw[<-L];exact h3.seq
  exact⟨p,rfl,.inl ⟨⟨_,o _ _ (Ext.refl _ _)⟩,Ib.here (R:=Yt T) c t (KJ λb g ex=>⟨_,o b g ex,iB ns⟩)⟩⟩
 |ref n=>
  unfold Kw at c;dsimp only at c;cases k:gi B n with
  |none=>rw[k]at c;exact c.elim
  |some xs=>
   rw[k]at c;obtain⟨a,m,rfl,_,h1,l⟩:=t.lst j k;refine⟨a,rfl,.inl ⟨⟨m,Me.of h1⟩,Ib.here (R:=Yt T) c t λb g u i ex O=>?_⟩⟩;show match (gi u n).map (λxs=>xs[i]?)with|none=>True|some none=>_|some (some d)=>_
   cases G:gi u n with
   |none=>trivial
   |some C=>
    obtain⟨W,z,F,_,h3,h4⟩:=O.lst (Rep.mono ex _ _ j) G;cases F;show match some (C[i]?)with|none=>True|some none=>_|some (some d)=>_
    cases e:C[i]? with
    |none=>exact⟨z,Me.of h3,by rw[<-h4.length];exact Sb.mp e⟩
    |some d=>
     obtain⟨v,q,w⟩:=h4.get e;refine⟨⟨z,v,Me.of h3,q⟩,λx U y=>?_⟩;obtain⟨rfl,y⟩:=y;have:=y z (Me.of h3);rw[q]at this;cases this;exact⟨rfl,w⟩
 |_=>exact c.elim
theorem OZ{n i:Nat}(h:i<n):(dw n)[i]?=some (.int i):=by simp[dw,h]
theorem SV(n:Nat):(dw n).length=n:=by simp[dw]
theorem cY{a:Ga}{p l:Ae}(h:Gl X "range")(hm:X.mg "range" = none)(o:FE T X a f)(e:pa [a] X.env=[(false,Wb a X.env)]:=by rfl):FI T X tg (.Call (.Name "range" p) [a] [] l) (cz f):=by
 intro g s st H R I r;refine w1 h hm (ou o nv e) e g s st H R I ?_;obtain⟨u,A,B,n,q,hp⟩:=r;refine⟨u,A,B,n,q,hp.bind λd C w v F _ J t m b=>?_⟩;cases d with
 |int j=>
  rw[Rep]at m;subst m;unfold zx at b;dsimp only at b;by_cases c:pC j=true
  ·rw[da c]at b;simp only[pC,sq,ya,Fc]at c;refine⟨j,rfl,c.1,c.2,Ib.here (R:=Yt T) b t λz G D i ex K=>?_⟩;show match some (dw j.toNat)[i]? with|none=>True|some none=>_|some (some d)=>_
   by_cases k:i<j.toNat
   ·rw[OZ k];refine⟨k,λx E y=>?_⟩;obtain⟨rfl,rfl⟩:=y;exact⟨rfl,by rw[Rep,bA]⟩
   ·rw[Sb.mpr (by rw[SV];omega)];exact VG.mp k
  ·rw[ka c]at b;exact b.elim
 |_=>exact b.elim
end
noncomputable def Rt(k:Ev->M Fl):Fl->M Fl
 | .nx a=>k a
 | .ct a=>k a
 | .bk a=>ret (.nx a)
 | .rt d=>ret (.rt d)
 | .xc b x=>ret (.xc b x)
noncomputable def km(e:D->Ev->Option Ev)(a:Ev->M Fl):List D->Ev->M Fl
 |[],b=>ret (.nx b)
 |d::ds,b=>match e d b with
  |none=>bad
  |some c=>Pc (a c) (Rt (km e a ds))
noncomputable def Sw(e:D->Ev->Option Ev)(a:Ev->M Fl)(n:Nat):Nat->Nat->Ev->M Fl
 |0,_,_=>bad
 |k+1,i,f=>λc=>match gi c n with
  |none=>.bad
  |some xs=>match xs[i]? with
   |none=>.ok (.nx f) c
   |some d=>match e d f with
    |none=>.bad
    |some b=>Pc (a b) (Rt (Sw e a n k (i+1))) c
noncomputable def SD(b:D->Ev->Option Ev)(a:Ev->M Fl)(ρ:Ev):Src->M Fl
 | .seq ds=>km b a ds ρ
 | .rq n=>Sw b a n 1001 0 ρ
noncomputable def Ur(src:Ev->M Src)(c:D->Ev->Option Ev)(a:Ev->M Fl):Ev->M Fl:=λb=>xs b (src b) (SD c a b)
section
variable{T:Tb}{X:Cx}
theorem WF{e:List Addr}{H1:Hp}{h:ub}{l:Fl}{gl:wl}{D:Ends}{k:Ev->M Fl}{N:St->Hp->Prop}(m:Rel T e H1 h)(f:nk T e H1 l gl)(j:Ib T EN (nk T) e H1 (Rt k l h) (qj X D))
  (hN:∀ b a,Lg T e H1 b a->Ib T EN (nk T) e H1 (k b h) (qj X D)->N a H1):qj X { D with nx:=N,ct:=N,bk:=D.nx } gl H1:=by
 cases l with
 |nx b=>cases gl with
  |nx a=>exact hN b a f j
  |_=>exact f.elim
 |ct b=>cases gl with
  |ct a=>exact hN b a f j
  |_=>exact f.elim
 |bk b=>cases gl with
  |bk a=>have z:qj X D (wl.nx a) H1:=Ib.here (g:=wl.nx a) (d:=Fl.nx b) j m f;exact z
  |_=>exact f.elim
 |rt n=>cases gl with
  |rt v2=>have z:qj X D (wl.rt v2) H1:=Ib.here (g:=wl.rt v2) (d:=Fl.rt n) j m f;exact z
  |_=>exact f.elim
 |xc b x=>cases gl with
  |xc a c i=>have z:qj X D (wl.xc a c i) H1:=Ib.here (g:=wl.xc a c i) (d:=Fl.xc b x) j m f;exact z
  |_=>exact f.elim
variable{tgt iter:Ga}{body:List Stmt}{src:Ev->M Src}{t:D->Ev->Option Ev}{g:Ev->M Fl}{pos:Ae}
theorem yes(hp:On (model X.prog X.w) X.A X.env X.xe)(hc:X.calm=true)(hi:FI T X tgt iter src)(hg:FG T X tgt t)(hb:xn T X body g)
  (hs:∀ x,dg iter X.env x=pure x:=by intro _;rfl):FS T X (.For tgt iter body [] pos) (Ur src t g):=by
 intro R s st H D I hq;refine iM hp hc hi hg hb hs R s st H D I ?_;obtain⟨e,l,r,U,hr,hp⟩:=hq;refine⟨e,l,r,U,hr,hp.xs U λsrc C k J P _ e1 r1 q1 p1=>?_⟩;cases src with
 |seq ds=>
  have L:Ib T EN (nk T) k P (km t g ds l C) (qj X D):=p1;refine⟨λi m p b=>m=ds.length - i/\∃ e l r,Ext k P e b/\Lg T e b l p/\Rel T e b r/\Ib T EN (nk T) e b (km t g (ds.drop i) l r) (qj X D),⟨ds.length,by simp,k,l,C,Ext.refl _ _,U.mono e1,r1,by simpa using L⟩,?_⟩;rintro i m p b ⟨rfl,f,v,j,ex,u,B,c⟩;have so:=q1 f b j i ex B;have a:match (some ds[i]?:Option (Option L4.D))with|none=>True|some none=>J.stop i b|some (some d)=>J.go i b/\∀ x Q,J.gx i b x Q->Q=b/\Rep T f b d x:=so
  cases E:ds[i]? with
  |none=>
   rw[E]at a;rw[Vo (Sb.mp E)]at c;exact .inl ⟨a,Ib.here (g:=wl.nx p) c B u⟩
  |some d=>
   rw[E]at a;obtain⟨hl,ed⟩:=ja.mp E;have hd:ds.drop i=d::ds.drop (i+1):=by rw[<-ed];exact(fh hl)
   rw[hd]at c;unfold km at c;refine .inr ⟨a.1,λq o=>∃ e l r,Ext k P e o/\Lg T e o l q/\Rel T e o r/\Ib T EN (nk T) e o (km t g (ds.drop (i+1)) l r) (qj X D),λq o h=>⟨ds.length - (i+1),by omega,rfl,h⟩,λx o y=>?_⟩;obtain⟨rfl,W⟩:=a.2 x o y;cases K:t d v with
   |none=>rw[K]at c;exact c.elim
   |some z=>
    rw[K]at c;exact⟨f,j,v,d,z,u,B,W,K,λq F=>⟨f,z,j,F,B,c.bind λfl O M gl H4 _ V S Z p4=>WF S Z p4 λN a0 G Y=>⟨M,N,O,ex.trans V,G,S,Y⟩⟩⟩
 |rq n=>
  have L:Ib T EN (nk T) k P (Sw t g n 1001 0 l C) (qj X D):=p1;refine⟨λi m p b=>∃ e l r,Ext k P e b/\Lg T e b l p/\Rel T e b r/\Ib T EN (nk T) e b (Sw t g n m i l r) (qj X D),⟨1001,k,l,C,Ext.refl _ _,U.mono e1,r1,L⟩,?_⟩;rintro i m p b ⟨f,v,j,ex,u,B,c⟩;cases m with
  |zero=>exact c.elim
  |succ m=>
   unfold Sw at c;have so:=q1 f b j i ex B;have a:match ((gi j n).map λxs=>xs[i]?:Option (Option L4.D))with|none=>True|some none=>J.stop i b|some (some d)=>J.go i b/\∀ x Q,J.gx i b x Q->Q=b/\Rep T f b d x:=so
   cases el:gi j n with
   |none=>simp only[el]at c;exact c.elim
   |some xs=>
    simp only[el]at c a;cases E:xs[i]? with
    |none=>
     simp only[E,kg]at c a;exact .inl ⟨a,Ib.here (g:=wl.nx p) c B u⟩
    |some d=>
     simp only[E,kg]at c a;refine .inr ⟨a.1,λq o=>∃ e l r,Ext k P e o/\Lg T e o l q/\Rel T e o r/\Ib T EN (nk T) e o (Sw t g n m (i+1) l r) (qj X D),λq o h=>⟨m,Gc _,h⟩,λx o y=>?_⟩;obtain⟨rfl,W⟩:=a.2 x o y;cases K:t d v with
     |none=>simp only[K]at c;exact c.elim
     |some z=>
      simp only[K]at c;exact⟨f,j,v,d,z,u,B,W,K,λq F=>⟨f,z,j,F,B,c.bind λfl O M gl H4 _ V S Z p4=>WF S Z p4 λN a0 G Y=>⟨M,N,O,ex.trans V,G,S,Y⟩⟩⟩
end
mutual
noncomputable def cl:D->Bool
 | .tup xs=>af xs
 | .lst xs=>af xs
 | .Lb _ xs=>af xs
 | .obj _ _ xs=>af xs
 | .ref _=>false
 | .Jb=>true
 | .bl _=>true
 | .int _=>true
 | .str _=>true
 | .Lf _=>true
 | .pq _=>true
 | .gt _=>true
noncomputable def af:List D->Bool
 |[]=>true
 |d::ds=>cl d && af ds
end
noncomputable def ql(f:D->Option D):List D->Option (List D)
 |[]=>some []
 |d::ds=>match f d,ql f ds with
  |some x,some xs=>some (x::xs)
  |_,_=>none
noncomputable def fz(k:Nat)(σ:ub):Nat->D->Option D
 |0,d=>if cl d=true then some d else match d with
  | .ref n=>if n<k then some (.ref n)else none
  |_=>none
 |m+1,d=>if cl d=true then some d else match d with
  | .ref n=>if n<k then some (.ref n)else match σ[n]? with
   |some (.lst xs)=>(ql (fz k σ m) xs).map .lst
   |some (.Lb a)=>(ql (fz k σ m) (a.map (·.2))).map (.Lb (a.map (·.1)))
   |some (.ins c fs)=>(ql (fz k σ m) (fs.map (·.2))).map (.obj c (fs.map (·.1)))
   |some (.Be _)=>none
   |some (.cj _)=>none
   |none=>none
  | .tup xs=>(ql (fz k σ m) xs).map .tup
  | .lst xs=>(ql (fz k σ m) xs).map .lst
  | .Lb b xs=>(ql (fz k σ m) xs).map (.Lb b)
  | .obj c ns xs=>(ql (fz k σ m) xs).map (.obj c ns)
  |_=>none
open Classical in
noncomputable def eh(σ:ub):Out D->Out D
 | .ok d a=>if a.take σ.length=σ then (match fz σ.length a 6 d with
  |some b=>.ok b σ
  |none=>.bad)else .bad
 | .ex x a=>if a.take σ.length=σ then .ex x σ else .bad
 | .bad=>.bad
noncomputable def Xa(f:M D):M D:=λa=>eh a (f a)
section
variable{T:Tb}{μ μ':List Addr}{H H':Hp}{σ σ':ub}
mutual
theorem XF(e:∃ r,μ'=μ++r):∀ (d:D) (v:V),cl d=true->Rep T μ' H d v->Rep T μ H d v
 | .Jb,v,_,h=>by simpa [Rep]using h
 | .bl b,v,_,h=>by simpa [Rep]using h
 | .int i,v,_,h=>by simpa [Rep]using h
 | .str x,v,_,h=>by simpa [Rep]using h
 | .tup ds,v,c,h=>by
  rw[Rep]at h ⊢;obtain⟨p,g,h1,f,h3⟩:=h;exact⟨p,g,h1,f,xy e ds g (by simpa [cl]using c) h3⟩
 | .Lf ns,v,_,h=>by rw[Rep]at h ⊢;exact h
 | .ref n,v,c,h=>by simp[cl]at c
 | .lst ds,v,c,h=>by
  rw[Rep]at h ⊢;obtain⟨a,g,h1,f,h3,h4⟩:=h;exact⟨a,g,h1,λz=>f (by obtain⟨r,rfl⟩:=e;exact La _ z),h3,xy e ds g (by simpa [cl]using c) h4⟩
 | .Lb w ds,v,c,h=>by
  rw[Rep]at h ⊢;obtain⟨a,g,h1,f,h3,j,h4⟩:=h;exact⟨a,g,h1,λz=>f (by obtain⟨r,rfl⟩:=e;exact La _ z),h3,j,xy e ds _ (by simpa [cl]using c) h4⟩
 | .obj k ns ds,v,c,h=>by
  rw[Rep]at h ⊢;obtain⟨a,o,g,h1,f,h3,j,h4⟩:=h;exact⟨a,o,g,h1,λz=>f (by obtain⟨r,rfl⟩:=e;exact La _ z),h3,j,xy e ds _ (by simpa [cl]using c) h4⟩
 | .pq k,v,_,h=>by
  rw[Rep]at h ⊢;obtain⟨a,m,h1,f,h3,h4⟩:=h;exact⟨a,m,h1,λz=>f (by obtain⟨r,rfl⟩:=e;exact La _ z),h3,λn q=>let ⟨l,s,t,u⟩:=h4 n q;⟨l,s,λz=>t (by obtain⟨r,rfl⟩:=e;exact La _ z),u⟩⟩
 | .gt ss,v,_,h=>by rw[Rep]at h ⊢;exact h
theorem xy(e:∃ r,μ'=μ++r):∀ (ds:List D) (vs:List V),af ds=true->Qa T μ' H ds vs->Qa T μ H ds vs
 |[],vs,_,h=>by simpa [Qa]using h
 |d::ds,vs,c,h=>by
  rw[Qa]at h ⊢;obtain⟨v,r,h1,b,h3⟩:=h;have a:cl d=true/\af ds=true:=by simpa [af,ya]using c
  exact⟨v,r,h1,XF e d v a.1 b,xy e ds r a.2 h3⟩
end
mutual
theorem Rep.down(e:∃ r,μ'=μ++r):∀ (d:D) (v0 v:V),Rep T μ H d v0->Rep T μ' H' d v->Rep T μ H' d v
 | .Jb,v0,v,_,h=>by simpa [Rep]using h
 | .bl b,v0,v,_,h=>by simpa [Rep]using h
 | .int i,v0,v,_,h=>by simpa [Rep]using h
 | .str x,v0,v,_,h=>by simpa [Rep]using h
 | .tup ds,v0,v,c,h=>by
  rw[Rep]at h c ⊢;obtain⟨p,j,h1,f,h3⟩:=h;obtain⟨E,g,_,_,s⟩:=c;exact⟨p,j,h1,f,Qa.down e ds g j s h3⟩
 | .Lf ns,v0,v,_,h=>by rw[Rep]at h ⊢;exact h
 | .ref n,v0,v,c,h=>by
  rw[Rep]at h c ⊢;obtain⟨a,h1,f⟩:=h;obtain⟨b,_,o⟩:=c;refine⟨a,h1,?_⟩;obtain⟨r,rfl⟩:=e;rw[gb (ja.mp o).1]at f;exact f
 | .lst ds,v0,v,c,h=>by
  rw[Rep]at h c ⊢;obtain⟨a,j,h1,f,h3,h4⟩:=h;obtain⟨_,g,_,_,_,l⟩:=c;exact⟨a,j,h1,λz=>f (by obtain⟨r,rfl⟩:=e;exact La _ z),h3,Qa.down e ds g j l h4⟩
 | .Lb C ds,v0,v,c,h=>by
  rw[Rep]at h c ⊢;obtain⟨a,j,h1,f,h3,m,h4⟩:=h;obtain⟨_,g,_,_,_,_,l⟩:=c;exact⟨a,j,h1,λz=>f (by obtain⟨r,rfl⟩:=e;exact La _ z),h3,m,Qa.down e ds _ _ l h4⟩
 | .obj k ns ds,v0,v,c,h=>by
  rw[Rep]at h c ⊢;obtain⟨a,w,j,h1,f,h3,m,h4⟩:=h;obtain⟨_,_,g,_,_,_,_,l⟩:=c;exact⟨a,w,j,h1,λz=>f (by obtain⟨r,rfl⟩:=e;exact La _ z),h3,m,Qa.down e ds _ _ l h4⟩
 | .pq k,v0,v,_,h=>by
  rw[Rep]at h ⊢;obtain⟨a,u,h1,f,h3,h4⟩:=h;exact⟨a,u,h1,λz=>f (by obtain⟨r,rfl⟩:=e;exact La _ z),h3,λn q=>let ⟨t,y,A,B⟩:=h4 n q;⟨t,y,λz=>A (by obtain⟨r,rfl⟩:=e;exact La _ z),B⟩⟩
 | .gt ss,v0,v,_,h=>by rw[Rep]at h ⊢;exact h
theorem Qa.down(e:∃ r,μ'=μ++r):∀ (ds:List D) (a vs:List V),Qa T μ H ds a->Qa T μ' H' ds vs->Qa T μ H' ds vs
 |[],a,vs,_,h=>by simpa [Qa]using h
 |d::ds,a,vs,c,h=>by
  rw[Qa]at h c ⊢;obtain⟨v,r,h1,g,h3⟩:=h;obtain⟨i,r0,_,b,f⟩:=c;exact⟨v,r,h1,Rep.down e d i v b g,Qa.down e ds r0 r f h3⟩
end
theorem nB{f:Type}(e:∃ r,μ'=μ++r):∀ {xs:List (f × D)} {ys zs:List (f × V)},Paired (λ(p:f × D) (q:f × V)=>p.1=q.1/\Rep T μ H p.2 q.2) xs zs->Paired (λ(p:f × D) (q:f × V)=>p.1=q.1/\Rep T μ' H' p.2 q.2) xs ys->Paired (λ(p:f × D) (q:f × V)=>p.1=q.1/\Rep T μ H' p.2 q.2) xs ys
 |_,_,_,.nil,.nil=>.nil
 |_,_,_,.cons a b,.cons c d=>.cons ⟨c.1,Rep.down e _ _ _ a.2 c.2⟩ (nB e b d)
theorem on.down(e:∃ r,μ'=μ++r){a:Addr}:∀ {o:Ob},on T μ H a o->on T μ' H' a o->on T μ H' a o
 | .lst ds,⟨_,_,c⟩,⟨b,h,r⟩=>⟨b,h,Qa.down e _ _ _ c r⟩
 | .Lb f,⟨_,_,c⟩,⟨b,h,r⟩=>⟨b,h,nB e c r⟩
 | .ins c fs,⟨_,_,_,d⟩,⟨g,b,h,r⟩=>⟨g,b,h,nB e d r⟩
 | .Be f,⟨_,_,_,d⟩,⟨i,b,h,r⟩=>⟨i,b,h,nB e d r⟩
 | .cj j,_,⟨b,h,r⟩=>⟨b,h,r⟩
theorem Rel.down(r0:Rel T μ H σ)(r:Rel T μ' H' σ')(e:Ext μ H μ' H')(i:σ'.take σ.length=σ):Rel T μ H' σ/\Ext μ H μ H':=by
 refine⟨⟨r0.len,r0.nd,λn o h=>?_,r.tb.sub λb hb=>by obtain⟨z,rfl⟩:=e.pre;exact La _ hb⟩,⟨⟨[],by simp⟩,e.tup,e.Xa,λp o h n=>⟨(e.keep p o h n).1,n⟩⟩⟩;obtain⟨a,h1,f⟩:=r0.obs n o h;have d:σ'[n]?=some o:=by
  have g:=(ja.mp h).1;rw[<-i,Yn g]at h;exact h
 obtain⟨b,h3,h4⟩:=r.obs n o d;have c:=e.get h1;rw[h3]at c;cases c;exact⟨a,h1,f.down e.pre h4⟩
theorem KG{c:Type}:∀ {xs:List (c × D)} {ys:List (c × V)},Paired (λ(p:c × D) (q:c × V)=>p.1=q.1/\Rep T μ H p.2 q.2) xs ys->ys.map (·.1)=xs.map (·.1)/\Qa T μ H (xs.map (·.2)) (ys.map (·.2))
 |_,_,.nil=>⟨rfl,Qa.nil⟩
 |_,_,.cons a b=>by
  obtain⟨h1,d⟩:=KG b;exact⟨by simp[h1,a.1],Qa.cons a.2 d⟩
theorem ZL{f:D->Option D}(e:∀ d d' v,f d=some d'->Rep T μ' H d v->Rep T μ H d' v):∀ (ds a:List D) (vs:List V),ql f ds=some a->Qa T μ' H ds vs->Qa T μ H a vs
 |[],a,vs,h,r=>by cases h;simpa [Qa]using r
 |d::ds,a,vs,h,r=>by
  unfold ql at h;cases b:f d with
  |none=>rw[b]at h;cases h
  |some x=>
   cases c:ql f ds with
   |none=>rw[b,c]at h;cases h
   |some xs=>
    rw[b,c]at h;cases h;rw[Qa]at r;obtain⟨v,w,rfl,g,h3⟩:=r;exact Qa.cons (e d x v b g) (ZL e ds xs w c h3)
theorem iK(e:∃ r,μ'=μ++r)(r:Rel T μ' H σ'):∀ (m:Nat) (d d':D) (v:V),fz μ.length σ' m d=some d'->Rep T μ' H d v->Rep T μ H d' v:=by
 have B:∀ n v,n<μ.length->Rep T μ' H (.ref n) v->Rep T μ H (.ref n) v:=λn v hn h=>by
  rw[Rep]at h ⊢;obtain⟨a,h1,g⟩:=h;obtain⟨q,rfl⟩:=e;rw[gb hn]at g;exact⟨a,h1,g⟩
 intro m;induction m with
 |zero=>
  intro d d' v h l;unfold fz at h;by_cases x:cl d=true
  ·rw[da x]at h;cases h;exact XF e _ _ x l
  ·rw[ka x]at h;cases d with
   |ref n=>
    dsimp only at h;by_cases hn:n<μ.length
    ·rw[da hn]at h;cases h;exact B n v hn l
    ·rw[ka hn]at h;cases h
   |_=>cases h
 |succ m N=>
  intro d d' v h l;unfold fz at h;by_cases x:cl d=true
  ·rw[da x]at h;cases h;exact XF e _ _ x l
  ·rw[ka x]at h;have go:=ZL (T:=T) (μ:=μ) (μ':=μ') (H:=H) (f:=fz μ.length σ' m) (λd d' v a b=>N d d' v a b);cases d with
   |ref n=>
    dsimp only at h;by_cases hn:n<μ.length
    ·rw[da hn]at h;cases h;exact B n v hn l
    ·rw[ka hn]at h;cases F:σ'[n]? with
     |none=>rw[F]at h;cases h
     |some o=>
      rw[F]at h;obtain⟨a,rfl,L,y⟩:=r.at l F;have out:a ∉ μ:=λz=>by
       obtain⟨i,K⟩:=dq z;obtain⟨q,rfl⟩:=e;have M:=(ja.mp K).1;have:=xE r.nd (i:=i) (j:=n) (by rw[gb M];exact K) L;omega
      cases o with
      |lst xs=>
       obtain⟨s,h1,g⟩:=Eb.mp h;subst g;obtain⟨k,h3,h4⟩:=y;rw[Rep];exact⟨a,k,rfl,out,h3,go xs s k h1 h4⟩
      |Lb J=>
       obtain⟨s,h1,g⟩:=Eb.mp h;subst g;obtain⟨k,h3,h4⟩:=y;obtain⟨G,I⟩:=KG h4;rw[Rep];exact⟨a,k,rfl,out,(.inl h3),G,go _ s _ h1 I⟩
      |ins c fs=>
       obtain⟨s,h1,g⟩:=Eb.mp h;subst g;obtain⟨C,k,h3,h4⟩:=y;obtain⟨G,I⟩:=KG h4;rw[Rep];exact⟨a,C,k,rfl,out,h3,G,go _ s _ h1 I⟩
      |Be J=>cases h
      |cj _=>cases h
   |tup xs=>
    obtain⟨s,h1,g⟩:=Eb.mp h;subst g;rw[Rep]at l ⊢;obtain⟨p,k,t,u,w⟩:=l;exact⟨p,k,t,u,go xs s k h1 w⟩
   |lst xs=>
    obtain⟨s,h1,g⟩:=Eb.mp h;subst g;rw[Rep]at l ⊢;obtain⟨p,k,t,A,u,w⟩:=l;exact⟨p,k,t,λz=>A (by obtain⟨r,rfl⟩:=e;exact La _ z),u,go xs s k h1 w⟩
   |Lb O xs=>
    obtain⟨s,h1,g⟩:=Eb.mp h;subst g;rw[Rep]at l ⊢;obtain⟨p,k,t,A,u,E,w⟩:=l;exact⟨p,k,t,λz=>A (by obtain⟨r,rfl⟩:=e;exact La _ z),u,E,go xs s _ h1 w⟩
   |obj c O xs=>
    obtain⟨s,h1,g⟩:=Eb.mp h;subst g;rw[Rep]at l ⊢;obtain⟨p,C,k,t,A,u,E,w⟩:=l;exact⟨p,C,k,t,λz=>A (by obtain⟨r,rfl⟩:=e;exact La _ z),u,E,go xs s _ h1 w⟩
   |_=>cases h
theorem Ib.Xa{E:XK}{f:M D}{Q:V->Hp->Prop}(r:Rel T μ H σ)(h:Ib T E (Rep T) μ H (Xa f σ) Q):Ib T E (Rep T) μ H (f σ) Q:=by
 unfold L4.Xa at h;cases e:f σ with
 |bad=>rw[e]at h;exact h
 |ex x a=>
  rw[e]at h;unfold eh at h;dsimp only at h;by_cases b:a.take σ.length=σ
  ·rw[da b]at h;intro m i c g;obtain⟨l,j⟩:=Rel.down r g c b;exact h μ i j l
  ·rw[ka b]at h;exact h.elim
 |ok d a=>
  rw[e]at h;unfold eh at h;dsimp only at h;by_cases b:a.take σ.length=σ
  ·rw[da b]at h;cases k:fz σ.length a 6 d with
   |none=>rw[k]at h;exact h.elim
   |some n=>
    rw[k]at h;intro m v i c g o;obtain⟨l,j⟩:=Rel.down r g c b;exact h μ v i j l (iK c.pre g 6 d n v (by rw[r.len];exact k) o)
  ·rw[ka b]at h;exact h.elim
end
noncomputable def si(f:Ev->M D):Ev->M D:=λa=>Xa (f a)
theorem Bn{T:Tb}{X:Cx}{e:Ga}{f:Ev->M D}(h:FE T X e f):FE T X e (si f):=by
 intro a s st H Q I d;obtain⟨g,i,j,c,b,hp⟩:=d;exact h a s st H Q I ⟨g,i,j,c,b,Ib.Xa b hp⟩
end L4
namespace L4
open PySem PySem.Spec PyProof.Rows L2
noncomputable def DK(h h':Heap):Prop:=∀ (a:Nat) o,h.objs[a]?=some o->∃ b:gc,h'.objs[a]?=some b/\b.dict=o.dict
theorem DK.refl(h:Heap):DK h h:=λ_ o e=>⟨o,e,rfl⟩
theorem DK.trans{h1 d h3:Heap}(x:DK h1 d)(y:DK d h3):DK h1 h3:=λa o e=>by
 obtain⟨g,f,q⟩:=x a o e;obtain⟨c,b,h⟩:=y a g f;exact⟨c,b,h.trans q⟩
theorem DK.push(h:Heap)(o:gc):DK h (h.push o):=λa u e=>by
 obtain⟨b,l⟩:=h;have e:b[a]?=some u:=e;have c:=(Nc.mp e).1;refine⟨u,?_,rfl⟩;show (b.push o)[a]?=some u;rw[Array.getElem?_push_lt c];exact(Yg c).symm.trans e
theorem DK.update(h:Heap)(b:Addr){f:gc->gc}(d:∀ o,(f o).dict=o.dict):DK h (h.update b f):=λa u e=>by
 obtain⟨c,l⟩:=h;have e:c[a]?=some u:=e;show ∃ g:gc,(c.modify b f)[a]?=some g/\_;rw[Array.getElem?_modify];by_cases hb:b=a
 ·rw[da hb,e];exact⟨f u,rfl,d u⟩
 ·rw[ka hb];exact⟨u,e,rfl⟩
theorem DK.get{h h':Heap}(x:DK h h'){a:Addr}{o o':gc}(e:h.get? a=some o)(b:h'.get? a=some o'):o'.dict=o.dict:=by
 obtain⟨u,c,d⟩:=x a o ((Ds _ _ _).1 e).1;have:=((Ds _ _ _).1 b).1;have z:some u=some o':=c.symm.trans this;cases z;exact d
structure KD{α:Type}(t:fo α):Prop where
 out:∀ (M:Yj) (Γ:PySem.Ctx) (Q:α->Ae->aa->Prop) (E:Value->Ae->aa->Prop) (p:Ae) (s:aa),Sem.wp M Γ t Q E p s->Sem.wp M Γ t (λa p' s'=>Q a p' s'/\DK s.heap s'.heap) (λe p' s'=>E e p' s'/\DK s.heap s'.heap) p s
namespace KD
variable{α β:Type}
theorem kq(a:α):KD (Pure.pure a:fo α):=⟨λ_ _ _ _ _ s h=>⟨h,.refl _⟩⟩
theorem Sr(w:String):KD (PySem.unsupported w:fo α):=⟨λ_ _ _ _ _ _ h=>h⟩
theorem Pc{m:fo α}{f:α->fo β}(hm:KD m)(e:∀ a,KD (f a)):KD (m >>= f):=⟨λM b Q E p s h=>by
 rw[kl]at h ⊢;refine Iq M b m (λa c d z=>?_) (λ_ _ _ z=>z) p s (hm.out M b _ _ p s h);exact Iq M b (f a) (λ_ _ _ q=>⟨q.1,z.2.trans q.2⟩) (λ_ _ _ q=>⟨q.1,z.2.trans q.2⟩) c d ((e a).out M b _ _ c d z.1)⟩
theorem Xl{c:Prop}[Decidable c]{t u:fo α}(a:KD t)(hu:KD u):KD (if c then t else u):=by split<;>assumption
theorem ld(a:Addr):KD (PySem.load a):=⟨λ_ _ _ _ _ _ h=>by obtain⟨o,b,h⟩:=h;exact⟨o,b,h,.refl _⟩⟩
theorem upd(a:Addr){f:gc->gc}(b:∀ o,(f o).dict=o.dict):KD (PySem.update a f):=⟨λ_ _ _ _ _ _ h=>⟨h.1,h.2,.update _ _ b⟩⟩
theorem wn:KD PySem.stack:=⟨λM a Q E p s h=>by
 unfold PySem.stack at h ⊢;rw[Sem.wp_stack]at h ⊢;exact⟨h,.refl _⟩⟩
theorem Ir(o:gc):KD (PySem.alloc o):=⟨λ_ _ _ _ _ _ h=>⟨h,.push _ _⟩⟩
theorem fld(v:Value)(i:Nat):KD (PySem.field v i):=⟨λ_ g Q E p s h=>by
 rw[Es]at h ⊢;obtain⟨a,o,f,x,b,c,d,e,h⟩:=h;exact⟨a,o,f,x,b,c,d,e,h,.refl _⟩⟩
theorem set(v:Value)(i:Nat)(x:Value):KD (PySem.setField v i x):=⟨λ_ m Q E p s h=>by
 rw[QC]at h ⊢;obtain⟨a,o,k,e,f,g,j,h⟩:=h;exact⟨a,o,k,e,f,g,j,h,.update _ _ λo=>by obtain⟨c,d,b,l⟩:=o;cases b<;>rfl⟩⟩
end KD
theorem pP(env:ag)(l:List ag):KD (bH env l):=by unfold bH;(repeat' with_reducible first|assumption|exact KD.kq _|exact KD.Sr _|exact KD.fld _ _|exact KD.set _ _ _|exact KD.ld _|exact KD.upd _ (λ_=>rfl)|exact KD.wn|exact KD.Ir _|apply KD.Xl|apply KD.Pc|intro _|split)
theorem kY:KD underTheClaimsCaller:=by unfold underTheClaimsCaller;(repeat' with_reducible first|assumption|exact KD.kq _|exact KD.Sr _|exact KD.fld _ _|exact KD.set _ _ _|exact KD.ld _|exact KD.upd _ (λ_=>rfl)|exact KD.wn|exact KD.Ir _|apply KD.Xl|apply KD.Pc|intro _|split)
theorem X1(env:ag)(i:Bool)(l:List ag):KD (keptBack env i l):=by
 have:=kY;cases l<;>unfold keptBack<;>(repeat' with_reducible first|assumption|exact KD.kq _|exact KD.Sr _|exact KD.fld _ _|exact KD.set _ _ _|exact KD.ld _|exact KD.upd _ (λ_=>rfl)|exact KD.wn|exact KD.Ir _|apply KD.Xl|apply KD.Pc|intro _|split)
theorem BI:∀ l:List ag,KD (N7 l)
 |[]=>KD.kq _
 |env::l=>by
  have b:=BI l;have h1:=pP env l;have a:=λi=>X1 env i l;unfold N7
  (repeat' with_reducible first|assumption|exact KD.kq _|exact KD.Sr _|exact KD.fld _ _|exact KD.set _ _ _|exact KD.ld _|exact KD.upd _ (λ_=>rfl)|exact KD.wn|exact KD.Ir _|apply KD.Xl|apply KD.Pc|intro _|split)
  all_goals first|exact a _|skip
theorem OV(l:List ag):KD (O7 l):=by
 cases l with
 |nil=>exact KD.kq _
 |cons env l=>
  have:=BI (env::l);unfold O7
  (repeat' with_reducible first|assumption|exact KD.kq _|exact KD.Sr _|exact KD.fld _ _|exact KD.set _ _ _|exact KD.ld _|exact KD.upd _ (λ_=>rfl)|exact KD.wn|exact KD.Ir _|apply KD.Xl|apply KD.Pc|intro _|split)
theorem bQ:KD frameEnvs:=by unfold frameEnvs;(repeat' with_reducible first|assumption|exact KD.kq _|exact KD.Sr _|exact KD.fld _ _|exact KD.set _ _ _|exact KD.ld _|exact KD.upd _ (λ_=>rfl)|exact KD.wn|exact KD.Ir _|apply KD.Xl|apply KD.Pc|intro _|split)
theorem EO(env:ag):KD (PySem.frameOf env):=by
 have h1:=bQ;have a:=OV;unfold PySem.frameOf
 (repeat' with_reducible first|assumption|exact KD.kq _|exact KD.Sr _|exact KD.fld _ _|exact KD.set _ _ _|exact KD.ld _|exact KD.upd _ (λ_=>rfl)|exact KD.wn|exact KD.Ir _|apply KD.Xl|apply KD.Pc|intro _|split)
 all_goals first|exact a _|skip
theorem Y0(f:Addr)(b:Bool):KD (w4 f b):=by unfold w4;(repeat' with_reducible first|assumption|exact KD.kq _|exact KD.Sr _|exact KD.fld _ _|exact KD.set _ _ _|exact KD.ld _|exact KD.upd _ (λ_=>rfl)|exact KD.wn|exact KD.Ir _|apply KD.Xl|apply KD.Pc|intro _|split)
theorem xP(a b c d e:Value)(l:List Value):KD (Pn a b c d e l):=by
 unfold Pn newFields newObj newObjAsIs;dsimp only
 (repeat' with_reducible first|assumption|exact KD.kq _|exact KD.Sr _|exact KD.fld _ _|exact KD.set _ _ _|exact KD.ld _|exact KD.upd _ (λ_=>rfl)|exact KD.wn|exact KD.Ir _|apply KD.Xl|apply KD.Pc|intro _|split)
theorem OS(e:Value)(env:ag):KD (Wf e env):=by
 have h1:=EO env;have a:=Y0;have h3:=xP;unfold Wf
 (repeat' with_reducible first|assumption|exact KD.kq _|exact KD.Sr _|exact KD.fld _ _|exact KD.set _ _ _|exact KD.ld _|exact KD.upd _ (λ_=>rfl)|exact KD.wn|exact KD.Ir _|apply KD.Xl|apply KD.Pc|intro _|split)
 all_goals first|exact a _ _|exact h3 _ _ _ _ _ _|skip
theorem HU(e:Value)(f:Option Addr):KD (xh e f):=by unfold xh;(repeat' with_reducible first|assumption|exact KD.kq _|exact KD.Sr _|exact KD.fld _ _|exact KD.set _ _ _|exact KD.ld _|exact KD.upd _ (λ_=>rfl)|exact KD.wn|exact KD.Ir _|apply KD.Xl|apply KD.Pc|intro _|split)
theorem vH{e:Type}{M:Yj}{A:Da}{t:fo e}{Q:e->aa->Prop}{E:Value->aa->Prop}{s:aa}(k:KD t)(h:wpAny M A t Q E s):wpAny M A t (λa d=>Q a d/\DK s.heap d.heap) E s:=
 λc p b=>Iq M c t (λ_ _ _ z=>z) (λ_ _ _ z=>z.1) p s (k.out M c _ _ p s (h c p b))
section
variable{P:ra}{w:Ea}{H H':Hp}{h h':Heap}{a:Addr}{o:HO}
theorem aI(x:mi P w H h a o):∃ u,h.get? a=some u:=by
 cases o with
 |lst xs=>obtain⟨_,_,_,_,e⟩:=x;exact⟨_,e⟩
 |tup xs=>obtain⟨_,_,_,c,e,_⟩:=x;exact⟨_,e⟩
 |dK b=>obtain⟨_,_,_,_,o,_,_,e,_⟩:=x;exact⟨_,e⟩
 |dT b=>obtain⟨_,_,_,_,o,_,_,e,_⟩:=x;exact⟨_,e⟩
 |set S n=>obtain⟨o,_,_,_,e,_⟩:=x;exact⟨_,e⟩
 |ins C d fs=>obtain⟨_,_,_,e,_⟩:=x;exact⟨_,e⟩
 |own y=>obtain⟨_,e⟩:=x;exact⟨_,e⟩
 |xd fs=>obtain⟨_,⟨_,_,_,e,_⟩,_⟩:=x;exact⟨_,e⟩
 |KA lo g=>obtain⟨_,_,_,e⟩:=x;exact⟨_,e⟩
 |Xa c u=>obtain⟨e,_⟩:=x;exact⟨_,e⟩
 |Ik i=>exact⟨_,x⟩
 |met f y=>exact⟨_,x⟩
 |ext j=>obtain⟨_,⟨_,e⟩,_⟩:=x;exact⟨_,e⟩
theorem uE(x:Kh P w H h)(k:∀ b o u,H b=some o->h.get? b=some u->h'.get? b=some u):Kh P w H h':=λb o e=>
 (x b o e).ej (λc v a q=>by
  rcases a with rfl|a
  ·exact k _ _ _ e q
  ·exact k _ _ _ a q) (λ_ q=>q) λ_ _ q=>q
end
section
variable{X:Cx}{pins:List (Addr × gc)}{st:St}{H H':Hp}{s s':aa}{cls:Value}{h':Heap}{ea:Addr}{args:List Value}{M:Yj}{E:Value->aa->Prop}{Q:Unit->aa->Prop}
theorem bU{B:Heap}{l:List ag}{a0:Value}{h:Heap}(x:Zx B l ea cls a0 h):uo B l ea cls a0 h:=⟨x.1,x.2.1,x.2.2.1,.inl ⟨.none,x.2.2.2.at⟩⟩
theorem uo.there{B:Heap}{l:List ag}{a0:Value}{h:Heap}(x:uo B l ea cls a0 h):∃ ob,h.get? ea=some ob/\ob.cls=cls:=by
 obtain⟨_,_,_,⟨d,q⟩|⟨a,e,b,c,_⟩⟩:=x
 ·exact q.there
 ·exact⟨a,b,c⟩
theorem uo.qF{B:Heap}{l:List ag}{a0:Value}{h:Heap}{o:gc}(x:uo B l ea cls a0 h)(b:h.get? ea=some o):∃ vs,o.data=.fields vs:=by
 obtain⟨_,_,_,⟨f,c,vs,T,g,j,he,a,hd,_⟩|⟨c,vs,d,i,e,_⟩⟩:=x
 ·cases he.symm.trans b;exact⟨vs,hd⟩
 ·cases d.symm.trans b;exact⟨vs,e⟩
theorem Gy.next{a:Option Nat}{B h h' h0:Heap}{H':Hp}(x:Gy a ea B h h0 H')(k:DK h h')(e:∃ o,h'.get? ea=some o):Gy a ea B h' h0 H':=λn q=>by
 obtain⟨b,c,i,d,f,g⟩:=x n q;obtain⟨o,e⟩:=e;exact⟨b,c,o,e,(k.get d e).trans f,g⟩
theorem JE{A:Da}{B:Heap}{l:List ag}{a0:Value}(x:uo B l ea cls a0 s.heap)(g:∀ h1,uo B l ea cls a0 h1->s.heap.UpToSlots h1->DK s.heap h1->Q () { s with heap:=h1 }):wpAny M A (xh (.ref ea) none) Q E s:=by
 obtain⟨c,d,f,⟨t,a⟩|a⟩:=x
 ·have k:wpAny M A (xh (.ref ea) none) (λ_ s'=>∃ h1,s'={ s with heap:=h1 }/\uo B l ea cls a0 h1/\s.heap.UpToSlots h1) E s:=
   wpAny_setFlight_noneW c f a λh1 h i j m=>⟨h1,rfl,bU ⟨h,d,i,j⟩,λb o e n=>⟨o.slots,m b o e n⟩⟩
  exact Mb (vH (HU _ _) k) (λ_ _ ⟨⟨h1,e,p,q⟩,r⟩=>by subst e;exact g h1 p q r) λ_ _ z=>z
 ·obtain⟨w,y,he,u,hd,v,h0,h1⟩:=id a;unfold xh;refine ba (Vj he hd h1 ?_);rw[ka (show ¬ ((pb != pb)=true)from by decide)];exact na (g s.heap ⟨c,d,f,.inr a⟩ (.refl _) (.refl _))
theorem gZ{A:Da}{B:Heap}{env:ag}{outer:List ag}{L:Addr}{a0:Value}(j:A.frames=some (env::outer))(i:env.frame=some L)(x:uo B (env::outer) ea cls a0 s.heap)
  (D:∀ h1,jn B (env::outer) ea cls a0 L h1->s.heap.UpToSlots h1->Q () { s with heap:=h1 }):wpAny M A (Wf (.ref ea) env) Q E s:=by
 obtain⟨y,r,z,⟨t,g⟩|g⟩:=x
 ·by_cases hm:t=Wd L
  ·subst hm;exact wpAny_noteFrame_againW i g (D s.heap ⟨y,r,z,g⟩ (.refl _))
  ·obtain⟨oe,J,T,S,m,he,F,hd,h1,l,f,u,a,h3⟩:=g;have sz:3<m.size:=(Nc.mp h3).1;have c:∀ b,b≠T->(s.heap.update T (Gh (·.setIfInBounds 3 pb))).get? b=s.heap.get? b:=λb hb=>So _ _ (Ee hb);have nr:∀ b o,s.heap.get? b=some o->(∀ v,o.data≠.fields v)->b≠T:=λb o hb hn q=>by
    rw[q,u]at hb;cases hb;exact hn m a
   have d:=Heap.get?_update_self (Gh (·.setIfInBounds 3 pb)) u (Obj.isFreed_of_fields (Wj a _));have up:s.heap.UpToSlots (s.heap.update T (Gh (·.setIfInBounds 3 pb))):=λb o e n=>⟨o.slots,(c b (nr b o e n)).trans e⟩
   have U:Zx B (env::outer) ea cls a0 (s.heap.update T (Gh (·.setIfInBounds 3 pb))):=
    ⟨λb o e=>(c b λq=>by rw[q,l]at e;cases e).trans (y b o e),r,z.of_keeps λb o e n=>⟨o,(c b (nr b o e n)).trans e,rfl⟩,
     oe,J,T,_,_,(c ea (Ee f)).trans he,F,hd,h1,l,f,d,Wj a _,by simp[sz]⟩
   have H:=wpAny_looks_onW (M:=M) (E:=E) (Q:=Q) (s:={ s with heap:=s.heap.update T (Gh (·.setIfInBounds 3 pb)) }) j i U λh2 q1 q2=>D h2 q1 (up.trans q2);intro Γ p G;have k:=H Γ p G;unfold Wf at k ⊢;simp only[i]at k ⊢;rw[kl,Es]at k ⊢;obtain⟨a1,o1,v1,x1,W,Z,N,O,k⟩:=k;cases W;have h:s.heap.get? ea=some o1:=(c ea (Ee f)).symm.trans Z;have I:o1=oe:=by rw[he]at h;cases h;rfl
   subst I;rw[hd]at N;cases N;rw[h1]at O;cases O;refine⟨ea,o1,J,.ref T,rfl,he,hd,h1,?_⟩;have nn:(eb T != pb)=true:=by simp
   simp only[nn,Xf]at k ⊢;rw[kl,Es]at k ⊢;obtain⟨a2,o2,v2,x2,X,g2,V,P,k⟩:=k;cases X;have C:=d.symm.trans g2;cases C;have w:=(Wj a (·.setIfInBounds 3 pb)).symm.trans V;cases w;have K:x2=pb:=by
    have:(m.setIfInBounds 3 pb)[3]?=some pb:=by simp[sz]
    rw[this]at P;cases P;rfl
   subst K;refine⟨T,S,m,t,rfl,u,a,h3,?_⟩;have n1:(pb == Wd L)=false:=by simp[Wd]
   have n2:(t == Wd L)=false:=by
    cases q:t == Wd L with
    |false=>rfl
    |true=>exact absurd (Zf.mp q) hm
   simp only[n1,n2,dr,Zn]at k ⊢;rw[kl,QC]at k ⊢;obtain⟨a3,o3,v3,Y,g3,d3,i3,k⟩:=k;cases Y;refine⟨T,S,m,rfl,u,a,sz,?_⟩;simp only[Heap.update_setField_twice]at k;exact k
 ·obtain⟨oe,J,he,F,hd,hz,h0,h1⟩:=g;unfold Wf;simp only[i];refine ba (Vj he hd h1 ?_);rw[ka (by decide)];refine wpAny_entryW (base:=B) (outer:=outer) (a0:=a0) j z i he y r hd hz h0 λh4 hN=>?_;obtain⟨k1,k2,R,k4⟩:=hN;rw[F]at R;exact D h4 ⟨k1,r,k2,R⟩ k4
theorem MH{A:Da}{B:Heap}{env:ag}{outer:List ag}{L:Addr}{a0:Value}(a:A.frames=some (env::outer))(f:env.frame=some L)(x:uo B (env::outer) ea cls a0 s.heap)
  (d:∀ h1,jn B (env::outer) ea cls a0 L h1->s.heap.UpToSlots h1->DK s.heap h1->Q () { s with heap:=h1 }):wpAny M A (Wf (.ref ea) env) Q E s:=by
 have k:wpAny M A (Wf (.ref ea) env) (λ_ s'=>∃ h1,s'={ s with heap:=h1 }/\jn B (env::outer) ea cls a0 L h1/\s.heap.UpToSlots h1) E s:=gZ a f x λh1 b c=>⟨h1,rfl,b,c⟩
 exact Mb (vH (OS _ _) k) (λ_ _ ⟨⟨h1,e,b,c⟩,g⟩=>by subst e;exact d h1 b c g) λ_ _ z=>z
theorem jI{B:Heap}{l:List ag}{a0:Value}{L:Addr}{h:Heap}(x:jn B l ea cls a0 L h):uo B l ea cls a0 h:=⟨x.1,x.2.1,x.2.2.1,.inl ⟨_,x.2.2.2⟩⟩
theorem vZ{A:Da}{B:Heap}{env:ag}{outer:List ag}{L:Addr}{a0:Value}(a:A.frames=some (env::outer))(d:env.frame=some L)(x:uo B (env::outer) ea cls a0 s.heap)
  (c:∀ h1,uo B outer ea cls a0 h1->s.heap.UpToSlots h1->DK s.heap h1->Q () { s with heap:=h1 }):wpAny M A (Xx env (.ref ea)) Q E s:=by
 unfold Xx;refine ba (MH a d x λh1 i j k=>?_);refine JE (jI i) λb l m n=>?_;obtain⟨e,f,⟨_,_,g⟩,h⟩:=l;exact c b ⟨e,f,g,h⟩ (j.trans m) (k.trans n)
theorem xA(hs:X.stack=X.env::X.outer)(a:X.env.frame=some X.env.locals){b:Addr}:b∈xi X.stack ↔ b=X.env.locals\/b∈xi X.outer:=by
 rw[hs];unfold xi;rw[Ig,a];exact Pa
theorem iT(I:Inv X pins st H s)(hs:X.stack=X.env::X.outer)(i:X.env.frame=some X.env.locals)(j:X.ex=[]){h'':Heap}(un:Un (xi X.stack) [] H H' s.heap h''):Un (xi X.outer) [] X.H₀ H' X.s₀.heap h'':=by
 have a:∀ b,b ∉ X.ex:=λb z=>by rw[j]at z;cases z
 have f:∀ b o,X.s₀.heap.get? b=some o->b≠X.env.locals:=λb o e=>Ba (Ca (qa e) I.ok.above);refine⟨λb o e n hb _=>?_,λb o e n hb _=>?_,λb o e n _=>?_,λb o e _=>?_,λb xs e=>un.yh b xs (I.base.yh b xs e),λb o u e=>un.Hg b o u (I.base.Hg b o u e),λb k e=>?_⟩
 ·exact un.keep b o (I.base.keep b o e n hb (a b)) (I.base.free b o e n (a b)) (λz=>((xA hs i).mp z).elim (f b o e) hb) (by simp)
 ·obtain⟨l,c⟩:=I.base.slot b o e n hb (a b);obtain⟨h,d⟩:=un.slot b _ c (I.base.free b o e n (a b)) ((xA hs i).mpr (.inr hb)) (by simp);exact⟨h,d⟩
 ·obtain⟨g,c⟩:=I.base.there b o e (a b);exact un.free b g c (I.base.free b o e n (a b)) (by simp)
 ·obtain⟨g,c⟩:=I.base.there b o e (a b);exact un.there b g c (by simp)
 ·obtain⟨m1,c⟩:=I.base.kh b k e;obtain⟨m2,d⟩:=un.kh b _ c;exact⟨m1++m2,by rw[d,xj]⟩
theorem rG{P:ra}{w:Ea}{outer:List ag}{e:Value}{m:Option Nat}(F:qv P w outer H s cls m H' e s'){h6:Heap}{B:Heap}(r:∀ b o,s.heap.get? b=some o->H b=none->b ∉ xi outer->B.get? b=some o)(t:∀ b o,H' b=some o->∃ ob,B.get? b=some ob)
  (p:∀ b o,s.heap.get? b=some o->b ∉ xi outer->∃ d,B.get? b=some d) (k:∀ b o,B.get? b=some o->s'.heap.get? b=some o) (c:∀ b o,B.get? b=some o->h6.get? b=some o) (h:s'.heap.UpToSlots h6) (g:∀ b∈xi outer,∃ o,s.heap.get? b=some o/\(∀ vs,o.data≠.fields vs)/\H b=none) :
  Un (xi outer) [] H H' s.heap h6/\Kh P w H' h6:=by
 refine⟨⟨λb o e n hb _=>c b o (r b o e n hb),λb o e n hb l=>?_,F.un.free,λb o e l=>?_,F.un.yh,F.un.Hg,F.un.kh⟩,uE F.Qb λb o u e q=>?_⟩
 ·obtain⟨v,a⟩:=F.un.slot b o e n hb l;obtain⟨d,f,hd,_⟩:=g b hb;rw[e]at f;cases f;obtain⟨i,j⟩:=h b _ a hd;exact⟨i,j⟩
 ·by_cases hb:b∈xi outer
  ·obtain⟨d,f,hd,hn⟩:=g b hb;rw[e]at f;cases f;obtain⟨v,a⟩:=F.un.slot b o e hn hb l;obtain⟨i,j⟩:=h b _ a hd;exact⟨_,j⟩
  ·obtain⟨d,a⟩:=p b o e hb;exact⟨d,c b d a⟩
 ·obtain⟨ob,a⟩:=t b o e;have:=k b ob a;rw[q]at this;cases this;exact c b _ a
theorem FF(I:Inv X pins st H s):∀ b∈xi X.stack,∃ o,s.heap.get? b=some o/\(∀ vs,o.data≠.fields vs)/\H b=none:=λb hb=>by
 obtain⟨_,o,e,hd⟩:=I.stack.mem hb;exact⟨o,e,hd,I.tj b hb⟩
theorem MW(I:Inv X pins st H s)(hs:X.stack=X.env::X.outer)(i:X.env.frame=some X.env.locals)(c:X.ex=[]){e:Value}{j:Option Nat}(F:qv X.prog X.w X.stack H s cls j H' e s')
  (J:∀ h,qv X.prog X.w X.outer X.H₀ X.s₀ cls j H' e h->Q () h):wpAny M X.A (Xx X.env e) Q E s':=by
 obtain⟨ea,a0,B,rfl,t,hn,d,C,y,x,G⟩:=F.ex;have k:uo B (X.env::X.outer) ea cls a0 s'.heap:=by rw[<-hs];exact t
 refine vZ (by rw[<-hs];exact I.ok.frames) i k λl p O P=>J _ ?_;obtain⟨un,Qb⟩:=rG F y C x t.1 p.1 O (FF I);have a:∀ b,b ∉ X.ex:=λb z=>by rw[c]at z;cases z
 have f:∀ b o,X.s₀.heap.get? b=some o->b≠X.env.locals:=λb o e=>Ba (Ca (qa e) I.ok.above);have g:∀ b,s.heap.get? b=none->X.s₀.heap.get? b=none:=λb e=>by
  cases q:X.s₀.heap.get? b with
  |none=>rfl
  |some u=>obtain⟨v,r⟩:=I.base.there _ _ q (a _);rw[e]at r;cases r
 have m:Gy j ea B l X.s₀.heap H':=λn q=>by
  obtain⟨D,L,N,R,S,T,U,V,W⟩:=G.next P (let ⟨o,e,_⟩:=p.there;⟨o,e⟩) n q;exact⟨D,L,N,R,S,T,U,V,g _ W⟩
 refine⟨⟨ea,a0,B,rfl,p,hn,?_,C,λb o e n hb=>?_,λb o e hb=>?_,m⟩,F.os.trans I.os,F.bare,iT I hs i c un,Qb⟩
 ·cases q:X.s₀.heap.get? ea with
  |none=>rfl
  |some u=>obtain⟨v,e⟩:=I.base.there _ _ q (a _);rw[d]at e;cases e
 ·exact y b o (I.base.keep b o e n hb (a b)) (I.base.free b o e n (a b)) λz=>((xA hs i).mp z).elim (f b o e) hb
 ·obtain⟨K,q⟩:=I.base.there b o e (a b);exact x b K q λz=>((xA hs i).mp z).elim (f b o e) hb
end
theorem GS{P:ra}{w:Ea}{K:W.Frag}{mg:ma->Option Value}{base:Heap}{N:List ma}{qual:ma}{scope:Scope}{f:Addr}{cd:Value}{A:Da}{outer:List ag}{s:aa}{H:Hp}{E:XK}{st:St}{cls:Value}{b:Option Nat}{a:Hp}
  (h:E cls b a):Mw (Bo (jl P w) P w K mg base N qual scope f cd A outer s H E) st cls b a where
 dC:=λc g s1 e i I F=>MW I rfl rfl rfl F λd G=>⟨cls,b,a,G,h⟩
theorem Mw.made{X:Cx}{d:List (Addr × gc)}{st:St}{h:Hp}{s:aa}{cls:Value}{f:Addr}{h':Heap}{i:List Value}(t:Mw X st cls none h)(I:Inv X d st h s)(c:Heap.MadeExcOf s.heap h' f cls i):X.xe (.ref f) { s with heap:=h' }:=by
 have k:s.heap.FunFrames (W.hideAll s.heap (xi X.stack)) X.stack:=W.funFrames_hide (as:=xi X.stack) I.stack (λenv he a l=>Fj.mpr ⟨env,he,l⟩);have g:∀ b o,s.heap.get? b=some o->b ∉ xi X.stack->(W.hideAll s.heap (xi X.stack)).get? b=some o:=λb o e n=>KC _ e n;obtain⟨p,he,m,r⟩:=c.there;have j:∀ b o,h b=some o->b ∉ xi X.stack:=λb o e z=>by rw[I.tj b z]at e;cases e
 have hn:h f=none:=by
  cases q:h f with
  |none=>rfl
  |some u=>obtain⟨v,e⟩:=aI (I.Qb _ _ q);rw[c.new]at e;cases e
 refine t.dC d h s (.ref f) _ I ⟨⟨f,.ref p,W.hideAll s.heap (xi X.stack),rfl,⟨λb o q=>c.keeps b o (Dq _ q),?_,k.of_keeps λb o e _=>⟨o,c.keeps b o e,rfl⟩,.inr ⟨_,_,he,rfl,rfl,by simp,rfl,rfl⟩⟩,hn,c.new,λb o e=>?_,λb o e n hb=>g b o e hb,λb o e hb=>⟨o,g b o e hb⟩,λn q=>by cases q⟩,rfl,I.bare,⟨λb o e n hb _=>c.keeps b o e,λb o e n hb _=>⟨o.slots,c.keeps b o e⟩,λb o e n _=>n,λb o e _=>⟨o,c.keeps b o e⟩,λ_ _ e=>e,λ_ _ _ e=>e,λb w e=>⟨#[],by rw[e];simp⟩⟩,uE I.Qb λb o u e q=>c.keeps b u q⟩
 ·cases q:(W.hideAll s.heap (xi X.stack)).get? f with
  |none=>rfl
  |some u=>have:=Dq _ q;rw[c.new]at this;cases this
 ·obtain⟨u,q⟩:=aI (I.Qb _ _ e);exact⟨u,g b u q (j b o e)⟩
theorem Zp{P:ra}{w:Ea}{K:W.Frag}{mg:ma->Option Value}{base:Heap}{N:List ma}{qual:ma}{scope:Scope}{f:Addr}{cd:Value}{A:Da}{outer:List ag}{s:aa}{H:Hp}{E:XK} :
  On (model P w) (Bo (jl P w) P w K mg base N qual scope f cd A outer s H E).A (Bo (jl P w) P w K mg base N qual scope f cd A outer s H E).env (Bo (jl P w) P w K mg base N qual scope f cd A outer s H E).xe:=Y3
noncomputable def LR:Fl->M D
 | .nx _=>ret .Jb
 | .rt d=>ret d
 | .xc _ x=>λa=>.ex x a
 |_=>bad
noncomputable def Pv:Out Fl->Out D
 | .ok a σ=>LR a σ
 |_=>.bad
noncomputable def run(n:Nat)(g:Ev->M Fl)(ds:List D):M D:=λa=>Pv (g (ds.map some++List.replicate (n - ds.length) none) a)
noncomputable def ln(T:Tb)(n:Nat)(f:List D->M D):Sp:=λd H Q E=>∃ b c a,Qa T b H a d/\a.length=n/\Rel T b H c/\Ib T E (Rep T) b H (f a c) Q
noncomputable def vq(n:Nat)(f:List D->M D)(dds:List D)(ds:List D):M D:=if (ds++dds).length=n then f (ds++dds)else bad
noncomputable def Yc(n:Nat)(f:List D->M D)(dds:List D)(fs:Ev->M (List D)):Ev->M D:=λa=>Pc (fs a) (vq n f dds)
section
variable{T:Tb}{X:Cx}
theorem L0{μ:List Addr}{H:Hp}{ds:List D}{vs:List V}{N:List ma}(h:Qa T μ H ds vs):Lg T μ H (ds.map some++List.replicate (N.length - ds.length) none) (L2.Tr N vs):=by
 have c:=h.length;refine⟨by simp[L2.Tr,c],λi d e=>?_⟩;by_cases b:i<ds.length
 ·rw[gb (by simpa using b),Fb]at e;cases a:ds[i]? with
  |none=>rw[a]at e;cases e
  |some x=>
   rw[a]at e;cases e;obtain⟨v,h1,f⟩:=h.get a;refine⟨v,?_,f⟩;unfold L2.Tr;rw[gb (by simpa [<-c]using b),Fb,h1];rfl
 ·rw[Sg (by simpa using b),Ho]at e;split at e<;>cases e
variable{k:Nat}{f C:Addr}{fd:Ad}{ps:List ma}{dvs:List V}{dval:List Value}{dds:List D}{x:ma}{p pos:Ae}{e:Ga}{es:List Ga}{fn:List D->M D}{fs:Ev->M (List D)}{sp:Sp}{t:TA}
theorem vD{a:List (Addr × gc)}{st:St}{H:Hp}{s:aa}{Q:VK}{us:List Value}{vs:List V}(F:Dg X.prog X.w X.K X.mg X.base (jl X.prog X.w) k f fd ps sp)(j:vd k X.A)(hb:ip X.K fd ps dval)(hd:Od dvs dval)
  (I:Inv X a st H s) (r:Od vs us) (h:sp (vs++dvs) H Q (XE X st)):wpAny (model X.prog X.w) X.A (call (.ref f) us) (EP X a st Q) X.xe s:=by
 have d:Od (vs++dvs) (us++dval):=r.append hd;have i:(us++dval).length=ps.length:=by rw[<-d.length];exact F.len _ _ _ _ h
 refine zp (rh (F.run X.A X.stack s H ⟨us,[]⟩ (us++dval) (vs++dvs) Q (XE X st) j I.wz (hb s us I.Xi i) d h) λr m c=>?_);cases r with
 |error e=>obtain⟨cls,fd,n,b,l⟩:=c;exact l.dC a H s e m I b
 |ok g=>
  cases g with
  |ret u=>exact I.after c
  |next=>exact False.elim c
  |brk=>exact False.elim c
  |cont=>exact False.elim c
theorem OF(F:Dg X.prog X.w X.K X.mg X.base (jl X.prog X.w) k f fd ps (ln T ps.length fn))(C:vd k X.A)(z:Gl X x)(hm:X.mg x=some (.ref f))(B:W.keepIn X.K (.ref f)=true)(hb:ip X.K fd ps dval)(hd:Od dvs dval)(g:∀ μ H,Qa T μ H dds dvs)
  (y:FA T X (e::es) fs) (d:(x == ("__debug__" : ma))=false:=by decide) (he:pa (e::es) X.env=(false,Wb e X.env)::pa es X.env:=by rfl) (j:(Dc pos (pa es X.env)).any (·.1)=false:=by rfl) :
  FE T X (.Call (.Name x p) (e::es) [] pos) (Yc ps.length fn dds fs):=by
 intro a s st H Q I h;refine Je (Ow I z hm ?_ d);obtain⟨μ,G,J,v,l,hp⟩:=h;refine gm (h₀:=X.base) I.ok.mod.Cu B (zd (y pos a s st H (λm c=>ln T ps.length fn (m++dvs) c Q (XE X st)) I ⟨μ,G,J,v,l,hp.bind λu o n m c _ L E D b=>?_⟩) λus s1 ⟨m,c,t,r,q⟩=>⟨t.Xi,?_⟩) he j
 ·unfold vq at b;by_cases i:(u++dds).length=ps.length
  ·rw[da i]at b;exact⟨n,o,u++dds,D.append (g _ _),i,E,b⟩
  ·rw[ka i]at b;exact b.elim
 ·exact vD F C hb hd t r q
variable{P:ra}{w:Ea}{K:W.Frag}{mg:ma->Option Value}{base:Heap}
theorem xx{x qual:ma}{st:Stmt}{N:List ma}{g:Ev->M Fl}{a:Arguments}{y kV c C b ct U:Value}{v od:Option Addr}{n:Array (Option Value)}
  (R:K.lookup f=some ⟨U,od,.func (W.fnOf x qual a (Ni st) (Ec st) y kV c C v b ct),n⟩) (m:W.codeIn K b qual=true) (S:wa N ps (Ec st))
  (hb:∀ (A:Da) (outer:List ag) (s:aa) (H:Hp) (E:XK),vd k (A.deeper (eg qual (Ec st) s.heap.objs.size f b))->xn T (Bo (jl P w) P w K mg base N qual (Ec st) f b A outer s H E) (Ni st) g) :
  Dg P w K mg base (jl P w) (k+1) f (W.fnOf x qual a (Ni st) (Ec st) y kV c C v b ct) ps (ln T ps.length (run N.length g)):=by
 refine WI R m S (λX H Q E h=>?_) (λA outer s H X Q E O h=>?_)
 ·obtain⟨F,t,j,h1,B,_⟩:=h;rw[<-h1.length];exact B
 ·obtain⟨F,t,j,h1,B,h3,h4⟩:=h;refine⟨_,hb A outer s H E O,F,_,t,L0 h1,h3,?_⟩;unfold run at h4;cases l:g (j.map some++List.replicate (N.length - j.length) none) t with
  |bad=>rw[l]at h4;exact h4
  |ex x u=>rw[l]at h4;exact h4.elim
  |ok L u=>
   rw[l]at h4;intro q gl H1 I o e;have i:=h4.mono I;cases L with
   |nx r=>cases gl with
    |nx p=>have z:Q V.Jb H1:=Ib.here (d:=D.Jb) i o (by rw[Rep]);exact z
    |_=>exact e.elim
   |rt G=>cases gl with
    |rt v2=>have z:Q v2 H1:=Ib.here (d:=G) i o e;exact z
    |_=>exact e.elim
   |xc r Z=>cases gl with
    |xc p Y J=>
     obtain⟨_,rfl,rfl⟩:=e;exact GS (i q H1 (Ext.refl _ _) o)
    |_=>exact e.elim
   |_=>exact i.elim
theorem yC(F:Dg P w K mg base (jl P w) k f fd ps (ln T ps.length fn)):Dg P w K mg base (jl P w) k f fd ps (ln T ps.length (λa=>Xa (fn a))):=
 F.imp λe H Q E h=>by
  obtain⟨c,d,a,h1,b,h3,h4⟩:=h;exact⟨c,d,a,h1,b,h3,Ib.Xa h3 h4⟩
end
noncomputable def Qh(env:ag)(names:List (ma × De))(a:List (ma × Addr)):List (ma × Addr):=
 names.foldl (λb y=>if (y.2 == .free)=true then (match env.cells.lookup y.1 with|some c=>(y.1,c)::b|none=>b)else b) a
theorem ND(env:ag):∀ (names:List (ma × De)) (acc:List (ma × Addr)),(∀ y∈names,y.2=.free->∃ c,env.cells.lookup y.1=some c)->
  (forIn names acc (λx (cs:List (ma × Addr))=>match x with|(name,kind)=>if (kind == .free)=true then (do let a <-cellOf env name;pure (ForInStep.yield ((name,a)::cs)))else pure (ForInStep.yield cs)):fo (List (ma × Addr)))=pure (Qh env names acc)
 |[],acc,_=>rfl
 |(n,k)::r,acc,h=>by
  rw[List.forIn_cons];by_cases b:(k == Za)=true
  ·obtain⟨c,f⟩:=h (n,k) Ub (by simpa using b);have g:cellOf env n=pure c:=by unfold cellOf;rw[f]
   simp only[b,Xf,g];show (forIn r ((n,c)::acc) _:fo (List (ma × Addr)))=_;rw[ND env r ((n,c)::acc) λy e=>h y (jb _ e)];have d:Qh env ((n,k)::r) acc=Qh env r ((n,c)::acc):=by
    unfold Qh;rw[tf];simp only[b,Xf,f]
   rw[d]
  ·simp only[b];show (forIn r acc _:fo (List (ma × Addr)))=_;rw[ND env r acc λy e=>h y (jb _ e)];have d:Qh env ((n,k)::r) acc=Qh env r acc:=by
    unfold Qh;rw[tf];simp only[b];rfl
   rw[d]
theorem LG(env:ag)(scope:Scope)(h:∀ y∈scope.names,y.2=.free->∃ c,env.cells.lookup y.1=some c):closureFor scope env=pure (Qh env scope.names []):=by
 have e:=ND env scope.names [] h;unfold closureFor;simp only[bind_pure];exact e
theorem jE(env:ag):∀ (names:List (ma × De)) (acc:List (ma × Addr)) (n:ma) (c:Addr),(∀ n c,acc.lookup n=some c->env.cells.lookup n=some c)->(Qh env names acc).lookup n=some c->env.cells.lookup n=some c
 |[],acc,n,c,h,e=>h n c e
 |(y,k)::r,acc,n,c,h,e=>by
  unfold Qh at e;rw[tf]at e;refine jE env r _ n c (λn c q=>?_) e;by_cases b:(k == Za)=true
  ·simp only[b,Xf]at q;cases a:env.cells.lookup y with
   |none=>rw[a]at q;exact h n c q
   |some d=>
    rw[a]at q;rw[Oa]at q;cases hn:(n == y)with
    |true=>rw[hn]at q;cases q;rw[eq_of_beq hn];exact a
    |false=>rw[hn]at q;exact h n c q
  ·simp only[b]at q;exact h n c q
theorem kH(env:ag):∀ (names:List (ma × De)) (acc:List (ma × Addr)) (n:ma),(∃ c,acc.lookup n=some c)->∃ c,(Qh env names acc).lookup n=some c
 |[],acc,n,h=>h
 |(y,k)::r,acc,n,h=>by
  unfold Qh;rw[tf];refine kH env r _ n ?_;by_cases b:(k == Za)=true
  ·simp only[b,Xf];cases d:env.cells.lookup y with
   |none=>exact h
   |some a=>
    show ∃ c,List.lookup n ((y,a)::acc)=some c;rw[Oa];cases hn:(n == y)with
    |true=>exact⟨a,rfl⟩
    |false=>exact h
  ·simp only[b];exact h
theorem Vy(env:ag):∀ (names:List (ma × De)) (acc:List (ma × Addr)) (n:ma),(n,Za)∈names->(∃ c,env.cells.lookup n=some c)->∃ c,(Qh env names acc).lookup n=some c
 |[],acc,n,h,_=>nomatch h
 |(y,k)::r,acc,n,h,a=>by
  unfold Qh;rw[tf];rcases Pa.mp h with e|e
  ·cases e;refine kH env r _ _ ?_;obtain⟨c,a⟩:=a;refine⟨c,?_⟩;simp[a]
  ·exact Vy env r _ n e a
theorem YF{env:ag}:∀ {names:List (ma × De)} {x:ma} {k:De},
  (names.map λ(n,k)=>if (k == Za && env.scope.kind == .function && env.kindOf n == some .cell)then (n,vc)else (n,k)).lookup x=some k->∃ k0,names.lookup x=some k0/\(k=k0\/(k0=.free/\k=.cell))
 |[],_,_,h=>by simp at h
 |(n,k0)::r,x,k,h=>by
  have d:=@YF env r x k;have a:List.lookup x ((if (k0 == Za && env.scope.kind == .function && env.kindOf n == some .cell)=true then (n,vc)else (n,k0))::(r.map λ(n,k)=>if (k == Za && env.scope.kind == .function && env.kindOf n == some .cell)then (n,vc)else (n,k)))=some k:=h;cases c:x == n with
  |true=>
   by_cases b:(k0 == Za && env.scope.kind == .function && env.kindOf n == some .cell)=true
   ·rw[da b]at a;simp only[Oa,c]at a ⊢;cases a;simp only[ya]at b;exact⟨k0,rfl,.inr ⟨by simpa using b.1.1,rfl⟩⟩
   ·rw[ka b]at a;simp only[Oa,c]at a ⊢;cases a;exact⟨k0,rfl,.inl rfl⟩
  |false=>
   by_cases b:(k0 == Za && env.scope.kind == .function && env.kindOf n == some .cell)=true
   ·rw[da b]at a;simp only[Oa,c]at a ⊢;exact d a
   ·rw[ka b]at a;simp only[Oa,c]at a ⊢;exact d a
theorem lM{env:ag}:∀ {names:List (ma × De)} {x:ma},names.lookup x=some .free->
  (names.map λ(n,k)=>if (k == Za && env.scope.kind == .function && env.kindOf n == some .cell)then (n,vc)else (n,k)).lookup x=some .cell\/
  (names.map λ(n,k)=>if (k == Za && env.scope.kind == .function && env.kindOf n == some .cell)then (n,vc)else (n,k)).lookup x=some .free
 |[],_,h=>by simp at h
 |(n,k)::r,x,h=>by
  have d:=@lM env r x;have a:∀ z,List.lookup x ((if (k == Za && env.scope.kind == .function && env.kindOf n == some .cell)=true then (n,vc)else (n,k))::(r.map λ(n,k)=>if (k == Za && env.scope.kind == .function && env.kindOf n == some .cell)then (n,vc)else (n,k)))=z->
   (List.map (λ(n,k)=>if (k == Za && env.scope.kind == .function && env.kindOf n == some .cell)then (n,vc)else (n,k)) ((n,k)::r)).lookup x=z:=λz e=>e
  cases b:x == n with
  |true=>
   simp only[Oa,b]at h;cases h;by_cases c:(Za == Za && env.scope.kind == .function && env.kindOf n == some .cell)=true
   ·exact .inl (a _ (by rw[da c];simp only[Oa,b]))
   ·exact .inr (a _ (by rw[ka c];simp only[Oa,b]))
  |false=>
   simp only[Oa,b]at h;have e:List.lookup x ((if (k == Za && env.scope.kind == .function && env.kindOf n == some .cell)=true then (n,vc)else (n,k))::(r.map λ(n,k)=>if (k == Za && env.scope.kind == .function && env.kindOf n == some .cell)then (n,vc)else (n,k))) =
     (r.map λ(n,k)=>if (k == Za && env.scope.kind == .function && env.kindOf n == some .cell)then (n,vc)else (n,k)).lookup x:=by
    by_cases c:(k == Za && env.scope.kind == .function && env.kindOf n == some .cell)=true
    ·rw[da c];simp only[Oa,b]
    ·rw[ka c];simp only[Oa,b]
   rcases d h with q|q
   ·exact .inl (a _ (e.trans q))
   ·exact .inr (a _ (e.trans q))
theorem Ms{names:List (ma × De)}{x:ma}{k:De}(h:names.lookup x=some k):(x,k)∈names:=ee h
noncomputable def ar(X:Cx)(a:List ma)(scope:Scope)(cl:List (ma × Addr))(C:Addr)(s₀:aa)(H₀:Hp)(ex:List Addr):Cx:=
 { X with N:=a,s₀:=s₀,H₀:=H₀,env:=compEnvC scope cl C X.env,outer:=X.stack,stack:=X.stack,ex:=ex,fn:=λ_=>false,pn:=[],xe:=λ_ _=>False }
structure Ul(X:Cx)(x:ma)(M':List ma)(ix:List Nat)(scope:Scope):Prop where
 kind:scope.kind=.function
 cell:(scope.names.all λy=>!(y.2 == .cell))=true
 names:(scope.names.all λy=>!(y.2 == .local) || scope.names.lookup y.1 == some .local)=true
 free:(scope.names.all λy=>!(y.2 == .free) || (X.env.scope.names.lookup y.1 == some .cell || X.env.scope.names.lookup y.1 == some .free))=true
 at_:ix.map (λi=>X.N[i]?)=M'.map some
 AA:(M'.all λy=>(X.env.scope.names.lookup y == some .cell || X.env.scope.names.lookup y == some .free) && scope.names.lookup y == some .free)=true
noncomputable def cF(ix:List Nat)(ρ:Ev):Ev:=none::ix.map λi=>(ρ[i]?).getD none
noncomputable def eN(ix:List Nat)(st:St):St:=none::ix.map λi=>(st[i]?).getD none
theorem zN{T:Tb}{μ:List Addr}{H:Hp}{ρ:Ev}{st:St}(ix:List Nat)(h:Lg T μ H ρ st):Lg T μ H (cF ix ρ) (eN ix st):=by
 refine⟨by simp[cF,eN],λi d e=>?_⟩;cases i with
 |zero=>simp[cF]at e
 |succ j=>
  have a:(ix.map λi=>(ρ[i]?).getD none)[j]?=some (some d):=e;rw[Fb]at a;cases f:ix[j]? with
  |none=>rw[f]at a;cases a
  |some b=>
   rw[f]at a;have c:(ρ[b]?).getD none=some d:=nb a;have g:ρ[b]?=some (some d):=by
    cases q:ρ[b]? with
    |none=>rw[q]at c;cases c
    |some o=>rw[q]at c;exact we some c
   obtain⟨v,h1,k⟩:=h.2 b d g;refine⟨v,?_,k⟩;show (ix.map λi=>(st[i]?).getD none)[j]?=_;rw[Fb,f];show some ((st[b]?).getD none)=_;rw[h1];rfl
section
variable{X:Cx}{pins:List (Addr × gc)}{st:St}{H:Hp}{s:aa}{x:ma}{M':List ma}{ix:List Nat}{scope:Scope}{fp:List Addr}
theorem OX(L:Ul X x M' ix scope)(y:ma × De)(a:y∈scope.names)(e:y.2=.free):X.env.kindOf y.1=some .cell\/X.env.kindOf y.1=some .free:=by
 have q:=Pb.mp L.free y a;rw[e]at q;simp only[Wo,ao,yj,sf]at q;rcases q with q|q
 ·exact .inl (eq_of_beq q)
 ·exact .inr (eq_of_beq q)
theorem vv(I:Inv X pins st H s)(L:Ul X x M' ix scope):∀ y∈scope.names,y.2=.free->∃ c,X.env.cells.lookup y.1=some c:=λy a e=>I.ok.has y.1 (OX L y a e)
theorem rz(L:Ul X x M' ix scope):∀ y∈scope.names,y.2≠.cell:=λy a e=>by
 have q:=Pb.mp L.cell y a;rw[e]at q;simp at q
end
noncomputable def Dm{α:Type}(m:M α):M α:=λa=>match m a with
 | .ex _ _=>.bad
 |o=>o
theorem Ib.Gr{i o p s:Type}{T:Tb}{E E0:XK}{R:List Addr->Hp->i->p->Prop}{l:List Addr->Hp->o->s->Prop}{μ:List Addr}{H:Hp}{m:M i}{k:i->M o}{σ:ub}{Q:s->Hp->Prop}{Q1:p->Hp->Prop}
  (h:Ib T E l μ H (Pc (Dm m) k σ) Q) (f:∀ a b c g d,m σ=.ok a b->Ext μ H c d->Rel T c d b->R c d a g->Ib T E l c d (k a b) Q->Q1 g d):Ib T E0 R μ H (m σ) Q1:=by
 unfold Pc Dm at h;cases e:m σ with
 |ok a b=>
  simp only[e]at h;exact λj g t n r q=>f a b j g t e n r q (h.mono n)
 |ex x b=>simp only[e]at h;exact h.elim
 |bad=>simp only[e]at h;exact h
noncomputable def ky(T:Tb)(X:Cx)(b:List Ga)(f:Ev->M Bool):Prop:=
 ∀ (a:List (Addr × gc)) (s:aa) (st:St) (H:Hp) (Q:Bool->Hp->Prop),Inv X a st H s->tT T X f st H Q->
  wpAny (model X.prog X.w) X.A (forIn b true λc r=>if r=true then do let ok <-yw c X.env (Wb c X.env);pure (ForInStep.yield ok)else pure (ForInStep.yield r)) (TP X a st Q) X.xe s
noncomputable def Xm:Ev->M Bool:=λ_=>ret true
section
variable{T:Tb}{X:Cx}
theorem nu:ky T X [] Xm:=by
 intro a s st H Q I h;obtain⟨d,e,f,c,b,hp⟩:=h;exact wpAny_tests_nil ⟨H,I,Ib.here hp b rfl⟩
theorem vK{c:Ga}{f:Ev->M Bool}(h:FT T X c f):ky T X [c] f:=λa s st H Q I b=>wpAny_tests_one (h a s st H Q I b)
theorem j1{fs ex:List Addr}{H c:Hp}{h h1 h2:Heap}{C:Addr}(u:Un fs ex H c h h1)(hs:Ye C h1 h2)(d:h.objs.size<=C):Un fs ex H c h h2:=by
 have ne:∀ b o,h.get? b=some o->b≠C:=λb o e=>Ba (Ca (qa e) d);refine⟨λb o e n hb a=>(hs.2 b (ne b o e)).trans (u.keep b o e n hb a),λb o e n hb a=>?_,u.free,λb o e a=>?_,u.yh,u.Hg,u.kh⟩
 ·obtain⟨g,q⟩:=u.slot b o e n hb a;exact⟨g,(hs.2 b (ne b o e)).trans q⟩
 ·obtain⟨f,q⟩:=u.there b o e a;exact⟨f,(hs.2 b (ne b o e)).trans q⟩
theorem S1{P:ra}{w:Ea}{H:Hp}{h1 h2:Heap}{C:Addr}(ok:Kh P w H h1)(hs:Ye C h1 h2)(d:H C=none):Kh P w H h2:=λb f e=>by
 refine(ok b f e).ej (λc g a q=>(hs.2 c ?_).trans q) (λ_ q=>q) λ_ _ q=>q;rintro rfl;rcases a with rfl|a
 ·rw[d]at e;cases e
 ·rw[d]at a;cases a
theorem sZ{E:XK}{μ:List Addr}{H:Hp}{σ:ub}{n:Nat}{a:Addr}{y:D}{v:V}{Q:VK}(r:Rel T μ H σ)(hn:μ[n]?=some a)(b:Rep T μ H y v)(h:Ib T E (Rep T) μ H (Qm (.ref n) [y] σ) Q):rF (.ref a) [v] H Q:=
 IA E μ H σ (.ref n) [y] (.ref a) [v] Q r (by rw[Rep];exact⟨a,rfl,hn⟩) (Qa.cons b Qa.nil) h
theorem QB{a b:Type}{m m':M a}{k:a->M b}{σ:ub}(h:m σ=m' σ):Pc m k σ=Pc m' k σ:=by unfold Pc;rw[h]
theorem QF{b c d:Type}{m:M b}{k:b->M c}{l:c->M d}:Pc (Pc m k) l=Pc m λa=>Pc (k a) l:=by
 funext e;unfold Pc;cases m e<;>rfl
end
noncomputable def vy(x y:D):M D:=λa=>match Qg a x,Qg a y with
 |some xs,some b=>if xs.length+b.length<=Oh then .ok (.lst (xs++b)) a else .bad
 |_,_=>.bad
noncomputable def gj(x y:D):M D:=match x,y with
 | .int i,.int j=>ret (.int (i+j))
 | .tup xs,.tup c=>if xs.length+c.length<=Oh then ret (.tup (xs++c))else bad
 | .str a,.str b=>if a.length+b.length<=100000 then ret (.str (a++b))else bad
 |x,y=>vy x y
theorem vO{n:Nat}(h:n<=100000):n<=sizeLine:=Hb h (by decide)
section
variable{T:Tb}{X:Cx}{a b c:Ga}{fa fb fc:Ev->M D}{pos:Ae}
theorem zR{prog:ra}{w:Ea}{A:Da}{F:Value->aa->Prop}{s:aa}{t b:Addr}{l:List Value}{Q:Value->aa->Prop}(o:jr s.heap t (#[]:Array Value))(hb:jr s.heap b l.toArray)(h1:Q (.ref b) s):wpAny (model prog w) A (Ce .Add (.ref t) (.ref b)) Q F s:=by
 obtain⟨⟨cls,m,i,q⟩,k,j,n,hd⟩:=id o;obtain⟨⟨h,f,e,g⟩,d,a,p,c⟩:=id hb;simp only at j hd a c;subst j hd a c;exact js ⟨_,k,rfl⟩ ⟨_,d,rfl⟩ Ln Hq Dh qh (Xg _ _)
  (tuple_addW0 t b #[] l.toArray n p m f q g rfl) ⟨k,d,h1⟩
theorem JA{E:XK}{μ:List Addr}{H:Hp}{σ:ub}{x y:D}{v u:V}{f e:Value}{Q:VK}{a:List (Addr × gc)}{s:aa}{st:St}(I:Inv X a st H s)(m:Qc v f)(k:Qc u e)(r:Rel T μ H σ)(i:Rep T μ H x v)(j:Rep T μ H y u)(hp:Ib T E (Rep T) μ H (vy x y σ) Q) :
  wpAny (model X.prog X.w) X.A (Ce .Add f e) (EP X a st Q) X.xe s:=by
 unfold vy at hp;cases b:Qg σ x with
 |none=>rw[b]at hp;exact hp.elim
 |some xs=>
  cases c:Qg σ y with
  |none=>rw[b,c]at hp;exact hp.elim
  |some t=>
   rw[b,c]at hp;dsimp only at hp;by_cases d:xs.length+t.length<=Oh
   ·rw[da d]at hp;obtain⟨p,n,rfl,h1,g⟩:=r.ls i b;obtain⟨q,o,rfl,h3,h4⟩:=r.ls j c;exact fQ a s st H _ _ f e Q I m k ⟨p,q,n,o,rfl,rfl,h1,h3,by rw[<-g.length,<-h4.length];exact Sv d,λl h=>RA hp r (Qa.append g h4) h⟩
   ·rw[ka d]at hp;exact hp.elim
theorem An(O:T.K=X.K):gh X (Ce .Add) (rD T gj):=by
 intro c s st H v u A z Q I k g h;obtain⟨E,S,U,x,y,r,d,f,hp⟩:=h;cases x with
 |int i=>
  cases y with
  |int j=>exact vU c s st H v u A z Q I k g ⟨i,j,Tn d,Tn f,Ib.here hp r (by rw[Rep])⟩
  |_=>exact JA I k g r d f hp
 |str a=>
  cases y with
  |str b=>
   unfold gj at hp;dsimp only at hp;by_cases m:a.length+b.length<=100000
   ·rw[da m]at hp;exact IV c s st H v u A z Q I k g ⟨a,b,by simpa [Rep]using d,by simpa [Rep]using f,vO m,Ib.here hp r (by rw[Rep])⟩
   ·rw[ka m]at hp;exact hp.elim
  |_=>exact JA I k g r d f hp
 |tup xs=>
  cases y with
  |tup C=>
   unfold gj at hp;dsimp only at hp;by_cases m:xs.length+C.length<=Oh
   ·rw[da m]at hp;have t:=d;have w:=f;rw[Rep]at d f;obtain⟨p,M,rfl,h1,o⟩:=d;obtain⟨q,N,rfl,h3,h4⟩:=f;cases M with
    |nil=>
     have n:xs=[]:=by have:=o.length;simpa using this
     subst n;cases k;cases g;obtain⟨F,G,J,_⟩:=L2.Inv.tuple I (nh.of (K:=X.K) h1);obtain⟨B,P,L,_⟩:=L2.Inv.tuple I (nh.of (K:=X.K) h3);cases G;exact zR J L ⟨.ref q,H,I,rfl,Ib.here hp r (by simpa using w)⟩
    |cons v0 R=>
     refine jV c s st H _ _ A z Q I k g ⟨p,q,_,N,rfl,rfl,nh.of h1,nh.of h3,by simp,?_,λe=>?_,λe l D=>?_⟩
     ·rw[<-o.length,<-h4.length];exact Sv m
     ·subst e;have n:C=[]:=by have:=h4.length;simpa using this
      subst n;exact Ib.here hp r (by simpa using t)
     ·exact PD hp r (Qa.append o h4) D
   ·rw[ka m]at hp;exact hp.elim
  |_=>exact JA I k g r d f hp
 |_=>exact JA I k g r d f hp
noncomputable def OD(a:D->D->M D)(c:M D)(y:D):D->M D:=ow (jj (Pc c (a y)) (ret (.bl false)))
noncomputable def RE(o a:D->D->M D)(c:M D)(x y:D):M D:=Pc (o x y) (OD a c y)
noncomputable def jF(o a:D->D->M D)(b c:M D)(x:D):M D:=Pc b (RE o a c x)
noncomputable def KF(o e:D->D->M D)(a b c:Ev->M D):Ev->M D:=λd=>Pc (a d) (jF o e (b d) (c d))
theorem tW{j d:io}{r L:R2}{o J:D->D->M D}(W:gh X (Ab j) r)(hs:Kj T r o)(g:gh X (Ab d) L)(i:Kj T L J)(U:FE T X a fa)(hb:FE T X b fb)(V:FE T X c fc)
  (hm:lastMarks [j,d] [b,c]=false:=by with_unfolding_all rfl):FE T X (.Compare a [j,d] [b,c] pos) (KF o J fa fb fc):=by
 intro e s st H Q I h;refine SY W g U hb V hm e s st H Q I ?_;obtain⟨μ,q,σ,f,Y,hp⟩:=h;refine⟨μ,q,σ,f,Y,hp.bind λx t l v H1 _ E r1 q1 Z=>⟨l,q,t,f.mono E,r1,Z.bind λy A m w O _ F r2 K p2=>?_⟩⟩;refine hs _ m O A x y v w _ r2 (Rep.mono F _ _ q1) K (p2.bind λz B n u H3 _ G N q3 p3=>?_);obtain⟨k,rfl,S,p4⟩:=UB q3 p3;refine⟨k,S,?_⟩;cases k with
 |true=>
  unfold jj at p4;rw[da rfl]at p4 ⊢;exact⟨n,q,B,((f.mono E).mono F).mono G,N,p4.bind λz C p u5 P _ R r5 q5 p5=>i _ p P C y z w u5 Q r5 (Rep.mono R _ _ (Rep.mono G _ _ K)) q5 p5⟩
 |false=>unfold jj at p4;rw[ka Ra]at p4 ⊢;exact Ib.here p4 N (by rw[Rep])
theorem Ed{k:Nat}{A:Da}(a:vd k A):A.units+9<cLine:=by have:=a.un;omega
end
noncomputable def Vf(K:W.Frag)(mg:ma->Option Value)(x:ma)(st:Stmt)(ps:List ma):Prop:=
 ∃ f b,mg x=some (.ref f)/\Nu K x x st f b/\∀ a:List Value,a.length=ps.length->bindArgs b ⟨a,[]⟩=pure (ps.zip a)
noncomputable def Nb(T:Tb)(P:ra)(w:Ea)(mg:ma->Option Value)(base:Heap)(k:Nat)(x:ma)(ps:List ma)(fn:List D->M D):Prop:=
 ∃ f b,mg x=some (.ref f)/\W.keepIn T.K (.ref f)=true/\(∀ a:List Value,a.length=ps.length->bindArgs b ⟨a,[]⟩=pure (ps.zip a))/\Dg P w T.K mg base (jl P w) k f b ps (ln T ps.length fn)
section
variable{T:Tb}{X:Cx}
theorem Bd{k:Nat}{ps:List ma}{fn:List D->M D}{x:ma}{p b:Ae}{e:Ga}{a:List Ga}{fs:Ev->M (List D)}(h:Nb T X.prog X.w X.mg X.base k x ps fn)(j:T.K=X.K)(n:vd k X.A)(m:Gl X x)
  (l:FA T X (e::a) fs) (c:(x == ("__debug__" : ma))=false:=by decide) (he:pa (e::a) X.env=(false,Wb e X.env)::pa a X.env:=by rfl) (d:(Dc b (pa a X.env)).any (·.1)=false:=by rfl) :
  FE T X (.Call (.Name x p) (e::a) [] b) (Yc ps.length fn [] fs):=by
 obtain⟨f,o,hm,i,hb,g⟩:=h;rw[j]at i g;exact OF (dds:=[]) (dvs:=[]) g n m hm i (.all hb) .nil (λ_ _=>Qa.nil) l c he d
variable{P:ra}{w:Ea}{K:W.Frag}{mg:ma->Option Value}{base:Heap}{ca:Nat->Addr}{tx:Tx}
theorem qg{k:Nat}{x:ma}{st:Stmt}{ps N:List ma}{g:Ev->M Fl}(h:Vf K mg x st ps)(S:wa N ps (Ec st))
  (hb:∀ (f:Addr) (a:Value) (A:Da) (outer:List ag) (s:aa) (H:Hp) (E:XK),vd k (A.deeper (eg x (Ec st) s.heap.objs.size f a))->xn ⟨K,ca,tx⟩ (Bo (jl P w) P w K mg base N x (Ec st) f a A outer s H E) (Ni st) g) :
  Nb ⟨K,ca,tx⟩ P w mg base (k+1) x ps (run N.length g):=by
 obtain⟨f,l,hm,F,b⟩:=h;obtain⟨m,n,kV,d,o,j,a,ct,i,rfl,e,c⟩:=F.ex;exact⟨f,_,hm,F.kp,b,xx e c S (hb f a)⟩
theorem Nb.Xa{k:Nat}{x:ma}{ps:List ma}{fn:List D->M D}(h:Nb T P w mg base k x ps fn):Nb T P w mg base k x ps (λa=>L4.Xa (fn a)):=by
 obtain⟨f,b,h1,c,h3,h4⟩:=h;exact⟨f,b,h1,c,h3,yC h4⟩
theorem gH{h:Heap}{x:ma}{st:Stmt}{ps:List ma}{f:Addr}{j:Value}{od e:Option Addr}{i:Array (Option Value)}{kV d g b ct:Value}(X:K.In h)(G:h.Ns mainGlobals mg)
  (hb:∀ (kV d g:Value) (e:Option Addr) (b ct:Value) (us:List Value),us.length=ps.length->bindArgs (W.fnOf x x (Em st) (Ni st) (Ec st) .none kV d g e b ct) ⟨us,[]⟩=pure (ps.zip us))
  (a:W.nsIn K mainGlobals x=some (some (.ref f))) (l:K.lookup f=some ⟨j,od,.func (W.fnOf x x (Em st) (Ni st) (Ec st) .none kV d g e b ct),i⟩)
  (c:W.codeIn K b x=true) (k:W.keepIn K (.ref f)=true):Vf K mg x st ps:=
 ⟨f,_,Jq X G a,XJ l c k,hb kV d g e b ct⟩
theorem CP{h:Heap}{x:ma}{i:Int}{t:i4}(X:K.In h)(G:h.Ns mainGlobals mg)(a:W.nsIn K mainGlobals x=some (some (.int i t))):∃ t,mg x=some (.int i t):=⟨t,Jq X G a⟩
end
noncomputable def pE(T:Tb)(P:ra)(w:Ea)(mg:ma->Option Value)(k:Nat)(x:ma)(ps:List ma)(fn:List D->M D):Prop:=
 ∃ f b,mg x=some (.ref f)/\(∀ a:List Value,a.length=ps.length->bindArgs b ⟨a,[]⟩=pure (ps.zip a))/\∀ base:Heap,Dg P w T.K mg base (jl P w) k f b ps (ln T ps.length fn)
theorem QY{P:ra}{w:Ea}{K:W.Frag}{mg:ma->Option Value}{ca:Nat->Addr}{tx:Tx}{k:Nat}{x:ma}{st:Stmt}{ps N:List ma}{g:Ev->M Fl}(h:Vf K mg x st ps)(S:wa N ps (Ec st))
  (hb:∀ (base:Heap) (f:Addr) (a:Value) (A:Da) (outer:List ag) (s:aa) (H:Hp) (E:XK),vd k (A.deeper (eg x (Ec st) s.heap.objs.size f a))->xn ⟨K,ca,tx⟩ (Bo (jl P w) P w K mg base N x (Ec st) f a A outer s H E) (Ni st) g) :
  pE ⟨K,ca,tx⟩ P w mg (k+1) x ps (run N.length g):=by
 obtain⟨f,l,hm,F,b⟩:=h;obtain⟨m,n,kV,d,o,j,a,ct,i,rfl,e,c⟩:=F.ex;exact⟨f,_,hm,b,λbase=>xx e c S (hb base f a)⟩
theorem rZ{K:W.Frag}{h:Heap}{C:Addr}{c:List Value}{a:String}(f:K.In h)(d:W.excIn K C c a=true) :
  ∃ bm N nm k bs hdct sn sub ab col dd k0 k1 k2 k3 k5 mN,h.get? C=some (excClassObj nm k C N bs bm hdct sn sub ab col dd k0 k1 k2 k3 k5 a)/\h.Ns N mN/\mN "__init__" = none/\OwnTail h c bm:=by
 unfold W.excIn at d;split at d
 ·rename_i dd b w u
  split at d
  ·rename_i n bm k0 k1 k2 k3 j k5 e g
   have i:((((n=C/\j=a)/\b.hasDel=false)/\W.tailIn K c bm=true)/\W.nsOkIn K b.ns=true)/\W.nsIn K b.ns "__init__" = some none:=by
    simpa [ya,Bool.not_eq_true']using d
   obtain⟨⟨⟨⟨⟨o,p⟩,q⟩,r⟩,m⟩,s⟩:=i;subst o;subst p;obtain⟨nm,bs,v,ns,k,hd,sn,sub,ab,col,t⟩:=b;cases e;cases q;obtain⟨l⟩:=w;cases g;exact⟨bm,ns,nm,k,bs,hd,sn,sub,ab,col,dd,k0,k1,k2,k3,k5,_,f _ _ u,.of_isNs (W.isNs_of_in f m),W.nsMap_none_of_in f m s,W.tail_of_in f r⟩
  ·cases d
 ·cases d
noncomputable def kM(c:Nat)(ρ:Ev)(ds:List D):M Fl:=if ds.length<=Oh then ret (.xc ρ ⟨c⟩)else bad
noncomputable def dL(c:Nat)(fs:Ev->M (List D)):Ev->M Fl:=λa=>xs a (fs a) (kM c a)
section
variable{T:Tb}{X:Cx}
theorem QX(c:Nat){x:ma}{B b d:String}{h:List Value}{V a w:Ae}{e:Ga}{f:List Ga}{fs:Ev->M (List D)}(A:ExcBaseFacts B b d h)(L:T.K=X.K)(C:W.excIn T.K (T.ca c) h b=true)(hm:X.mg x=some (.ref (T.ca c)))
  (Q:Gl X x) (P:X.calm=true) (O:FA T X (e::f) fs) (p:(x == ("__debug__" : ma))=false:=by decide) (he:pa (e::f) X.env=(false,Wb e X.env)::pa f X.env:=by rfl)
  (v:(Dc a (pa f X.env)).any (·.1)=false:=by rfl) (t:Ax c=none:=by rfl):FS T X (.Raise (some (.Call (.Name x V) (e::f) [] a)) none w) (dL c fs):=by
 intro l s st H D I S;obtain⟨μ,ρ,σ,o,R,hp⟩:=S;rw[L]at C;obtain⟨bm,N,nm,Z,bs,hdct,sn,sub,ab,col,dd,k0,k1,k2,k3,k5,mN,J,hN,u,E⟩:=rZ I.ok.mod.Cu C;have j:(Dc a (pa (e::f) X.env)).any (·.1)=false:=by
  rw[he];show (false || (Dc a (pa f X.env)).any (·.1))=false;rw[v];rfl
 refine wpAny_Raise_call_subT (nm:=nm) (q:=Z) (N:=N) (bs:=bs) (bm:=bm) (hdct:=hdct) (sn:=sn) (sub:=sub) (ab:=ab) (col:=col) (dd:=dd) (k0:=k0) (k1:=k1) (k2:=k2) (k3:=k3) (k5:=k5) A (mN:=mN) (E.hasType A.hasBase) (I.ok.hd P) j u (Ow I Q hm ⟨rfl,?_⟩ p);have step:=O a l s st H (λz n=>z.length<=Oh/\Mw X st (T.cv ⟨c⟩) none n) I ⟨μ,ρ,σ,o,R,hp.xs o λF a1 a0 z n _ G r1 Y k=>by
  unfold kM at k;by_cases i:F.length<=Oh
  ·rw[da i]at k;exact⟨by rw[<-Y.length];exact i,Ib.here (g:=wl.xc st (T.cv ⟨c⟩) none) k r1 ⟨o.mono G,rfl,t.symm⟩⟩
  ·rw[ka i]at k;exact k.elim⟩
 rw[he]at step ⊢;refine Ci (zd step λus s1 ⟨z,n,m,r,i,y⟩=>?_);exact⟨rfl,by rw[<-r.length];exact Sv i,m.bk _ _ J,hN.keeps m.bk,E.keeps m.bk,λh' ea U=>y.made m U⟩
end
structure Hd where
 t:Nat->Option Bool
 nm:Option Nat
 g:Ev->M Fl
noncomputable def GL(i:Nat):Fl->M Fl
 | .nx a=>ret (.nx (a.set i none))
 | .rt d=>ret (.rt d)
 | .bk a=>ret (.bk (a.set i none))
 | .ct a=>ret (.ct (a.set i none))
 | .xc _ _=>bad
noncomputable def yK:Fl->M Fl
 | .nx a=>ret (.nx a)
 | .rt d=>ret (.rt d)
 | .bk a=>ret (.bk a)
 | .ct a=>ret (.ct a)
 | .xc _ _=>bad
noncomputable def hit(h:Hd)(ρ:Ev)(x:Xn):M Fl:=match h.nm with
 |none=>Pc (h.g ρ) yK
 |some i=>Pc (h.g (ρ.set i (some (.pq x.cls)))) (GL i)
noncomputable def my(ρ:Ev)(x:Xn):List Hd->M Fl
 |[]=>bad
 |h::r=>match h.t x.cls with
  |some true=>hit h ρ x
  |some false=>my ρ x r
  |none=>bad
noncomputable def iC(hs:List Hd):Fl->M Fl
 | .xc a x=>my a x hs
 | .nx a=>ret (.nx a)
 | .rt d=>ret (.rt d)
 | .bk a=>ret (.bk a)
 | .ct a=>ret (.ct a)
noncomputable def DE(g:Ev->M Fl)(hs:List Hd):Ev->M Fl:=λa=>Pc (g a) (iC hs)
noncomputable abbrev Cx.zr(X:Cx)(e:Value):Cx:={ X with A:=X.A.mark (some e),calm:=false,xe:=λ_ _=>False }
noncomputable abbrev Cx.IB(X:Cx)(a:List (Addr × gc))(xe:Value->aa->Prop):Cx:={ X with xe:=xe,pn:=X.pn++a }
section
variable{T:Tb}{X:Cx}{pins:List (Addr × gc)}{st:St}{H:Hp}{s:aa}{e:Value}{xe:Value->aa->Prop}
theorem uR(I:Inv X pins st H s):Inv (Cx.IB X pins xe) [] st H s:=
 ⟨⟨I.ok.mod,I.ok.kind,I.ok.glob,I.ok.blt,I.ok.above,I.ok.inj,I.ok.has,I.ok.Fu,I.ok.hd,I.ok.frames,I.ok.wn,I.ok.Iv,I.ok.bs,I.ok.Jp,I.ok.wo,I.ok.Go,I.ok.yi,I.ok.vr⟩,I.os,I.bare,I.base,I.loc,I.cell,I.free,I.Gf,λp hp=>I.pin p (by simpa using hp),I.Qb,I.len⟩
theorem Gz{a:List (Addr × gc)}(I:Inv (Cx.IB X pins xe) a st H s):Inv X pins st H s:=
 ⟨⟨I.ok.mod,I.ok.kind,I.ok.glob,I.ok.blt,I.ok.above,I.ok.inj,I.ok.has,I.ok.Fu,I.ok.hd,I.ok.frames,I.ok.wn,I.ok.Iv,I.ok.bs,I.ok.Jp,I.ok.wo,I.ok.Go,I.ok.yi,I.ok.vr⟩,I.os,I.bare,I.base,I.loc,I.cell,I.free,I.Gf,λp hp=>I.pin p (La _ hp),I.Qb,I.len⟩
theorem AB(I:Inv X pins st H s):Inv (Cx.zr X e) pins st H s:=
 ⟨⟨I.ok.mod,I.ok.kind,I.ok.glob,I.ok.blt,I.ok.above,I.ok.inj,I.ok.has,I.ok.Fu,λz=>(by cases z),I.ok.frames,I.ok.wn,I.ok.Iv,I.ok.bs,I.ok.Jp,I.ok.wo,I.ok.Go,I.ok.yi,I.ok.vr⟩,I.os,I.bare,I.base,I.loc,I.cell,I.free,I.Gf,I.pin,I.Qb,I.len⟩
theorem Tz(ok:X.Ok)(I:Inv (Cx.zr X e) pins st H s):Inv X pins st H s:=
 ⟨ok,I.os,I.bare,I.base,I.loc,I.cell,I.free,I.Gf,I.pin,I.Qb,I.len⟩
theorem XY{D:Ends}{f:Flow}{s':aa}(h:SP (Cx.IB X pins xe) [] D f s'):SP X pins D f s':=by
 cases f with
 |next=>obtain⟨a,b,I,q⟩:=h;exact⟨a,b,Gz I,q⟩
 |brk=>obtain⟨a,b,I,q⟩:=h;exact⟨a,b,Gz I,q⟩
 |cont=>obtain⟨a,b,I,q⟩:=h;exact⟨a,b,Gz I,q⟩
 |ret u=>obtain⟨v,a,b,I,r,q⟩:=h;exact⟨v,a,b,Gz I,r,q⟩
theorem fZ(ok:X.Ok){D:Ends}{f:Flow}{s':aa}(h:SP (Cx.zr X e) pins D f s'):SP X pins D f s':=by
 cases f with
 |next=>obtain⟨a,b,I,q⟩:=h;exact⟨a,b,Tz ok I,q⟩
 |brk=>obtain⟨a,b,I,q⟩:=h;exact⟨a,b,Tz ok I,q⟩
 |cont=>obtain⟨a,b,I,q⟩:=h;exact⟨a,b,Tz ok I,q⟩
 |ret u=>obtain⟨v,a,b,I,r,q⟩:=h;exact⟨v,a,b,Tz ok I,r,q⟩
end
noncomputable def Yq(X:Cx)(a:List (Addr × gc))(st:St)(H:Hp)(s:aa)(c:Addr)(cls:Value)(d:Option Nat):Prop:=∃ b s0,Inv X a st b s0/\qv X.prog X.w X.stack b s0 cls d H (.ref c) s
section
variable{T:Tb}{X:Cx}{pins:List (Addr × gc)}{st:St}{H:Hp}{s:aa}{ea:Addr}{cls:Value}{fd:Option Nat}
theorem Yq.inv(L:Yq X pins st H s ea cls fd):Inv X pins st H s:=by
 obtain⟨a,s0,I,F⟩:=L;exact L2.Inv.Ar (ch:=[]) I F.os F.un F.Qb F.bare λb z=>absurd z (by simp)
theorem Yq.next(L:Yq X pins st H s ea cls fd){M:Yj}{A:Da}{E:Value->aa->Prop}{Q:Unit->aa->Prop}(h:∀ s',Yq X pins st H s' ea cls fd->Q () s'):wpAny M A (xh (.ref ea) none) Q E s:=by
 obtain⟨k,s0,I,F⟩:=L;obtain⟨l,a0,B,e,f,hn,b,j,i,g,m⟩:=F.ex;cases e;refine JE f λn a d c=>h _ ?_;obtain⟨un,Qb⟩:=rG F i j g f.1 a.1 d (FF I);exact⟨k,s0,I,⟨ea,a0,B,rfl,a,hn,b,j,i,g,m.next c (let ⟨o,e,_⟩:=a.there;⟨o,e⟩)⟩,F.os,F.bare,un,Qb⟩
theorem Yq.obj(L:Yq X pins st H s ea cls fd):H ea=none/\(∃ o,s.heap.get? ea=some o/\o.cls=cls)/\∃ s0:aa,s0.heap.get? ea=none/\∃ b,Inv X pins st b s0:=by
 obtain⟨b,s0,I,F⟩:=L;obtain⟨c,a0,B,e,d,hn,a,i,g,f,h⟩:=F.ex;cases e;exact⟨hn,d.there,s0,a,b,I⟩
theorem HF{j:Hp}{s0:aa}{a:Addr}{o:gc}{φ:Heap->Prop}(I:Inv X pins st H s)(f:Inv X pins st j s0)(d:s0.heap.get? a=none)(hn:H a=none)(l:s.heap.get? a=some o)(h:φ s.heap)
  (hs:∀ h1 i:Heap,φ h1->(∀ u,h1.get? a=some u->i.get? a=some u)->φ i):Inv X pins st (upd H a (.ext φ)) s:=by
 have ne:∀ b u,s0.heap.get? b=some u->b≠a:=λb u e z=>by rw[z,d]at e;cases e
 have nt:∀ b u,H b=some u->b≠a:=λb u e z=>by rw[z,hn]at e;cases e
 have r:∀ b u,X.s₀.heap.get? b=some u->b ∉ X.ex->b≠a:=λb u e g=>by obtain⟨C,k⟩:=f.base.there b u e g;exact ne b C k
 refine⟨I.ok,I.os,I.bare,⟨I.base.keep,I.base.slot,λb u e n g=>?_,I.base.there,λb xs e=>?_,λb t u e=>?_,λb B e=>?_⟩,I.loc,I.cell,?_,λx c e=>?_,λp hp=>?_,λb u e=>?_,I.len⟩
 ·rw[jd (r b u e g)];exact I.base.free b u e n g
 ·have q:=I.base.yh b xs e;rw[jd (nt b _ q)];exact q
 ·have q:=I.base.Hg b t u e;rw[jd (nt b _ q)];exact q
 ·obtain⟨more,q⟩:=I.base.kh b B e;exact⟨more,by rw[jd (nt b _ q)];exact q⟩
 ·obtain⟨m,⟨u,_,_,hu,_⟩,_⟩:=f.loc;rw[jd (ne _ u hu)];exact I.free
 ·obtain⟨v,u,hu,_⟩:=f.cell x c e;rw[jd (ne _ u hu)];exact I.Gf x c e
 ·obtain⟨w,y,A⟩:=I.pin p hp;refine⟨w,?_,A⟩;rw[jd (ne _ _ (f.pin p hp).1)];exact y
 ·by_cases hb:b=a
  ·subst hb;rw[rg]at e;cases e;exact⟨h,⟨o,l⟩,hs⟩
  ·rw[jd hb]at e;exact(I.Qb b u e).ej (λc v _ q=>q) (λc q=>by rw[jd (nt c _ q)];exact q) λc xs q=>by rw[jd (nt c _ q)];exact q
theorem hL{C a:Addr}{dd:Option Addr}:∀ h1 h2:Heap,Vu C dd a h1->(∀ u,h1.get? a=some u->h2.get? a=some u)->Vu C dd a h2:=λh1 h2 ⟨u,hu,q⟩ k=>⟨u,k u hu,q⟩
theorem OY{a:Addr}{n:Nat}:∀ h1 h2:Heap,jz a n h1->(∀ u,h1.get? a=some u->h2.get? a=some u)->jz a n h2:=λh1 h2 ⟨u,hu,q⟩ k=>⟨u,k u hu,q⟩
theorem Yq.Cy(L:Yq X pins st H s ea (.ref C) fd):∃ dd f,Inv X pins st f s/\f ea=some (.ext (Vu C dd ea))/\(∀ n,fd=some n->∃ a,dd=some a/\H a=none/\f a=some (.ext (jz a n)))/\(∀ b u,H b=some u->f b=some u)/\∀ b u,f b=some u->H b=some u\/H b=none:=by
 have I:=L.inv;obtain⟨M,s0,k,F⟩:=L;obtain⟨D,a0,B,e,i,hn,c,P,O,N,E⟩:=F.ex;cases e;obtain⟨o,d,t⟩:=i.there;cases p:fd with
 |none=>
  have l:=HF (φ:=Vu C none ea) I k c hn d ⟨o,d,t,λ_ z=>by cases z⟩ hL;refine⟨none,_,l,rg,(λn q=>by cases q),λb u e=>?_,λb u e=>?_⟩
  ·rw[jd (λz=>by rw[z,hn]at e;cases e)];exact e
  ·by_cases hb:b=ea
   ·rw[hb];exact .inr hn
   ·rw[jd hb]at e;exact .inl e
 |some n=>
  obtain⟨a,v,w,x,G,y,J,j,K⟩:=E n p;have r:w=o:=by rw[d]at x;cases x;rfl
  subst r;have g:=i.1 a v y;have h:a≠ea:=λz=>by
   have:=i.2.1;rw[<-z,y]at this;cases this
  have l:=HF (φ:=Vu C (some a) ea) I k c hn d ⟨w,d,t,λ_ z=>by cases z;exact⟨G,i.qF d⟩⟩ hL;have A:=HF (φ:=jz a n) l k K (by rw[jd h];exact j) g ⟨v,g,J⟩ OY;refine⟨some a,_,A,by rw[jd (Ee h)];exact rg,λm q=>?_,λb u e=>?_,λb u e=>?_⟩
  ·cases q;exact⟨a,rfl,j,rg⟩
  ·rw[jd (λz=>by rw[z,j]at e;cases e),jd (λz=>by rw[z,hn]at e;cases e)];exact e
  ·by_cases hd:b=a
   ·rw[hd];exact .inr j
   ·rw[jd hd]at e;by_cases hb:b=ea
    ·rw[hb];exact .inr hn
    ·rw[jd hb]at e;exact .inl e
theorem xU(I:Inv X pins st H s)(hs:X.stack=X.env::X.outer)(u:X.env.frame=some X.env.locals){s':aa}{m:Hp}{e:Value}(F:qv X.prog X.w X.stack H s cls fd m e s'){M:Yj}{E:Value->aa->Prop}{Q:Value->aa->Prop}
  (h:∀ ea d,e=.ref ea->Yq X pins st m d ea cls fd->Q e d):wpAny M X.A (Wf e X.env) (λ_ s2=>wpAny M X.A (xh e none) (λ_ v=>Q e v) E s2) E s':=by
 obtain⟨ea,a0,B,rfl,n,hn,c,r,q,p,t⟩:=F.ex;have i:uo B (X.env::X.outer) ea cls a0 s'.heap:=by rw[<-hs];exact n
 refine MH (by rw[<-hs];exact I.ok.frames) u i λh4 b k f=>?_;refine JE (jI b) λh5 j l g=>h ea _ rfl ?_;have a:uo B X.stack ea cls a0 h5:=by rw[hs];exact j
 obtain⟨un,Qb⟩:=rG F q r p n.1 a.1 (k.trans l) (FF I);exact⟨H,s,I,⟨ea,a0,B,rfl,a,hn,c,r,q,p,t.next (f.trans g) (let ⟨o,e,_⟩:=a.there;⟨o,e⟩)⟩,F.os,F.bare,un,Qb⟩
end
noncomputable def JF(X:Cx)(x:ma)(cv:Value):Prop:=X.mg x=some cv\/(X.mg x=none/\bootBuiltins x=some cv/\x ≠ "__name__")
inductive pv(T:Tb)(X:Cx):List Ef->List Hd->Prop where
 |nil {r:List Ef}:pv T X r []
 |cons {x:ma} {np pos:Ae} {cv:Value} {b₀:Stmt} {suite:List Stmt} {t:Nat->Option Bool} {g:Ev->M Fl} {r:List Ef} {hs:List Hd} (hg:Gl X x) (hd:(x == ("__debug__" : ma))=false) (hm:JF X x cv) (ht:∀ c b,t c=some b->W.exmOne X.K (.ref (T.ca c)) cv=some b)
   (hb:∀ e,xn T (Cx.zr X e) (b₀::suite) g) (hr:pv T X r hs):pv T X (.ExceptHandler (some (.Name x np)) none (b₀::suite) pos::r) (⟨t,none,g⟩::hs)
 |Dv {x n:ma} {i:Nat} {np pos:Ae} {cv:Value} {b₀:Stmt} {suite:List Stmt} {t:Nat->Option Bool} {g:Ev->M Fl} {r:List Ef} {hs:List Hd} (hg:Gl X x) (hd:(x == ("__debug__" : ma))=false) (hm:JF X x cv) (ht:∀ c b,t c=some b->W.exmOne X.K (.ref (T.ca c)) cv=some b)
   (hN:X.N.Nodup) (hi:X.N[i]?=some n) (hl:X.env.scope.names.lookup n=some .local)
   (hb:∀ e,xn T (Cx.zr X e) (b₀::suite) g) (hr:pv T X r hs):pv T X (.ExceptHandler (some (.Name x np)) (some n) (b₀::suite) pos::r) (⟨t,some i,g⟩::hs)
section
variable{T:Tb}{X:Cx}
theorem VL{a:List (Addr × gc)}{st:St}{H:Hp}{s:aa}{x:ma}{cv:Value}{b:Ae}{E:Value->aa->Prop}{Q:Value->aa->Prop}(I:Inv X a st H s)(c:Gl X x)(hd:(x == ("__debug__" : ma))=false)(hm:JF X x cv)(h:Q cv s):wpAny (model X.prog X.w) X.A (Wb (.Name x b) X.env) Q E s:=by
 rcases hm with hm|⟨hm,hv,hn⟩
 ·exact Ow I c hm h hd
 ·exact Wu I c hm hv h hn hd
theorem bV{e:Value}{μ:List Addr}{H:Hp}{o:Out Fl}{D:Ends}(hp:Ib T EN (nk T) μ H (o.bind yK) (qj X D)):Ib T EN (nk T) μ H o (qj (Cx.zr X e) D):=by
 cases o with
 |bad=>exact hp
 |ex x σ=>exact hp
 |ok h σ=>
  intro a gl c d f b;cases h with
  |nx g=>cases gl with
   |nx st=>exact hp a (.nx st) c d f b
   |_=>exact b.elim
  |rt g=>cases gl with
   |rt st=>exact hp a (.rt st) c d f b
   |_=>exact b.elim
  |bk g=>cases gl with
   |bk st=>exact hp a (.bk st) c d f b
   |_=>exact b.elim
  |ct g=>cases gl with
   |ct st=>exact hp a (.ct st) c d f b
   |_=>exact b.elim
  |xc g x=>exact hp.elim
theorem JD{μ:List Addr}{H:Hp}{ρ:Ev}{st:St}(h:Lg T μ H ρ st)(i:Nat):Lg T μ H (ρ.set i none) (st.set i none):=by
 refine⟨by simpa using h.1,λj d q=>?_⟩;rw[bc]at q;by_cases a:i=j
 ·subst a;rw[da rfl]at q;split at q<;>cases q
 ·rw[ka a]at q;obtain⟨v,h1,b⟩:=h.2 j d q;exact⟨v,by rw[bc,ka a];exact h1,b⟩
theorem YZ{e:Value}{μ:List Addr}{H:Hp}{o:Out Fl}{D:Ends}{i:Nat}(hp:Ib T EN (nk T) μ H (o.bind (GL i)) (qj X D)):Ib T EN (nk T) μ H o (qj (Cx.zr X e) ⟨λst H=>D.nx (st.set i none) H,D.rt,λst H=>D.bk (st.set i none) H,λst H=>D.ct (st.set i none) H⟩):=by
 cases o with
 |bad=>exact hp
 |ex x σ=>exact hp
 |ok h σ=>
  intro a gl c d f b;cases h with
  |nx g=>cases gl with
   |nx st=>exact hp a (.nx (st.set i none)) c d f (JD b i)
   |_=>exact b.elim
  |rt g=>cases gl with
   |rt st=>exact hp a (.rt st) c d f b
   |_=>exact b.elim
  |bk g=>cases gl with
   |bk st=>exact hp a (.bk (st.set i none)) c d f (JD b i)
   |_=>exact b.elim
  |ct g=>cases gl with
   |ct st=>exact hp a (.ct (st.set i none)) c d f (JD b i)
   |_=>exact b.elim
  |xc g x=>exact hp.elim
theorem DT{a:List (Addr × gc)}{st:St}{H:Hp}{s:aa}{n:ma}{i t:Nat}{h':Heap}{m:ma->Option Value}(I:Inv X a st H s)(hN:X.N.Nodup)(P:X.N[i]?=some n)(hl:X.env.scope.names.lookup n=some .local)(hn:s.heap.Ns X.env.locals m){w:Option Value}(D:h'.Ns X.env.locals λy=>if y=n then w else m y)(hs:Ye X.env.locals s.heap h'):Inv X a (st.set i none) H { s with heap:=h',toks:=t }:=by
 have d:∀ b o,X.s₀.heap.get? b=some o->b≠X.env.locals:=λb o e=>Ba (Ca (qa e) I.ok.above);obtain⟨m0,C,h⟩:=I.loc;have K:m0=m:=by
  obtain⟨o,es,Z,R,hd,hk,O⟩:=C;obtain⟨F,M,L,l,g,Q,A⟩:=hn;rw[R]at l;cases l;rw[hd]at g;cases g;funext y;rw[<-O y,<-A y]
 subst K;refine⟨I.ok,I.os,I.bare,⟨λb o e n hb x=>(hs.2 b (d b o e)).trans (I.base.keep b o e n hb x),λb o e n hb x=>?_,I.base.free,λb o e x=>?_,I.base.yh,I.base.Hg,I.base.kh⟩,⟨_,D,λj y v E f J=>?_⟩,λy c e=>?_,I.free,I.Gf,λp hp=>?_,uE I.Qb λb o u e q=>?_,by simpa using I.len⟩
 ·obtain⟨Y,q⟩:=I.base.slot b o e n hb x;exact⟨Y,(hs.2 b (d b o e)).trans q⟩
 ·obtain⟨F,q⟩:=I.base.there b o e x;exact⟨F,(hs.2 b (d b o e)).trans q⟩
 ·rw[bc]at f;by_cases B:i=j
  ·subst B;rw[da rfl]at f;split at f<;>cases f
  ·rw[ka B]at f;obtain⟨u,r,T⟩:=h j y v E f J;refine⟨u,r,?_⟩;have S:y≠n:=λz=>B (DD hN P (z ▸ E));rcases T with⟨k,q⟩|⟨k,c,q,z⟩
   ·exact .inl ⟨k,by show (if y=n then w else m0 y)=some u;rw[ka S];exact q⟩
   ·exact .inr ⟨k,c,q,z.sameBut hs (I.fu y c q)⟩
 ·obtain⟨v,z⟩:=I.cell y c e;exact⟨v,z.sameBut hs (I.fu y c e)⟩
 ·obtain⟨U,V,G,W⟩:=I.pin p hp;exact⟨(hs.2 p.1 G).trans U,V,G,W⟩
 ·exact(hs.2 b λz=>by rw[z,I.free]at e;cases e).trans q
theorem yP{D:Ends}{c:List (Addr × gc)}{st:St}{H:Hp}{d:Addr}{x:Xn}{μ:List Addr}{ρ:Ev}{σ:ub}{S:List Ef}{hs:List Hd}(h:pv T X S hs)(hE:Lg T μ H ρ st)(hr:Rel T μ H σ)(hp:Ib T EN (nk T) μ H (my ρ x hs σ) (qj X D)) :
  ∀ s,Yq X c st H s d (T.cv x) (Ax x.cls)->wpAny (model X.prog X.w) X.A (cH (.ref d) X.env S) (SP X c D) X.xe s:=by
 induction h with
 |nil=>exact hp.elim
 |@cons y np pos cv Q O t g r hs hg hd hm ht hb M ih=>
  intro s L;have I:=L.inv;obtain⟨_,⟨o,ho,hc⟩,_⟩:=L.obj;refine fv (yt (VL (X:=Cx.zr X (.ref d)) (AB I) hg hd hm ?_)) (by intro q;cases q);unfold my at hp;dsimp only at hp;cases G:t x.cls with
  |none=>rw[G]at hp;exact hp.elim
  |some b=>
   rw[G]at hp;have LT:W.Looks (model X.prog X.w) s.heap (Gp (.ref d)) (T.cv x):=by rw[<-hc];exact(ww ho).andThen .now
   refine(G7 I.Xi LT (ht x.cls b G)).here ?_;cases b with
   |false=>exact ih hp s L
   |true=>
    refine codeAny_handlers_suite (L.next λs' Y=>?_);exact Mb (hb (.ref d) c s' st H D (AB Y.inv) ⟨μ,ρ,σ,hE,hr,bV hp⟩) (λf s2 q=>fZ I.ok q) λ_ _ z=>z.elim
 |@Dv y n i np pos cv Q O t g r hs hg hd hm ht hN hi Z hb M ih=>
  intro s L;have I:=L.inv;obtain⟨_,⟨o,ho,hc⟩,_⟩:=L.obj;refine fv (yt (VL (X:=Cx.zr X (.ref d)) (AB I) hg hd hm ?_)) (by intro q;cases q);unfold my at hp;dsimp only at hp;cases G:t x.cls with
  |none=>rw[G]at hp;exact hp.elim
  |some b=>
   rw[G]at hp;have LT:W.Looks (model X.prog X.w) s.heap (Gp (.ref d)) (T.cv x):=by rw[<-hc];exact(ww ho).andThen .now
   refine(G7 I.Xi LT (ht x.cls b G)).here ?_;cases b with
   |false=>exact ih hp s L
   |true=>
    refine codeAny_handlers_suite_as (L.next λs' Y=>?_);have hn:H d=none:=Y.obj.1;obtain⟨dd,H1,I1,a1,a0,B,a4⟩:=Yq.Cy Y;have l:∀ b,b∈μ->∃ u,H b=some u:=λb z=>by obtain⟨u,hu,_⟩:=hr.mem z;exact⟨u,hu⟩
    have K:Ext μ H μ H1:=⟨⟨[],by simp⟩,λp xs e=>B _ _ e,λp o u e=>B _ _ e,λp o e n=>⟨⟨o,B _ _ e,.inl rfl⟩,n⟩⟩
    have out:d ∉ μ:=λz=>by obtain⟨u,hu⟩:=l _ z;rw[hn]at hu;cases hu
    have rp:Rep T μ H1 (.pq x.cls) (.ref d):=by
     rw[Rep];refine⟨d,dd,rfl,out,a1,λn q=>?_⟩;obtain⟨dN,z1,z2,z3⟩:=a0 n q;exact⟨dN,z1,λz=>(by obtain⟨u,hu⟩:=l _ z;rw[z2]at hu;cases hu),z3⟩
    refine xC (X:=Cx.zr X (.ref d)) (v:=.ref d) (AB I1) hN hi (.inl Z) rfl (λs2 I2=>?_) (.inr Z);refine Mb (hb (.ref d) c s2 _ _ ⟨λst H=>D.nx (st.set i none) H,D.rt,λst H=>D.bk (st.set i none) H,λst H=>D.ct (st.set i none) H⟩ I2 ⟨μ,ρ.set i (some (.pq x.cls)),σ,(hE.mono K).set i rp,hr.keep K (λa ha=>by obtain⟨u,hu⟩:=l a ha;rw[B _ _ hu,hu]) (hr.tb.grow B),YZ (Ib.mono K hp)⟩) (λf s3 q=>?_) λ_ _ z=>z.elim;have R:(X.env.scope.kind == .class || (X.env.scope.kind == .module && X.env.locals != X.env.globals))=false:=by rw[I.ok.kind];rfl
    have go:∀ {j:St} {E:Hp},Inv (Cx.zr X (.ref d)) c j E s3->(∀ P,Inv X c (j.set i none) E P->SP X c D f P)->wpAny (model X.prog X.w) X.A (do bindName X.env n .none;unbindBehindTheSuite X.env n pos) (λ_ V=>SP X c D f V) X.xe s3:=fun {j E} C k=>by
     have J:=Tz I.ok C;obtain⟨m,U,_⟩:=id J.loc;exact wpAny_nameGoes_keeps Z U R λh4 v4 a2 a3=>k _ (DT J hN hi Z U a2 a3)
    cases f with
    |next=>obtain⟨j,E,C,N⟩:=q;exact go C λP F=>⟨_,_,F,N⟩
    |brk=>obtain⟨j,E,C,N⟩:=q;exact go C λP F=>⟨_,_,F,N⟩
    |cont=>obtain⟨j,E,C,N⟩:=q;exact go C λP F=>⟨_,_,F,N⟩
    |ret u=>obtain⟨v,j,E,C,r3,N⟩:=q;exact go C λP F=>⟨v,_,_,F,r3,N⟩
theorem dS{j:List Stmt}{h₀:Ef}{h:List Ef}{hs:List Hd}{g:Ev->M Fl}{B:Ae}(y:X.stack=X.env::X.outer)(S:X.env.frame=some X.env.locals)
  (hb:∀ a xe,On (model X.prog X.w) X.A X.env xe->xn T (Cx.IB X a xe) j g) (U:pv T X (h₀::h) hs):FS T X (.Try j (h₀::h) [] [] B) (DE g hs):=by
 intro a s st H D I W;obtain⟨J,k,E,R,V,hp⟩:=W;refine wpAny_Try_except ?_;refine Mb (hb a (λe n=>wpAny (model X.prog X.w) X.A (Wf e X.env) (λ_ o=>wpAny (model X.prog X.w) X.A (xh e none) (λ_ c=>wpAny (model X.prog X.w) X.A (cH e X.env (h₀::h)) (SP X a D) X.xe c) X.xe o) X.xe n) Z3 [] s st H D (uR I)
  ⟨J,k,E,R,V,?_⟩) (λf s1 q=>?_) λ_ _ z=>z
 ·have b:Ib T EN (nk T) J H ((g k E).bind (iC hs)) (qj X D):=hp;cases t:g k E with
  |bad=>rw[t]at b;exact b
  |ex x G=>rw[t]at b;exact b
  |ok P G=>
   rw[t]at b;intro i gl p N m d;have l:=b.mono N;cases P with
   |nx k=>cases gl with
    |nx st=>exact l i (.nx st) p (Ext.refl _ _) m d
    |_=>exact d.elim
   |rt k=>cases gl with
    |rt st=>exact l i (.rt st) p (Ext.refl _ _) m d
    |_=>exact d.elim
   |bk k=>cases gl with
    |bk st=>exact l i (.bk st) p (Ext.refl _ _) m d
    |_=>exact d.elim
   |ct k=>cases gl with
    |ct st=>exact l i (.ct st) p (Ext.refl _ _) m d
    |_=>exact d.elim
   |xc Z x=>cases gl with
    |xc Y cls fd=>
     obtain⟨v,rfl,rfl⟩:=d;refine⟨λp0 H0 s0 e s' K F=>?_⟩;exact xU (Gz K) y S F (Q:=λe c=>wpAny (model X.prog X.w) X.A (cH e X.env (h₀::h)) (SP X a D) X.xe c) λea C O L=>by subst O;exact yP U v m l C L
    |_=>exact d.elim
 ·have r:=XY q;cases f with
  |next=>exact aj r
  |brk=>exact r
  |cont=>exact r
  |ret u=>exact r
end
theorem qP{T:Tb}{X:Cx}{r:Stmt}{i:Nat}{f:Ev->M D}(h:FS T X r (jg i f)):FS T X r (jg i (si f)):=by
 intro p s st H D I P;obtain⟨t,c,g,E,y,hp⟩:=P;refine h p s st H D I ⟨t,c,g,E,y,?_⟩;have a:Ib T EN (nk T) t H (xs c (Xa (f c)) (tz i c) g) (qj X D):=hp;show Ib T EN (nk T) t H (xs c (f c) (tz i c) g) (qj X D);unfold xs Xa at a;unfold xs;cases e:f c g with
 |bad=>rw[e]at a;exact a
 |ex x k=>
  rw[e]at a;unfold eh at a;dsimp only at a ⊢;by_cases l:k.take g.length=g
  ·rw[da l]at a;intro u gl w n z q;cases gl with
   |xc st1 L C=>
    obtain⟨G,A⟩:=Rel.down y z n l;obtain⟨K,Q⟩:=q;refine a t (.xc st1 L C) w A G ⟨⟨K.1,λj d b=>?_⟩,Q⟩;obtain⟨v,h1,o⟩:=K.2 j d b;obtain⟨J,_,h4⟩:=E.2 j d b;exact⟨v,h1,Rep.down n.pre d J v h4 o⟩
   |_=>exact q.elim
  ·rw[ka l]at a;exact a.elim
 |ok d k=>
  rw[e]at a;unfold eh at a;dsimp only at a ⊢;by_cases l:k.take g.length=g
  ·rw[da l]at a;cases B:fz g.length k 6 d with
   |none=>rw[B]at a;exact a.elim
   |some N=>
    rw[B]at a;intro u gl w n z q;cases gl with
    |nx st1=>
     obtain⟨G,A⟩:=Rel.down y z n l;have m:Lg T u w (c.set i (some d)) st1:=q;refine a t (.nx st1) w A G ⟨by simpa using m.1,λj x b=>?_⟩;rw[bc]at b;by_cases F:i=j
     ·subst F;rw[da rfl]at b;split at b
      ·rename_i O
       cases b;obtain⟨v,h1,o⟩:=m.2 i d (by rw[bc,da rfl,da O]);exact⟨v,h1,iK n.pre z 6 d N v (by rw[y.len];exact B) o⟩
      ·cases b
     ·rw[ka F]at b;obtain⟨v,h1,o⟩:=m.2 j x (by rw[bc,ka F];exact b);obtain⟨J,_,h4⟩:=E.2 j x b;exact⟨v,h1,Rep.down n.pre x J v h4 o⟩
    |_=>exact q.elim
  ·rw[ka l]at a;exact a.elim
noncomputable def Zw:List D->Option (List Bool)
 |[]=>some []
 | .bl b::r=>(Zw r).map (b::·)
 |_::_=>none
noncomputable def oq:List D->Option (List Int)
 |[]=>some []
 | .int b::r=>(oq r).map (b::·)
 |_::_=>none
theorem zI{T:Tb}{μ:List Addr}{H:Hp}:∀ {ds:List D} {vs:List V} {bs:List Bool},Qa T μ H ds vs->Zw ds=some bs->vs=bs.map V.bl
 |[],vs,bs,r,h=>by cases h;rw[Qa]at r;exact r
 |d::ds,vs,bs,r,h=>by
  rw[Qa]at r;obtain⟨v,w,rfl,h1,e⟩:=r;cases d with
  |bl b=>
   obtain⟨f,a,c⟩:=Eb.mp h;subst c;rw[Rep]at h1;subst h1;rw[zI e a];rfl
  |_=>cases h
theorem wC{T:Tb}{μ:List Addr}{H:Hp}:∀ {ds:List D} {vs:List V} {bs:List Int},Qa T μ H ds vs->oq ds=some bs->vs=bs.map V.int
 |[],vs,bs,r,h=>by cases h;rw[Qa]at r;exact r
 |d::ds,vs,bs,r,h=>by
  rw[Qa]at r;obtain⟨v,w,rfl,h1,e⟩:=r;cases d with
  |int b=>
   obtain⟨f,a,c⟩:=Eb.mp h;subst c;rw[Rep]at h1;subst h1;rw[wC e a];rfl
  |_=>cases h
noncomputable def Iy(xs:List D):M D:=λa=>match xs with
 |[x]=>(match (Vk a x).bind Zw with
  |some bs=>.ok (.bl (bs.all id)) a
  |none=>.bad)
 |_=>.bad
noncomputable def Op(xs:List D):M D:=λa=>match xs with
 |[x]=>(match (Vk a x).bind oq with
  |some bs=>.ok (.int bs.sum) a
  |none=>.bad)
 |_=>.bad
section
variable{T:Tb}{X:Cx}
noncomputable def kK(K:W.Frag)(g:List Bool->Bool):List V->Hp->VK->Prop:=λxs H Q=>∃ p bs,xs=[.ref p]/\(Me K H p (bs.map V.bl)\/nh K H p (bs.map V.bl))/\Q (.bl (g bs)) H
noncomputable def qH(K:W.Frag):List V->Hp->VK->Prop:=λxs H Q=>∃ (p:Addr) (bs:List Int),xs=[.ref p]/\(Me K H p (bs.map V.int)\/nh K H p (bs.map V.int))/\Q (.int bs.sum) H
theorem cM:∀ {bs:List Bool} {us:List Value},Od (bs.map V.bl) us->us=bs.map Ve
 |[],us,h=>by cases h;rfl
 |b::bs,us,h=>by
  cases h with
  |cons r t=>cases r;rw[cM t];rfl
theorem xH{a:Type}(g:a->Bool)(d:a):∀ (bs:List a),(List.range bs.length).all (λi=>g (bs.getD i d))=bs.all g
 |[]=>rfl
 |b::bs=>by
  rw[Db,To,lf,Uo,lf];congr 1;rw[<-xH g d bs];congr 1
theorem JT{prog:ra}{w:Ea}{A:Da}(bs:List Bool):TruthOf prog w A (λi v=>(bs.map Ve).toArray[i]?=some v) (λi=>bs.getD i false):=by
 intro i v s Q E a d;simp only[Ap,Fb]at a;cases e:bs[i]? with
 |none=>rw[e]at a;cases a
 |some b=>
  rw[e]at a;cases a;have c:Q (bs.getD i false) s:=d;rw[Dd,e]at c;exact Rc c
theorem VJ{s:aa}{o:gc}{h':Heap}(k:∀ b u,b ∉ [s.heap.objs.size]->(s.heap.push o).get? b=some u->h'.get? b=some u):∀ b u,s.heap.get? b=some u->h'.get? b=some u:=λb u e=>
 k b u (λz=>absurd (qa e) (by rw[fr.mp z];exact wd _)) (ia _ e)
theorem QI{c:List (Addr × gc)}{s:aa}{st:St}{H:Hp}{p:Addr}{vs:List V}{E:Value->aa->Prop}{Q:Value->aa->Prop}(k:X.A.handled=none)(I:Inv X c st H s)(d:Me X.K H p vs\/nh X.K H p vs)
  (h:∀ (its:List Value) (It:Addr) (j:List Addr) (St:Nat->Heap->Prop) (s2:aa),Od vs its->Walks X.prog X.w X.A.in1 It j [It] its.toArray.size (λi v=>its.toArray[i]?=some v) St->St 0 s2.heap->(∀ b∈j,b<s2.heap.objs.size)->
   (∀ h' tk,(∀ b o,b ∉ [It]->s2.heap.get? b=some o->h'.get? b=some o)->Inv X c st H { s2 with heap:=h',toks:=tk })->Q (.ref It) s2):wpAny (model X.prog X.w) X.A.in1 (pyIter (.ref p)) Q E s:=by
 rcases d with d|d
 ·obtain⟨its,g,pl,l⟩:=I.list d;have a:p<s.heap.objs.size:=by obtain⟨_,e,_⟩:=pl.isList;exact qa e
  refine Km pl.isList (h its s.heap.objs.size [s.heap.objs.size,p] _ _ g (Mm (A:=X.A.in1) k _ p (Ba a) its.toArray) ⟨⟨_,Sa _ rfl,rfl,rfl⟩,pl.isList.push _⟩ (λb hb=>?_) (λh' tk f=>I.kept (VJ f)));show b<(s.heap.push _).objs.size;rw[Jf];simp only[Pa,yd,Hl]at hb;rcases hb with rfl|rfl
  ·exact Gc _
  ·exact wh a
 ·obtain⟨its,g,pl,l⟩:=I.tuple d;have a:p<s.heap.objs.size:=pl.lt;refine vw (show s.heap.IsTuple p _ from pl) (h its s.heap.objs.size [s.heap.objs.size,p] _ _ g (Walks.tuple (A:=X.A.in1) k _ p (Ba a) its.toArray) ⟨⟨_,Sa _ rfl,rfl,rfl⟩,RC (show s.heap.IsTuple p _ from pl) _⟩ (λb hb=>?_) (λh' tk f=>I.kept (VJ f)));show b<(s.heap.push _).objs.size;rw[Jf];simp only[Pa,yd,Hl]at hb;rcases hb with rfl|rfl
  ·exact Gc _
  ·exact wh a
theorem FY(e:X.calm=true):bn X (.builtin "all") (kK X.K λbs=>bs.all id):=by
 intro a s st H xs t Q I r h;obtain⟨p,bs,rfl,g,q⟩:=h;obtain⟨u,rfl,k⟩:=Dt r;cases k;refine call_all_walk (QI (I.ok.hd e) I g λj It n St s2 l W h0 o d=>?_);have b:=cM l;subst b;refine⟨_,_,_,_,_,_,λi=>bs.getD i false,rfl,W,h0,JT bs,λc m f=>⟨.bl (bs.all id),H,d c m f,?_,q⟩⟩;show Ve _=Ve _;rw[va,Yb];exact we Ve (xH id false bs)
theorem mK:∀ (bs:List Int) (n:Nat),n<=bs.length->preSum (λi=>bs.getD i 0) n=(bs.take n).sum
 |bs,0,_=>by simp[preSum]
 |bs,n+1,h=>by
  rw[preSum,mK bs n (by omega),List.take_succ_eq_append_getElem (by omega),List.sum_append];simp[Dd,show n<bs.length by omega]
theorem LB(l:X.calm=true):bn X (.builtin "sum") (qH X.K):=by
 intro c s st H xs B Q I r h;obtain⟨p,bs,rfl,o,q⟩:=h;obtain⟨u,rfl,w⟩:=Dt r;cases w;refine call_sum_walkG (QI (I.ok.hd l) I o λa It A St s2 d W h0 m k=>?_);refine⟨_,_,_,_,_,_,λi=>bs.getD i 0,rfl,W,h0,m,λi v hv=>?_,λg z y n=>⟨.int bs.sum,H,k g z n,⟨y,?_⟩,q⟩⟩
 ·simp only[Ap]at hv;obtain⟨x,h1,j⟩:=LA d hv;rw[Fb]at h1;cases e:bs[i]? with
  |none=>rw[e]at h1;cases h1
  |some b=>
   rw[e]at h1;cases h1;obtain⟨t,rfl⟩:=j;exact⟨t,by show Af b t=Af (bs.getD i 0) t;rw[Dd,e];rfl⟩
 ·have f:a.toArray.size=bs.length:=by rw[va,<-d.length,Yb]
  rw[f,mK bs _ (xa _),zt]
theorem pK{a:Type}{σ:ub}{x:D}{g:List D->Option a}{bs:a}(h:(Vk σ x).bind g=some bs):∃ ys,Vk σ x=some ys/\g ys=some bs:=vh.mp h
theorem qQ(g:T.K=X.K):Tp T (kK X.K λbs=>bs.all id) Iy:=by
 intro E m H k xs j Q r p h
 match xs with
 |[]=>exact h.elim
 |[x]=>
  rw[Qa]at p;obtain⟨v,w,rfl,i,c⟩:=p;rw[Qa]at c;subst c;unfold Iy at h;cases e:(Vk k x).bind Zw with
  |none=>simp only[e]at h;exact h.elim
  |some bs=>
   simp only[e]at h;obtain⟨l,d,f⟩:=pK e;obtain⟨b,j,rfl,h1,a⟩:=iw r i d;rw[g,zI h1 f]at a;exact⟨b,bs,rfl,a,Ib.here h r (by rw[Rep])⟩
 |_::_::_=>exact h.elim
theorem IC(g:T.K=X.K):Tp T (qH X.K) Op:=by
 intro E m H k xs j Q r p h
 match xs with
 |[]=>exact h.elim
 |[x]=>
  rw[Qa]at p;obtain⟨v,w,rfl,i,c⟩:=p;rw[Qa]at c;subst c;unfold Op at h;cases e:(Vk k x).bind oq with
  |none=>simp only[e]at h;exact h.elim
  |some bs=>
   simp only[e]at h;obtain⟨l,d,f⟩:=pK e;obtain⟨b,j,rfl,h1,a⟩:=iw r i d;rw[g,wC h1 f]at a;exact⟨b,bs,rfl,a,Ib.here h r (by rw[Rep])⟩
 |_::_::_=>exact h.elim
noncomputable def hJ(xs:List D):M D:=match xs with
 |[.int i,.int j]=>ret (.int (max i j))
 |_=>bad
noncomputable def Wz(xs:List D):M D:=match xs with
 |[.int i,.int j]=>ret (.int (min i j))
 |_=>bad
theorem TN{μ:List Addr}{H:Hp}{x y:D}{vs:List V}(p:Qa T μ H [x,y] vs):∃ v u,vs=[v,u]/\Rep T μ H x v/\Rep T μ H y u:=by
 rw[Qa]at p;obtain⟨v,w,rfl,b,a⟩:=p;rw[Qa]at a;obtain⟨u,d,rfl,c,p4⟩:=a;rw[Qa]at p4;subst p4;exact⟨v,u,rfl,b,c⟩
theorem V6:Tp T (λxs H Q=>∃ i j,xs=[.int i,.int j]/\Q (.int (if j > i then j else i)) H) hJ:=by
 intro E d H f xs c Q r p h;unfold hJ at h;split at h
 ·rename_i i j
  obtain⟨v,u,rfl,a,b⟩:=TN p;refine⟨i,j,by rw[Tn a,Tn b],?_⟩;have e:(if j > i then j else i)=max i j:=by rw[Int.max_def];split<;>split<;>omega
  rw[e];exact Ib.here h r (by rw[Rep])
 ·exact h.elim
theorem eV:Tp T (λxs H Q=>∃ i j,xs=[.int i,.int j]/\Q (.int (if j<i then j else i)) H) Wz:=by
 intro E d H f xs c Q r p h;unfold Wz at h;split at h
 ·rename_i i j
  obtain⟨v,u,rfl,a,b⟩:=TN p;refine⟨i,j,by rw[Tn a,Tn b],?_⟩;have e:(if j<i then j else i)=min i j:=by rw[Int.min_def];split<;>split<;>omega
  rw[e];exact Ib.here h r (by rw[Rep])
 ·exact h.elim
noncomputable def Pr(ns:List Int):List Int:=ns.foldl step_dedup []
theorem sT(ns:List Int):firstMet (λi=>ns.getD i 0) ns.length=Pr ns:=by
 unfold firstMet Pr;congr 1;apply List.ext_getElem?;intro i;by_cases h:i<ns.length
 ·simp[h]
 ·simp[h]
noncomputable def Ay(x:D):M D:=λa=>match (Qg a x).bind oq with
 |some ns=>if ns.length<=Oh then .ok (.int (Pr ns).length) a else .bad
 |none=>.bad
noncomputable def MT(K:W.Frag):List V->Hp->VK->Prop:=λxs H Q=>∃ (p:Addr) (ns:List Int),xs=[.ref p]/\Me K H p (ns.map V.int)/\ns.length<=Oh/\∀ l,H l=none->Q (.ref l) (upd H l (.set (λk=>(Pr ns).any (·== k)) (Pr ns).length))
theorem CO{n:Nat}(h:n<=Oh):n+1<scanBound:=Cs (Nat.succ_le_succ h) (by decide)
theorem qU(g:X.calm=true):bn X (.type "set") (MT X.K):=by
 intro d s st H xs w Q I r h;obtain⟨p,ns,rfl,l,j,q⟩:=h;obtain⟨u,rfl,m⟩:=Dt r;cases m;obtain⟨a,f,pl,v⟩:=I.list l;have c:a.length=ns.length:=by rw[<-f.length,Yb]
 refine call_set_list (I.ok.hd g) pl.isList (ns:=ns) (eI f) (by rw[va,c];exact CO j) λt n hs i=>?_;rw[show a.toArray.size=ns.length by rw[va,c],sT]at hs;refine⟨.ref s.heap.objs.size,_,I.laid (t':=n) (o:=.set (λk=>(Pr ns).any (·== k)) (Pr ns).length) (λb o e=>i b o (qa e) e) (xa _) ?_,rfl,q _ (I.Qb.fresh (xa _))⟩;exact hs
theorem RV : bn X (.builtin "len") (λxs H Q => ∃ (p : Addr) (S : Int -> Bool) (n : Nat), xs = [.ref p] /\ H p = some (.set S n) /\ Q (.int n) H) := by
  intro a s st H xs k Q I r h;obtain ⟨p, S, n, rfl, hp, q⟩ := h;obtain ⟨u, rfl, e⟩ := Dt r;cases e;obtain ⟨o, g, f, t, h1, b, h3, h4, i, j, c, d⟩ := (show mi X.prog X.w H s.heap p (.set S n) from I.Qb p _ hp)
  refine call_len_set h1 b h3 c (by have : scanBound <= 2 ^ 62 := (by decide);omega) ⟨.int n, H, I.tok _, ⟨_, by rw [d]⟩, q⟩
theorem XS{e:Ga}{f:Ev->M D}{p t k b:Ae}(S:T.K=X.K)(E:X.calm=true)(F:Gl X "len")(hm:X.mg "len" = none)(n:Gl X "set")(q:X.mg "set" = none)(he:FE T X e f)
  (hs:pa [e] X.env=(false,Wb e X.env)::pa [] X.env:=by rfl) (r:(Dc b (pa [] X.env)).any (·.1)=false:=by rfl)
  (i:pa [.Call (.Name "set" t) [e] [] b] X.env=(false,Wb (.Call (.Name "set" t) [e] [] b) X.env)::pa [] X.env:=by rfl) (g:(Dc k (pa [] X.env)).any (·.1)=false:=by rfl) :
  FE T X (.Call (.Name "len" p) [.Call (.Name "set" t) [e] [] b] [] k) (Fd Ay f):=by
 intro j s st H Q I h;refine wF RV F hm ec (ou (lN (qU E) n q rfl (ou he nv hs) (by decide) (by decide) hs r) nv i) (by decide) (by decide) i g j s st H Q I ?_;obtain⟨L,N,O,C,G,hp⟩:=h;refine⟨L,N,O,C,G,hp.bind λd w u v P _ R x J c=>?_⟩;unfold Ay at c;cases m:(Qg w d).bind oq with
 |none=>rw[m]at c;exact c.elim
 |some ns=>
  rw[m]at c;dsimp only at c;by_cases o:ns.length<=Oh
  ·rw[da o]at c;obtain⟨V,y,z⟩:=vh.mp m;obtain⟨a,U,rfl,h1,B⟩:=x.ls J y;have A:=wC B z;subst A;refine⟨a,ns,rfl,Me.of h1,o,λl hn=>?_⟩;exact⟨l,_,_,rfl,rg,c u (.int (Pr ns).length) _ (fk hn) (x.fresh hn) (by rw[Rep])⟩
  ·rw[ka o]at c;exact c.elim
noncomputable def Vt(xs:List D)(a b:Option Int):List D:=(xs.drop (HT.We xs.length 0 a)).take (HT.We xs.length xs.length b - HT.We xs.length 0 a)
theorem lY{xs:List D}{b a:Option Int}(h:HT.We xs.length 0 b=0/\HT.We xs.length xs.length a=xs.length):Vt xs b a=xs:=by
 unfold Vt;rw[h.1,h.2];simp
theorem zG{μ:List Addr}{H:Hp}{xs:List D}{vs:List V}(r:Qa T μ H xs vs)(b a:Option Int):Qa T μ H (Vt xs b a) (Iu vs b a):=by
 unfold Vt Iu;rw[r.length];exact Qa.take _ (Qa.drop _ r)
end
end L4
namespace HT
open PySem PySem.Spec PyProof.Rows
variable{prog:ra}{w:Ea}{A:Da}{E:Value->aa->Prop}{s:aa}
theorem mj{t j:Addr}{a:Array Value}{l m:Value}{c e:Option Int}{Q:Value->aa->Prop}(b:jr s.heap t a)(hs:s.heap.IsSliceOf j l m .none)(pl:ck l c)(p:ck m e)
  (k:We a.size 0 c=0/\We a.size a.size e=a.size) (h:Q (.ref t) s):wpAny (model prog w) A (Zh (.ref t) (.ref j)) Q E s:=by
 obtain⟨os,i,g,n⟩:=id hs;have f:s.TypeIs (.ref j) "slice":=⟨os,i,g⟩
 unfold Zh;try with_reducible refine md ?_
 first|refine ba (na ?_)|skip
 refine ba (Nx b.typeIs (by decide) ?_);refine ba (br (name:=Sf "__getitem__") b.typeIs Zb
  (Mn Zb b.typeIs av ?_ (tw _ _)))
 show wpAny _ _ (Aj (.ref t) >>= _) _ _ s;refine ba (XN b ?_);refine ba (ms f ?_);rw[da (by decide)];refine ba (LM hs pl p ?_);have d:(((We a.size 0 c:Nat):Int) == 0 && (1:Int) == 1 && (We a.size a.size e - We a.size 0 c) == a.size)=true:=by
  rw[k.1,k.2];simp
 show wpAny _ _ (if (((We a.size 0 c:Nat):Int) == 0 && (1:Int) == 1 && (We a.size a.size e - We a.size 0 c) == a.size)=true then _ else _) _ _ s;rw[da d];obtain⟨o,r,q,u⟩:=id b;unfold nA;refine ba (ba (ms b.typeIs ?_));refine na ?_;rw[da (by decide)];refine ba (wpAny_rule ?_);first
  |exact na ⟨_,rfl,na h⟩
  |exact na (na ⟨_,rfl,na h⟩)
  |exact ba (na (na ⟨_,rfl,na h⟩))
end HT
namespace L4
open PySem PySem.Spec PyProof.Rows L2
section
variable{T:Tb}{X:Cx}
noncomputable def DH(K:W.Frag):V->Option Int->Option Int->Hp->VK->Prop:=λx c b H Q=>∃ a xs,x=.ref a/\nh K H a xs/\(HT.We xs.length 0 c=0/\HT.We xs.length xs.length b=xs.length)/\Q (.ref a) H
theorem mZ:ft X (DH X.K):=by
 intro e s st H x v o p m k n Q I j hs pl i h;obtain⟨a,xs,rfl,g,f,q⟩:=h;cases j;obtain⟨c,r,d,l⟩:=I.tuple g;have b:c.toArray.size=xs.length:=by rw[va];exact r.length.symm
 exact⟨"tuple",_,Zb.lookup,d.typeIs,HT.mj d hs pl i (by rw[b];exact f) ⟨.ref a,H,I,rfl,q⟩⟩
noncomputable abbrev PF:=Option (Ev->M D)
noncomputable def fE(d:D):M (Option Int):=match d with
 | .int i=>ret (some i)
 |_=>bad
noncomputable def Hv(p:PF):Ev->M (Option Int):=match p with
 |none=>λ_=>ret none
 |some f=>λa=>Pc (f a) fE
noncomputable def tP(T:Tb)(X:Cx)(f:Ev->M (Option Int)):TO:=λst H Q=>∃ c d e,Lg T c H d st/\Rel T c H e/\Ib T (XE X st) (λ_ _ a b=>b=a) c H (f d e) Q
noncomputable abbrev FO(T:Tb)(X:Cx)(e:Option Ga)(p:PF):Prop:=PO X e (tP T X (Hv p))
theorem cD:FO T X none none:=by
 intro a s st H Q I h;obtain⟨d,e,f,c,b,hp⟩:=h;exact rY a s st H Q I (Ib.here hp b rfl)
theorem HD{e:Ga}{f:Ev->M D}(he:FE T X e f):FO T X (some e) (some f):=by
 intro a s st H Q I h;refine fV he a s st H Q I ?_;obtain⟨l,n,o,c,g,hp⟩:=h;refine⟨l,n,o,c,g,Ib.bind hp λd p m v q _ r k j b=>?_⟩;cases d with
 |int i=>exact⟨i,Tn j,Ib.here b k rfl⟩
 |_=>exact b.elim
noncomputable def YM(x:D)(c b:Option Int):M D:=λa=>match x with
 | .tup xs=>.ok (.tup (Vt xs c b)) a
 | .Lf ns=>.ok (.lst (Vt (ns.map D.int) c b)) a
 |x=>(match Qg a x with
  |some xs=>.ok (.lst (Vt xs c b)) a
  |none=>.bad)
noncomputable def mx(x:D)(b:Option Int)(a:Option Int):M D:=YM x b a
noncomputable def rE(x:D)(a:M (Option Int))(b:Option Int):M D:=Pc a (mx x b)
noncomputable def lD(b a:M (Option Int))(x:D):M D:=Pc b (rE x a)
noncomputable def mz(f:Ev->M D)(c b:PF):Ev->M D:=λa=>Pc (f a) (lD (Hv c a) (Hv b a))
theorem aD{e:Ga}{V U:Option Ga}{f:Ev->M D}{pl W:PF}{C B:Ae}(Z:T.K=X.K)(he:FE T X e f)(hl:FO T X V pl)(hh:FO T X U W):FE T X (.Subscript e (.Slice V U none B) C) (mz f pl W):=by
 intro w s st H Q I h;refine GO (ft.or LP (ft.or mZ AV)) he hl hh w s st H Q I ?_;obtain⟨μ,N,σ,z,hr,hp⟩:=h;refine⟨μ,N,σ,z,hr,hp.bind λd O J v H1 _ R r1 q1 p1=>⟨J,N,O,z.mono R,r1,p1.bind λl P L g H2 _ S r2 q2 B=>⟨L,N,P,(z.mono R).mono S,r2,B.bind λu o y i r _ Y x q3 c=>?_⟩⟩⟩;have E:g=l:=q2;have F:i=u:=q3;subst E;subst F;have rd:Rep T y r d v:=Rep.mono Y _ _ (Rep.mono S _ _ q1);have b:∀ m,Qg o d=some m->Ib T (XE X st) (Rep T) y r (.ok (.lst (Vt m g i)) o) Q->sM X.K v g i r Q\/DH X.K v g i r Q\/SL X.K v g i r Q:=λm t p4=>by
  obtain⟨a,j,rfl,h1,k⟩:=x.ls rd t;exact .inr (.inr ⟨a,j,rfl,Me.of h1,λp hn=>RA p4 x (zG k g i) hn⟩)
 cases d with
 |tup xs=>
  have G:=rd;rw[Rep]at rd;obtain⟨p,j,rfl,h1,k⟩:=rd;by_cases A:HT.We j.length 0 g=0/\HT.We j.length j.length i=j.length
  ·refine .inr (.inl ⟨p,j,rfl,nh.of h1,A,Ib.here (d:=D.tup (Vt xs g i)) c x ?_⟩);rw[lY (by rw[k.length];exact A)];exact G
  ·exact .inl ⟨p,j,rfl,nh.of h1,A,λq hn=>PD c x (zG k g i) hn⟩
 |ref n=>
  unfold mx YM at c;dsimp only at c;cases t:Qg o (.ref n)with
  |none=>rw[t]at c;exact c.elim
  |some m=>rw[t]at c;exact b m t c
 |lst m=>exact b m rfl c
 |Lf ns=>
  rw[Rep]at rd;obtain⟨p,rfl,h1⟩:=rd;have k:=h1.seq;rw[Z]at k;exact .inr (.inr ⟨p,_,rfl,k,λp hn=>RA c x (zG (iB ns) g i) hn⟩)
 |_=>exact c.elim
end
noncomputable def sE(K:W.Frag)(mg:ma->Option Value)(x:ma)(st:Stmt)(ps:List ma)(g:List Value):Prop:=
 ∃ f b,mg x=some (.ref f)/\W.keepIn K (.ref f)=true/\(∃ (h:Value) (i:Option Addr) (e kV c j:Value) (an:Option Addr) (a ct:Value) (d:Array (Option Value)),
  b=W.fnOf x x (Em st) (Ni st) (Ec st) e kV c j an a ct/\K.lookup f=some ⟨h,i,.func b,d⟩/\W.codeIn K a x=true)/\ip K b ps []/\ip K b ps g
noncomputable def Zq(T:Tb)(P:ra)(w:Ea)(mg:ma->Option Value)(base:Heap)(k:Nat)(x:ma)(ps:List ma)(b:List Value)(fn:List D->M D):Prop:=
 ∃ f a,mg x=some (.ref f)/\W.keepIn T.K (.ref f)=true/\ip T.K a ps []/\ip T.K a ps b/\Dg P w T.K mg base (jl P w) k f a ps (ln T ps.length fn)
section
variable{T:Tb}{X:Cx}
theorem mS{k:Nat}{ps:List ma}{j:List Value}{fn:List D->M D}{x:ma}{p b:Ae}{e:Ga}{a:List Ga}{fs:Ev->M (List D)}(h:Zq T X.prog X.w X.mg X.base k x ps j fn)(l:T.K=X.K)(o:vd k X.A)(n:Gl X x)
  (m:FA T X (e::a) fs) (c:(x == ("__debug__" : ma))=false:=by decide) (he:pa (e::a) X.env=(false,Wb e X.env)::pa a X.env:=by rfl) (d:(Dc b (pa a X.env)).any (·.1)=false:=by rfl) :
  FE T X (.Call (.Name x p) (e::a) [] b) (Yc ps.length fn [] fs):=by
 obtain⟨f,q,hm,i,hb,_,g⟩:=h;rw[l]at i g hb;exact OF (dds:=[]) (dvs:=[]) g o n hm i hb .nil (λ_ _=>Qa.nil) m c he d
theorem HS{k:Nat}{ps:List ma}{i:List Value}{dds:List D}{dvs:List V}{fn:List D->M D}{x:ma}{p b:Ae}{e:Ga}{a:List Ga}{fs:Ev->M (List D)}(h:Zq T X.prog X.w X.mg X.base k x ps i fn)(m:T.K=X.K)(q:vd k X.A)(o:Gl X x)(hv:Od dvs i)(d:∀ μ H,Qa T μ H dds dvs)
  (n:FA T X (e::a) fs) (c:(x == ("__debug__" : ma))=false:=by decide) (he:pa (e::a) X.env=(false,Wb e X.env)::pa a X.env:=by rfl) (g:(Dc b (pa a X.env)).any (·.1)=false:=by rfl) :
  FE T X (.Call (.Name x p) (e::a) [] b) (Yc ps.length fn dds fs):=by
 obtain⟨f,r,hm,l,_,hb,j⟩:=h;rw[m]at l j hb;exact OF (dds:=dds) (dvs:=dvs) j q o hm l hb hv d n c he g
theorem cK:Od [V.Jb] [pb]:=.cons rfl .nil
theorem AI{T:Tb}(μ:List Addr)(H:Hp):Qa T μ H [D.Jb] [V.Jb]:=Qa.cons (by rw[Rep]) Qa.nil
variable{P:ra}{w:Ea}{K:W.Frag}{mg:ma->Option Value}{base:Heap}{ca:Nat->Addr}{tx:Tx}
theorem wT{k:Nat}{x:ma}{st:Stmt}{ps N:List ma}{c:List Value}{g:Ev->M Fl}(h:sE K mg x st ps c)(S:wa N ps (Ec st))
  (hb:∀ (f:Addr) (a:Value) (A:Da) (outer:List ag) (s:aa) (H:Hp) (E:XK),vd k (A.deeper (eg x (Ec st) s.heap.objs.size f a))->xn ⟨K,ca,tx⟩ (Bo (jl P w) P w K mg base N x (Ec st) f a A outer s H E) (Ni st) g) :
  Zq ⟨K,ca,tx⟩ P w mg base (k+1) x ps c (run N.length g):=by
 obtain⟨f,p,hm,j,⟨q,r,o,kV,i,t,n,a,ct,m,rfl,l,b⟩,d,e⟩:=h;exact⟨f,_,hm,j,d,e,xx l b S (hb f a)⟩
theorem Zq.Xa{k:Nat}{x:ma}{ps:List ma}{a:List Value}{fn:List D->M D}(h:Zq T P w mg base k x ps a fn):Zq T P w mg base k x ps a (λb=>L4.Xa (fn b)):=by
 obtain⟨f,c,h1,d,h3,h4,e⟩:=h;exact⟨f,c,h1,d,h3,h4,yC e⟩
theorem mV{h:Heap}{x:ma}{st:Stmt}{ps:List ma}{f t:Addr}{dv:List Value}{w r:Value}{od g u:Option Addr}{j v:Array (Option Value)}{kV e i b ct:Value}{q:Nat}(X:K.In h)(G:h.Ns mainGlobals mg)
  (hb:∀ (t:Addr) (kV e i:Value) (g:Option Addr) (b ct:Value) (s:aa) (o:gc) (n:Nat) (us:List Value),s.heap.get? t=some o->o.data=.seq dv.toArray n->((us++[]).length=ps.length->uf s (W.fnOf x x (Em st) (Ni st) (Ec st) (.ref t) kV e i g b ct) ⟨us,[]⟩ (ps.zip (us++[])))/\
   ((us++dv).length=ps.length->uf s (W.fnOf x x (Em st) (Ni st) (Ec st) (.ref t) kV e i g b ct) ⟨us,[]⟩ (ps.zip (us++dv))))
  (a:W.nsIn K mainGlobals x=some (some (.ref f))) (l:K.lookup f=some ⟨w,od,.func (W.fnOf x x (Em st) (Ni st) (Ec st) (.ref t) kV e i g b ct),j⟩)
  (c:W.codeIn K b x=true) (k:W.keepIn K (.ref f)=true) (d:K.lookup t=some ⟨r,u,.seq dv.toArray q,v⟩):sE K mg x st ps dv:=
 ⟨f,_,Jq X G a,k,⟨w,od,_,kV,e,i,g,b,ct,j,rfl,l,c⟩,λs us m p=>(hb t kV e i g b ct s _ q us (m _ _ d) rfl).1 p,λs us m p=>(hb t kV e i g b ct s _ q us (m _ _ d) rfl).2 p⟩
end
noncomputable def NN(l:List (Nat × Bool)):Nat->Option Bool:=λc=>l.lookup c
abbrev pY:List Value:=[.type "ValueError",.type "Exception",.type "BaseException",.type "object"]
noncomputable def GB(K:W.Frag)(ca:Nat->Addr)(cv:Value)(l:List (Nat × Bool)):Prop:=∀ p∈l,W.exmOne K (.ref (ca p.1)) cv=some p.2
theorem fT{K:W.Frag}{ca:Nat->Addr}{cv:Value}:GB K ca cv []:=λ_ h=>nomatch h
theorem JR{K:W.Frag}{ca:Nat->Addr}{cv:Value}{c:Nat}{b:Bool}{l:List (Nat × Bool)}(h:W.exmOne K (.ref (ca c)) cv=some b)(r:GB K ca cv l):GB K ca cv ((c,b)::l):=λp hp=>by
 rcases Pa.mp hp with rfl|hp
 ·exact h
 ·exact r p hp
theorem xJ:∀ {l:List (Nat × Bool)} {c:Nat} {b:Bool},l.lookup c=some b->(c,b)∈l
 |[],_,_,h=>by simp at h
 |(n,d)::r,c,b,h=>by
  rw[Oa]at h;cases e:c == n with
  |true=>rw[e]at h;cases h;rw[eq_of_beq e];exact Ub
  |false=>rw[e]at h;exact jb _ (xJ h)
theorem VP{K:W.Frag}{ca:Nat->Addr}{cv:Value}{l:List (Nat × Bool)}(h:GB K ca cv l):∀ c b,NN l c=some b->W.exmOne K (.ref (ca c)) cv=some b:=λc b e=>h (c,b) (xJ e)
theorem Nb.hide{T:Tb}{P:ra}{w:Ea}{mg:ma->Option Value}{base:Heap}{k:Nat}{x:ma}{ps:List ma}{fn:List D->M D}(h:Nb T P w mg base k x ps fn):Nb T P w mg base k x ps (L4.hide fn):=by rw[sq];exact h
theorem Zq.hide{T:Tb}{P:ra}{w:Ea}{mg:ma->Option Value}{base:Heap}{k:Nat}{x:ma}{ps:List ma}{a:List Value}{fn:List D->M D}(h:Zq T P w mg base k x ps a fn):Zq T P w mg base k x ps a (L4.hide fn):=by rw[sq];exact h
section
variable{T:Tb}{X:Cx}{μ:List Addr}{H:Hp}{σ:ub}
noncomputable def jm(σ:ub):D->Option (Nat × List (ma × D))
 | .obj c ns ds=>if ns.length=ds.length then some (c,ns.zip ds)else none
 | .ref n=>match σ[n]? with
  |some (.ins c fs)=>some (c,fs)
  |_=>none
 |_=>none
theorem AL:∀ {ns:List ma} {ds:List D} {fs:List (ma × V)},fs.map (·.1)=ns->Qa T μ H ds (fs.map (·.2))->lq T μ H (ns.zip ds) fs
 |[],ds,[],_,h=>by
  rw[Xh]at h;cases ds with
  |nil=>exact Paired.nil
  |cons d ds=>have:=h.length;simp at this
 |[],ds,f::fs,e,_=>by simp at e
 |n::ns,ds,[],e,_=>by simp at e
 |n::ns,[],f::fs,e,h=>by have:=h.length;simp at this
 |n::ns,d::ds,f::fs,e,h=>by
  simp only[yb,fq]at e;rw[yb,Qa]at h;obtain⟨v,r,a,h1,g⟩:=h;simp only[fq]at a;obtain⟨b,c⟩:=a;subst c;exact Paired.cons ⟨e.1.symm,by rw[b];exact h1⟩ (AL e.2 g)
theorem Iw(r:Rel T μ H σ){d:D}{v:V}{c:Nat}{fs:List (ma × D)}(h:Rep T μ H d v)(e:jm σ d=some (c,fs)):∃ a b vs,v=.ref a/\H a=some (.ins (T.ca c) b vs)/\lq T μ H fs vs:=by
 cases d with
 |obj i ns ds=>
  unfold jm at e;by_cases g:ns.length=ds.length
  ·simp only[g,Xf,zg,Prod.mk.injEq]at e;obtain⟨rfl,rfl⟩:=e;rw[Rep]at h;obtain⟨a,b,vs,rfl,_,h3,h4,l⟩:=h;exact⟨a,b,vs,rfl,h3,AL h4 l⟩
  ·simp[g]at e
 |ref n=>
  unfold jm at e;dsimp only at e;cases f:σ[n]? with
  |none=>rw[f]at e;cases e
  |some o=>
   rw[f]at e;obtain⟨a,rfl,_,k⟩:=r.at h f;cases o with
   |ins i j=>cases e;obtain⟨b,vs,h3,h4⟩:=k;exact⟨a,b,vs,rfl,h3,h4⟩
   |lst _=>cases e
   |Lb _=>cases e
   |Be _=>cases e
   |cj _=>cases e
 |_=>cases e
theorem Iz{f:ma}:∀ {fs:List (ma × D)} {vs:List (ma × V)},lq T μ H fs vs->(∀ d,fs.lookup f=some d->∃ v,vs.lookup f=some v/\Rep T μ H d v)/\(fs.lookup f=none->vs.lookup f=none)
 |_,_,.nil=>⟨λd e=>by simp at e,λ_=>rfl⟩
 |(g,x)::fs,(g',v)::vs,.cons ⟨e,h⟩ t=>by
  have c:g=g':=e;subst c;obtain⟨h1,i⟩:=Iz t;by_cases b:(f == g)=true
  ·refine⟨λd q=>?_,λq=>?_⟩
   ·rw[Oa,b]at q;cases q;exact⟨v,by rw[Oa,b],h⟩
   ·rw[Oa,b]at q;cases q
  ·have a:(f == g)=false:=by simpa using b
   refine⟨λd q=>?_,λq=>?_⟩
   ·rw[Oa,a]at q;obtain⟨w,j,k⟩:=h1 d q;exact⟨w,by rw[Oa,a];exact j,k⟩
   ·rw[Oa,a]at q;rw[Oa,a];exact i q
noncomputable def cm(T:Tb)(cs:List Nat)(f:ma):Prop:=∀ c,cs.contains c=true->Wm T.K (T.ca c)/\Eg T.K (T.ca c) f
theorem mo{f:ma}:cm T [] f:=λc h=>by simp at h
theorem Ih{f:ma}{c:Nat}{cs:List Nat}(h1:Wm T.K (T.ca c))(a:Eg T.K (T.ca c) f)(h:cm T cs f):cm T (c::cs) f:=λd hd=>by
 rw[List.contains_cons,sf,Zf]at hd;rcases hd with rfl|hd
 ·exact⟨h1,a⟩
 ·exact h d hd
noncomputable def Zc(cs:List Nat)(f:ma)(x:D):M D:=λσ=>match jm σ x with
 |some (c,fs)=>if cs.contains c=true then (match fs.lookup f with
  |some d=>.ok d σ
  |none=>.bad)else .bad
 |none=>.bad
theorem Ue{e:Ga}{f:ma}{g:Ev->M D}{m:Ae}{cs:List Nat}(z:T.K=X.K)(A:cm T cs f)(he:FE T X e g)
  (hb:Md e f X.env (Wb e X.env)=Wb e X.env:=by rfl):FE T X (.Attribute e f m) (Fd (Zc cs f) g):=by
 intro j s st H Q I h;refine T1 he hb j s st H Q I ?_;obtain⟨μ,G,σ,x,B,hp⟩:=h;refine⟨μ,G,σ,x,B,Ib.bind hp λd n F v J _ L r C b=>?_⟩;unfold Zc at b;cases k:jm n d with
 |none=>rw[k]at b;exact b.elim
 |some p=>
  obtain⟨c,fs⟩:=p;rw[k]at b;dsimp only at b;by_cases i:cs.contains c=true
  ·rw[da i]at b;obtain⟨a,t,E,rfl,h1,u⟩:=Iw r C k;cases l:fs.lookup f with
   |none=>rw[l]at b;exact b.elim
   |some y=>
    rw[l]at b;obtain⟨w,h3,h4⟩:=(Iz u).1 y l;obtain⟨o,q⟩:=A c i;rw[z]at o q;exact⟨a,_,t,E,w,rfl,h1,o,q,h3,Ib.here b r h4⟩
  ·rw[ka i]at b;exact b.elim
noncomputable def Sl(f:ma)(v:D):List (ma × D)->List (ma × D)
 |[]=>[(f,v)]
 |(g,x)::r=>if g=f then (g,v)::r else (g,x)::Sl f v r
theorem AF{f:ma}{d:D}{v:V}(hd:Rep T μ H d v):∀ {fs:List (ma × D)} {vs:List (ma × V)},lq T μ H fs vs->lq T μ H (Sl f d fs) (Zl f v vs)
 |_,_,.nil=>Paired.cons ⟨rfl,hd⟩ Paired.nil
 |(g,x)::fs,(g',w)::vs,.cons ⟨e,h⟩ t=>by
  have b:g=g':=e;subst b;unfold Sl Zl;by_cases a:g=f
  ·rw[da a,da a];exact Paired.cons ⟨rfl,hd⟩ t
  ·rw[ka a,ka a];exact Paired.cons ⟨rfl,h⟩ (AF hd t)
theorem lq.mono{μ':List Addr}{a:Hp}(e:Ext μ H μ' a){fs:List (ma × D)}{vs:List (ma × V)}(h:lq T μ H fs vs):lq T μ' a fs vs:=Paired.oo h λ_ _ q=>⟨q.1,Rep.mono e _ _ q.2⟩
theorem lq.length{fs:List (ma × D)}{vs:List (ma × V)}(h:lq T μ H fs vs):fs.length=vs.length:=Paired.length h
noncomputable def cx(cs:List Nat)(f:ma)(d x:D):M Unit:=λσ=>match x with
 | .ref n=>(match σ[n]? with
  |some (.ins c fs)=>if (cs.contains c && decide (fs.length<1000))=true then .ok () (σ.set n (.ins c (Sl f d fs)))else .bad
  |_=>.bad)
 |_=>.bad
noncomputable def Lv(ρ:Ev)(cs:List Nat)(f:ma)(d x:D):M Fl:=λσ=>match cx cs f d x σ with
 | .ok _ a=>.ok (.nx ρ) a
 |_=>.bad
noncomputable def gE(ρ:Ev)(cs:List Nat)(f:ma)(a:Ev->M D)(d:D):M Fl:=xs ρ (a ρ) (Lv ρ cs f d)
noncomputable def yl(cs:List Nat)(f:ma)(c b:Ev->M D):Ev->M Fl:=λa=>xs a (c a) (gE a cs f b)
theorem Zm{o e:Ga}{f:ma}{E C:Ev->M D}{k h:Ae}{cs:List Nat}(O:T.K=X.K)(P:cm T cs f)(Q:FE T X o C)(hv:FE T X e E)
  (hs:Di e (some (.Attribute o f h)) k.line X.env=pure false:=by rfl):FS T X (.Assign [.Attribute o f h] e k) (yl cs f E C):=by
 intro j s st H D I R;refine F1 Q hv hs j s st H D I ?_;obtain⟨μ,N,σ,i,S,hp⟩:=R;refine⟨μ,N,σ,i,S,hp.xs i λd w u v Z _ p Y V U=>?_⟩;refine⟨u,N,w,i.mono p,Y,U.xs (i.mono p) λx y l vo A _ B L W b=>?_⟩;have hd:=Rep.mono B _ _ V;unfold Lv cx at b;cases x with
 |ref n=>
  dsimp only at b;cases q:y[n]? with
  |none=>rw[q]at b;exact b.elim
  |some ob=>
   rw[q]at b;cases ob with
   |lst _=>exact b.elim
   |Lb _=>exact b.elim
   |Be _=>exact b.elim
   |cj _=>exact b.elim
   |ins c fs=>
    dsimp only at b;by_cases g:(cs.contains c && decide (fs.length<1000))=true
    ·rw[da g]at b;rw[ya,Fc]at g;obtain⟨a,rfl,hn,m,r,h1,F⟩:=L.at W q;have ex:Ext l A l (upd A a (.ins (T.ca c) m (Zl f v r))):=Pt (Ja hn) h1 (λ_ z=>by cases z) (λ_ _ z=>by cases z);have t:=L.write (o:=.ins (T.ca c) m (Zl f v r)) (ob:=.ins c (Sl f d fs)) hn ⟨m,_,rg,AF (Rep.mono ex _ _ hd) (lq.mono ex F)⟩;obtain⟨G,J⟩:=P c g.1;rw[O]at G J;exact⟨a,_,m,r,rfl,h1,G,J,by rw[<-F.length];exact g.2,b _ (.nx st) _ t.1 t.2 ((i.mono p).mono B |>.mono t.1)⟩
    ·rw[ka g]at b;exact b.elim
 |_=>exact b.elim
noncomputable def Uw(n:Nat):Out D->Out D
 | .ok .Jb a=>.ok (.ref n) a
 | .ok _ _=>.bad
 | .ex x a=>.ex x a
 | .bad=>.bad
noncomputable def Qo(c n:Nat)(fn:List D->M D)(ds:List D):M D:=λσ=>if ds.length+1=n then Uw σ.length (fn (.ref σ.length::ds) (σ++[.ins c []]))else .bad
noncomputable def Er(c n:Nat)(fn:List D->M D)(fs:Ev->M (List D)):Ev->M D:=λa=>Pc (fs a) (Qo c n fn)
noncomputable def ue(T:Tb)(P:ra)(w:Ea)(mg:ma->Option Value)(base:Heap)(k:Nat)(f:Addr)(ps:List ma)(fn:List D->M D):Prop:=
 ∃ b,(∀ a:List Value,a.length=ps.length->bindArgs b ⟨a,[]⟩=pure (ps.zip a))/\Dg P w T.K mg base (jl P w) k f b ps (ln T ps.length fn)
noncomputable def M0(T:Tb)(P:ra)(w:Ea)(mg:ma->Option Value)(base:Heap)(k:Nat)(x:ma)(c:Nat)(ps:List ma)(fn:List D->M D):Prop:=
 ∃ f,mg x=some (.ref (T.ca c))/\Mk T.K (T.ca c) f/\ue T P w mg base k f ps fn
theorem GN{E:XK}{c:Nat}{ps:List ma}{fn:List D->M D}{ds:List D}{vs:List V}{Q:VK}(r:Rel T μ H σ)(q:Qa T μ H ds vs)(p:Ib T E (Rep T) μ H (Qo c ps.length fn ds σ) Q) :
  ∀ x a,H x=none->H a=none->a≠x->ln T ps.length fn (.ref x::(vs++[])) (upd (upd H a (.own x)) x (.ins (T.ca c) a [])) (λv u=>v=.Jb/\Q (.ref x) u) E:=by
 intro x a w h m;unfold Qo at p;by_cases l:ds.length+1=ps.length
 ·rw[da l]at p;have b:Ext μ H μ (upd H a (.own x)):=fk h;have o:Rel T μ (upd H a (.own x)) σ:=r.fresh h;have i:upd H a (.own x) x=none:=by unfold upd;rw[ka (Ee m)];exact w
  have f:Ext μ (upd H a (.own x)) (μ++[x]) (upd (upd H a (.own x)) x (.ins (T.ca c) a [])):=Et i;have z:Rel T (μ++[x]) (upd (upd H a (.own x)) x (.ins (T.ca c) a [])) (σ++[.ins c []]):=o.push i ⟨a,[],rg,Paired.nil⟩;refine⟨μ++[x],σ++[.ins c []],.ref σ.length::ds,Qa.cons (ly o) (by rw[ii];exact Qa.mono (b.trans f) _ _ q),by rw[Db];exact l,z,?_⟩;cases e:fn (.ref σ.length::ds) (σ++[.ins c []])with
  |bad=>rw[e]at p;exact p.elim
  |ex y s=>rw[e]at p;exact λg k j n=>p g k ((b.trans f).trans j) n
  |ok d s=>
   rw[e]at p;intro g v k j n t;have hv:d=.Jb:=by cases d<;>first|rfl|exact p.elim
   subst hv;rw[Rep]at t;refine⟨t,p g (.ref x) k ((b.trans f).trans j) n ?_⟩;exact Rep.mono j _ _ (ly o)
 ·rw[ka l]at p;exact p.elim
theorem GI{k:Nat}{C f:Addr}{i:Ad}{ps:List ma}{sp:Sp}{dvs:List V}{ds:List Value}{b:List (Addr × gc)}{st:St}{H:Hp}{s:aa}{Q:VK}{us:List Value}{vs:List V}(M:Mk X.K C f)(F:Dg X.prog X.w X.K X.mg X.base (jl X.prog X.w) k f i ps sp)(y:vd (k+1) X.A)(hb:ip X.K i ps ds)(hd:Od dvs ds)
  (I:Inv X b st H s) (r:Od vs us)
  (h:∀ x g,H x=none->H g=none->g≠x->sp (.ref x::(vs++dvs)) (upd (upd H g (.own x)) x (.ins C g [])) (λv n=>v=.Jb/\Q (.ref x) n) (XE X st)) :
  wpAny (model X.prog X.w) X.A (call (.ref C) us) (EP X b st Q) X.xe s:=by
 have l:=h (s.heap.objs.size+1) s.heap.objs.size (I.Qb.fresh (rm _)) (I.Qb.fresh (xa _)) (Ba (Gc _));have d:=Inv.made (C:=C) I;have m:Od (V.ref (s.heap.objs.size+1)::(vs++dvs)) (eb (s.heap.objs.size+1)::(us++ds)):=.cons rfl (r.append hd);have t:(eb (s.heap.objs.size+1)::us++ds).length=ps.length:=by
  have e:=m.length;rw[F.len _ _ _ _ l]at e;exact e.symm
 refine zp (GU (f:=f) I.Xi M.makes M.init (Zf.mp M.fn) (rh (F.run _ X.stack _ _ ⟨eb (s.heap.objs.size+1)::us,[]⟩ (eb (s.heap.objs.size+1)::(us++ds)) _ _ (XE X st) (y.make C us [])
  (d.wz.make C us []) (hb _ (eb (s.heap.objs.size+1)::us) d.Xi t) m l) λr E a=>?_))
 cases r with
 |error e=>obtain⟨cls,i,j,c,z⟩:=a;exact z.dC b _ _ e E d c
 |ok q=>
  cases q with
  |ret u=>
   obtain⟨v,j,o,D,p,B⟩:=d.after a;subst p;exact⟨D,⟨V.ref (s.heap.objs.size+1),j,o,rfl,B⟩⟩
  |next=>exact False.elim a
  |brk=>exact False.elim a
  |cont=>exact False.elim a
theorem XB{k c:Nat}{ps:List ma}{fn:List D->M D}{x:ma}{p a:Ae}{e:Ga}{d:List Ga}{fs:Ev->M (List D)}(h:M0 T X.prog X.w X.mg X.base k x c ps fn)(B:T.K=X.K)(G:vd (k+1) X.A)(E:Gl X x)
  (C:FA T X (e::d) fs) (l:(x == ("__debug__" : ma))=false:=by decide) (he:pa (e::d) X.env=(false,Wb e X.env)::pa d X.env:=by rfl) (m:(Dc a (pa d X.env)).any (·.1)=false:=by rfl) :
  FE T X (.Call (.Name x p) (e::d) [] a) (Er c ps.length fn fs):=by
 obtain⟨f,hm,j,U,hb,u⟩:=h;rw[B]at j u;intro g s st H Q I F;obtain⟨μ,P,σ,z,n,hp⟩:=F;refine Je (Ow I E hm ?_ l);refine gm (h₀:=X.base) I.ok.mod.Cu j.kp (zd (C a g s st H (λo b=>∀ x i,b x=none->b i=none->i≠x->ln T ps.length fn (.ref x::(o++[])) (upd (upd b i (.own x)) x (.ins (T.ca c) i [])) (λv y=>v=.Jb/\Q (.ref x) y) (XE X st)) I ⟨μ,P,σ,z,n,hp.bind λds R O o b _ S N J L=>GN N J L⟩) λus s1 ⟨o,b,t,r,q⟩=>⟨t.Xi,?_⟩) he m;exact GI (ds:=[]) (dvs:=[]) j u G (.all hb) .nil t r q
structure MG(T:Tb)(P:ra)(w:Ea)(mg:ma->Option Value)(base:Heap)(k:Nat)(m:ma)(c:Nat)(ps:List ma)(fn:List D->M D):Prop where
 cl:Wm T.K (T.ca c)
 ex:∃ f,qf T.K (T.ca c) m f/\ue T P w mg base k f ps fn
noncomputable abbrev Mt:=List (Nat × (List D->M D))
noncomputable def gu:Mt->Nat->Option (List D->M D)
 |[],_=>none
 |(c,fn)::r,d=>if c == d then some fn else gu r d
noncomputable def jk(n:Nat)(fn:List D->M D)(x:D)(ds:List D):M D:=if ds.length+1=n then fn (x::ds)else bad
noncomputable def xm(tb:Mt)(n:Nat)(m:ma)(fs:M (List D))(x:D):M D:=λσ=>match jm σ x with
 |some (c,a)=>(match gu tb c,a.lookup m with
  |some fn,none=>Pc fs (jk n fn x) σ
  |_,_=>.bad)
 |none=>.bad
noncomputable def Pg(tb:Mt)(n:Nat)(m:ma)(f:Ev->M D)(fs:Ev->M (List D)):Ev->M D:=λa=>Pc (f a) (xm tb n m (fs a))
theorem GG:∀ {tb:Mt} {c:Nat} {fn:List D->M D},gu tb c=some fn->(c,fn)∈tb
 |[],_,_,h=>by cases h
 |(d,g)::r,c,fn,h=>by
  unfold gu at h;by_cases e:(d == c)=true
  ·rw[da e]at h;cases h;rw[Zf.mp e];exact Ub
  ·rw[ka e]at h;exact jb _ (GG h)
theorem Oj{pl:fo Bool}{k:Nat}{tb:Mt}{ps:List ma}{m:ma}{o e:Ga}{l:List Ga}{f:Ev->M D}{fs:Ev->M (List D)}{b i:Ae}(hK:T.K=X.K)(he:FE T X o f)(h:∀ q∈tb,MG T X.prog X.w X.mg X.base k m q.1 ps q.2)(hr:vd k X.A)(ha:FA T X (e::l) fs)
  (R:pa (e::l) X.env=(false,Wb e X.env)::pa l X.env:=by rfl) (O:(Dc b (pa l X.env)).any (·.1)=false:=by rfl)
  (ht:Wb (.Call (.Attribute o m i) (e::l) [] b) X.env=(do
   let ov <-Wb o X.env
   Xo i.atName
   let (f,first) <-cg [ov] (lr ov m pl)
   callWith b f first (Dc b (pa (e::l) X.env)) (Om b (ai [] X.env))):=by rfl) :
  FE T X (.Call (.Attribute o m i) (e::l) [] b) (Pg tb ps.length m f fs):=by
 intro j s st H Q I hq;obtain⟨μ,ρ,σ,hE,P,hp⟩:=hq;have J:=hE;refine Qx (pl:=pl) (zd (he j s st H (λx p=>∃ a c E vs fn,x=.ref a/\p a=some (.ins (T.ca c) E vs)/\gu tb c=some fn/\vs.lookup m=none/\tL T X fs st p λus F=>ln T ps.length fn (x::(us++[])) F Q (XE X st)) I ⟨μ,ρ,σ,hE,P,hp.bind λd C U v p _ e1 r1 q1 g=>?_⟩) λu s1 ⟨x,p,Z,rx,a,c,E,vs,fn,ex,ea,n,t,q⟩=>?_) ht
 ·unfold xm at g;cases G:jm C d with
  |none=>rw[G]at g;exact g.elim
  |some z=>
   obtain⟨c,gs⟩:=z;rw[G]at g;dsimp only at g;cases n:gu tb c with
   |none=>rw[n]at g;exact g.elim
   |some fn=>
    cases t:gs.lookup m with
    |some y=>rw[n,t]at g;exact g.elim
    |none=>
     rw[n,t]at g;dsimp only at g;obtain⟨a,E,vs,rfl,h1,h2⟩:=Iw r1 q1 G;refine⟨a,c,E,vs,fn,rfl,h1,n,(Iz h2).2 t,U,ρ,C,J.mono e1,r1,g.bind λds Y V us F _ e2 r2 S B=>?_⟩;unfold jk at B;by_cases N:ds.length+1=ps.length
     ·rw[da N]at B;exact⟨V,Y,d::ds,Qa.cons (Rep.mono e2 _ _ q1) (by rw[ii];exact S),by rw[Db];exact N,r2,B⟩
     ·rw[ka N]at B;exact B.elim
 ·subst ex;obtain rfl:u=eb a:=rx;obtain⟨hC,f',L,fd,hb,hF⟩:=h _ (GG n);rw[hK]at hC L hF;refine VM Z ea hC L t ?_;refine gm (first:=[.ref a]) (h₀:=X.base) I.ok.mod.Cu L.kp (zd (ha b j s1 st p _ Z q) λus s2 ⟨vs,F,I2,r,S⟩=>⟨I2.Xi,?_⟩) R O;exact vD (us:=.ref a::us) (vs:=.ref a::vs) hF hr (.all hb) .nil I2 (.cons rfl r) S
theorem Wp{pl:fo Bool}{k:Nat}{tb:Mt}{ps:List ma}{m:ma}{o:Ga}{f:Ev->M D}{g e:Ae}(Z:T.K=X.K)(he:FE T X o f)(h:∀ q∈tb,MG T X.prog X.w X.mg X.base k m q.1 ps q.2)(hr:vd k X.A)
  (ht:Wb (.Call (.Attribute o m e) [] [] g) X.env=(do
   let O <-Wb o X.env
   Xo e.atName
   let (f,first) <-cg [O] (lr O m pl)
   callWith g f first (Dc g (pa [] X.env)) (Om g (ai [] X.env))):=by rfl) :
  FE T X (.Call (.Attribute o m e) [] [] g) (Pg tb ps.length m f Ma):=by
 intro r s st H Q I hq;obtain⟨μ,ρ,σ,Y,J,hp⟩:=hq;refine Qx (pl:=pl) (zd (he r s st H (λx l=>∃ a c B vs fn,x=.ref a/\l a=some (.ins (T.ca c) B vs)/\gu tb c=some fn/\vs.lookup m=none/\ln T ps.length fn (x::([]++[])) l Q (XE X st)) I ⟨μ,ρ,σ,Y,J,hp.bind λd i t v l _ e1 R P b=>?_⟩) λu s1 ⟨x,l,C,rx,a,c,B,vs,fn,ex,S,j,n,q⟩=>?_) ht
 ·unfold xm at b;cases E:jm i d with
  |none=>rw[E]at b;exact b.elim
  |some z=>
   obtain⟨c,U⟩:=z;rw[E]at b;dsimp only at b;cases j:gu tb c with
   |none=>rw[j]at b;exact b.elim
   |some fn=>
    cases n:U.lookup m with
    |some y=>rw[j,n]at b;exact b.elim
    |none=>
     rw[j,n]at b;dsimp only at b;obtain⟨a,B,vs,rfl,h1,V⟩:=Iw R P E;have p:Ib T (XE X st) (Rep T) t l (jk ps.length fn d [] i) Q:=b;unfold jk at p;by_cases G:([]:List D).length+1=ps.length
     ·rw[da G]at p;exact⟨a,c,B,vs,fn,rfl,h1,j,(Iz V).2 n,t,i,[d],Qa.cons P Qa.nil,G,R,p⟩
     ·rw[ka G]at p;exact p.elim
 ·subst ex;obtain rfl:u=eb a:=rx;obtain⟨L,f',F,fd,hb,N⟩:=h _ (GG j);rw[Z]at L F N;refine VM C S L F n ?_;exact W.callWith_K0 (first:=[.ref a]) C.Xi F.kp (vD (us:=[.ref a]) (vs:=[.ref a]) N hr (.all hb) .nil C (.cons rfl .nil) q)
structure L5(T:Tb)(P:ra)(w:Ea)(mg:ma->Option Value)(base:Heap)(k:Nat)(x m:ma)(c:Nat)(ps:List ma)(fn:List D->M D):Prop where
 gl:mg x=some (.ref (T.ca c))
 sp:W.specialIn T.K (.ref (T.ca c)) (Sf "__getattribute__")=some (some (.builtin "type.__getattribute__"))
 ex:∃ f mc,W.readsIn T.K (T.ca c) mc=true/\W.findCls T.K (.ref (T.ca c)) mc m=some (.val (.ref f))/\W.keepIn T.K (.ref f)=true/\ue T P w mg base k f ps fn
end
structure Pf(K:W.Frag)(C:Addr)(x qual:ma)(st:Stmt)(ps:List ma)(f:Addr):Prop where
 ex:∃ fd,Nu K x qual st f fd/\∀ us:List Value,us.length=ps.length->bindArgs fd ⟨us,[]⟩=pure (ps.zip us)
section
variable{P:ra}{w:Ea}{K:W.Frag}{mg:ma->Option Value}{base:Heap}{ca:Nat->Addr}{tx:Tx}
theorem Rk{k:Nat}{C f:Addr}{x qual:ma}{st:Stmt}{ps N:List ma}{g:Ev->M Fl}(h:Pf K C x qual st ps f)(S:wa N ps (Ec st))
  (hb:∀ (a:Value) (A:Da) (outer:List ag) (s:aa) (H:Hp) (E:XK),vd k (A.deeper (eg qual (Ec st) s.heap.objs.size f a))->xn ⟨K,ca,tx⟩ (Bo (jl P w) P w K mg base N qual (Ec st) f a A outer s H E) (Ni st) g) :
  ue ⟨K,ca,tx⟩ P w mg base (k+1) f ps (run N.length g):=by
 obtain⟨l,F,b⟩:=h.ex;obtain⟨m,n,kV,d,o,j,a,ct,i,rfl,e,c⟩:=F.ex;exact⟨_,b,xx e c S (hb a)⟩
theorem ue.Xa{T:Tb}{k:Nat}{f:Addr}{ps:List ma}{fn:List D->M D}(h:ue T P w mg base k f ps fn):ue T P w mg base k f ps (λa=>L4.Xa (fn a)):=by
 obtain⟨b,h3,h4⟩:=h;exact⟨b,h3,yC h4⟩
theorem ue.hide{T:Tb}{k:Nat}{f:Addr}{ps:List ma}{fn:List D->M D}(h:ue T P w mg base k f ps fn):ue T P w mg base k f ps (L4.hide fn):=by rw[sq];exact h
end
noncomputable def Yf(s:Stmt)(j:Nat):Stmt:=match s with
 | .ClassDef _ _ _ b _ _ _ _ _ _ _=>b.getD j (.Pass ⟨0,0,0,0⟩)
 |s=>s
theorem IW{K:W.Frag}{C f:Addr}{x qual:ma}{st:Stmt}{ps:List ma}{h:Value}{od d:Option Addr}{g:Array (Option Value)}{kV b e a ct:Value}
  (hb:∀ (kV b e:Value) (d:Option Addr) (a ct:Value) (us:List Value),us.length=ps.length->bindArgs (W.fnOf x qual (Em st) (Ni st) (Ec st) .none kV b e d a ct) ⟨us,[]⟩=pure (ps.zip us))
  (l:K.lookup f=some ⟨h,od,.func (W.fnOf x qual (Em st) (Ni st) (Ec st) .none kV b e d a ct),g⟩)
  (c:W.codeIn K a qual=true) (k:W.keepIn K (.ref f)=true):Pf K C x qual st ps f:=⟨⟨_,XJ l c k,hb kV b e d a ct⟩⟩
section
variable{T:Tb}{P:ra}{w:Ea}{mg:ma->Option Value}{base:Heap}
noncomputable def nl(T:Tb)(P:ra)(w:Ea)(mg:ma->Option Value)(base:Heap)(k:Nat)(m:ma)(ps:List ma)(tb:Mt):Prop:=∀ q∈tb,MG T P w mg base k m q.1 ps q.2
theorem vm{k:Nat}{m:ma}{ps:List ma}:nl T P w mg base k m ps []:=λq h=>nomatch h
theorem Dj{j k:Nat}{m:ma}{ps:List ma}{tb:Mt}{c:Nat}{f:Addr}{fn:List D->M D}(h1:Wm T.K (T.ca c))(g:qf T.K (T.ca c) m f)(h3:ue T P w mg base j f ps fn)(i:j<=k)(h:nl T P w mg base k m ps tb):nl T P w mg base k m ps ((c,fn)::tb):=λq d=>by
 rcases Pa.mp d with rfl|d
 ·obtain⟨e,a,b⟩:=h3;exact⟨h1,f,g,e,a,b.mono i⟩
 ·exact h q d
end
section
variable{T:Tb}{X:Cx}
end
end L4
namespace L4
open PySem L2
theorem nr{c:Type}{a b:c}(h:a=b):a=b:=h
section
variable{α β:Type}{ρ:Ev}{σ:ub}
@[simp] theorem Tf(a:α)(σ:ub)(k:α->M β):(Out.ok a σ).bind k=k a σ:=nr rfl
@[simp] theorem B6(a:α)(σ:ub):ret a σ=.ok a σ:=nr rfl
@[simp] theorem En(m:M α)(k:α->M β)(σ:ub):Pc m k σ=(m σ).bind k:=nr rfl
@[simp] theorem vV(d:D):eC d ρ σ=.ok d σ:=nr rfl
@[simp] theorem dy(d:D)(r:Ev):ga 0 (some d::r) σ=.ok d σ:=nr rfl
@[simp] theorem jH(i:Nat)(o:Option D)(r:Ev):ga (i+1) (o::r) σ=ga i r σ:=nr rfl
@[simp] theorem l7(o:D->D->M D)(a b:Ev->M D):Ha o a b ρ σ=(a ρ σ).bind (vE o (b ρ)):=nr rfl
@[simp] theorem w6(o:D->D->M D)(m:M D)(x:D):vE o m x σ=(m σ).bind (o x):=nr rfl
@[simp] theorem W6(o:D->M D)(a:Ev->M D):Fd o a ρ σ=(a ρ σ).bind o:=nr rfl
@[simp] theorem g7(b:Bool):Hw (.bl b) σ=.ok b σ:=nr rfl
@[simp] theorem G5(p q:M α):jj p q true σ=p σ:=nr rfl
@[simp] theorem S6(p q:M α):jj p q false σ=q σ:=nr rfl
@[simp] theorem U4(c:Bool):NF c σ=.ok (!c) σ:=nr rfl
@[simp] theorem V4(k:Bool->M α)(b:Bool):ow k (.bl b) σ=k b σ:=nr rfl
@[simp] theorem o7(c:Bool):iE c σ=.ok (.bl (!c)) σ:=nr rfl
@[simp] theorem U5(f:Ev->M D):eT f ρ σ=(f ρ σ).bind Hw:=nr rfl
@[simp] theorem z5(a b:Ev->M Bool):Xy a b ρ σ=(a ρ σ).bind (jj (b ρ) (ret false)):=nr rfl
@[simp] theorem m7(a b:Ev->M Bool):mm a b ρ σ=(a ρ σ).bind (jj (ret true) (b ρ)):=nr rfl
@[simp] theorem e5(a:Ev->M Bool):Al a ρ σ=(a ρ σ).bind NF:=nr rfl
@[simp] theorem Q4(a b:Ev->M D):Bi a b ρ σ=(a ρ σ).bind (ow (jj (b ρ) (ret (.bl false)))):=nr rfl
@[simp] theorem l6(a:Ev->M D):yE a ρ σ=(a ρ σ).bind (ow iE):=nr rfl
@[simp] theorem Y6(t:Ev->M Bool)(a b:Ev->M D):Ku t a b ρ σ=(t ρ σ).bind (jj (a ρ) (b ρ)):=nr rfl
@[simp] theorem bG:Ma ρ σ=.ok [] σ:=nr rfl
@[simp] theorem MF(e:Ev->M D)(r:Ev->M (List D)):ua e r ρ σ=(e ρ σ).bind (fF (r ρ)):=nr rfl
@[simp] theorem DG(m:M (List D))(x:D):fF m x σ=(m σ).bind (iG x):=nr rfl
@[simp] theorem ZF(x:D)(xs:List D):iG x xs σ=.ok (x::xs) σ:=nr rfl
@[simp] theorem yT(a:Ev->M (List D)):vf a ρ σ=(a ρ σ).bind ju:=nr rfl
@[simp] theorem e6:ju [] σ=.ok (.tup []) σ:=nr rfl
@[simp] theorem F4(a:D):ju [a] σ=.ok (.tup [a]) σ:=nr rfl
@[simp] theorem hU(a b:D):ju [a,b] σ=.ok (.tup [a,b]) σ:=nr rfl
@[simp] theorem z6(a b c:D):ju [a,b,c] σ=.ok (.tup [a,b,c]) σ:=nr rfl
@[simp] theorem X4(a b c d:D):ju [a,b,c,d] σ=.ok (.tup [a,b,c,d]) σ:=nr rfl
@[simp] theorem n6(a:Ev->M (List D)):Zi a ρ σ=(a ρ σ).bind Kx:=nr rfl
@[simp] theorem B5(a:Ev->M (List D)):Tw a ρ σ=(a ρ σ).bind nC:=nr rfl
@[simp] theorem J5:nC [] σ=.ok (.ref σ.length) (σ++[.lst []]):=nr rfl
@[simp] theorem P5(g:Int->Int->Int)(i j:Int):oI g (.int i) (.int j) σ=.ok (.int (g i j)) σ:=nr rfl
@[simp] theorem A4(g:Int->Int->Bool)(i j:Int):oB g (.int i) (.int j) σ=.ok (.bl (g i j)) σ:=nr rfl
theorem NB{C:Int->Int->Bool}{g:Int->Int->Int}{i j:Int}(h:C i j=true):Bu C g (.int i) (.int j) σ=.ok (.int (g i j)) σ:=by
 show (if C i j=true then ret _ else bad) σ=_;rw[da h];rfl
@[simp] theorem w5(i j:Int)(h:0<j)(a:j<1073741824):cB (.int i) (.int j) σ=.ok (.int (i / j)) σ:=NB (by simp[nG,h,a])
@[simp] theorem gK(i j:Int)(h:0<j):wq (.int i) (.int j) σ=.ok (.int (i % j)) σ:=NB (by simp[vF,h])
theorem xX{i j:Int}(h:-(2 ^ 64)<i)(a:i<2 ^ 64):XA (.int i) (.int j) σ=.ok (.int (i * j)) σ:=NB (by simp only[SG,sq,sf,ya,Fc];exact .inl ⟨h,a⟩)
theorem yx{i j:Int}(h:qu i j=true):Yr (.int i) (.int j) σ=.ok (.int (i ^ j.toNat)) σ:=NB h
@[simp] theorem R5:Yr (.int 10) (.int 12) σ=.ok (.int 1000000000000) σ:=yx (by simp[qu])
@[simp] theorem p6:Yr (.int 10) (.int 6) σ=.ok (.int 1000000) σ:=yx (by simp[qu])
@[simp] theorem p4:Yr (.int 10) (.int 4) σ=.ok (.int 10000) σ:=yx (by simp[qu])
@[simp] theorem f5:Yr (.int 10) (.int 40) σ=.ok (.int (10 ^ 40)) σ:=yx (by simp[qu])
@[simp] theorem Q6(i:Int):hD (.int i) σ=.ok (.int (-i)) σ:=nr rfl
@[simp] theorem S5(i j:Int):gj (.int i) (.int j) σ=.ok (.int (i+j)) σ:=nr rfl
theorem qD{xs ys:List D}(h:xs.length+ys.length<=Oh):gj (.lst xs) (.lst ys) σ=.ok (.lst (xs++ys)) σ:=by
 show vy (.lst xs) (.lst ys) σ=_;unfold vy;simp only[Qg];rw[da h]
@[simp] theorem A7(σ:ub):Os .Jb .Jb σ=.ok (.bl true) σ:=nr rfl
@[simp] theorem T6(σ:ub):ED .Jb .Jb σ=.ok (.bl false) σ:=nr rfl
theorem Qy{x y:D}{b:Bool}(h:Wi σ 8 x y=some b):oEq x y σ=.ok (.bl b) σ:=by unfold oEq;rw[h]
theorem eD{x y:D}{b:Bool}(h:Wi σ 8 x y=some b):di x y σ=.ok (.bl (!b)) σ:=by unfold di;rw[h]
@[simp] theorem m5(i j:Int):oEq (.int i) (.int j) σ=.ok (.bl (i == j)) σ:=Qy (by simp[Wi,kd,zn,Lj])
@[simp] theorem z4(i j:Int):di (.int i) (.int j) σ=.ok (.bl (!(i == j))) σ:=eD (by simp[Wi,kd,zn,Lj])
@[simp] theorem k6(i j:ma):oEq (.str i) (.str j) σ=.ok (.bl (i == j)) σ:=Qy (by simp[Wi,kd,zn,Lj])
theorem lz{xs:List D}{k:Int}{d:D}(h:Am xs k=some d):Ua (.tup xs) (.int k) σ=.ok d σ:=by simp[Ua,Vk,h]
theorem JH{xs:List D}{k:Int}{d:D}(h:Am xs k=some d):Ua (.lst xs) (.int k) σ=.ok d σ:=by simp[Ua,Vk,h]
@[simp] theorem O6(a:D)(r:List D):Ua (.tup (a::r)) (.int 0) σ=.ok a σ:=lz (show Am _ ((0:Nat):Int)=_ from Mu rfl)
@[simp] theorem y6(a b:D)(r:List D):Ua (.tup (a::b::r)) (.int 1) σ=.ok b σ:=lz (show Am _ ((1:Nat):Int)=_ from Mu rfl)
@[simp] theorem x6(a b c:D)(r:List D):Ua (.tup (a::b::c::r)) (.int 2) σ=.ok c σ:=lz (show Am _ ((2:Nat):Int)=_ from Mu rfl)
@[simp] theorem T5(a b c d:D)(r:List D):Ua (.tup (a::b::c::d::r)) (.int 3) σ=.ok d σ:=lz (show Am _ ((3:Nat):Int)=_ from Mu rfl)
@[simp] theorem IT(xs:List D):Dl [.tup xs] σ=.ok (.int xs.length) σ:=nr rfl
@[simp] theorem B4(xs:List D):Dl [.lst xs] σ=.ok (.int xs.length) σ:=nr rfl
@[simp] theorem Y5(xs:List Int):Dl [.Lf xs] σ=.ok (.int xs.length) σ:=by simp[Dl,Vk]
@[simp] theorem i6(o:List D->M D)(fs:Ev->M (List D)):Nh o fs ρ σ=(fs ρ σ).bind o:=nr rfl
@[simp] theorem LV(n:Nat)(f:List D->M D)(dds:List D)(fs:Ev->M (List D)):Yc n f dds fs ρ σ=(fs ρ σ).bind (vq n f dds):=nr rfl
@[simp] theorem t7(f:List D->M D)(a:D):vq 1 f [] [a] σ=f [a] σ:=by unfold vq;rw[da (by simp)];simp
@[simp] theorem g6(f:List D->M D)(a b:D):vq 2 f [] [a,b] σ=f [a,b] σ:=by unfold vq;rw[da (by simp)];simp
@[simp] theorem OT(f:List D->M D)(a b c:D):vq 3 f [] [a,b,c] σ=f [a,b,c] σ:=by unfold vq;rw[da (by simp)];simp
@[simp] theorem A6(f:List D->M D)(a b c:D):vq 3 f [c] [a,b] σ=f [a,b,c] σ:=by unfold vq;rw[da (by simp)];simp
@[simp] theorem E5(f:List D->M D)(a b c d:D):vq 4 f [] [a,b,c,d] σ=f [a,b,c,d] σ:=by unfold vq;rw[da (by simp)];simp
@[simp] theorem M5:xf ρ σ=.ok (.nx ρ) σ:=nr rfl
@[simp] theorem sk(g h:Ev->M Fl):kc g h ρ σ=(g ρ σ).bind (FB h):=nr rfl
@[simp] theorem Hk(h:Ev->M Fl)(ρ:Ev):FB h (.nx ρ) σ=h ρ σ:=nr rfl
@[simp] theorem P4(h:Ev->M Fl)(d:D):FB h (.rt d) σ=.ok (.rt d) σ:=nr rfl
noncomputable def Oo(ρ:Ev)(k:α->M Fl):Out α->Out Fl
 | .ok a b=>k a b
 | .ex x b=>.ok (.xc ρ x) b
 | .bad=>.bad
@[simp] theorem Vp(ρ:Ev)(m:M α)(k:α->M Fl):xs ρ m k σ=Oo ρ k (m σ):=by unfold xs Oo;cases m σ<;>rfl
@[simp] theorem xq(ρ:Ev)(k:α->M Fl)(a:α):Oo ρ k (.ok a σ)=k a σ:=nr rfl
@[simp] theorem n5(f:Ev->M D):pd f ρ σ=Oo ρ TD (f ρ σ):=Vp ..
@[simp] theorem X6(d:D):TD d σ=.ok (.rt d) σ:=nr rfl
@[simp] theorem LI(f:Ev->M D):xr f ρ σ=Oo ρ (oG ρ) (f ρ σ):=Vp ..
@[simp] theorem WK(d:D):oG ρ d σ=.ok (.nx ρ) σ:=nr rfl
@[simp] theorem D4(i:Nat)(f:Ev->M D):jg i f ρ σ=Oo ρ (tz i ρ) (f ρ σ):=Vp ..
@[simp] theorem S4(i:Nat)(d:D):tz i ρ d σ=.ok (.nx (ρ.set i (some d))) σ:=nr rfl
@[simp] theorem Q5(t:Ev->M Bool)(a b:Ev->M Fl):rf t a b ρ σ=Oo ρ (jj (a ρ) (b ρ)) (t ρ σ):=Vp ..
@[simp] theorem i5(g:Ev->M Fl)(hs:List Hd):DE g hs ρ σ=(g ρ σ).bind (iC hs):=nr rfl
@[simp] theorem j6(hs:List Hd):iC hs (.nx ρ) σ=.ok (.nx ρ) σ:=nr rfl
@[simp] theorem EM(n:Nat)(g:Ev->M Fl)(ds:List D):run n g ds σ=Pv (g (ds.map some++List.replicate (n - ds.length) none) σ):=nr rfl
@[simp] theorem uO(d:D):Pv (.ok (.rt d) σ)=.ok d σ:=nr rfl
@[simp] theorem bP:Pv (.ok (.nx ρ) σ)=.ok .Jb σ:=nr rfl
@[simp] theorem j7(f:M D):Xa f σ=eh σ (f σ):=nr rfl
@[simp] theorem dt(f:Ev->M D):si f ρ σ=eh σ (f ρ σ):=nr rfl
theorem Zv{k m:Nat}{σ:ub}{d:D}(h:cl d=true):fz k σ m d=some d:=by cases m<;>(unfold fz;rw[da h])
theorem wM{a:ub}{d:D}(h:cl d=true)(b:a.take σ.length=σ):eh σ (.ok d a)=.ok d σ:=by
 unfold eh;dsimp only;rw[da b,Zv h]
@[simp] theorem l5{d:D}(h:cl d=true):eh σ (.ok d σ)=.ok d σ:=wM h zt
theorem xL{j j':ub}{xs:List D}(h:af xs=true):eh σ (.ok (.ref σ.length) (σ++[.lst xs]++j))=.ok (.lst xs) σ:=by
 unfold eh;dsimp only;rw[da (by simp)];have e:fz σ.length (σ++[.lst xs]++j) 6 (.ref σ.length)=some (.lst xs):=by
  unfold fz;rw[ka (by simp[cl])];dsimp only;rw[ka (wd _)];have:(σ++[Ob.lst xs]++j)[σ.length]?=some (.lst xs):=by simp
  rw[this];dsimp only;have c:∀ (ys:List D) (m:Nat),af ys=true->ql (fz σ.length (σ++[.lst xs]++j) m) ys=some ys:=by
   intro ys m;induction ys with
   |nil=>intro _;rfl
   |cons y ys d=>
    intro b;have a:cl y=true/\af ys=true:=by simpa [af,ya]using b
    unfold ql;rw[Zv a.1,d a.2]
  rw[c xs 5 h];rfl
 rw[e]
@[simp] theorem g5(i:Int):cl (.int i)=true:=by simp[cl]
@[simp] theorem X5(i:Bool):cl (.bl i)=true:=by simp[cl]
@[simp] theorem O4(i:ma):cl (.str i)=true:=by simp[cl]
@[simp] theorem n7:cl .Jb=true:=by simp[cl]
@[simp] theorem N5(xs:List D):cl (.tup xs)=af xs:=by simp[cl]
@[simp] theorem f7(xs:List D):cl (.lst xs)=af xs:=by simp[cl]
@[simp] theorem f6(n:Nat):cl (.ref n)=false:=by simp[cl]
@[simp] theorem D6:af []=true:=by simp[af]
@[simp] theorem E3(d:D)(ds:List D):af (d::ds)=(cl d && af ds):=by simp[af]
theorem Uv:∀ {ds:List D},(∀ d∈ds,cl d=true)->af ds=true
 |[],_=>by simp
 |d::ds,h=>by rw[E3,h d Ub,Uv λx a=>h x (jb _ a)];rfl
@[simp] theorem RG(xs ys:List D):af (xs++ys)=(af xs && af ys):=by
 induction xs with
 |nil=>simp
 |cons x xs a=>simp[a,ev]
theorem KZ{xs:List D}{k:Int}(h0:0<=k)(h:k<xs.length):Am xs k=some (xs.getD k.toNat .Jb):=by
 obtain⟨n,rfl⟩:=Int.eq_ofNat_of_zero_le h0;have hn:n<xs.length:=by omega
 refine Mu ?_;show xs[n]?=some (xs.getD n .Jb);rw[Dd,Kb hn];rfl
theorem iP{a:List Int}{k:Int}(h0:0<=k)(h:k<a.length):Am (a.map D.int) k=some (.int (a.getD k.toNat 0)):=by
 rw[KZ h0 (by simpa using h)];have hn:k.toNat<a.length:=by omega
 simp[hn]
@[simp] theorem A5(a:D):Kx [a] σ=.ok (.lst [a]) σ:=nr rfl
@[simp] theorem Y4:Kx [] σ=.ok (.lst []) σ:=nr rfl
@[simp] theorem x5(a b:D):Kx [a,b] σ=.ok (.lst [a,b]) σ:=nr rfl
@[simp] theorem pL(xs:List D):gi (σ++[.lst xs]) σ.length=some xs:=by simp[gi]
@[simp] theorem EA(a b:Ob):(σ++[a]).set σ.length b=σ++[b]:=by
 rw[List.set_append_right _ _ (xa _)];simp
@[simp] theorem j5(o:D->List D->M D)(f:Ev->M D)(fs:Ev->M (List D)):Pw o f fs ρ σ=(f ρ σ).bind (ku o (fs ρ)):=nr rfl
theorem MA{o:D->List D->M D}{m:M (List D)}{x:D}{xs:List D}(h:Qg σ x=some xs):ku o m x σ=(m σ).bind (o x):=by unfold ku;rw[h];rfl
theorem vB{xs:List D}{d:D}(h:xs.length<1000):Qm (.ref σ.length) [d] (σ++[.lst xs])=.ok .Jb (σ++[.lst (xs++[d])]):=by
 unfold Qm;simp only[pL];rw[da (show xs.length<Oh from h),EA]
@[simp] theorem aM(xs:List D):Vk σ (.lst xs)=some xs:=nr rfl
@[simp] theorem P6(xs:List D):Vk σ (.tup xs)=some xs:=nr rfl
@[simp] theorem gX(f:Ev->M D):Vi f ρ σ=(f ρ σ).bind Kw:=nr rfl
@[simp] theorem MR(ds:List D):Kw (.tup ds) σ=.ok (.seq ds) σ:=nr rfl
@[simp] theorem r6(ds:List D):Kw (.lst ds) σ=.ok (.seq ds) σ:=nr rfl
@[simp] theorem M4(f:Ev->M D):cz f ρ σ=(f ρ σ).bind zx:=nr rfl
theorem HP{j:Int}(h:-(2 ^ 62)<=j)(a:j<2 ^ 62):zx (.int j) σ=.ok (.seq (dw j.toNat)) σ:=by
 unfold zx;dsimp only;rw[da (by simp only[pC,sq,ya,Fc];exact⟨h,a⟩)]
@[simp] theorem lJ(src:Ev->M Src)(b:D->Ev->Option Ev)(a:Ev->M Fl):Ur src b a ρ σ=Oo ρ (SD b a ρ) (src ρ σ):=Vp ..
@[simp] theorem RM(b:D->Ev->Option Ev)(a:Ev->M Fl)(ds:List D):SD b a ρ (.seq ds) σ=km b a ds ρ σ:=nr rfl
@[simp] theorem Sz(b:D->Ev->Option Ev)(a:Ev->M Fl):km b a [] ρ σ=.ok (.nx ρ) σ:=nr rfl
theorem pQ{b:D->Ev->Option Ev}{a:Ev->M Fl}{d:D}{ds:List D}{ρ1:Ev}(h:b d ρ=some ρ1):km b a (d::ds) ρ σ=(a ρ1 σ).bind (Rt (km b a ds)):=by
 show (match b d ρ with|none=>bad|some ρ1=>Pc (a ρ1) (Rt (km b a ds))) σ=_;rw[h];rfl
@[simp] theorem Zs(i:Nat)(a:Ev->M Fl)(d:D)(ds:List D):km (yf i) a (d::ds) ρ σ=(a (ρ.set i (some d)) σ).bind (Rt (km (yf i) a ds)):=pQ rfl
@[simp] theorem Ss(k:Ev->M Fl):Rt k (.nx ρ) σ=k ρ σ:=nr rfl
theorem Vv{m:M α}{a:α}{σ':ub}(h:m σ=.ok a σ'):Dm m σ=.ok a σ':=by unfold Dm;rw[h]
end
section
variable{α β:Type}{ρ:Ev}{σ:ub}
@[simp] theorem y2(ns:List Int):Vk σ (.Lf ns)=some (ns.map D.int):=nr rfl
theorem FQ{ns:List Int}{k:Int}(h0:0<=k)(h:k<ns.length):Ua (.Lf ns) (.int k) σ=.ok (.int (ns.getD k.toNat 0)) σ:=by
 simp only[Ua,y2,iP h0 h]
@[simp] theorem v6(c:BT)(i:Int):Ym c (.int i) σ=.ok (.bl (match c with | .int=>true|_=>false)) σ:=nr rfl
@[simp] theorem K5(c:BT)(i:Bool):Ym c (.bl i) σ=.ok (.bl (match c with | .int=>true | .bool=>true|_=>false)) σ:=nr rfl
@[simp] theorem E6(xs:List D):Ym .tuple (.tup xs) σ=.ok (.bl true) σ:=nr rfl
@[simp] theorem W4(o d:D->D->M D)(a b c:Ev->M D):KF o d a b c ρ σ=(a ρ σ).bind (jF o d (b ρ) (c ρ)):=nr rfl
noncomputable def pl:Nat->D->Bool
 |_,.Jb=>true
 |_,.bl _=>true
 |_,.int _=>true
 |_,.str _=>true
 |n+1,.tup xs=>xs.all (pl n)
 |n+1,.lst xs=>xs.all (pl n)
 |_,_=>false
theorem yD{f:D->D->Option Bool}:∀ {xs:List D},(∀ x∈xs,f x x=some true)->Bm f xs xs=some true
 |[],_=>rfl
 |x::xs,h=>by unfold Bm;rw[h x Ub,yD λy a=>h y (jb _ a)];rfl
theorem zA:∀ (n:Nat) (x:D),pl n x=true->Wi σ n x x=some true
 |0,x,h=>by cases x<;>simp[pl]at h<;>simp[Wi,kd,zn,Lj]
 |n+1,x,h=>by
  cases x with
  |Jb=>simp[Wi,kd,zn,Lj]
  |bl b=>simp[Wi,kd,zn,Lj]
  |int b=>simp[Wi,kd,zn,Lj]
  |str b=>simp[Wi,kd,zn,Lj]
  |tup xs=>
   simp only[pl,Pb]at h;unfold Wi;simp only[kd,zn];exact yD λy a=>zA n y (h y a)
  |lst xs=>
   simp only[pl,Pb]at h;unfold Wi;simp only[kd,zn];exact yD λy a=>zA n y (h y a)
  |_=>simp[pl]at h
theorem EG{x:D}(h:pl 8 x=true):oEq x x σ=.ok (.bl true) σ:=Qy (zA 8 x h)
theorem Rs{x:D}(h:pl 8 x=true):di x x σ=.ok (.bl false) σ:=eD (zA 8 x h)
@[simp] theorem G4(o a:D->D->M D)(b c:M D)(x:D):jF o a b c x σ=(b σ).bind (RE o a c x):=nr rfl
@[simp] theorem o6(o a:D->D->M D)(c:M D)(x y:D):RE o a c x y σ=(o x y σ).bind (OD a c y):=nr rfl
@[simp] theorem Z6(a:D->D->M D)(c:M D)(y:D)(b:Bool):OD a c y (.bl b) σ=jj (Pc c (a y)) (ret (.bl false)) b σ:=nr rfl
theorem wJ{a:Ob}{d:D}(h:cl d=true):eh σ (.ok d (σ++[a]))=.ok d σ:=wM h (by simp)
@[simp] theorem YW{a:Type}(f:a->Bool)(l:List a):Zw (l.map λx=>D.bl (f x))=some (l.map f):=by
 induction l with
 |nil=>rfl
 |cons x l b=>simp[Zw,b]
@[simp] theorem aQ(l:List Int):oq (l.map D.int)=some l:=by
 induction l with
 |nil=>rfl
 |cons x l a=>simp[oq,a]
theorem RT{a:Type}{f:a->Bool}{l:List a}:Iy [.lst (l.map λx=>D.bl (f x))] σ=.ok (.bl (l.all f)) σ:=by
 simp only[Iy,aM,gr,YW];simp[Uo,J7]
theorem SZ{l:List Int}(h:l.length<=1000):Ay (.lst (l.map D.int)) σ=.ok (.int (Pr l).length) σ:=by
 simp only[Ay,Qg,gr,aQ];rw[da (show l.length<=Oh from h)]
theorem IF:∀ (l s:List Int),(l.foldl PyProof.Rows.step_dedup s).length<=s.length+l.length/\((l.foldl PyProof.Rows.step_dedup s).length=s.length+l.length ↔ (l.Nodup/\∀ x∈l,x ∉ s))
 |[],s=>by simp
 |x::l,s=>by
  rw[tf];by_cases h:s.any (·== x)=true
  ·have g:x∈s:=by simpa using h
   rw[show PyProof.Rows.step_dedup s x=s by unfold PyProof.Rows.step_dedup;rw[da h]];obtain⟨h1,f⟩:=IF l s;refine⟨by simp only[Db];omega,λe=>?_,λe=>absurd g (e.2 x Ub)⟩;simp only[Db]at e;omega
  ·have g:x ∉ s:=by simpa using h
   rw[show PyProof.Rows.step_dedup s x=s++[x] by unfold PyProof.Rows.step_dedup;rw[ka h]];obtain⟨h1,f⟩:=IF l (s++[x]);simp only[Cd,Db,sm]at h1 f;refine⟨by simp only[Db];omega,?_⟩;rw[Db,show s.length+(l.length+1)=s.length+(0+1)+l.length by omega,f,yg];constructor
   ·rintro ⟨a,b⟩;refine⟨⟨λhm=>(b x hm) (by simp),a⟩,λy d=>?_⟩;rcases Pa.mp d with rfl|d
    ·exact g
    ·exact λhs=>b y d (by simp[hs])
   ·rintro ⟨⟨a,b⟩,c⟩;refine⟨b,λy d hs=>?_⟩;rcases wg.mp hs with hs|hs
    ·exact c y (jb _ d) hs
    ·rw[fr.mp hs]at d;exact a d
theorem rO(l:List Int):((Pr l).length:Int)=(l.length:Int) ↔ l.Nodup:=by
 have:=(IF l []).2;simp only[sm,Nat.zero_add,yd,not_false_eq_true,implies_true,and_true]at this;unfold Pr;rw[<-this];omega
end
section
variable{ρ:Ev}{σ:ub}
@[simp] theorem T4(c n:Nat)(fn:List D->M D)(fs:Ev->M (List D)):Er c n fn fs ρ σ=(fs ρ σ).bind (Qo c n fn):=nr rfl
theorem qJ{c n:Nat}{fn:List D->M D}{ds:List D}(h:ds.length+1=n):Qo c n fn ds σ=Uw σ.length (fn (.ref σ.length::ds) (σ++[.ins c []])):=by unfold Qo;rw[da h]
@[simp] theorem AD(n:Nat):Uw n (.ok .Jb σ)=.ok (.ref n) σ:=nr rfl
@[simp] theorem wN(cs:List Nat)(f:ma)(b a:Ev->M D):yl cs f b a ρ σ=Oo ρ (gE ρ cs f a) (b ρ σ):=Vp ..
@[simp] theorem XH(cs:List Nat)(f:ma)(a:Ev->M D)(d:D):gE ρ cs f a d σ=Oo ρ (Lv ρ cs f d) (a ρ σ):=Vp ..
theorem uI{cs:List Nat}{f:ma}{d:D}{c:Nat}{fs:List (ma × D)}(h:cs.contains c=true)(a:fs.length<1000):Lv ρ cs f d (.ref σ.length) (σ++[.ins c fs])=.ok (.nx ρ) (σ++[.ins c (Sl f d fs)]):=by
 have e:cx cs f d (.ref σ.length) (σ++[.ins c fs])=.ok () (σ++[.ins c (Sl f d fs)]):=by
  have:(σ++[Ob.ins c fs])[σ.length]?=some (.ins c fs):=by simp
  unfold cx;simp only[this];rw[da (by rw[h];simpa using a)];simp
 unfold Lv;rw[e]
theorem zo{c:Nat}{ns:List ma}{ds:List D}(h:ns.length=ds.length):jm σ (.obj c ns ds)=some (c,ns.zip ds):=by unfold jm;dsimp only;rw[da h]
theorem wm{cs:List Nat}{f:ma}{x d:D}{c:Nat}{fs:List (ma × D)}(h:jm σ x=some (c,fs))(a:cs.contains c=true)(b:fs.lookup f=some d):Zc cs f x σ=.ok d σ:=by
 unfold Zc;rw[h];dsimp only;rw[da a,b]
@[simp] theorem oW(tb:Mt)(n:Nat)(m:ma)(f:Ev->M D)(fs:Ev->M (List D)):Pg tb n m f fs ρ σ=(f ρ σ).bind (xm tb n m (fs ρ)):=nr rfl
theorem lp{tb:Mt}{n:Nat}{m:ma}{fs:M (List D)}{x:D}{c:Nat}{a:List (ma × D)}{fn:List D->M D}(h:jm σ x=some (c,a))(d:gu tb c=some fn)(b:a.lookup m=none):xm tb n m fs x σ=(fs σ).bind (jk n fn x):=by
 unfold xm;rw[h];dsimp only;rw[d,b];rfl
theorem wA{n:Nat}{fn:List D->M D}{x:D}{ds:List D}(h:ds.length+1=n):jk n fn x ds σ=fn (x::ds) σ:=by unfold jk;rw[da h]
@[simp] theorem H5(fn:List D->M D)(x:D):jk 1 fn x [] σ=fn [x] σ:=wA rfl
@[simp] theorem O0(fn:List D->M D)(x a:D):jk 2 fn x [a] σ=fn [x,a] σ:=wA rfl
@[simp] theorem L6(fn:List D->M D)(x a b:D):jk 3 fn x [a,b] σ=fn [x,a,b] σ:=wA rfl
theorem hH{c:Nat}{fs:List (ma × D)}(h:af (fs.map (·.2))=true):eh σ (.ok (.ref σ.length) (σ++[.ins c fs]))=.ok (.obj c (fs.map (·.1)) (fs.map (·.2))) σ:=by
 unfold eh;dsimp only;rw[da (by simp)];have e:fz σ.length (σ++[.ins c fs]) 6 (.ref σ.length)=some (.obj c (fs.map (·.1)) (fs.map (·.2))):=by
  unfold fz;rw[ka (by simp)];dsimp only;rw[ka (wd _)];have:(σ++[Ob.ins c fs])[σ.length]?=some (.ins c fs):=by simp
  rw[this];dsimp only;have d:∀ (ys:List D) (m:Nat),af ys=true->ql (fz σ.length (σ++[.ins c fs]) m) ys=some ys:=by
   intro ys m;induction ys with
   |nil=>intro _;rfl
   |cons y ys f=>
    intro b;have a:cl y=true/\af ys=true:=by simpa [af,ya]using b
    unfold ql;rw[Zv a.1,f a.2]
  rw[d _ 5 h];rfl
 rw[e]
@[simp] theorem AW(i j:Int):Wz [.int i,.int j] σ=.ok (.int (min i j)) σ:=nr rfl
@[simp] theorem G6(i:ma):Ym .str (.str i) σ=.ok (.bl true) σ:=nr rfl
@[simp] theorem F5(c:BT):Ym c .Jb σ=.ok (.bl false) σ:=by cases c<;>rfl
end
end L4
namespace L4
open PySem PySem.Spec PySem.Calls PyProof.Rows PySem.Builtin PySem.Builtin.ObjectAttr PySem.Builtin.Getset_descriptor L2
structure W5(K:W.Frag)(C:Addr):Prop where
 g:W.findIn K (.ref C) "__getattribute__" = some (some (.builtin "BaseException.__getattribute__"))
 g2:W.findIn K (.ref C) "__getattr__" = some none
 mb:W.mroIn K C (.type "BaseException")=some true
 d:W.hasDictIn K C=true
 a:W.findIn K (.ref C) "__class__" = some (some (.builtin "object.__class__"))
 n:W.specialIn K (.builtin "object.__class__") "__get__" = some (some (.builtin "getset_descriptor.__get__"))
 t:W.takesIn K (.builtin "object.__class__")=some true
 m:W.mroIn K C (.type "object")=some true
section
variable{prog:ra}{w:Ea}{A:Da}{E:Value->aa->Prop}{s:aa}{K:W.Frag}{C ea:Addr}{hp:Heap}{Mo:Yj}
theorem Vu.plain{dd:Option Addr}(p:Vu C dd ea hp):B0 C ea hp:=let ⟨o,h1,a,_⟩:=p;⟨o,h1,a⟩
end
section
variable{T:Tb}{X:Cx}
inductive su(X:Cx)(y:ma):V->Value->Prop where
 |own {a:Addr} (h:X.mg y=some (.ref a)):su X y (.ref a) (.ref a)
 |bt {n:String} (h:X.mg y=none) (hv:bootBuiltins y=some (.type n)) (hn:y ≠ "__name__"):su X y (.ty n) (.type n)
theorem su.rel{y:ma}{a:V}{cv:Value}(h:su X y a cv):∀ u,Qc a u->u=cv:=by
 cases h with
 |own h=>exact λu q=>q
 |bt h hv hn=>exact λu q=>q
end
section
variable{ρ:Ev}{σ:ub}
end
end L4
namespace L4
open PySem PySem.Spec PySem.Calls PyProof.Rows L2
section
variable{T:Tb}{X:Cx}
end
end L4
namespace HT
open PySem Builtin
open Sem (wp)
end HT
namespace L4
open PySem PySem.Spec PyProof.Rows L2
end L4
namespace HT
open PySem Builtin
open Sem (wp)
end HT
namespace L4
open PySem PySem.Spec PyProof.Rows L2
section
variable{T:Tb}{X:Cx}
end
end L4
namespace L2
open PySem PySem.Spec PyProof.Rows
section
variable{κ:Type}[DecidableEq κ]
noncomputable def vl(kvs:List (κ × V))(k:κ):Option V:=(kvs.find? λa=>decide (a.1=k)).map (·.2)
noncomputable def Sm(kvs:List (κ × V))(k:κ)(v:V):List (κ × V):=
 if (kvs.any λa=>decide (a.1=k))=true then kvs.map (λa=>if a.1=k then (a.1,v)else a)else kvs++[(k,v)]
noncomputable def sr(kvs:List (κ × V))(k:κ):List (κ × V):=kvs.filter λa=>decide (a.1≠k)
theorem ZB{p:κ × V}{r:List (κ × V)}{k:κ}(e:p.1=k):vl (p::r) k=some p.2:=by simp[vl,Vd,e]
theorem rB{p:κ × V}{r:List (κ × V)}{k:κ}(e:¬ p.1=k):vl (p::r) k=vl r k:=by simp[vl,Vd,e]
theorem mH(k:κ):∀ kvs:List (κ × V),(kvs.any λa=>decide (a.1=k))=(vl kvs k).isSome
 |[]=>rfl
 |p::r=>by
  rw[Yd];by_cases e:p.1=k
  ·simp only[ZB e,Ge e,Bool.true_or,Option.isSome_some]
  ·rw[rB e,Mc e,yj];exact mH k r
theorem sG(kvs:List (κ × V))(k:κ)(v:V):(Sm kvs k v).length<=kvs.length+1:=by
 unfold Sm;split
 ·rw[Yb];omega
 ·rw[Cd,Db,sm];omega
theorem Gm.sg{o:Option V}{u:Option Value}(r:Gm o u):o.isSome=u.isSome:=by
 cases o with
 |none=>cases u with
  |none=>rfl
  |some _=>exact(show False from r).elim
 |some _=>cases u with
  |none=>exact(show False from r).elim
  |some _=>rfl
theorem Gm.getD{o:Option V}{u:Option Value}{d:V}{d':Value}(r:Gm o u)(rd:Qc d d'):Qc (o.getD d) (u.getD d'):=by
 cases o with
 |none=>cases u with
  |none=>exact rd
  |some _=>exact(show False from r).elim
 |some _=>cases u with
  |none=>exact(show False from r).elim
  |some _=>exact r
theorem KV.val{kvs:List (κ × V)}{vs:List (κ × Value)}(r:KV kvs vs)(k:κ):Gm (vl kvs k) (rk vs k):=by
 unfold KV at r;induction r with
 |nil=>exact True.intro
 |@cons p q g c h t f=>
  obtain⟨h1,d⟩:=h;by_cases e:p.1=k
  ·have a:q.1=k:=h1.symm.trans e;have b:rk (q::c) k=some q.2:=by simp[rk,Vd,a]
   rw[ZB e,b];exact d
  ·have a:¬ q.1=k:=λz=>e (h1.trans z);have b:rk (q::c) k=rk c k:=by simp[rk,Vd,a]
   rw[rB e,b];exact f
theorem KV.any{kvs:List (κ × V)}{vs:List (κ × Value)}(r:KV kvs vs)(k:κ):(kvs.any λa=>decide (a.1=k))=vs.any λa=>decide (a.1=k):=by
 unfold KV at r;induction r with
 |nil=>rfl
 |cons h t b=>rw[Yd,Yd,b,h.1]
theorem KV.Bv{kvs:List (κ × V)}{vs:List (κ × Value)}(r:KV kvs vs)(k:κ){y:V}{u:Value}(d:Qc y u) :
  KV (kvs.map λa=>if a.1=k then (a.1,y)else a) (vs.map λa=>if a.1=k then (a.1,u)else a):=by
 unfold KV at r ⊢;induction r with
 |nil=>exact .nil
 |@cons p q f g h t c=>
  rw[yb,yb];refine .cons ?_ c;obtain⟨h1,b⟩:=h;by_cases e:p.1=k
  ·rw[da e,da (h1.symm.trans e)];exact⟨h1,d⟩
  ·rw[ka e,ka (λz=>e (h1.trans z))];exact⟨h1,b⟩
theorem KV.put{kvs:List (κ × V)}{vs:List (κ × Value)}(r:KV kvs vs)(k:κ){y:V}{u:Value}(a:Qc y u):KV (Sm kvs k y) (stored vs k u):=by
 unfold Sm stored;rw[r.any k];by_cases e:(vs.any λb=>decide (b.1=k))=true
 ·rw[da e,da e];exact r.Bv k a
 ·rw[ka e,ka e];exact Paired.snoc r ⟨rfl,a⟩
theorem KV.drop{kvs:List (κ × V)}{vs:List (κ × Value)}(r:KV kvs vs)(k:κ):KV (sr kvs k) (without vs k):=by
 unfold KV at r ⊢;unfold sr without;induction r with
 |nil=>exact .nil
 |@cons p q g i h t c=>
  obtain⟨h1,f⟩:=h;rw[Xe,Xe];by_cases e:p.1=k
  ·have a:¬ decide (p.1≠k)=true:=by simp[e]
   have b:¬ decide (q.1≠k)=true:=by simp[h1.symm.trans e]
   rw[ka a,ka b];exact c
  ·have d:¬ q.1=k:=λz=>e (h1.trans z);have a:decide (p.1≠k)=true:=by simp[e]
   have b:decide (q.1≠k)=true:=by simp[d]
   rw[da a,da b];exact .cons ⟨h1,f⟩ c
theorem KV.keys{kvs:List (κ × V)}{vs:List (κ × Value)}(r:KV kvs vs):kvs.map (·.1)=vs.map (·.1):=by
 unfold KV at r;induction r with
 |nil=>rfl
 |cons h t a=>rw[yb,yb,a,h.1]
theorem KV.length{kvs:List (κ × V)}{vs:List (κ × Value)}(r:KV kvs vs):kvs.length=vs.length:=Paired.length r
theorem pH(kvs:List (κ × V))(k:κ):(sr kvs k).length<=kvs.length:=List.length_filter_le _ _
end
theorem Eu{P:ra}{w:Ea}{k:Key}{u:Value}(r:Qc (kV k) u):(Ij P w).is k u=true:=by
 cases k with
 |inl i=>obtain⟨t,e⟩:=(show ∃ t,u=Af i t from r);subst e;exact dP P w i t
 |inr x=>obtain⟨t,e⟩:=(show ∃ t,u=Ii x t from r);subst e;exact gU P w x t
theorem OL{P:ra}{w:Ea}:∀ {a:List Key} {us:List Value},Od (a.map kV) us->ItemsAre (Ij P w) a us
 |[],_,r=>by rw[Xh]at r;cases r;exact .nil
 |k::a,_,r=>by
  rw[yb]at r;cases r with
  |cons h t=>exact .cons (Eu h) (OL t)
noncomputable abbrev KT(H:Hp):List (List Key × V)->List (List Key × Addr × Value)->Prop:=Paired λp q=>p.1=q.1/\H q.2.1=some (.tup (p.1.map kV))/\Qc p.2 q.2.2
theorem KT.val{H:Hp}{kvs:List (List Key × V)}{xs:List (List Key × Addr × Value)}(r:KT H kvs xs)(k:List Key):Gm (vl kvs k) ((Ip xs k).map (·.2)):=by
 induction r with
 |nil=>exact True.intro
 |@cons p q g c h t f=>
  obtain⟨h1,_,d⟩:=h;by_cases e:p.1=k
  ·have a:q.1=k:=h1.symm.trans e;have b:Ip (q::c) k=some q.2:=by simp[Ip,Vd,a]
   rw[ZB e,b];exact d
  ·have a:¬ q.1=k:=λz=>e (h1.trans z);have b:Ip (q::c) k=Ip c k:=by simp[Ip,Vd,a]
   rw[rB e,b];exact f
theorem KT.Bv{H:Hp}{kvs:List (List Key × V)}{xs:List (List Key × Addr × Value)}(r:KT H kvs xs)(k:List Key){y:V}{u:Value}(d:Qc y u) :
  KT H (kvs.map λa=>if a.1=k then (a.1,y)else a) (xs.map (putAt k u)):=by
 induction r with
 |nil=>exact .nil
 |@cons p q f g h t c=>
  rw[yb,yb];refine .cons ?_ c;obtain⟨h1,b,h3⟩:=h;unfold putAt;by_cases e:p.1=k
  ·rw[da e,da (h1.symm.trans e)];exact⟨h1,b,d⟩
  ·rw[ka e,ka (λz=>e (h1.trans z))];exact⟨h1,b,h3⟩
theorem KT.put{H:Hp}{kvs:List (List Key × V)}{xs:List (List Key × Addr × Value)}(r:KT H kvs xs)(k:List Key){b:Addr}{y:V}{u:Value}(hb:H b=some (.tup (k.map kV)))(a:Qc y u) :
  KT H (Sm kvs k y) (storedH xs k b u):=by
 have e:(kvs.any λc=>decide (c.1=k))=(Ip xs k).isSome:=by
  rw[mH,(r.val k).sg,Hj]
 unfold Sm storedH;rw[e];by_cases q:(Ip xs k).isSome=true
 ·rw[da q,da q];exact r.Bv k a
 ·rw[ka q,ka q];exact Paired.snoc r ⟨rfl,hb,a⟩
theorem KT.keeps{H a:Hp}{kvs:List (List Key × V)}{xs:List (List Key × Addr × Value)}(r:KT H kvs xs)(c:∀ b ys,H b=some (.tup ys)->a b=some (.tup ys)):KT a kvs xs:=
 Paired.oo r λ_ _ z=>⟨z.1,c _ _ z.2.1,z.2.2⟩
section
variable{P:ra}{w:Ea}{H:Hp}{h:Heap}{a:Addr}
theorem AH{u:HO}(ok:Kh P w H h)(e:Rd H a u):mi P w H h a u:=e.ok ok
theorem Ut{kvs:List (Key × V)}(ok:Kh P w H h)(e:Rd H a (.dK kvs)):kvs.length<=sizeLine/\(a == Rf)=false/\∃ vs,KV kvs vs/\h.DictOf (Ij P w) a vs:=
 show mi P w H h a (.dK kvs)from AH ok e
theorem qC{kvs:List (Key × V)}(ok:Kh P w H h)(e:H a=some (.dK kvs)):kvs.length<=sizeLine/\(a == Rf)=false/\∃ vs,KV kvs vs/\h.DictOf (Ij P w) a vs:=Ut ok (.inl e)
theorem Vz{c:List Key}(ok:Kh P w H h)(e:H a=some (.tup (c.map kV))):(Nn (Ij P w)).is h c a:=by
 obtain⟨_,b,r,o,h1,d,n,h3⟩:=(show mi P w H h a (.tup (c.map kV))from ok a _ e)
 exact⟨o,b.toArray,n,h1,d,h3,by simpa using OL r⟩
theorem zz{kvs:List (List Key × V)}(ok:Kh P w H h)(e:Rd H a (.dT kvs)):kvs.length<=sizeLine/\(a == Rf)=false/\
  ∃ xs,KT H kvs xs/\h.DictOfH (Nn (Ij P w)) a xs:=by
 obtain⟨z,y,xs,r,o,f,d,h1,g,h3,h4,i⟩:=(show mi P w H h a (.dT kvs)from AH ok e)
 refine⟨z,y,xs,r,o,f,d,h1,g,h3,h4,λx b=>?_,i⟩;have all:∀ {l:List (List Key × V)} {m:List (List Key × Addr × Value)},KT H l m->∀ x∈m,(Nn (Ij P w)).is h x.1 x.2.1:=by
  intro l m q;induction q with
  |nil=>intro x b;exact nomatch b
  |@cons p q k n c t j=>
   intro x b;rcases Pa.mp b with e|b
   ·subst e;exact Vz ok (by rw[<-c.1];exact c.2.1)
   ·exact j x b
 exact all r x b
theorem RU{kvs:List (List Key × V)}(ok:Kh P w H h)(e:H a=some (.dT kvs)):kvs.length<=sizeLine/\(a == Rf)=false/\
  ∃ xs,KT H kvs xs/\h.DictOfH (Nn (Ij P w)) a xs:=zz ok (.inl e)
end
noncomputable def qi(H:Hp)(a:Addr)(y:V)(r:Option V):Prop:=
 (∃ c k,Rd H a (.dK c)/\y=kV k/\r=vl c k)\/∃ c k b,Rd H a (.dT c)/\y=.ref b/\H b=some (.tup (k.map kV))/\r=vl c k
noncomputable def nw(H:Hp)(a:Addr)(y v:V)(d:Hp):Prop:=
 (∃ c k,H a=some (.dK c)/\y=kV k/\c.length<sizeLine/\d=upd H a (.dK (Sm c k v)))\/
 ∃ c k b,H a=some (.dT c)/\y=.ref b/\H b=some (.tup (k.map kV))/\c.length<sizeLine/\d=upd H a (.dT (Sm c k v))
theorem qi.k{H:Hp}{a:Addr}{kvs:List (Key × V)}{k:Key}(e:H a=some (.dK kvs)):qi H a (kV k) (vl kvs k):=.inl ⟨kvs,k,.inl e,rfl,rfl⟩
theorem qi.t{H:Hp}{a b:Addr}{kvs:List (List Key × V)}{k:List Key}(e:H a=some (.dT kvs))(c:H b=some (.tup (k.map kV))):qi H a (.ref b) (vl kvs k):=.inr ⟨kvs,k,b,.inl e,rfl,c,rfl⟩
theorem nw.k{H:Hp}{a:Addr}{kvs:List (Key × V)}{k:Key}{v:V}(e:H a=some (.dK kvs))(b:kvs.length<sizeLine):nw H a (kV k) v (upd H a (.dK (Sm kvs k v))):=.inl ⟨kvs,k,e,rfl,b,rfl⟩
theorem nw.t{H:Hp}{a b:Addr}{kvs:List (List Key × V)}{k:List Key}{v:V}(e:H a=some (.dT kvs))(c:H b=some (.tup (k.map kV)))(d:kvs.length<sizeLine) :
  nw H a (.ref b) v (upd H a (.dT (Sm kvs k v))):=.inr ⟨kvs,k,b,e,rfl,c,d,rfl⟩
section
variable{X:Cx}{pins:List (Addr × gc)}{σ:St}{H:Hp}{s:aa}{a:Addr}{y v:V}{u r:Value}{o:Option V}{A:Da}{E:Value->aa->Prop}
theorem Inv.uJ(I:Inv X pins σ H s):Rf<s.heap.objs.size:=by
 have h:mainGlobals<s.heap.objs.size:=(I.mod.glob.keeps I.bk).lt;exact Bp (by decide) h
theorem lU{Q:Value->aa->Prop}(hu:A.units+1<cLine)(I:Inv X pins σ H s)(g:qi H a y (some v))(q:Qc y u)(h:∀ d s',Inv X pins σ H s'->Qc v d->Q d s') :
  wpAny (model X.prog X.w) A (Zh (.ref a) u) Q E s:=by
 rcases g with⟨n,k,e,i,l⟩|⟨n,k,b,e,i,r,l⟩
 ·subst i;obtain⟨z,hd,t,rel,f⟩:=Ut I.Qb e;obtain⟨d,m,c⟩:=Gm.some_of (v:=v) (o:=rk t k) (by rw[l];exact rel.val k);exact wpAny_getItem_of (Eu q) f.mapOf m (h d _ (I.tok _) c)
 ·subst i;cases (show u=eb b from q);obtain⟨z,hd,xs,rel,f⟩:=zz I.Qb e;obtain⟨d,m,c⟩:=Gm.some_of (v:=v) (o:=(Ip xs k).map (·.2)) (by rw[l];exact rel.val k);obtain⟨p,hp,j⟩:=Eb.mp m;refine wpAny_getItem_heap (Eh hu) (Vz I.Qb r) f hp ?_;rw[j];exact h d _ (I.tok _) c
theorem EZ{Q:Value->aa->Prop}(hu:A.units+1<cLine)(I:Inv X pins σ H s)(g:qi H a y o)(i:Qc y u)(h:∀ s',Inv X pins σ H s'->Q (.bool o.isSome) s') :
  wpAny (model X.prog X.w) A (Ab .In u (.ref a)) Q E s:=by
 rcases g with⟨f,k,e,d,l⟩|⟨f,k,b,e,d,j,l⟩
 ·subst d;obtain⟨z,hd,m,rel,c⟩:=Ut I.Qb e;refine wpAny_in_of (Eu i) hd c.mapOf ?_;rw[<-(rel.val k).sg,<-l];exact h _ (I.tok _)
 ·subst d;cases (show u=eb b from i);obtain⟨z,hd,xs,rel,c⟩:=zz I.Qb e;refine wpAny_in_heap (Eh hu) (Vz I.Qb j) hd c ?_;have q:=(rel.val k).sg;rw[Hj]at q;rw[<-q,<-l];exact h _ (I.tok _)
theorem O1{Q:Value->aa->Prop}(hu:A.units+1<cLine)(I:Inv X pins σ H s)(g:qi H a y o)(i:Qc y u)(h:∀ s',Inv X pins σ H s'->Q (.bool (!o.isSome)) s') :
  wpAny (model X.prog X.w) A (Ab .NotIn u (.ref a)) Q E s:=by
 rcases g with⟨f,k,e,d,l⟩|⟨f,k,b,e,d,j,l⟩
 ·subst d;obtain⟨z,hd,m,rel,c⟩:=Ut I.Qb e;refine wpAny_notIn_of (Eu i) hd c.mapOf ?_;rw[<-(rel.val k).sg,<-l];exact h _ (I.tok _)
 ·subst d;cases (show u=eb b from i);obtain⟨z,hd,xs,rel,c⟩:=zz I.Qb e;refine wpAny_notIn_heap (Eh hu) (Vz I.Qb j) hd c ?_;have q:=(rel.val k).sg;rw[Hj]at q;rw[<-q,<-l];exact h _ (I.tok _)
theorem Lz{h':Heap}{t':Nat}{ob:HO}(I:Inv X pins σ H s)(d:jy (H a))(hs:Ye a s.heap h')(he:∃ q,h'.get? a=some q)(c:mi X.prog X.w (upd H a ob) h' a ob) :
  Inv X pins σ (upd H a ob) { s with heap:=h',toks:=t' }:=
 I.write (x:=a) (e:=a) d (.inl rfl) (λb q hb z=>(hs.2 b hb).trans z) he c
theorem yz{P:ra}{w:Ea}{b:Hp}{h':Heap}{kvs:List (Key × V)}{vs:List (Key × Value)}(z:kvs.length<=sizeLine)(hd:(a == Rf)=false)(rel:KV kvs vs)(dd:h'.DictOf (Ij P w) a vs) :
  mi P w b h' a (.dK kvs):=⟨z,hd,vs,rel,dd⟩
theorem WY{t:Hp}{Q:Unit->aa->Prop}(hu:A.units+1<cLine)(I:Inv X pins σ H s)(g:nw H a y v t)(F:Qc y u)(D:Qc v r)(h:∀ s',Inv X pins σ t s'->Q () s') :
  wpAny (model X.prog X.w) A (Wx (.ref a) u r) Q E s:=by
 rcases g with⟨d,k,e,n,l,m⟩|⟨d,k,b,e,n,x,l,m⟩
 ·subst n m;obtain⟨z,hd,M,rel,j⟩:=qC I.Qb e;have p:M.length<=sizeLine:=by rw[<-rel.length];exact z
  have o:(Sm d k v).length<=sizeLine:=by have:=sG d k v;omega
  refine wpAny_setItem_pairs (hsz:=p) (Eu F) j λC f hs=>h _ ?_;have he:∃ q,C.get? a=some q:=let ⟨q,_,_,i,_⟩:=f;⟨q,i⟩;exact Lz I (by rw[e];exact True.intro) hs he (yz o hd (rel.put k D) f)
 ·subst n m;cases (show u=eb b from F);obtain⟨z,hd,xs,rel,j⟩:=RU I.Qb e;have p:xs.length<=sizeLine:=by rw[<-Paired.length rel];exact z
  have o:(Sm d k v).length<=sizeLine:=by have:=sG d k v;omega
  refine wpAny_setItem_heap (hsz:=p) (Eh hu) (Vz I.Qb x) j λC f hs=>h _ ?_;obtain⟨q,J,G,i,K,h3,h4,_,L⟩:=f;refine Lz I (by rw[e];exact True.intro) hs ⟨q,i⟩ ⟨o,hd,_,(rel.put k x D).keeps λc N B=>?_,q,J,G,i,K,h3,h4,L⟩;rw[jd (hG B e (λz=>nomatch z))];exact B
end
section
variable{X:Cx}{pins:List (Addr × gc)}{σ:St}{H:Hp}{s:aa}{a:Addr}{kvs:List (Key × V)}{k:Key}{u:Value}{A:Da}{E:Value->aa->Prop}
theorem z7{Q:Unit->aa->Prop}(I:Inv X pins σ H s)(e:H a=some (.dK kvs))(g:Qc (kV k) u)(l:(vl kvs k).isSome=true)(h:∀ s',Inv X pins σ (upd H a (.dK (sr kvs k))) s'->Q () s') :
  wpAny (model X.prog X.w) A (delItem (.ref a) u) Q E s:=by
 obtain⟨z,hd,i,rel,c⟩:=qC I.Qb e;refine wpAny_delItem_slot c.typeIs (by decide) tm
  (Nm tm c.typeIs PySem.F.entry_dict_delitem (PySem.F.args_dict_delitem_2 _ _) (meets_dict_delitem_pairs (Ij X.prog X.w) a (Eu g)) ⟨i,c,by rw[<-rel.length];exact z,by rw[<-(rel.val k).sg];exact l,λd b hs=>h _ ?_⟩)
 have he:∃ q,d.get? a=some q:=let ⟨q,_,_,f,_⟩:=b;⟨q,f⟩;exact Lz I (by rw[e];exact True.intro) hs he (yz (Hb (pH kvs k) z) hd (rel.drop k) b)
theorem S0{v:V}{more:List Value}{Q:Value->aa->Prop}(I:Inv X pins σ H s)(e:H a=some (.dK kvs))(f:Qc (kV k) u)(l:vl kvs k=some v)(hm:more=[]\/∃ x,more=[x])
  (h:∀ c s',Inv X pins σ (upd H a (.dK (sr kvs k))) s'->Qc v c->Q c s'):wpAny (model X.prog X.w) A (call (.builtin "dict.pop") (.ref a::u::more)) Q E s:=by
 obtain⟨z,hd,j,rel,g⟩:=qC I.Qb e;obtain⟨c,r,d⟩:=Gm.some_of (v:=v) (o:=rk j k) (by rw[<-l];exact rel.val k);have hp:(keyPart u).isSome=true:=by
  cases k with
  |inl i=>obtain⟨t,q⟩:=(show ∃ t,u=Af i t from f);subst q;rfl
  |inr x=>obtain⟨t,q⟩:=(show ∃ t,u=Ii x t from f);subst q;rfl
 have n:argsOk "dict.pop" ⟨.ref a::u::more,[]⟩:=by
  rcases hm with q|⟨x,q⟩
  ·subst q;exact PySem.F.args_dict_pop_2 _ _
  ·subst q;exact PySem.F.args_dict_pop_3 _ _ _
 refine Nm bo g.typeIs PySem.F.entry_dict_pop n (meets_dict_pop_there (Ij X.prog X.w) a (Eu f) more hm hp)
  ⟨j,c,g,by rw[<-rel.length];exact z,r,λm b hs=>h c _ ?_ d⟩
 have he:∃ q,m.get? a=some q:=let ⟨q,_,_,p,_⟩:=b;⟨q,p⟩;exact Lz I (by rw[e];exact True.intro) hs he (yz (Hb (pH kvs k) z) hd (rel.drop k) b)
end
noncomputable def UE(i:Ga):Prop:=∀ b a,ko i false b a=n4 [b,a] (Zh b a)
theorem F2{prog:ra}{w:Ea}{A:Da}{E:Value->aa->Prop}{s:aa}{env:ag}{b a:Ga}{k:Ae}{T n:String}{Q:Value->aa->Prop}
  (m:typeLookup (.type T) "__getitem__" = pure (some (.builtin n))) (hs:UE a)
  (h:wpAny (model prog w) A (Wb b env) (λo d=>wpAny (model prog w) A (Wb a env) (λi s₂=>s₂.TypeIs o T/\wpAny (model prog w) A (Zh o i) Q E s₂) E d) E s) :
  wpAny (model prog w) A (Wb (.Subscript b a k) env) Q E s:=by
 refine uw (Mb h (λo d g=>Mb g (λi s₂ c=>?_) λ_ _ x=>x) λ_ _ x=>x);obtain⟨l,c⟩:=c;unfold Nq;refine ba ?_;rw[getitemInPython_of_ne l.not_modules];refine ba (wpAny_specialOf l m ?_);have f:wpAny (model prog w) A (ko a false o i) (λr e=>wpAny (model prog w) A (letTemporaryGo b o r >>= λ_=>pure r) Q E e) E s₂:=by
  rw[hs o i];exact wpAny_operating (Mb c (λr e j=>ba (wpAny_letTemporaryGo (na j))) λ_ _ x=>x)
 first
  |exact na (ba f)
  |exact ba (na (ba f))
  |exact ba f
theorem mR{X:Cx}{c:List (Addr × gc)}{σ:St}{H:Hp}{s:aa}{a:Addr}{y:V}{o:Option V}(I:Inv X c σ H s)(g:qi H a y o):s.TypeIs (.ref a) "dict":=by
 rcases g with⟨f,k,e,_,_⟩|⟨f,k,b,e,_,_,_⟩
 ·obtain⟨_,_,h,_,d⟩:=Ut I.Qb e;exact d.typeIs
 ·obtain⟨_,_,xs,_,d⟩:=zz I.Qb e;exact d.typeIs
noncomputable def dW(e ty:TE):TE:=λc H Q=>e c H λx d=>ty c d λy b=>∃ a v,x=.ref a/\qi b a y (some v)/\Q v b
section
variable{X:Cx}{o i e value:Ga}{pos pos' tpos:Ae}{td ty tv:TE}
theorem aU(hu:X.A.units+1<cLine)(m:PE X o td)(l:PE X i ty)(hs:UE i):PE X (.Subscript o i pos) (dW td ty):=by
 intro b s e H Q I h;refine F2 PySem.F.slot_dict_getitem.lookup hs (zd (m b s e H _ I h) λu s1 ⟨x,H1,j,q,n⟩=>zd (l b s1 e H1 _ j n) λt s2 ⟨y,f,d,r,a,v,ex,g,p⟩=>?_);subst ex;obtain rfl:u=eb a:=q;exact⟨mR d g,lU hu d g r λz w k c=>⟨v,f,k,c,p⟩⟩
end
theorem LQ{P:ra}{w:Ea}{H:Hp}(h:Heap)(hb:Rf<h.objs.size):mi P w H (h.push { cls:=.type "dict",data:=.dict #[] }) h.objs.size (.dK []):=
 ⟨Gq _,Ld.mpr (Ee (Ba hb)),[],.nil,WG h⟩
noncomputable def ZQ:TE:=λ_ H Q=>∀ p,H p=none->Q (.ref p) (upd H p (.dK []))
section
variable{X:Cx}{pos:Ae}
theorem YH:PE X (.Dict [] [] pos) ZQ:=λb s c H Q I h=>
 wpAny_Dict_empty ⟨.ref s.heap.objs.size,_,I.laid (a:=s.heap.objs.size) (o:=.dK []) (t':=s.toks) (λ_ _ q=>ia _ q) (xa _) (LQ s.heap I.uJ),rfl,h _ (I.Qb.fresh (xa _))⟩
end
section
variable{X:Cx}{pins:List (Addr × gc)}{σ:St}{H:Hp}{s:aa}{a:Addr}{kvs:List (Key × V)}{A:Da}{E:Value->aa->Prop}
theorem kQ{Q:Value->aa->Prop}(I:Inv X pins σ H s)(e:Rd H a (.dK kvs))(h:∀ p s',H p=none->Inv X pins σ (upd H p (.dK kvs)) s'->Q (.ref p) s'):wpAny (model X.prog X.w) A (call (.type "dict") [.ref a]) Q E s:=by
 obtain⟨z,hd,i,rel,f⟩:=Ut I.Qb e;refine kt_call_dict hd f (by rw[<-rel.length];exact z) λg c hs=>?_;refine h _ _ (I.Qb.fresh (xa _)) (I.laid (a:=s.heap.objs.size) (o:=.dK kvs) (t':=s.toks) (λb q d=>?_) (xa _) (yz z (Ld.mpr (Ee (Ba I.uJ))) rel c));exact(hs.2 b (Ba (qa d))).trans (ia _ d)
end
end L2
namespace L4
open PySem PySem.Spec PyProof.Rows L2
noncomputable def Gn:D->Option Key
 | .int i=>some (.inl i)
 | .str x=>some (.inr x)
 |_=>none
noncomputable def rl(σ:ub):D->Option (List (Key × D))
 | .Lb b xs=>if b.length=xs.length then some (b.zip xs)else none
 | .ref n=>(match σ[n]? with
  |some (.Lb a)=>some a
  |some (.Be a)=>some a
  |_=>none)
 |_=>none
noncomputable def jq(kvs:List (Key × D))(k:Key):Option D:=(kvs.find? λa=>decide (a.1=k)).map (·.2)
noncomputable def Xr(kvs:List (Key × D))(k:Key)(d:D):List (Key × D):=
 if kvs.any (λa=>decide (a.1=k))then kvs.map λa=>if a.1=k then (a.1,d)else a else kvs++[(k,d)]
section
variable{T:Tb}{X:Cx}{μ:List Addr}{H:Hp}
theorem ax{y:D}{v:V}{k:Key}(h:Rep T μ H y v)(e:Gn y=some k):v=kV k:=by
 cases y<;>simp[Gn]at e<;>subst e<;>rw[Rep]at h<;>exact h
theorem aB:∀ {b:List Key} {ds:List D} {kvs:List (Key × V)},kvs.map (·.1)=b->Qa T μ H ds (kvs.map (·.2))->Uh T μ H (b.zip ds) kvs
 |b,[],kvs,h1,a=>by
  rw[Qa]at a;have:kvs=[]:=by simpa using a
  subst this;rw[<-h1];exact .nil
 |b,d::ds,kvs,h1,a=>by
  rw[Qa]at a;obtain⟨v,r,e,c,f⟩:=a;cases kvs with
  |nil=>cases e
  |cons p kvs=>
   rw[yb]at e h1;cases e;rw[<-h1];exact .cons ⟨rfl,c⟩ (aB rfl f)
theorem Tv{σ:ub}(r:Rel T μ H σ){x:D}{v:V}{kvs:List (Key × D)}(h:Rep T μ H x v)(e:rl σ x=some kvs):∃ a vs,v=.ref a/\Rd H a (.dK vs)/\Uh T μ H kvs vs:=by
 cases x with
 |Lb f xs=>
  rw[Rep]at h;obtain⟨a,vs,rfl,_,h1,b,h3⟩:=h;unfold rl at e;dsimp only at e;split at e
  ·cases e;exact⟨a,vs,rfl,h1,aB b h3⟩
  ·cases e
 |ref n=>
  unfold rl at e;dsimp only at e;cases q:σ[n]? with
  |none=>rw[q]at e;cases e
  |some o=>
   rw[q]at e;cases o with
   |Lb c=>
    cases e;obtain⟨a,rfl,_,vs,h1,b⟩:=r.at h q;exact⟨a,vs,rfl,.inl h1,b⟩
   |Be c=>
    cases e;obtain⟨a,rfl,_,d,vs,h1,b⟩:=r.at h q;exact⟨a,vs,rfl,.inr ⟨d,h1⟩,b⟩
   |_=>cases e
 |_=>cases e
theorem Gx{kvs:List (Key × D)}{vs:List (Key × V)}(h:Uh T μ H kvs vs)(k:Key):(jq kvs k=none/\vl vs k=none)\/∃ d v,jq kvs k=some d/\vl vs k=some v/\Rep T μ H d v:=by
 unfold Uh at h;induction h with
 |nil=>exact .inl ⟨rfl,rfl⟩
 |@cons p q b i h t g=>
  obtain⟨h1,c⟩:=h;by_cases e:p.1=k
  ·have a:q.1=k:=h1.symm.trans e;exact .inr ⟨p.2,q.2,by unfold jq;rw[Vd,Ge e];rfl,ZB a,c⟩
  ·have a:¬ q.1=k:=λz=>e (h1.trans z);have f:jq (p::b) k=jq b k:=by unfold jq;rw[Vd,Mc e]
   rw[f,rB a];exact g
theorem K2{kvs:List (Key × D)}{vs:List (Key × V)}(h:Uh T μ H kvs vs)(k:Key):(kvs.any λa=>decide (a.1=k))=(vs.any λa=>decide (a.1=k)):=by
 unfold Uh at h;induction h with
 |nil=>rfl
 |@cons p q c d h t b=>rw[Yd,Yd,b,h.1]
theorem NI{d e:Type}{F:d->e->Prop}{f:d->d}{g:e->e}(c:∀ a b,F a b->F (f a) (g b)):∀ {l:List d} {m:List e},Paired F l m->Paired F (l.map f) (m.map g)
 |_,_,.nil=>.nil
 |_,_,.cons h t=>.cons (c _ _ h) (NI c t)
theorem sI{d e:Type}{F:d->e->Prop}{a:d}{b:e}(c:F a b):∀ {l:List d} {m:List e},Paired F l m->Paired F (l++[a]) (m++[b])
 |_,_,.nil=>.cons c .nil
 |_,_,.cons h t=>.cons h (sI c t)
theorem xI{kvs:List (Key × D)}{vs:List (Key × V)}(h:Uh T μ H kvs vs)(k:Key){d:D}{v:V}(hd:Rep T μ H d v):Uh T μ H (Xr kvs k d) (Sm vs k v):=by
 unfold Xr Sm;rw[K2 h k];split
 ·refine NI (λp q h=>?_) h;by_cases e:p.1=k
  ·rw[da e,da (h.1.symm.trans e)];exact⟨h.1,hd⟩
  ·rw[ka e,ka (λz=>e (h.1.trans z))];exact h
 ·exact sI ⟨rfl,hd⟩ h
theorem Uh.mono{μ':List Addr}{a:Hp}(e:Ext μ H μ' a){kvs:List (Key × D)}{vs:List (Key × V)}(h:Uh T μ H kvs vs):Uh T μ' a kvs vs:=Paired.oo h λ_ _ z=>⟨z.1,Rep.mono e _ _ z.2⟩
theorem _root_.L2.qi.kr{H:Hp}{a:Addr}{kvs:List (Key × V)}{k:Key}(e:Rd H a (.dK kvs)):qi H a (kV k) (vl kvs k):=.inl ⟨kvs,k,e,rfl,rfl⟩
noncomputable def xl(x y:D):M D:=λb=>match Gn y with
 |some k=>(match rl b x with
  |some a=>(match jq a k with
   |some d=>.ok d b
   |none=>.bad)
  |none=>.bad)
 |none=>.bad
theorem zq{o i:Ga}{p fi:Ev->M D}{g:Ae}(hu:X.A.units+9<cLine)(F:FE T X o p)(E:FE T X i fi)(hs:UE i):FE T X (.Subscript o i g) (Ha xl p fi):=by
 intro c s st H Q I h;refine aU (by omega) F E hs c s st H Q I ?_;obtain⟨μ,t,U,q,G,hp⟩:=h;refine⟨μ,t,U,q,G,hp.bind λx m l v V _ z O L K=>⟨l,t,m,q.mono z,O,K.bind λy n S u W _ B r N b=>?_⟩⟩;unfold xl at b;cases f:Gn y with
 |none=>rw[f]at b;exact b.elim
 |some k=>
  rw[f]at b;dsimp only at b;cases e:rl n x with
  |none=>rw[e]at b;exact b.elim
  |some J=>
   rw[e]at b;dsimp only at b;obtain⟨a,Y,rfl,h1,C⟩:=Tv r (Rep.mono B _ _ L) e;obtain rfl:=ax N f;rcases Gx C k with⟨j,_⟩|⟨d,w,j,P,R⟩
   ·rw[j]at b;exact b.elim
   ·rw[j]at b;exact⟨a,w,rfl,by rw[<-P];exact qi.kr h1,Ib.here b r R⟩
noncomputable def LN:R2:=λy x H Q=>∃ a o,x=.ref a/\qi H a y o/\Q (.bl o.isSome) H
theorem lK(hu:X.A.units+9<cLine):gh X (Ab .In) LN:=by
 intro b s st H y x f u Q I e d h;obtain⟨a,o,rfl,g,q⟩:=h;obtain rfl:u=eb a:=d;exact EZ (by omega) I g e λi c=>⟨.bl o.isSome,H,c,rfl,q⟩
noncomputable def kx(y x:D):M D:=λb=>match Gn y with
 |some k=>(match rl b x with
  |some a=>.ok (.bl (jq a k).isSome) b
  |none=>.bad)
 |none=>.bad
theorem qK:Kj T LN kx:=by
 intro E μ H l y x u v Q r q p h;unfold kx at h;cases c:Gn y with
 |none=>rw[c]at h;exact h.elim
 |some k=>
  rw[c]at h;dsimp only at h;cases b:rl l x with
  |none=>rw[b]at h;exact h.elim
  |some i=>
   rw[b]at h;obtain⟨a,j,rfl,h1,g⟩:=Tv r p b;obtain rfl:=ax q c;refine⟨a,vl j k,rfl,qi.kr h1,Ib.here h r ?_⟩;rw[Rep];rcases Gx g k with⟨e,f⟩|⟨d,w,e,f,m⟩
   ·rw[e,f];rfl
   ·rw[e,f];rfl
noncomputable def rS:CC:=λx y v H Q=>∃ a b,x=.ref a/\nw H a y v b/\Q b
theorem OQ(hu:X.A.units+9<cLine):CH X rS:=by
 intro b s st H o i v e l u Q I j f k h;obtain⟨a,c,rfl,g,q⟩:=h;obtain rfl:e=eb a:=j;exact WY (by omega) I g f k λm d=>⟨c,d,q⟩
noncomputable def Kr(ρ:Ev)(d x:D)(y:D):M Fl:=λb=>match x with
 | .ref n=>(match Gn y with
  |some k=>(match b[n]? with
   |some (.Lb a)=>if a.length<Oh then .ok (.nx ρ) (b.set n (.Lb (Xr a k d)))else .bad
   |_=>.bad)
  |none=>.bad)
 |_=>.bad
noncomputable def dE(ρ:Ev)(fi:Ev->M D)(d x:D):M Fl:=xs ρ (fi ρ) (Kr ρ d x)
noncomputable def EF(ρ:Ev)(a fi:Ev->M D)(d:D):M Fl:=xs ρ (a ρ) (dE ρ fi d)
noncomputable def Rq(f b fi:Ev->M D):Ev->M Fl:=λa=>xs a (f a) (EF a b fi)
theorem Ps{e o i:Ga}{f R fi:Ev->M D}{p b:Ae}(hu:X.A.units+9<cLine)(he:FE T X e f)(Y:FE T X o R)(W:FE T X i fi)
  (V:∀ v,Zj (.Subscript o i b) X.env v=(do
   let t <-cg [v] (Wb o X.env);let E <-cg [v,t] (Wb i X.env)
   Xo b
   cg [v,t,E] (Wx t E v)
   release [v,t,E] []):=by intro _;rfl)
  (hs:oO [.Subscript o i b] e p.line X.env=pure false:=by rfl) (hw:pO [.Subscript o i b] e X.env=pure none:=by rfl)
  (h1:(Ke [.Subscript o i b] X.env).map (·.2)=[Zj (.Subscript o i b) X.env]:=by rfl):FS T X (.Assign [.Subscript o i b] e p) (Rq f R fi):=by
 intro m s st H D I Z;refine nP he (LX Y W (OQ hu) V) hs hw h1 m s st H D I ?_;obtain⟨μ,L,σ,g,hr,hp⟩:=Z;refine⟨μ,L,σ,g,hr,hp.xs g λd N J v H1 _ j r1 q1 p1=>?_⟩;refine⟨J,L,N,g.mono j,r1,p1.xs (g.mono j) λx O K vo H2 _ r r2 q2 p2=>?_⟩;refine⟨K,L,O,(g.mono j).mono r,r2,p2.xs ((g.mono j).mono r) λy P q vi Q _ u U q3 c=>?_⟩;have hd:=Rep.mono u _ _ (Rep.mono r _ _ q1);have hx:=Rep.mono u _ _ q2;unfold Kr at c;cases x with
 |ref n=>
  dsimp only at c;cases w:Gn y with
  |none=>rw[w]at c;exact c.elim
  |some k=>
   rw[w]at c;dsimp only at c;cases B:P[n]? with
   |none=>rw[B]at c;exact c.elim
   |some ob=>
    rw[B]at c;cases ob with
    |Lb h=>
     dsimp only at c;by_cases C:h.length<Oh
     ·rw[da C]at c;obtain⟨a,rfl,hn,F,S,g2⟩:=U.at hx B;obtain rfl:=ax q3 w;have G:=U.write (o:=.dK (Sm F k v)) (ob:=.Lb (Xr h k d)) hn ⟨_,rg,by
       have ex:Ext q Q q (upd Q a (.dK (Sm F k v))):=Pt (Ja hn) S (λ_ z=>by cases z) (λ_ _ z=>by cases z);exact xI (Uh.mono ex g2) k (Rep.mono ex _ _ hd)⟩
      have l:F.length=h.length:=by unfold Uh at g2;exact(Paired.length g2).symm
      exact⟨a,_,rfl,nw.k S (by rw[l];exact Ca C (by decide)),c _ (.nx st) _ G.1 G.2 (((g.mono j).mono r).mono u |>.mono G.1)⟩
     ·rw[ka C]at c;exact c.elim
    |_=>exact c.elim
 |_=>exact c.elim
noncomputable def Pq:Ev->M D:=λ_ a=>.ok (.ref a.length) (a++[.Lb []])
theorem Zt{b:Ae}:FE T X (.Dict [] [] b) Pq:=by
 intro a s st H Q I h;obtain⟨μ,e,f,d,c,hp⟩:=h;refine YH a s st H Q I λp hn=>?_;exact hp (μ++[p]) (.ref p) _ (Et hn) (c.push hn ⟨[],rg,.nil⟩) (ly c)
theorem eY{b:Ae}:FE T X (.Dict [] [] b) (eC (.Lb [] [])):=by
 intro a s st H Q I h;obtain⟨μ,e,f,d,c,hp⟩:=h;refine YH a s st H Q I λp hn=>?_;exact hp μ (.ref p) _ (fk hn) (c.fresh hn) (by rw[Rep];exact⟨p,[],rfl,λhm=>(by obtain⟨u,hu,_⟩:=c.mem hm;rw[hn]at hu;cases hu),(.inl rg),rfl,Qa.nil⟩)
noncomputable def bE:List V->Hp->VK->Prop:=λxs H Q=>∃ a b,xs=[.ref a]/\Rd H a (.dK b)/\∀ p,H p=none->Q (.ref p) (upd H p (.dK b))
theorem vI:bn X (.type "dict") bE:=by
 intro b s st H xs i Q I r h;obtain⟨a,d,rfl,e,q⟩:=h;obtain⟨u,rfl,f⟩:=Dt r;cases f;exact kQ I e λp g hn c=>⟨.ref p,_,c,rfl,q p hn⟩
noncomputable def Dx(ds:List D):M D:=λb=>match ds with
 |[x]=>(match rl b x with
  |some a=>.ok (.Lb (a.map (·.1)) (a.map (·.2))) b
  |none=>.bad)
 |_=>.bad
theorem KI:∀ {kvs:List (Key × D)} {vs:List (Key × V)},Uh T μ H kvs vs->vs.map (·.1)=kvs.map (·.1)/\Qa T μ H (kvs.map (·.2)) (vs.map (·.2))
 |_,_,.nil=>⟨rfl,Qa.nil⟩
 |_,_,.cons h t=>by
  obtain⟨a,b⟩:=KI t;exact⟨by rw[yb,yb,a,h.1],Qa.cons h.2 b⟩
theorem FP:Tp T bE Dx:=by
 intro E μ H m e o Q r p h
 match e with
 |[]=>exact h.elim
 |[x]=>
  unfold Dx at h;dsimp only at h;cases b:rl m x with
  |none=>rw[b]at h;exact h.elim
  |some g=>
   rw[b]at h;rw[Qa]at p;obtain⟨v,n,rfl,i,c⟩:=p;rw[Qa]at c;subst c;obtain⟨a,d,rfl,h1,f⟩:=Tv r i b;refine⟨a,d,rfl,h1,λl hn=>?_⟩;obtain⟨j,k⟩:=KI f;exact h μ (.ref l) _ (fk hn) (r.fresh hn) (by rw[Rep];exact⟨l,d,rfl,λhm=>(by obtain⟨u,hu,_⟩:=r.mem hm;rw[hn]at hu;cases hu),(.inl rg),j,Qa.mono (fk hn) _ _ k⟩)
 |_::_::_=>exact h.elim
end
section
variable{T:Tb}{X:Cx}
structure InK(K:W.Frag)(C:Addr):Prop where
 cl:L2.Wm K C
 a:W.findIn K (.ref C) "__class__" = some (some (.builtin "object.__class__"))
 n:W.specialIn K (.builtin "object.__class__") "__get__" = some (some (.builtin "getset_descriptor.__get__"))
 t:W.takesIn K (.builtin "object.__class__")=some true
 m:W.mroIn K C (.type "object")=some true
end
section
variable{T:Tb}{X:Cx}
inductive sy(X:Cx):List (Option Ga)->List Ga->List (ma × ma)->Prop
 |nil:sy X [] [] []
 |cons {k v:Ga} {x y:ma} {ks:List (Option Ga)} {vs:List Ga} {l:List (ma × ma)}:PE X k (tC (.str x))->PE X v (tC (.str y))->sy X ks vs l->sy X (some k::ks) (v::vs) ((x,y)::l)
theorem sy.all{ks vs l}(h:sy X ks vs l):ks.all (·.isSome)=true/\ks.length=vs.length/\ks.length=l.length:=by
 induction h with
 |nil=>exact⟨rfl,rfl,rfl⟩
 |cons _ _ _ a=>exact⟨by simpa using a.1,by simpa using a.2.1,by simpa using a.2.2⟩
end
noncomputable def lF(o:Int->Int->Int)(i:Nat)(ρ:Ev)(x d:D):M Fl:=λc=>match x,d with
 | .int a,.int b=>.ok (.nx (ρ.set i (some (.int (o a b))))) c
 |_,_=>.bad
noncomputable def Cw(o:Int->Int->Int)(i:Nat)(f:Ev->M D):Ev->M Fl:=λa=>match a[i]? with
 |some (some x)=>xs a (f a) (lF o i a x)
 |_=>λ_=>.bad
theorem U1{o:Int->Int->Int}{i:Nat}{f:Ev->M D}{ρ:Ev}{σ:ub}{x:D}(h:ρ[i]?=some (some x)):Cw o i f ρ σ=Oo ρ (lF o i ρ x) (f ρ σ):=by
 unfold Cw;rw[h];exact Vp ..
@[simp] theorem J6(o:Int->Int->Int)(i:Nat)(ρ:Ev)(a b:Int)(σ:ub):lF o i ρ (.int a) (.int b) σ=.ok (.nx (ρ.set i (some (.int (o a b))))) σ:=nr rfl
section
variable{T:Tb}{X:Cx}{e:Ga}{f:Ev->M D}{pos:Ae}
theorem fN{i:Nat}{x:ma}{h:Ae}{n:ak}{o:Int->Int->Int}(z:SE X n (PM o))(hN:X.N.Nodup)(w:X.N[i]?=some x)(C:Loc X.env.scope x)(he:FE T X e f)(u:X.fn x=true\/X.env.scope.names.lookup x=some .local:=by first|exact .inl rfl|exact .inr rfl|assumption) :
  FS T X (.AugAssign (.Name x h) n e pos) (Cw o i f):=by
 intro c s st H D I B;refine ZO hN w C he z u c s st H D I ?_;obtain⟨F,r,J,k,A,hp⟩:=B;unfold Cw at hp;cases j:r[i]? with
 |none=>rw[j]at hp;exact hp.elim
 |some q=>
  cases q with
  |none=>rw[j]at hp;exact hp.elim
  |some d=>
   rw[j]at hp;obtain⟨v,h1,m⟩:=k.2 i d j;refine⟨v,h1,F,r,J,k,A,hp.xs k λy K G M L _ t E p l=>?_⟩;cases d with
   |int a=>
    cases y with
    |int b=>
     rw[Rep]at m p;subst m p;exact⟨a,b,rfl,rfl,Ib.here (g:=wl.nx (st.set i (some (.int (o a b))))) l E ((k.mono t).set i (by rw[Rep]))⟩
    |_=>exact l.elim
   |_=>exact l.elim
end
end L4
namespace L4
open PySem PySem.Spec PySem.Calls PyProof.Rows L2
section
variable{T:Tb}{X:Cx}
end
end L4
namespace L4
open PySem PySem.Spec PyProof.Rows L2
noncomputable def Aw(o:D->List D->M D)(m:M (List D))(x:D):M D:=λa=>match rl a x with
 |some _=>Pc m (o x) a
 |none=>.bad
noncomputable def vA(o:D->List D->M D)(f:Ev->M D)(fs:Ev->M (List D)):Ev->M D:=λa=>Pc (f a) (Aw o (fs a))
noncomputable def UM:V->List V->Hp->VK->Prop:=λx c H Q=>∃ a b k d,x=.ref a/\c=[kV k,d]/\H a=some (.dK b)/\b.length<sizeLine/\
 (∀ v,vl b k=some v->Q v H)/\(vl b k=none->Q d (upd H a (.dK (Sm b k d))))
noncomputable def Fv(x:D)(xs:List D):M D:=λb=>match x,xs with
 | .ref n,[y,d]=>(match Gn y with
  |some k=>(match b[n]? with
   |some (.Lb a)=>if a.length<Oh then (match jq a k with
    |some e=>.ok e b
    |none=>.ok d (b.set n (.Lb (Xr a k d))))else .bad
   |_=>.bad)
  |none=>.bad)
 |_,_=>.bad
section
variable{T:Tb}{X:Cx}{o e:Ga}{es:List Ga}{f:Ev->M D}{fs:Ev->M (List D)}{name:ma}{apos cpos:Ae}{id:String}{r:V->List V->Hp->VK->Prop}{g:D->List D->M D}
theorem R1:Tq X "dict.setdefault" UM:=by
 intro j s st H x G v E Q I C B h;obtain⟨a,b,k,d,rfl,rfl,i,D,h1,o⟩:=h;cases C;obtain⟨u,r,rfl,A,l⟩:=B.two;obtain⟨z,hd,m,rel,g⟩:=qC I.Qb i;have y:m.length<=sizeLine:=by rw[<-rel.length];exact z
 have f:(Sm b k d).length<=sizeLine:=by have:=sG b k d;omega
 refine Nm ll g.typeIs PySem.F.entry_dict_setdefault (PySem.F.args_dict_setdefault_3 _ _ _) (kt_meets_setdefault (Ij X.prog X.w) a (Eu A) hd r) ⟨m,g,y,λw t=>?_,λhn n c hs=>?_⟩
 ·have q:=rel.val k;rw[t]at q;cases e:vl b k with
  |none=>rw[e]at q;exact absurd q (by simp[Gm])
  |some x=>rw[e]at q;exact⟨x,H,I.tok _,q,h1 x e⟩
 ·have q:=rel.val k;rw[hn]at q;cases e:vl b k with
  |some x=>rw[e]at q;exact absurd q (by simp[Gm])
  |none=>
   have he:∃ q,n.get? a=some q:=let ⟨q,_,_,p,_⟩:=c;⟨q,p⟩;exact⟨d,_,Lz I (by rw[i];exact True.intro) hs he (yz f hd (rel.put k l) c),l,o e⟩
theorem UK{p:Addr}{kvs:List (Key × V)}{b:List (Addr × gc)}{σ:St}{H:Hp}{s:aa}(I:Inv X b σ H s)(d:Rd H p (.dK kvs)):s.TypeIs (.ref p) "dict"/\∀ a,eb p=.ref a->∃ ob,s.heap.get? a=some ob/\ob.dict=none:=by
 obtain⟨_,_,_,_,o,_,_,e,ex,_⟩:=Ut I.Qb d;refine⟨⟨o,e,ex.1⟩,λa c=>?_⟩;cases c;exact⟨o,e,ex.2.1⟩
noncomputable def UT(r:V->List V->Hp->VK->Prop)(to:TE):TE:=λd H Q=>to d H λx c=>(∃ a b,x=.ref a/\Rd c a (.dK b))/\r x [] c Q
noncomputable def ZZ(r:V->List V->Hp->VK->Prop)(to:TE)(t:TA):TE:=λd H Q=>to d H λx c=>(∃ a b,x=.ref a/\Rd c a (.dK b))/\t d c λxs e=>r x xs e Q
theorem eK{to:TE}(m:im "dict")(slot:Slot "dict" name id)(e:Gp (.builtin id)=pure (.type "method_descriptor"))(hm:Tq X id r)(k:PE X o to)
  (c:Md o name X.env (Wb o X.env)=Wb o X.env:=by rfl) (d:(apos.endLine == cpos.line)=true:=by rfl):PE X (.Call (.Attribute o name apos) [] [] cpos) (UT r to):=by
 intro b s g H Q I h;refine wpAny_Call_method0_late c d (zd (k b s g H _ I h) λv s1 ⟨x,H1,f,p,ty,n⟩=>?_);obtain⟨a,l,rfl,j⟩:=ty;cases p;obtain⟨h1,i⟩:=UK f j;exact⟨"dict",id,m,slot,e,h1,i,Rh rfl (PySem.evalArgs_none (hm b s1 g H1 (.ref a) [] (.ref a) [] Q f rfl .nil n))⟩
theorem j0{to:TE}{t:TA}(z:im "dict")(slot:Slot "dict" name id)(i:Gp (.builtin id)=pure (.type "method_descriptor"))(hm:Tq X id r)(w:PE X o to)(q:PA X (e::es) t)
  (d:Md o name X.env (Wb o X.env)=Wb o X.env:=by rfl)
  (g:((Dc cpos (pa (e::es) X.env)).all (λx=>!x.1) && (Om cpos (ai [] X.env)).all (λx=>x.1.isSome)
   && decide ((e::es).length+([]:List Ui).length+(if ([]:List Ui).isEmpty then 0 else 1)<30))=true:=by rfl)
  (f:(apos.endLine == cpos.line)=true:=by rfl) (hs:pa (e::es) X.env=(false,Wb e X.env)::pa es X.env:=by rfl) (c:(Dc cpos (pa es X.env)).any (·.1)=false:=by rfl) :
  PE X (.Call (.Attribute o name apos) (e::es) [] cpos) (ZZ r to t):=by
 intro b s j H Q I h;refine Bs d g f rfl (zd (w b s j H _ I h) λv s1 ⟨x,H1,k,C,ty,A⟩=>?_);obtain⟨a,y,rfl,u⟩:=ty;cases C;obtain⟨h1,p⟩:=UK k u;refine⟨"dict",id,z,slot,i,h1,p,?_⟩;have l:=q cpos b s1 j H1 _ k A;rw[hs]at l ⊢;refine Rh (by show (false || (Dc cpos (pa es X.env)).any (·.1))=false;rw[c]<;>rfl) (Ci ?_);exact zd l λus s2 ⟨E,m,n,D,B⟩=>hm b s2 j m (.ref a) E (.ref a) us Q n rfl D B
theorem CM(K:im "dict")(slot:Slot "dict" name id)(p:Gp (.builtin id)=pure (.type "method_descriptor"))(hm:Tq X id r)(hs:Hx T r g)(F:FE T X o f)(E:FA T X (e::es) fs)
  (c:Md o name X.env (Wb o X.env)=Wb o X.env:=by rfl)
  (i:((Dc cpos (pa (e::es) X.env)).all (λx=>!x.1) && (Om cpos (ai [] X.env)).all (λx=>x.1.isSome)
   && decide ((e::es).length+([]:List Ui).length+(if ([]:List Ui).isEmpty then 0 else 1)<30))=true:=by rfl)
  (d:(apos.endLine == cpos.line)=true:=by rfl) (n:pa (e::es) X.env=(false,Wb e X.env)::pa es X.env:=by rfl) (b:(Dc cpos (pa es X.env)).any (·.1)=false:=by rfl) :
  FE T X (.Call (.Attribute o name apos) (e::es) [] cpos) (vA g f fs):=by
 intro j s st H Q I h;refine j0 K slot p hm F E c i d n b j s st H Q I ?_;obtain⟨P,z,R,he,G,hp⟩:=h;refine⟨P,z,R,he,G,hp.bind λx l q v S _ C y w k=>?_⟩;unfold Aw at k;cases m:rl l x with
 |none=>rw[m]at k;exact k.elim
 |some xs=>
  rw[m]at k;obtain⟨a,N,rfl,h1,U⟩:=Tv y w m;refine⟨⟨a,N,rfl,h1⟩,q,z,l,he.mono C,y,k.bind λB u t O A _ D M J L=>?_⟩;exact hs _ t A u x B (.ref a) O Q M (Rep.mono D _ _ w) J L
theorem U3:Hx T UM Fv:=by
 intro E G H L x xs v M Q r p q h;cases x with
 |ref n=>
  match xs with
  |[]=>exact h.elim
  |[_]=>exact h.elim
  |[y,d]=>
   rw[Qa]at q;obtain⟨w,z,rfl,J,B⟩:=q;rw[Qa]at B;obtain⟨t,g,rfl,C,D⟩:=B;rw[Qa]at D;subst D;unfold Fv at h;cases m:Gn y with
   |none=>simp only[m]at h;exact h.elim
   |some k=>
    simp only[m]at h;cases b:L[n]? with
    |none=>simp only[b]at h;exact h.elim
    |some ob=>
     cases ob with
     |Lb f=>
      simp only[b]at h;by_cases s:f.length<Oh
      ·rw[da s]at h;obtain⟨a,rfl,hn,l,A,g2⟩:=r.at p b;obtain rfl:=ax J m;have i:l.length=f.length:=by unfold Uh at g2;exact(Paired.length g2).symm
       refine⟨a,l,k,t,rfl,rfl,A,by rw[i];exact iJ s,λv e=>?_,λe=>?_⟩
       ·rcases Gx g2 k with⟨j,g⟩|⟨I,K,j,g,F⟩
        ·rw[g]at e;cases e
        ·rw[g]at e;cases e;rw[j]at h;exact Ib.here h r F
       ·rcases Gx g2 k with⟨j,g⟩|⟨I,K,j,g,F⟩
        ·rw[j]at h;have u:=r.write (o:=.dK (Sm l k t)) (ob:=.Lb (Xr f k d)) hn ⟨_,rg,by
          have ex:Ext G H G (upd H a (.dK (Sm l k t))):=Pt (Ja hn) A (λ_ z=>by cases z) (λ_ _ z=>by cases z);exact xI (Uh.mono ex g2) k (Rep.mono ex _ _ C)⟩
         exact h _ _ _ u.1 u.2 (Rep.mono u.1 _ _ C)
        ·rw[g]at e;cases e
      ·rw[ka s]at h;exact h.elim
     |lst N=>simp only[b]at h;exact h.elim
     |ins c fs=>simp only[b]at h;exact h.elim
     |Be _=>simp only[b]at h;exact h.elim
     |cj _=>simp only[b]at h;exact h.elim
  |_::_::_::_=>exact h.elim
 |_=>exact h.elim
end
noncomputable def Gv(σ:ub)(x:D):List D->Option (List Bool)
 |[]=>some []
 |y::a=>match Wi σ 7 y x,Gv σ x a with
  |some b,some bs=>some (b::bs)
  |_,_=>none
noncomputable def gC(a:Bool)(x y:D):M D:=λb=>match Vk b y with
 |some xs=>(match Gv b x xs with
  |some bs=>.ok (.bl (if a then !(bs.any id)else bs.any id)) b
  |none=>.bad)
 |none=>.bad
theorem yM{σ:ub}{x:D}:∀ {xs:List D} {bs:List Bool},Gv σ x xs=some bs->bs.length=xs.length/\∀ (j:Nat) (d:D) (b:Bool),xs[j]?=some d->bs[j]?=some b->Wi σ 7 d x=some b
 |[],bs,h=>by cases h;exact⟨rfl,λj d b h=>by simp at h⟩
 |y::g,bs,h=>by
  unfold Gv at h;cases a:Wi σ 7 y x with
  |none=>rw[a]at h;cases h
  |some i=>
   cases c:Gv σ x g with
   |none=>rw[a,c]at h;cases h
   |some e=>
    rw[a,c]at h;cases h;obtain⟨h1,f⟩:=yM c;refine⟨by simp[h1],λj d b hd hb=>?_⟩;cases j with
    |zero=>simp at hd hb;subst hd;subst hb;exact a
    |succ j=>exact f j d b (by simpa using hd) (by simpa using hb)
open Classical in
noncomputable def Wq(its:List Value)(bs:List Bool)(u:Value):Bool:=decide (∃ j:Nat,its[j]?=some u/\bs[j]?=some true)
theorem MB{its:List Value}{bs:List Bool}{u:Value}:Wq its bs u=true ↔ ∃ j:Nat,its[j]?=some u/\bs[j]?=some true:=by unfold Wq;exact @decide_eq_true_iff _ (Classical.propDecidable _)
theorem MM{its:List Value}{bs:List Bool}(e:bs.length=its.length):its.toArray.any (Wq its bs)=bs.any id:=by
 rw[show its.toArray.any (Wq its bs)=its.any (Wq its bs) by simp,Bool.eq_iff_iff,At,At];constructor
 ·rintro ⟨u,_,hu⟩;obtain⟨j,_,h⟩:=MB.mp hu;exact⟨true,Ja h,rfl⟩
 ·rintro ⟨b,hb,d⟩;cases (show b=true from d);obtain⟨j,c,h⟩:=Kq hb;have a:j<its.length:=by omega
  exact⟨its[j],Bt a,MB.mpr ⟨j,by simp[a],by simp[c,h]⟩⟩
theorem oZ{A:Da}{s:aa}{x:Value}{its:List Value}{bs:List Bool}(g:bs.length=its.length)(h:∀ (j:Nat) (u:Value) (b:Bool),its[j]?=some u->bs[j]?=some b->Vc A s u x b)(w:Value)(f:w∈its):Vc A s w x (Wq its bs w):=by
 cases e:Wq its bs w with
 |true=>obtain⟨j,h1,c⟩:=MB.mp e;exact h j w true h1 c
 |false=>
  obtain⟨j,a,rfl⟩:=Kq f;have hb:j<bs.length:=by omega
  have d:bs[j]=false:=by
   cases q:bs[j]with
   |false=>rfl
   |true=>exact absurd (MB.mpr ⟨j,Kb a,by rw[Kb hb,q]⟩) (by rw[e];decide)
  exact h j _ false (Kb a) (by rw[Kb hb,d])
section
variable{T:Tb}{X:Cx}
theorem T0(E:T.K=X.K)(hu:X.A.units+9<cLine){l:List (Addr × gc)}{s:aa}{st:St}{H:Hp}{μ:List Addr}{σ:ub}(I:Inv X l st H s)(r:Rel T μ H σ){x y:D}{v u:V}{m o:Value}(F:Rep T μ H x v)(G:Rep T μ H y u)(L:Qc v m)(J:Qc u o)
  {xs:List D} {bs:List Bool} (e:Vk σ y=some xs) (C:Gv σ x xs=some bs) {Q:Value->aa->Prop} :
  (Q (.bool (bs.any id)) s->wpAny (model X.prog X.w) X.A (Ab .In m o) Q X.xe s)/\(Q (.bool (!bs.any id)) s->wpAny (model X.prog X.w) X.A (Ab .NotIn m o) Q X.xe s):=by
 obtain⟨p,N,rfl,h1,f⟩:=iw r G e;rw[E]at f;obtain⟨P,hb⟩:=yM C;cases J;have i:∀ {a:List Value},Od N a->(bs.length=a.length/\∀ w∈a,Vc X.A.in1 s w m (Wq a bs w)):=fun {a} q=>by
  have l1:=h1.length;have O:=q.length;have g:bs.length=a.length:=by omega
  refine⟨g,oZ g λj w b c n=>?_⟩;obtain⟨z,t,M⟩:=LA q c;obtain⟨d,B,rd⟩:=zE h1 t;exact wB I r 7 X.A.in1 d x z v w m b (by show X.A.units+1+7+1<cLine;omega) rd F M L (hb j d b B n)
 rcases f with f|f
 ·obtain⟨a,q,pl,_⟩:=L2.Inv.list I f;obtain⟨g,k⟩:=i q;refine⟨λh=>xt (Wq a bs) pl.isList (λw c=>k w (by simpa using c)) ?_,λh=>SeqAt.notIn_listAt (Wq a bs) pl.isList (λw c=>k w (by simpa using c)) ?_⟩<;>rw[MM g]<;>exact h
 ·obtain⟨a,q,pl,_⟩:=L2.Inv.tuple I f;obtain⟨g,k⟩:=i q;refine⟨λh=>As (Wq a bs) pl (λw c=>k w (by simpa using c)) ?_,λh=>SeqAt.notIn_tupleAt (Wq a bs) pl (λw c=>k w (by simpa using c)) ?_⟩<;>rw[MM g]<;>exact h
theorem IX(d:T.K=X.K)(hu:X.A.units+9<cLine):gh X (Ab .In) (rD T (gC false)):=by
 intro b s st H v u l k Q I j i h;obtain⟨E,m,c,x,y,r,f,g,hp⟩:=h;unfold gC at hp;cases e:Vk c y with
 |none=>rw[e]at hp;exact hp.elim
 |some xs=>
  rw[e]at hp;dsimp only at hp;cases a:Gv c x xs with
  |none=>rw[a]at hp;exact hp.elim
  |some bs=>
   rw[a]at hp;exact(T0 d hu I r f g j i e a).1 ⟨.bl (bs.any id),H,I,rfl,Ib.here hp r (by rw[Rep];rfl)⟩
end
section
variable{T:Tb}{X:Cx}
end
section
variable{T:Tb}{X:Cx}{tg iter:Ga}{f:Ev->M D}
end
section
variable{T:Tb}{X:Cx}{o e:Ga}{es:List Ga}{f:Ev->M D}{fs:Ev->M (List D)}{name:ma}{apos cpos:Ae}{id:String}{r:V->List V->Hp->VK->Prop}{g:D->List D->M D}
end
noncomputable def sj:Ev->M Fl:=λ_ _=>.bad
section
variable{X:Cx}{pins:List (Addr × gc)}{σ:St}{H:Hp}{s:aa}{h':Heap}
theorem oz{H:Hp}{a b:Addr}{u:HO}(e:H b=some u)(n:H a=none):b≠a:=λz=>by rw[z,n]at e;cases e
theorem _root_.L2.Inv.ur{t':Nat}{its:List Addr}{p:Addr}{o:HO}(I:Inv X pins σ H s)(k:∀ b u,b ∉ its->s.heap.get? b=some u->h'.get? b=some u)(f:∀ b∈its,Ck X pins H b)(hp:s.heap.objs.size<=p)(g:mi X.prog X.w (upd H p o) h' p o) :
  Inv X pins σ (upd H p o) { s with heap:=h',toks:=t' }:=by
 have hn:H p=none:=I.Qb.fresh hp;have d:∀ b u,H b=some u->b ∉ its:=λb u e z=>by rw[(f b z).1]at e;cases e
 refine I.step (g':=s.gens) (d':=s.drawn) (ch:=its) (λb hb=>?_) (λb o _ _ a e _=>k b o a e) (λb o _ _ a e _=>⟨o.slots,k b o a e⟩) (λb u _ q n=>by rw[jd (Ba (Ca (qa q) hp))];exact n)
  (λb o a e=>⟨o,k b o a e⟩) (λb xs q=>by rw[jd (oz q hn)];exact q) (λb u xs q=>by rw[jd (oz q hn)];exact q) (λb C q=>⟨#[],by rw[jd (oz q hn),q];simp⟩) (λm hm=>?_) (λb u e=>?_) I.bare
 ·obtain⟨A,j,B,l,t,x⟩:=f b hb;exact⟨l,j,t,x⟩
 ·obtain⟨o,i,h,y,r⟩:=hm;exact⟨o,i,h,k _ o (λz=>(f _ z).2.1 rfl) y,r⟩
 ·by_cases hb:b=p
  ·subst hb;rw[rg]at e;cases e;exact g
  ·rw[jd hb]at e;refine(I.Qb b u e).ej (λc v a q=>k c v ?_ q) (λc q=>by rw[jd (oz q hn)];exact q) λc xs q=>by rw[jd (oz q hn)];exact q
   rcases a with z|z
   ·rw[z];exact d b u e
   ·exact d c _ z
theorem _root_.L2.Inv.yr{t':Nat}{its:List Addr}(I:Inv X pins σ H s)(k:∀ b u,b ∉ its->s.heap.get? b=some u->h'.get? b=some u)(f:∀ b∈its,Ck X pins H b):Inv X pins σ H { s with heap:=h',toks:=t' }:=by
 have d:∀ b u,H b=some u->b ∉ its:=λb u e z=>by rw[(f b z).1]at e;cases e
 refine I.step (g':=s.gens) (d':=s.drawn) (ch:=its) (λb hb=>?_) (λb o _ _ a e _=>k b o a e) (λb o _ _ a e _=>⟨o.slots,k b o a e⟩) (λb u _ q n=>n)
  (λb o a e=>⟨o,k b o a e⟩) (λb xs q=>q) (λb u xs q=>q) (λb y q=>⟨#[],by rw[q];simp⟩) (λm hm=>?_) (λb u e=>?_) I.bare
 ·obtain⟨w,i,x,j,l,p⟩:=f b hb;exact⟨j,i,l,p⟩
 ·obtain⟨o,h,g,t,r⟩:=hm;exact⟨o,h,g,k _ o (λz=>(f _ z).2.1 rfl) t,r⟩
 ·refine(I.Qb b u e).ej (λc v a q=>k c v ?_ q) (λ_ q=>q) λ_ _ q=>q;rcases a with z|z
  ·rw[z];exact d b u e
  ·exact d c _ z
end
theorem Dn{h:Heap}{a b:Addr}{o i:gc}{n g:String}(e:h.get? a=some o)(f:h.get? b=some i)(c:o.cls=.type n)(d:i.cls=.type g)(hn:n≠g):a≠b:=λz=>by
 subst z;rw[e]at f;cases f;rw[c]at d;injection d with q;exact hn q
noncomputable def UH(K:W.Frag)(l:Addr):It:=
 ⟨λi H=>∃ xs x,Me K H l xs/\xs[i]?=some x,λi H v a=>∃ p x,H p=none/\v=.ref p/\(∀ xs,Me K H l xs->xs[i]?=some x)/\a=upd H p (.tup [.int i,x]),λi H=>∃ xs,Me K H l xs/\i=xs.length⟩
noncomputable def HJ(K:W.Frag)(l m:Addr):It:=
 ⟨λi H=>∃ xs a x y,Me K H l xs/\Me K H m a/\xs[i]?=some x/\a[i]?=some y,λi H v b=>∃ p x y,H p=none/\v=.ref p/\(∀ xs,Me K H l xs->xs[i]?=some x)/\(∀ a,Me K H m a->a[i]?=some y)/\b=upd H p (.tup [x,y]),
  λi H=>∃ xs a,Me K H l xs/\Me K H m a/\i=min xs.length a.length⟩
theorem F0{P:ra}{w:Ea}{K:PySem.W.Frag}{g:List Ga}{kk:Nat}{D:Ae}(l e it:Addr):Turn P w K (.Tuple g kk D) (UH K l) [e,it] e (λi h=>(∃ a,IsEnum h e it i a)/\h.IsListIter it l i) where
 mem:=by simp
 obj:=λi h st b hb=>by
  obtain⟨⟨a,s1⟩,o,s2,c,d⟩:=st;simp only[Pa,yd,Hl]at hb;rcases hb with rfl|rfl
  ·exact⟨_,s1,λv z=>by cases z⟩
  ·exact⟨o,s2,λv z=>by rw[d]at z;cases z⟩
 keep:=λi h G st k=>by
  obtain⟨⟨a,s1⟩,s2⟩:=st;exact⟨⟨a,k e (by simp) _ s1⟩,s2.at λo q=>k it (by simp) o q⟩
 item:=by
  intro X O V N S i C s σ H E I J st U;subst O V N;obtain⟨xs,x,L,Y⟩:=U;obtain⟨f,rv,p,hz⟩:=I.list L;obtain⟨u,hu,ru⟩:=rv.get Y;obtain⟨⟨a,s1⟩,s2⟩:=st;obtain⟨oa,ea,ca,_⟩:=id p.isList;obtain⟨ob,F,cb,_⟩:=id s2;have a0:l≠e:=Dn ea s1 ca rfl (by decide);have a1:l≠it:=Dn ea F ca cb (by decide);have Z:e≠it:=Dn s1 F rfl cb (by decide);have W:=WalksT.enumerate (prog:=X.prog) (w:=X.w) (A:=X.A) (I.ok.hd S) e it l Z a0 a1 f.toArray;have hi:i<f.toArray.size:=by
   have:=(ja.mp hu).1;simpa using this
  refine W.item i s _ E hi ⟨⟨a,s1⟩,s2,p.isList⟩ λT a2 G tk R hT n j hk=>?_;obtain⟨t,y,M,rfl⟩:=R;have ey:y=u:=by
   have:f.toArray[i]?=some u:=by simpa using hu
   rw[this]at M;cases M;rfl
  subst ey;refine⟨.ref T,rfl,W.go g kk D i T { s with heap:=G,toks:=tk } _ E j λh2 hS B=>?_⟩;have r:=W.apart i T G j;have m:h2.IsTuple T #[.int i t,y]:=by
   obtain⟨o,e1,c1⟩:=n;exact⟨o,B T o r e1,c1⟩
  have hn:H T=none:=I.Qb.fresh hT;refine⟨.ref T,upd H T (.tup [.int i,x]),I.ur (o:=.tup [.int i,x]) (λb o hb q=>B b o hb (hk b o hb q)) J hT ?_,rfl,⟨T,x,hn,rfl,λys M=>by rw[I.wj M L];exact Y,rfl⟩,⟨hS.1,hS.2.1⟩,λb hb=>?_⟩
  ·exact⟨(show (2:Nat)<=sizeLine by decide),[.int i t,y],.cons ⟨t,rfl⟩ (.cons ru .nil),m⟩
  ·rw[jd (λz=>r (by rw[<-z];exact hb))];exact(J b hb).1
 done:=by
  intro X O V N S i C s σ H E I J st U;subst O V N;obtain⟨xs,L,Y⟩:=U;obtain⟨f,rv,p,hz⟩:=I.list L;obtain⟨⟨a,s1⟩,s2⟩:=st;have hl:=rv.length;exact wpAny_pyNext_enum_end (I.ok.hd S) s1 s2 p.isList (by simp;omega) λG F=>⟨rfl,I.yr (t':=s.toks) (λb o hb q=>F b o (λz=>hb (by simp[z])) q) J⟩
 self:=λA i s Q E st h=>by
  obtain⟨⟨a,s1⟩,s2⟩:=st;exact Rx s1 h
theorem vN{h:Heap}{l m z TI TO q r:Addr}{k1 k2:Nat}{xs ys:Array Value}{a b c d:Value}{f:Value}(s:TI≠TO)(t:q≠r)(u:h.IsList l xs)(v:h.IsList m ys)(s1:IsZip h z TI TO f)(s2:dH h TI a b)(s3:dH h TO c d)(w:h.IsListIter q l k1)(x:h.IsListIter r m k2):ZipApart z TI TO q r l m:=by
 obtain⟨y,o,k,_⟩:=u;obtain⟨A,p,n,_⟩:=v;obtain⟨B,i,e,_⟩:=w;obtain⟨C,j,g,_⟩:=x;exact⟨Dn s2 s1 rfl rfl (by decide),Dn s3 s1 rfl rfl (by decide),Dn i s1 e rfl (by decide),Dn j s1 g rfl (by decide),s,Dn s2 i rfl e (by decide),Dn s2 j rfl g (by decide),Dn s3 i rfl e (by decide),Dn s3 j rfl g (by decide),t,
  Dn o s1 k rfl (by decide),Dn o s3 k rfl (by decide),Dn o i k e (by decide),Dn o j k g (by decide),Dn p s1 n rfl (by decide),Dn p s3 n rfl (by decide),Dn p i n e (by decide),Dn p j n g (by decide)⟩
theorem gW{P:ra}{w:Ea}{K:PySem.W.Frag}{B:List Ga}{kk:Nat}{Y:Ae}(l m z TI TO f g:Addr)(d1:TI≠TO)(d2:f≠g) :
  Turn P w K (.Tuple B kk Y) (HJ K l m) [z,TI,TO,f,g] z (λi h=>IsZip h z TI TO .none/\dH h TI (.ref f) (.ref g)/\(∃ a b,dH h TO a b)/\h.IsListIter f l i/\h.IsListIter g m i) where
 mem:=by simp
 obj:=λi h st b hb=>by
  obtain⟨s1,s2,⟨a,c,j⟩,⟨o4,n,c4,d4⟩,⟨o5,r,c5,d5⟩⟩:=st;simp only[Pa,yd,Hl]at hb;rcases hb with rfl|rfl|rfl|rfl|rfl
  ·exact⟨_,s1,λv z=>by cases z⟩
  ·exact⟨_,s2,λv z=>by cases z⟩
  ·exact⟨_,j,λv z=>by cases z⟩
  ·exact⟨o4,n,λv z=>by rw[d4]at z;cases z⟩
  ·exact⟨o5,r,λv z=>by rw[d5]at z;cases z⟩
 keep:=λi h Z st k=>by
  obtain⟨s1,s2,⟨a,c,j⟩,n,r⟩:=st;exact⟨k z (by simp) _ s1,k TI (by simp) _ s2,⟨a,c,k TO (by simp) _ j⟩,n.at λo q=>k f (by simp) o q,r.at λo q=>k g (by simp) o q⟩
 item:=by
  intro X hP hw hK hc i V s σ H E I hf st hg;subst hP hw hK;obtain⟨xs,ys,x,y,hq,t,hx,hy⟩:=hg;obtain⟨e,rv,p,S⟩:=I.list hq;obtain⟨d,G,U,a2⟩:=I.list t;obtain⟨u,hu,ru⟩:=rv.get hx;obtain⟨u2,N,a4⟩:=G.get hy;obtain⟨s1,s2,⟨a,c,j⟩,n,r⟩:=st;have D:=vN d1 d2 p.isList U.isList s1 s2 j n r;have W:=xw (prog:=X.prog) (w:=X.w) (A:=X.A) (I.ok.hd hc) z TI TO f g l m D e.toArray d.toArray;have hi:i<min e.toArray.size d.toArray.size:=by
   have h1:=(ja.mp hu).1;have h2:=(ja.mp N).1;simp;omega
  refine W.item i s _ E hi ⟨s1,s2,⟨a,c,j⟩,n,r,p.isList,U.isList⟩ λT a5 Z tk a0 hT L C hk=>?_;obtain⟨v1,v2,O,R,rfl⟩:=a0;have e1:v1=u:=by
   have:e.toArray[i]?=some u:=by simpa using hu
   rw[this]at O;cases O;rfl
  have e2:v2=u2:=by
   have:d.toArray[i]?=some u2:=by simpa using N
   rw[this]at R;cases R;rfl
  subst e1;subst e2;refine⟨.ref T,rfl,W.go B kk Y i T { s with heap:=Z,toks:=tk } _ E C λh2 J M=>?_⟩;have a1:=W.apart i T Z C;have F:h2.IsTuple T #[v1,v2]:=by
   obtain⟨o,e1,c1⟩:=L;exact⟨o,M T o a1 e1,c1⟩
  have hn:H T=none:=I.Qb.fresh hT;have sub:∀ b,b ∉ [z,TI,TO,f,g]->b ∉ [z,TO,f,g]:=λb hb hm=>hb (by simp at hm ⊢;rcases hm with h|h|h|h<;>simp[h]);have a3:∀ b∈[z,TI,TO,f,g],b<s.heap.objs.size:=λb hb=>by
   simp only[Pa,yd,Hl]at hb;rcases hb with rfl|rfl|rfl|rfl|rfl
   ·exact qa s1
   ·exact qa s2
   ·exact qa j
   ·obtain⟨o,q,_⟩:=n;exact qa q
   ·obtain⟨o,q,_⟩:=r;exact qa q
  refine⟨.ref T,upd H T (.tup [x,y]),I.ur (o:=.tup [x,y]) (λb o hb q=>M b o (sub b hb) (hk b o (sub b hb) q)) hf hT ?_,rfl,⟨T,x,y,hn,rfl,λzs S=>by rw[I.wj S hq];exact hx,λzs S=>by rw[I.wj S t];exact hy,rfl⟩,⟨J.1,J.2.1,J.2.2.1,J.2.2.2.1,J.2.2.2.2.1⟩,λb hb=>?_⟩
  ·exact⟨(show (2:Nat)<=sizeLine by decide),[v1,v2],.cons ru (.cons a4 .nil),F⟩
  ·rw[jd (Ba (Ca (a3 b hb) hT))];exact(hf b hb).1
 done:=by
  intro X hP hw hK hc i V s σ H E I hf st hg;subst hP hw hK;obtain⟨xs,ys,hq,t,hx⟩:=hg;obtain⟨e,rv,p,S⟩:=I.list hq;obtain⟨d,G,U,a2⟩:=I.list t;obtain⟨s1,s2,⟨a,c,j⟩,n,r⟩:=st;have D:=vN d1 d2 p.isList U.isList s1 s2 j n r;have W:=xw (prog:=X.prog) (w:=X.w) (A:=X.A) (I.ok.hd hc) z TI TO f g l m D e.toArray d.toArray;have hl:=rv.length;have a6:=G.length;have ei:i=min e.toArray.size d.toArray.size:=by simp;omega
  subst ei;have sub:∀ b,b ∉ [z,TI,TO,f,g]->b ∉ [z,TO,f,g]:=λb hb hm=>hb (by simp at hm ⊢;rcases hm with h|h|h|h<;>simp[h]);exact W.done s _ E ⟨s1,s2,⟨a,c,j⟩,n,r,p.isList,U.isList⟩ λZ tk hk=>⟨rfl,I.yr (t':=tk) (λb o hb q=>hk b o (sub b hb) q) hf⟩
 self:=λA i s Q E st h=>cA st.1 h
noncomputable abbrev NX:=Nat->ub->Option (Option D)
noncomputable def Sq(T:Tb)(c:List Addr)(f:Hp)(nx:NX)(J:It):Prop:=∀ a H e i,Ext c f a H->Rel T a H e->match nx i e with
 |none=>True
 |some none=>J.stop i H
 |some (some d)=>J.go i H/\∀ x b,J.gx i H x b->Ext a H a b/\Rel T a b e/\Rep T a b d x
noncomputable def VU(T:Tb)(X:Cx)(f:Ev->M NX):TI:=λst H R=>∃ a b c,Lg T a H b st/\Rel T a H c/\Ib T (XE X st) (Sq T) a H (f b c) R
noncomputable abbrev Qu(T:Tb)(X:Cx)(b a:Ga)(f:Ev->M NX):Prop:=PI X b a (VU T X f)
noncomputable def Ao(nx:NX)(e:D->Ev->Option Ev)(a:Ev->M Fl):Nat->Nat->Ev->M Fl
 |0,_,_=>bad
 |k+1,i,f=>λc=>match nx i c with
  |none=>.bad
  |some none=>.ok (.nx f) c
  |some (some d)=>match e d f with
   |none=>.bad
   |some b=>Pc (a b) (Rt (Ao nx e a k (i+1))) c
noncomputable def XC(b:D->Ev->Option Ev)(a:Ev->M Fl)(ρ:Ev)(nx:NX):M Fl:=Ao nx b a 1001 0 ρ
noncomputable def nq(src:Ev->M NX)(c:D->Ev->Option Ev)(a:Ev->M Fl):Ev->M Fl:=λb=>xs b (src b) (XC c a b)
section
variable{T:Tb}{X:Cx}{tgt iter:Ga}{body:List Stmt}{src:Ev->M NX}{t:D->Ev->Option Ev}{g:Ev->M Fl}{pos:Ae}
theorem Kz(hp:On (model X.prog X.w) X.A X.env X.xe)(Z:X.calm=true)(hi:Qu T X tgt iter src)(hg:FG T X tgt t)(hb:xn T X body g)
  (hs:∀ x,dg iter X.env x=pure x:=by intro _;rfl):FS T X (.For tgt iter body [] pos) (nq src t g):=by
 intro v s st H D I hq;refine iM hp Z hi hg hb hs v s st H D I ?_;obtain⟨b,e,q,G,hr,hp⟩:=hq;refine⟨b,e,q,G,hr,hp.xs G λnx C c J E _ W r1 q1 p1=>?_⟩;have O:Ib T EN (nk T) c E (Ao nx t g 1001 0 e C) (qj X D):=p1;refine⟨λi m l r=>∃ b e q,Ext c E b r/\Lg T b r e l/\Rel T b r q/\Ib T EN (nk T) b r (Ao nx t g m i e q) (qj X D),⟨1001,c,e,C,Ext.refl _ _,G.mono W,r1,O⟩,?_⟩;rintro i m l r ⟨p,z,f,ex,u,S,a⟩;cases m with
 |zero=>exact a.elim
 |succ m=>
  unfold Ao at a;have so:=q1 p r f i ex S;cases F:nx i f with
  |none=>simp only[F]at a;exact a.elim
  |some o=>
   cases o with
   |none=>
    simp only[F]at a so;exact .inl ⟨so,Ib.here (g:=wl.nx l) a S u⟩
   |some d=>
    simp only[F]at a so;obtain⟨M,hy⟩:=so;refine .inr ⟨M,λn j=>∃ b e q,Ext c E b j/\Lg T b j e n/\Rel T b j q/\Ib T EN (nk T) b j (Ao nx t g m (i+1) e q) (qj X D),λn j h=>⟨m,Gc _,h⟩,λx j y=>?_⟩;obtain⟨k,U,hx⟩:=hy x j y;cases N:t d z with
    |none=>simp only[N]at a;exact a.elim
    |some B=>
     simp only[N]at a;exact⟨p,f,z,d,B,u.mono k,U,hx,N,λn K=>⟨p,B,f,K,U,(Ib.mono k a).bind λfl R P gl H4 _ Y V q4 p4=>WF V q4 p4 λQ a0 L p5=>⟨P,Q,R,(ex.trans k).trans Y,L,V,p5⟩⟩⟩
end
noncomputable def Ot(a:D):NX:=λi b=>match Qg b a with
 |some xs=>(match xs[i]? with
  |some x=>some (some (.tup [.int (i:Int),x]))
  |none=>if i=xs.length then some none else none)
 |none=>none
noncomputable def mw(a b:D):NX:=λi d=>match Qg d a with
 |some xs=>(match Qg d b with
  |some c=>(match xs[i]? with
   |some x=>(match c[i]? with
    |some y=>some (some (.tup [x,y]))
    |none=>if i=min xs.length c.length then some none else none)
   |none=>if i=min xs.length c.length then some none else none)
  |none=>none)
 |none=>none
noncomputable def Ix(d:D):M NX:=λa=>match Qg a d with
 |some _=>.ok (Ot d) a
 |none=>.bad
noncomputable def oF(f:Ev->M D):Ev->M NX:=λa=>Pc (f a) Ix
noncomputable def aG(a b:D):M NX:=λc=>match Qg c a with
 |some _=>(match Qg c b with
  |some _=>.ok (mw a b) c
  |none=>.bad)
 |none=>.bad
noncomputable def bJ(m:M D)(a:D):M NX:=Pc m (aG a)
noncomputable def Wv(f g:Ev->M D):Ev->M NX:=λa=>Pc (f a) (bJ (g a))
section
variable{T:Tb}{X:Cx}{elts:List Ga}{kk:Nat}{p0 p pos:Ae}{f g:Ev->M D}
theorem P1:bootBuiltins "enumerate" = some (.type "enumerate"):=by decide +kernel
theorem uQ:bootBuiltins "zip" = some (.type "zip"):=by decide +kernel
noncomputable def n3(K:W.Frag)(b:TA):TI:=λd H R=>b d H λc a=>∃ l xs,c=[.ref l]/\Me K a l xs/\R (UH K l) a
theorem T2{a:Ga}{g:TA}(k:Gl X "enumerate")(hm:X.mg "enumerate" = none)(j:PA X [a] g)(hs:pa [a] X.env=[(false,Wb a X.env)]:=by rfl):PI X (.Tuple elts kk p0) (.Call (.Name "enumerate" p) [a] [] pos) (n3 X.K g):=by
 intro d s v H R I h;refine Call_ (Wu I k hm P1 (re (zd (j pos d s v H _ I h) λus s1 ⟨A,H1,f,t,o⟩=>?_) hs rfl));obtain⟨l,xs,e,m,q⟩:=o;subst e;cases t with
 |cons r u=>
  cases u;cases r;obtain⟨n,z,pl,y⟩:=f.list m;refine call_enumerate_list pl.isList λx a1 a2 w i=>Rx a1 ?_;refine⟨s1.heap.objs.size+1,[s1.heap.objs.size+1,s1.heap.objs.size],_,_,H1,rfl,f.kept (t':=s1.toks) i,F0 l _ _,⟨⟨_,a1⟩,a2⟩,λb hb=>?_,q⟩;have c:s1.heap.objs.size<=b:=by simp at hb;rcases hb with rfl|rfl<;>omega
  exact f.Do c (f.Qb.fresh c)
theorem oT{e:Ga}(G:Gl X "enumerate")(hm:X.mg "enumerate" = none)(h:FE T X e f)(hs:pa [e] X.env=[(false,Wb e X.env)]:=by rfl):Qu T X (.Tuple elts kk p0) (.Call (.Name "enumerate" p) [e] [] pos) (oF f):=by
 intro k s st H R I L;refine T2 G hm (ou h nv hs) hs k s st H R I ?_;obtain⟨O,S,U,F,J,hp⟩:=L;refine⟨O,S,U,F,J,hp.bind λd r P v W _ Z A w j=>?_⟩;unfold Ix at j;cases m:Qg r d with
 |none=>rw[m]at j;exact j.elim
 |some ds=>
  rw[m]at j;obtain⟨l,N,rfl,h1,h2⟩:=A.ls w m;refine⟨l,N,rfl,Me.of h1,Ib.here (R:=Sq T) j A λQ C t i ex B=>?_⟩;unfold Ot;cases n:Qg t d with
  |none=>trivial
  |some xs=>
   obtain⟨l',ws,D,h3,h4⟩:=B.ls (Rep.mono ex _ _ w) n;cases D;have b:Me X.K C l ws:=Me.of h3;dsimp only;cases E:xs[i]? with
   |none=>
    dsimp only;by_cases o:i=xs.length
    ·rw[da o];exact⟨ws,b,by rw[o];exact h4.length⟩
    ·rw[ka o];trivial
   |some Y=>
    obtain⟨x,u,M⟩:=h4.get E;refine⟨⟨ws,x,b,u⟩,λz V y=>?_⟩;obtain⟨q,x',a,rfl,c,rfl⟩:=y;have g:=c ws b;rw[u]at g;cases g;refine⟨fk a,B.fresh a,?_⟩;rw[Rep];exact⟨q,_,rfl,rg,Qa.cons (by rw[Rep]) (Qa.cons (Rep.mono (fk a) _ _ M) Qa.nil)⟩
noncomputable def IQ(K:W.Frag)(b:TA):TI:=λe H R=>b e H λc a=>∃ l m xs d,c=[.ref l,.ref m]/\Me K a l xs/\Me K a m d/\R (HJ K l m) a
theorem YQ{a b:Ga}{o:TA}(y:Gl X "zip")(hm:X.mg "zip" = none)(x:PA X [a,b] o)(hs:pa [a,b] X.env=[(false,Wb a X.env),(false,Wb b X.env)]:=by rfl)(f:pa [b] X.env=[(false,Wb b X.env)]:=by rfl):PI X (.Tuple elts kk p0) (.Call (.Name "zip" p) [a,b] [] pos) (IQ X.K o):=by
 intro g s G H R I h;refine Call_ (Wu I y hm uQ (re (zd (x pos g s G H _ I h) λus s1 ⟨O,H1,c,E,C⟩=>?_) (by rw[hs,f]) (by rw[f];rfl)));obtain⟨l,m,xs,P,e,z,i,q⟩:=C;subst e;cases E with
 |cons r k=>
  cases k with
  |cons D k=>
   cases k;cases r;cases D;obtain⟨B,N,pl,M⟩:=c.list z;obtain⟨n,F,j,A⟩:=c.list i;refine call_zip_2 pl.isList j.isList λL a1 a2 t u v J w=>cA a1 ?_;refine⟨s1.heap.objs.size+4,[s1.heap.objs.size+4,s1.heap.objs.size+2,s1.heap.objs.size+3,s1.heap.objs.size,s1.heap.objs.size+1],_,_,H1,rfl,c.kept (t':=s1.toks) w,gW l m (s1.heap.objs.size+4) (s1.heap.objs.size+2) (s1.heap.objs.size+3) s1.heap.objs.size (s1.heap.objs.size+1) (show (s1.heap.objs.size+2:Nat)≠s1.heap.objs.size+3 by omega) (show (s1.heap.objs.size:Nat)≠s1.heap.objs.size+1 by omega),⟨a1,a2,⟨_,_,t⟩,u,v⟩,λb hb=>?_,q⟩;have d:s1.heap.objs.size<=b:=by simp at hb;rcases hb with rfl|rfl|rfl|rfl|rfl<;>omega
   exact c.Do d (c.Qb.fresh d)
theorem BR{e a:Ga}(hg:Gl X "zip")(hm:X.mg "zip" = none)(h:FE T X e f)(h':FE T X a g)(hs:pa [e,a] X.env=[(false,Wb e X.env),(false,Wb a X.env)]:=by rfl)(t:pa [a] X.env=[(false,Wb a X.env)]:=by rfl) :
  Qu T X (.Tuple elts kk p0) (.Call (.Name "zip" p) [e,a] [] pos) (Wv f g):=by
 intro B s st H R I hw;refine YQ hg hm (ou h (ou h' nv t) (by rw[hs,t])) hs t B s st H R I ?_;obtain⟨μ,ρ,σ,W,hr,hp⟩:=hw;refine⟨μ,ρ,σ,W,hr,hp.bind λd P O v H1 _ e1 r1 q1 p1=>⟨O,ρ,P,W.mono e1,r1,p1.bind λS D a2 v2 H2 _ e2 L q2 k=>?_⟩⟩;unfold aG at k;cases G:Qg D d with
 |none=>rw[G]at k;exact k.elim
 |some ds=>
  rw[G]at k;dsimp only at k;cases n:Qg D S with
  |none=>rw[n]at k;exact k.elim
  |some a1=>
   rw[n]at k;have C:=Rep.mono e2 _ _ q1;obtain⟨l,vs,rfl,h1,h2⟩:=L.ls C G;obtain⟨m,ws,rfl,h3,h4⟩:=L.ls q2 n;refine⟨l,m,vs,ws,rfl,Me.of h1,Me.of h3,Ib.here (R:=Sq T) k L λa3 Q E i ex M=>?_⟩;unfold mw;cases fl:Qg E d with
   |none=>trivial
   |some xs=>
    obtain⟨l',us,a,h5,U⟩:=M.ls (Rep.mono ex _ _ C) fl;cases a;dsimp only;cases J:Qg E S with
    |none=>trivial
    |some N=>
     obtain⟨m',us2,a,h7,V⟩:=M.ls (Rep.mono ex _ _ q2) J;cases a;have c:Me X.K Q l us:=Me.of h5;have j:Me X.K Q m us2:=Me.of h7;have l1:=U.length;have l2:=V.length;dsimp only;cases ei:xs[i]? with
     |none=>
      dsimp only;by_cases r:i=min xs.length N.length
      ·rw[da r];exact⟨us,us2,c,j,by rw[r,l1,l2]⟩
      ·rw[ka r];trivial
     |some d'=>
      dsimp only;cases F:N[i]? with
      |none=>
       dsimp only;by_cases r:i=min xs.length N.length
       ·rw[da r];exact⟨us,us2,c,j,by rw[r,l1,l2]⟩
       ·rw[ka r];trivial
      |some a0=>
       obtain⟨x,Y,rx⟩:=U.get ei;obtain⟨y,Z,ry⟩:=V.get F;refine⟨⟨us,us2,x,y,c,j,Y,Z⟩,λz H' yy=>?_⟩;obtain⟨q,x',y',b,rfl,u,o,rfl⟩:=yy;have w:=u us c;rw[Y]at w;cases w;have A:=o us2 j;rw[Z]at A;cases A;refine⟨fk b,M.fresh b,?_⟩;rw[Rep];exact⟨q,_,rfl,rg,Qa.cons (Rep.mono (fk b) _ _ rx) (Qa.cons (Rep.mono (fk b) _ _ ry) Qa.nil)⟩
end
open PySem.Builtin.Str (occurrences partsBetween subAt)
end L4
namespace L4
open PySem PySem.Spec PyProof.Rows L2
section
variable{T:Tb}{X:Cx}{a b c:Ga}{fa fb fc:Ev->M D}{pos:Ae}
end
noncomputable def mG(ρ:Ev)(c:Nat)(f:ma)(x:D)(a:Int)(y:D):M Fl:=λd=>match y with
 | .int b=>(match x with
  | .ref n=>(match d[n]? with
   |some (.ins e fs)=>if (e == c && decide (fs.length<1000))=true then .ok (.nx ρ) (d.set n (.ins c (Sl f (.int (a+b)) fs)))else .bad
   |_=>.bad)
  |_=>.bad)
 |_=>.bad
noncomputable def Fw(ρ:Ev)(cs:List Nat)(f:ma)(d:Ev->M D)(x:D):M Fl:=λb=>match jm b x with
 |some (c,fs)=>if cs.contains c=true then (match fs.lookup f with
  |some (.int a)=>xs ρ (d ρ) (mG ρ c f x a) b
  |_=>.bad)else .bad
 |none=>.bad
noncomputable def yA(cs:List Nat)(f:ma)(c b:Ev->M D):Ev->M Fl:=λa=>xs a (b a) (Fw a cs f c)
section
variable{T:Tb}{X:Cx}
theorem FK{o e:Ga}{f:ma}{W V:Ev->M D}{N B:Ae}{cs:List Nat}(hK:T.K=X.K)(hc:cm T cs f)(ho:FE T X o V)(hv:FE T X e W):FS T X (.AugAssign (.Attribute o f B) .Add e N) (yA cs f W V):=by
 intro A s st H D I hq;refine qR ho hv aS A s st H D I ?_;obtain⟨μ,ρ,σ,u,hr,hp⟩:=hq;refine⟨μ,ρ,σ,u,hr,hp.xs u λx E Q vo H1 _ G r1 q1 d=>?_⟩;unfold Fw at d;cases J:jm E x with
 |none=>rw[J]at d;exact d.elim
 |some p=>
  obtain⟨c,fs⟩:=p;rw[J]at d;dsimp only at d;by_cases l:cs.contains c=true
  ·rw[da l]at d;obtain⟨a,dx,vs,rfl,h1,h2⟩:=Iw r1 q1 J;cases L:fs.lookup f with
   |none=>rw[L]at d;exact d.elim
   |some y=>
    rw[L]at d;cases y with
    |int i=>
     obtain⟨w,h3,h4⟩:=(Iz h2).1 _ L;obtain⟨Y,Z⟩:=hc c l;rw[hK]at Y Z;refine⟨a,_,dx,vs,w,rfl,h1,Y,Z,h3,Q,ρ,E,u.mono G,r1,d.xs (u.mono G) λz R C vz S _ U r2 q2 b=>?_⟩;unfold mG at b;cases z with
     |int j=>
      refine⟨i,j,Tn h4,Tn q2,?_⟩;have O:=Rep.mono U _ _ q1;cases x with
      |ref n=>
       dsimp only at b;cases k:R[n]? with
       |none=>rw[k]at b;exact b.elim
       |some ob=>
        rw[k]at b;cases ob with
        |lst _=>exact b.elim
        |Lb _=>exact b.elim
        |Be _=>exact b.elim
        |cj _=>exact b.elim
        |ins F q=>
         dsimp only at b;by_cases h:(F == c && decide (q.length<1000))=true
         ·rw[da h]at b;rw[ya,Fc,Zf]at h;obtain⟨v,hl⟩:=h;subst v;obtain⟨a',ea,hn,g,m,r,t⟩:=r2.at O k;cases ea;have ex:Ext C S C (upd S a (.ins (T.ca F) g (Zl f (.int (i+j)) m))):=Pt (Ja hn) r (λ_ z=>by cases z) (λ_ _ z=>by cases z);have P:=r2.write (o:=.ins (T.ca F) g (Zl f (.int (i+j)) m)) (ob:=.ins F (Sl f (.int (i+j)) q)) hn ⟨g,_,rg,AF (by rw[Rep]) (lq.mono ex t)⟩;exact⟨g,m,r,by rw[<-t.length];exact hl,b _ (.nx st) _ P.1 P.2 ((u.mono G).mono U |>.mono P.1)⟩
         ·rw[ka h]at b;exact b.elim
      |_=>exact b.elim
     |_=>exact b.elim
    |_=>exact d.elim
  ·rw[ka l]at d;exact d.elim
noncomputable def Vw(y x:D):M D:=λb=>match Gn y with
 |some k=>(match rl b x with
  |some a=>.ok (.bl (!(jq a k).isSome)) b
  |none=>.bad)
 |none=>.bad
noncomputable def gL:R2:=λy x H Q=>∃ a o,x=.ref a/\qi H a y o/\Q (.bl (!o.isSome)) H
theorem JN(hu:X.A.units+9<cLine):gh X (Ab .NotIn) gL:=by
 intro b s st H y x f u Q I e d h;obtain⟨a,o,rfl,g,q⟩:=h;obtain rfl:u=eb a:=d;exact O1 (by omega) I g e λi c=>⟨.bl (!o.isSome),H,c,rfl,q⟩
theorem tH:Kj T gL Vw:=by
 intro E n H l y x u v Q r q p h;unfold Vw at h;cases c:Gn y with
 |none=>rw[c]at h;exact h.elim
 |some k=>
  rw[c]at h;dsimp only at h;cases b:rl l x with
  |none=>rw[b]at h;exact h.elim
  |some i=>
   rw[b]at h;obtain⟨a,j,rfl,h1,g⟩:=Tv r p b;obtain rfl:=ax q c;refine⟨a,vl j k,rfl,qi.kr h1,Ib.here h r ?_⟩;rw[Rep];rcases Gx g k with⟨e,f⟩|⟨d,w,e,f,m⟩
   ·rw[e,f];rfl
   ·rw[e,f];rfl
noncomputable def kt(T:Tb)(P:ra)(w:Ea)(mg:ma->Option Value)(base:Heap)(k:Nat)(f:Addr)(ps:List ma)(b:List Value)(fn:List D->M D):Prop:=
 ∃ a,ip T.K a ps []/\ip T.K a ps b/\Dg P w T.K mg base (jl P w) k f a ps (ln T ps.length fn)
structure Qr(K:W.Frag)(C:Addr)(x qual:ma)(st:Stmt)(ps:List ma)(dv:List Value)(f:Addr):Prop where
 ex:∃ fd,(∃ (oc:Value) (od:Option Addr) (dV kV doc pm:Value) (an:Option Addr) (cdv ct:Value) (osl:Array (Option Value)),
  fd=W.fnOf x qual (Em st) (Ni st) (Ec st) dV kV doc pm an cdv ct/\K.lookup f=some ⟨oc,od,.func fd,osl⟩/\W.codeIn K cdv qual=true)/\ip K fd ps []/\ip K fd ps dv
end
section
variable{P:ra}{w:Ea}{K:W.Frag}{mg:ma->Option Value}{base:Heap}{ca:Nat->Addr}{tx:Tx}
theorem kZ{k:Nat}{C f:Addr}{x qual:ma}{st:Stmt}{ps N:List ma}{c:List Value}{g:Ev->M Fl}(h:Qr K C x qual st ps c f)(S:wa N ps (Ec st))
  (hb:∀ (a:Value) (A:Da) (outer:List ag) (s:aa) (H:Hp) (E:XK),vd k (A.deeper (eg qual (Ec st) s.heap.objs.size f a))->xn ⟨K,ca,tx⟩ (Bo (jl P w) P w K mg base N qual (Ec st) f a A outer s H E) (Ni st) g) :
  kt ⟨K,ca,tx⟩ P w mg base (k+1) f ps c (run N.length g):=by
 obtain⟨o,⟨p,q,n,kV,i,r,m,a,ct,l,rfl,j,b⟩,d,e⟩:=h.ex;exact⟨_,d,e,xx j b S (hb a)⟩
theorem kt.hide{T:Tb}{k:Nat}{f:Addr}{ps:List ma}{a:List Value}{fn:List D->M D}(h:kt T P w mg base k f ps a fn):kt T P w mg base k f ps a (L4.hide fn):=by rw[sq];exact h
theorem kt.Xa{T:Tb}{k:Nat}{f:Addr}{ps:List ma}{a:List Value}{fn:List D->M D}(h:kt T P w mg base k f ps a fn):kt T P w mg base k f ps a (λb=>L4.Xa (fn b)):=by
 obtain⟨c,h1,d,h3⟩:=h;exact⟨c,h1,d,yC h3⟩
theorem MX{C f t:Addr}{x qual:ma}{st:Stmt}{ps:List ma}{h:List Value}{u p:Value}{od e q:Option Addr}{i r:Array (Option Value)}{kV b g a ct:Value}{m:Nat}
  (hb:∀ (t:Addr) (kV b g:Value) (e:Option Addr) (a ct:Value) (s:aa) (o:gc) (n:Nat) (us:List Value),s.heap.get? t=some o->o.data=.seq h.toArray n->((us++[]).length=ps.length->uf s (W.fnOf x qual (Em st) (Ni st) (Ec st) (.ref t) kV b g e a ct) ⟨us,[]⟩ (ps.zip (us++[])))/\
   ((us++h).length=ps.length->uf s (W.fnOf x qual (Em st) (Ni st) (Ec st) (.ref t) kV b g e a ct) ⟨us,[]⟩ (ps.zip (us++h))))
  (l:K.lookup f=some ⟨u,od,.func (W.fnOf x qual (Em st) (Ni st) (Ec st) (.ref t) kV b g e a ct),i⟩)
  (c:W.codeIn K a qual=true) (d:K.lookup t=some ⟨p,q,.seq h.toArray m,r⟩):Qr K C x qual st ps h f:=
 ⟨⟨_,⟨u,od,_,kV,b,g,e,a,ct,i,rfl,l,c⟩,λs us j k=>(hb t kV b g e a ct s _ m us (j _ _ d) rfl).1 k,λs us j k=>(hb t kV b g e a ct s _ m us (j _ _ d) rfl).2 k⟩⟩
end
section
variable{T:Tb}{X:Cx}
end
section
variable{T:Tb}{X:Cx}
end
noncomputable def jt(ix:List Nat)(ρ:Ev):Ev:=none::none::ix.map λi=>(ρ[i]?).getD none
noncomputable def Nv(ix:List Nat)(st:St):St:=none::none::ix.map λi=>(st[i]?).getD none
theorem tR{T:Tb}{μ:List Addr}{H:Hp}{ρ:Ev}{st:St}(ix:List Nat)(h:Lg T μ H ρ st):Lg T μ H (jt ix ρ) (Nv ix st):=by
 have q:=zN ix h;refine⟨by simp[jt,Nv],λi d e=>?_⟩;cases i with
 |zero=>simp[jt]at e
 |succ j=>exact q.2 j d e
section
variable{X:Cx}{pins:List (Addr × gc)}{st:St}{H:Hp}{s:aa}{x z0:ma}{M':List ma}{ix:List Nat}{scope:Scope}{fp:List Addr}
theorem bW(I:Inv X pins st H s)(L:Ul X x M' ix scope)(g:∀ b∈fp,Ck X pins H b/\b<s.heap.objs.size){h':Heap}{t':Nat}{m:ma->Option Value}(J:h'.Ns s.heap.objs.size m)
  (C:∀ b o,s.heap.get? b=some o->h'.get? b=some o) :
  Inv (ar X (x::z0::M') scope (Qh X.env scope.names []) s.heap.objs.size s H fp) [] (Nv ix st) H { s with heap:=h',toks:=t' }:=by
 have sub:∀ n c,(Qh X.env scope.names []).lookup n=some c->X.env.cells.lookup n=some c:=λn c e=>jE X.env scope.names [] n c (λ_ _ q=>by simp at q) e;have A:∀ n c,X.env.cells.lookup n=some c->c<s.heap.objs.size:=λn c e=>by obtain⟨v,z⟩:=I.cell n c e;exact z.lt
 have fresh:H s.heap.objs.size=none:=I.Qb.fresh (xa _);refine⟨⟨I.ok.mod,L.kind,I.ok.glob,I.ok.blt,xa _,λa b c h1 d=>I.ok.inj a b c (sub a c h1) (sub b c d),λa W=>?_,λa c h=>(by cases h),I.ok.hd,I.ok.frames,.inl rfl,λb hb=>⟨Ba (g b hb).2,λa c e=>?_⟩,λb o e=>I.bs b o e,Hb I.ok.Jp I.sz,λb o e hb=>?_,λb hb z=>?_,I.stack,I.tj⟩,
  rfl,I.bare,Un.kept C,⟨m,J,λi y v S D e3=>?_⟩,λa c e=>?_,fresh,λa c e=>I.Gf a c (sub a c e),λp hp=>absurd (show p∈([]:List (Addr × gc))from hp) (by simp),I.Qb.kept C,?_⟩
 ·
  have F:(scope.names.map λ(n,k)=>if (k == Za && X.env.scope.kind == .function && X.env.kindOf n == some .cell)then (n,vc)else (n,k)).lookup a=some .cell\/(scope.names.map λ(n,k)=>if (k == Za && X.env.scope.kind == .function && X.env.kindOf n == some .cell)then (n,vc)else (n,k)).lookup a=some .free:=W;have P:scope.names.lookup a=some .free:=by
   rcases F with z|z
   ·obtain⟨Z,h1,d⟩:=YF z;rcases d with d|⟨d,_⟩
    ·subst d;exact absurd rfl (rz L _ (Ms h1))
    ·rw[d]at h1;exact h1
   ·obtain⟨Z,h1,d⟩:=YF z;rcases d with d|⟨_,d⟩
    ·rw[<-d]at h1;exact h1
    ·cases d
  exact Vy X.env scope.names [] a (Ms P) (vv I L _ (Ms P) rfl)
 ·exact(g b hb).1.2.2.2.2.1 a c (sub a c e)
 ·rcases(g b hb).1.2.2.2.1 with z|z
  ·exact I.ok.wo b o e z
  ·exact absurd (Ca (qa e) (Hb I.ok.Jp z)) (wd _)
 ·rcases Pa.mp (I.qp b z)with q|q
  ·exact(g b hb).1.2.1 q
  ·exact(g b hb).1.2.2.1 q
 ·
  cases i with
  |zero=>simp[Nv]at D
  |succ i=>
  cases i with
  |zero=>simp[Nv]at D
  |succ j=>
   have r:M'[j]?=some y:=S;have f:(ix.map λi=>(st[i]?).getD none)[j]?=some (some v):=D;rw[Fb]at f;cases E:ix[j]? with
   |none=>rw[E]at f;cases f
   |some w=>
    rw[E]at f;have B:(st[w]?).getD none=some v:=nb f;have T:st[w]?=some (some v):=by
     cases q:st[w]? with
     |none=>rw[q]at B;cases B
     |some o=>rw[q]at B;exact we some B
    have U:X.N[w]?=some y:=by
     have z:=we (λl=>l[j]?) L.at_;simp only[Fb,E,r,kg]at z;exact nb z
    have q:=Pb.mp L.AA y (Ja r);simp only[ya,sf]at q;have Q:X.env.scope.names.lookup y=some .cell\/X.env.scope.names.lookup y=some .free:=by
     rcases q.1 with z|z
     ·exact .inl (eq_of_beq z)
     ·exact .inr (eq_of_beq z)
    have M:scope.names.lookup y=some .free:=eq_of_beq q.2;obtain⟨m0,Y,G⟩:=I.loc;obtain⟨u,ru,lu⟩:=G w y v U T (by rcases Q with z|z;exact .inr (.inl z);exact .inr (.inr z));refine⟨u,ru,.inr ⟨lM (env:=X.env) M,?_⟩⟩;rcases lu with⟨z,_⟩|⟨_,c,V,zc⟩
    ·rcases Q with k|k
     ·rw[show X.env.kindOf y=X.env.scope.names.lookup y from rfl,k]at z;cases z
     ·rw[show X.env.kindOf y=X.env.scope.names.lookup y from rfl,k]at z;cases z
    ·obtain⟨R,t⟩:=Vy X.env scope.names [] y (Ms M) (vv I L _ (Ms M) rfl);have O:=sub y R t;rw[V]at O;cases O;obtain⟨o,K,hd⟩:=zc;exact⟨c,t,o,C _ _ K,hd⟩
 ·obtain⟨v,o,K,hd⟩:=I.cell a c (sub a c e);exact⟨v,o,C _ _ K,hd⟩
 ·simp[Nv,ar];have z:=we List.length L.at_;simpa using z
end
section
variable{T:Tb}{X:Cx}
end
noncomputable def Mr(l:List Int):List Int:=l.mergeSort λa b=>decide (a<=b)
theorem Yy(l:List Int):(Mr l).Perm l:=List.mergeSort_perm l _
theorem bN(l:List Int):(Mr l).Pairwise (·<=·):=by
 have:=List.pairwise_mergeSort (le:=λa b:Int=>decide (a<=b)) (λa b c h1 d=>by simp at *;omega) (λa b=>by simp;omega) l;exact this.imp λh=>by simpa using h
theorem OG:∀ {l m:List Int},l.Perm m->l.Pairwise (·<=·)->m.Pairwise (·<=·)->l=m
 |[],m,h,_,_=>by rw[List.nil_perm]at h;exact h.symm
 |a::l,[],h,_,_=>by have:=h.length_eq;simp at this
 |a::l,b::m,h,h1,c=>by
  rw[List.pairwise_cons]at h1 c;have d:a∈b::m:=h.subset Ub;have hb:b∈a::l:=h.symm.subset Ub;have e:a=b:=by
   rcases Pa.mp d with e|d
   ·exact e
   ·rcases Pa.mp hb with e|hb
    ·exact e.symm
    ·have:=h1.1 b hb;have:=c.1 a d;omega
  subst e;rw[OG (g4 h) h1.2 c.2]
noncomputable def tE(K:W.Frag):List V->Hp->VK->Prop:=λxs H Q=>∃ (p:Addr) (is:List Int),xs=[.ref p]/\Me K H p (is.map V.int)/\is.length<64/\∀ l,H l=none->Q (.ref l) (upd H l (.lst ((Mr is).map V.int)))
section
variable{T:Tb}{X:Cx}
theorem nZ:bn X (.builtin "sorted") (tE X.K):=by
 intro f s t H xs o Q I r h;obtain⟨p,is,rfl,l,b,q⟩:=h;obtain⟨u,rfl,m⟩:=Dt r;cases m;obtain⟨c,g,pl,n⟩:=I.list l;have a:=g.length;rw[Yb]at a;refine sorted_ints pl.isList (eI g) (by omega) λout d a1 a2 i=>?_;obtain⟨e,he⟩:=sortedAll_at s.heap c out;have j:d=Mr is:=OG (a2.trans (Yy is).symm) i (bN is);subst j;have k:=(Yy is).length_eq;exact⟨.ref (s.heap.objs.size+1),_,I.laid (t':=s.toks) (λ_ _=>sortedAll_old) (rm _) (show mi X.prog X.w _ _ _ (.lst ((Mr is).map V.int))from⟨by rw[Yb,k];exact Hb (Ze b) (by decide),out.toList,e,Ly a1,by rw[Cp];exact he⟩),rfl,q _ (I.Qb.fresh (rm _))⟩
noncomputable def QD(xs:List D):M D:=λa=>match xs with
 |[x]=>(match Qg a x with
  |some b=>(match oq b with
   |some is=>if is.length<64 then dz ((Mr is).map D.int) a else .bad
   |none=>.bad)
  |none=>.bad)
 |_=>.bad
theorem xG{μ:List Addr}{H:Hp}:∀ a:List Int,Qa T μ H (a.map D.int) (a.map V.int)
 |[]=>Qa.nil
 |i::a=>Qa.cons (by rw[Rep]) (xG a)
theorem oU(m:T.K=X.K):Tp T (tE X.K) QD:=by
 intro E q H k xs o Q r p h
 match xs with
 |[]=>exact h.elim
 |[x]=>
  rw[Qa]at p;obtain⟨v,w,rfl,i,d⟩:=p;rw[Qa]at d;subst d;unfold QD at h;cases e:Qg k x with
  |none=>simp only[e]at h;exact h.elim
  |some j=>
   simp only[e]at h;cases a:oq j with
   |none=>simp only[a]at h;exact h.elim
   |some is=>
    simp only[a]at h;by_cases c:is.length<64
    ·rw[da c]at h;obtain⟨b,n,rfl,h1,f⟩:=r.ls i e;obtain rfl:=wC f a;exact⟨b,is,rfl,Me.of h1,c,λl g=>fC h r (xG _) g⟩
    ·rw[ka c]at h;exact h.elim
 |_::_::_=>exact h.elim
noncomputable def apart(n:Nat):D->Bool
 | .ref m=>!(m == n)
 |_=>true
end
theorem iY:bootBuiltins "sorted" = some (.builtin "sorted"):=by decide +kernel
theorem CN:∀ {a:List Key} {vs:List Value},vs.length=a.length->(∀ (j:Nat) (v:Value) (k:Key),vs[j]?=some v->a[j]?=some k->Qc (kV k) v)->Od (a.map kV) vs
 |[],[],_,_=>.nil
 |[],_::_,h,_=>by simp at h
 |_::_,[],h,_=>by simp at h
 |k::a,v::vs,h,hv=>.cons (hv 0 v k rfl rfl) (CN (by simpa using h) λj v k b c=>hv (j+1) v k b c)
theorem iW{P:ra}{w:Ea}{k:Key}{v:Value}(h:(Ij P w).is k v=true):Qc (kV k) v:=by
 rw[wQ]at h;rcases Jr h with⟨i,t,rfl,rfl⟩|⟨x,t,rfl,rfl⟩
 ·exact⟨t,rfl⟩
 ·exact⟨t,rfl⟩
theorem kN:∀ {kvs:List (Key × V)} {ws:List (Key × Value)},KV kvs ws->ws.map (·.1)=kvs.map (·.1)
 |[],_,h=>by cases h;rfl
 |p::kvs,_,h=>by
  cases h with
  |cons q h=>simp only[yb];rw[kN h,q.1]
section
variable{T:Tb}{X:Cx}
noncomputable def jx:Key->D
 | .inl i=>.int i
 | .inr x=>.str x
end
end L4
namespace L4
open PySem PySem.Spec PySem.Calls PySem.W PyProof.Rows PyProof.V
theorem GT{prog:ra}{w:Ea}{A:Da}{E:Value->aa->Prop}{s:aa}{R:List Value->aa->Prop}{t:String}{r d:Addr}{n:Nat}{P:Nat->Value->Prop}{p:Heap->Prop}
  (K:KdlSrc prog w t r d n P p) (u:A.handled=none) (Qb:p s.heap) (hn:n<=sizeLine)
  (k:∀ (h':Heap) (tk:Nat) (a:Array Value),(∀ b o,s.heap.get? b=some o->h'.get? b=some o)->s.heap.objs.size<=h'.objs.size->x4 P a n->R a.toList { s with heap:=h',toks:=tk }) :
  wpAny (model prog w) A (collect (.ref r)) R E s:=by
 have lt:=K.there _ Qb;let S:Addr:=s.heap.objs.size;let Z:zw->aa->Prop:=λq m=>∃ (h':Heap) (tk:Nat) (a:Array Value) (c:Nat),q=.ok (.ret (.ref S))/\m={ s with heap:=h',toks:=tk }/\(∀ b o,s.heap.get? b=some o->h'.get? b=some o)/\
  h'.get? S=some { cls:=.type "list",dict:=none,data:=.seq a c,slots:=#[] }/\x4 P a n
 have h:∀ {h':Heap} {tk c:Nat} {a:Array Value},(∀ b o,s.heap.get? b=some o->h'.get? b=some o)->h'.get? S=some { cls:=.type "list",dict:=none,data:=.seq a c,slots:=#[] }->x4 P a n->R a.toList { s with heap:=h',toks:=tk }:=
  λkp g i=>k _ _ _ kp (Ze (qa g)) i
 have j:(s.heap.push { cls:=.type "list",data:=.seq ([]:List Value).toArray }).get? S=some { cls:=.type "list",data:=.seq #[] }:=Sa _ rfl;have run:=kdl_extend (A:=A) (s:={ s with heap:=s.heap.push { cls:=.type "list",data:=.seq ([]:List Value).toArray } }) (R:=Z) K u (K.keep _ _ Qb λb _ o e=>ia _ e) S (Qf lt.1) (Qf lt.2) (.ref S) 0 j
  (λh' tk a c kp g i=>⟨h',tk,a,c,rfl,rfl,λb o e=>kp b o (Ba (qa e)) (ia _ e),g,i⟩) hn
 unfold collect;refine ba (wpAny_runValue (Zg entry_proto_collect' ?_));rw[Pe PySem.F.plain_proto_collect _];show wpAny _ A.in1 (newList [] >>= λl=>again (.builtin "list.__iadd__" ⟨[l,.ref r],[]⟩)) _ _ s;refine ba (ge (na ⟨ji dn _,Zg entry_list_iadd' ?_⟩));rw[Pe dn _];show wpAny _ A.in1 (VC (.ref S) (.ref r) (.ref S)) _ _ _;refine Mb run (λf m x=>?_) (λe m x=>by obtain⟨_,_,_,_,z,_⟩:=x;cases z);cases f with
 |done f=>
  obtain⟨h',tk,a,c,e,rfl,kp,g,i⟩:=x;cases e;exact ba (qw g (na (h kp g i)))
 |again v=>
  refine⟨x.1,rh x.2 λq s2 y=>?_⟩;obtain⟨h',tk,a,c,rfl,rfl,kp,g,i⟩:=y;exact ba (qw g (na (h kp g i)))
end L4
namespace L4
open PySem PySem.Spec PyProof.Rows L2
noncomputable def LF:List V->Hp->VK->Prop:=λxs H Q=>∃ (a:Addr) (b:List (Key × V)) (is:List Int),xs=[.ref a]/\Rd H a (.dK b)/\b.map (·.1)=is.map Sum.inl/\is.length<64/\∀ l,H l=none->Q (.ref l) (upd H l (.lst ((Mr is).map V.int)))
theorem aJ:∀ {a:List Int} {vs:List Value},Od ((a.map (Sum.inl:Int->Key)).map kV) vs->qk vs a
 |[],_,h=>by cases h;exact .nil
 |i::a,_,h=>by
  cases h with
  |cons q h=>
   obtain⟨t,rfl⟩:=q;exact .cons i t (aJ h)
section
variable{T:Tb}{X:Cx}
theorem DO(R:X.calm=true):bn X (.builtin "sorted") LF:=by
 intro J s σ H xs us Q I r h;obtain⟨a,kvs,is,rfl,O,g,p,q⟩:=h;obtain⟨u,rfl,Y⟩:=Dt r;cases Y;obtain⟨z,hd,l,rel,L⟩:=Ut I.Qb O;obtain⟨ep,t⟩:=L.dictAt;have F:=kN rel;have T:l.length=kvs.length:=by have:=we List.length F;simpa using this
 have S:kvs.length=is.length:=by have:=we List.length g;simpa using this
 have hn:l.length<=sizeLine:=by omega
 refine Calls.call_function_entry kind_sorted plain_sorted entry_sorted (args_sorted1 _) ?_;unfold Hs.«sorted»;refine ba (m:=checkCount "sorted" 1 1 _) (na ?_);refine ba (GT (A:=X.A.in1) (W.kdl_dict (knd:=Ij X.prog X.w) (kvs:=l) (ep:=ep) hd) (I.ok.hd R) t hn λn Z c kp i d=>?_);have G:c.toList.length=l.length:=by rw[xg];exact d.1
 have hv:Od ((l.map (·.1)).map kV) c.toList:=CN (by rw[Yb];exact G) λj v k M D=>by
  obtain⟨k',x,U,y⟩:=d.2 j v (by rw[<-Array.getElem?_toList];exact M);rw[Fb,U]at D;cases D;exact iW y
 rw[F,g]at hv;have P:=aJ hv;refine ba (nO ?_ (by rw[G];exact hn));have f:(n.push (dk "list" c.toList.toArray 0)).get? n.objs.size=some (dk "list" c.toList.toArray 0):=Sa _ rfl;refine ba (md (Mn slot_list_sort ⟨_,f,rfl⟩ entry_list_sort (list_sort_tree f P (by omega) λout C a1 a2 K=>⟨_,rfl,?_⟩) (args_list_sort _)));refine na ⟨_,rfl,?_⟩;have N:C=Mr is:=OG (a2.trans (Yy is).symm) K (bN is);subst N;have B:=(Yy is).length_eq;obtain⟨e,he⟩:=sortedHeap_at (out:=out) f;exact⟨.ref n.objs.size,_,I.laid (t':=Z) (λb o E=>by
  have lt:b<n.objs.size:=qa (kp b o E);rw[sortedHeap_old (Ba lt) (by rw[size_push'];exact wh lt)];exact ia _ (kp b o E)) i (show mi X.prog X.w _ _ _ (.lst ((Mr is).map V.int))from⟨by rw[Yb,B];exact Hb (Ze p) (by decide),out.toList,e,Ly a1,by rw[Cp];exact he⟩),rfl,q _ (I.Qb.fresh i)⟩
noncomputable def Ov:List (Key × D)->Option (List Int)
 |[]=>some []
 |(.inl i,_)::r=>(Ov r).map (i::·)
 |_::_=>none
theorem iL{μ:List Addr}{H:Hp}:∀ {kvs:List (Key × D)} {us:List (Key × V)} {is:List Int},Uh T μ H kvs us->Ov kvs=some is->us.map (·.1)=is.map Sum.inl
 |[],_,is,h,e=>by unfold Uh at h;cases h;cases e;rfl
 |(k,d)::kvs,_,is,h,e=>by
  unfold Uh at h;cases h with
  |cons q h=>
   cases k with
   |inr x=>cases e
   |inl i=>
    unfold Ov at e;cases a:Ov kvs with
    |none=>rw[a]at e;cases e
    |some b=>
     rw[a]at e;cases e;simp only[yb];rw[iL h a,<-q.1]
noncomputable def eB(xs:List D):M D:=λb=>match xs with
 |[x]=>(match rl b x with
  |some a=>(match Ov a with
   |some is=>if is.length<64 then dz ((Mr is).map D.int) b else .bad
   |none=>.bad)
  |none=>.bad)
 |_=>.bad
theorem W2:Tp T LF eB:=by
 intro E o H m xs n Q r p h
 match xs with
 |[]=>exact h.elim
 |[x]=>
  rw[Qa]at p;obtain⟨v,w,rfl,j,f⟩:=p;rw[Qa]at f;subst f;unfold eB at h;cases e:rl m x with
  |none=>simp only[e]at h;exact h.elim
  |some d=>
   simp only[e]at h;cases b:Ov d with
   |none=>simp only[b]at h;exact h.elim
   |some is=>
    simp only[b]at h;by_cases c:is.length<64
    ·rw[da c]at h;obtain⟨a,k,rfl,g,g2⟩:=Tv r j e;exact⟨a,k,is,rfl,g,iL g2 b,c,λl i=>fC h r (xG _) i⟩
    ·rw[ka c]at h;exact h.elim
 |_::_::_=>exact h.elim
noncomputable def WH(K:W.Frag):List V->Hp->VK->Prop:=λxs H Q=>tE K xs H Q\/LF xs H Q
theorem FX(d:X.calm=true):bn X (.builtin "sorted") (WH X.K):=by
 intro a s c H xs b Q I r h;rcases h with h|h
 ·exact nZ a s c H xs b Q I r h
 ·exact DO d a s c H xs b Q I r h
noncomputable def bx(xs:List D):M D:=λa=>match xs with
 |[x]=>(match Qg a x with
  |some _=>QD [x] a
  |none=>eB [x] a)
 |_=>.bad
theorem YR(d:T.K=X.K):Tp T (WH X.K) bx:=by
 intro E c H a xs b Q r p h
 match xs with
 |[]=>exact h.elim
 |[x]=>
  unfold bx at h;cases e:Qg a x with
  |some f=>simp only[e]at h;exact .inl (oU d E c H a [x] b Q r p h)
  |none=>simp only[e]at h;exact .inr (W2 E c H a [x] b Q r p h)
 |_::_::_=>exact h.elim
end
section
variable{T:Tb}{X:Cx}
end
end L4
namespace L2
open PySem PySem.Spec PyProof.Rows
end L2
namespace L4
open PySem PySem.Spec PyProof.Rows L2
section
variable{T:Tb}{X:Cx}
inductive HE(T:Tb)(X:Cx):List (Option Ga)->List Ga->List Key->(Ev->M (List D))->Prop
 |nil:HE T X [] [] [] Ma
 |cons {k v:Ga} {kk:Key} {f:Ev->M D} {ks:List (Option Ga)} {vs:List Ga} {kks:List Key} {fs:Ev->M (List D)} (hk:FE T X k (eC (jx kk))) (hv:FE T X v f) (r:HE T X ks vs kks fs):HE T X (some k::ks) (v::vs) (kk::kks) (ua f fs)
end
section
variable{T:Tb}{X:Cx}{pins:List (Addr × gc)}{st:St}{H:Hp}{s:aa}
variable{N':List ma}{scope:Scope}{cl:List (ma × Addr)}{H3:Hp}{s3:aa}{fp:List Addr}{xe:Value->aa->Prop}
end
section
variable{T:Tb}{X:Cx}
end
section
variable{ρ:Ev}{σ:ub}
end
end L4
namespace L4
open PySem PySem.Spec PyProof.Rows L2 Builtin Builtin.Str
section
variable{T:Tb}{X:Cx}{a b e o:Ga}{fa fb f:Ev->M D}{pos apos cpos:Ae}
end
section
variable{ρ:Ev}{σ:ub}
end
end L4
namespace L4
open PySem PySem.Spec PyProof.Rows L2
section
variable{T:Tb}{X:Cx}
end
section
variable{ρ:Ev}{σ:ub}
end
section
variable{prog:ra}{w:Ea}{A:Da}{E:Value->aa->Prop}{h:Heap}{g:Array Fp}{d:YG}{t:Nat}{os:y4}
variable{nm qn:ma}{C N:Addr}{bs bm bmB:List Value}{hdct:Bool}{sn:List ma}{sub:List Value}{ab:Bool}{col:Option Bool}{dd:Option Addr}{k0 k1 k2 k3 k5:Option Value}{B newId initId:String}
end
section
variable{T:Tb}{X:Cx}{pins:List (Addr × gc)}{st:St}{H:Hp}{s:aa}
end
section
variable{X:Cx}
end
section
variable{prog:ra}{w:Ea}{A:Da}{E:Value->aa->Prop}{h:Heap}{g:Array Fp}{d:YG}{t:Nat}{os:y4}{K:W.Frag}
variable{nm qn:ma}{C N x:Addr}{bs bm bmB:List Value}{sn:List ma}{sub:List Value}{ab:Bool}{col:Option Bool}{dd:Option Addr}{k0 k1 k2 k3 k5:Option Value}{B newId sa owner:String}{name:ma}{v:Value}{o:gc}{vs:Array Value}
end
section
variable{X:Cx}
end
section
variable{P:ra}{w:Ea}{K:W.Frag}{mg:ma->Option Value}{base:Heap}
end
section
variable{M:Yj}{A:Da}{E:Value->aa->Prop}{s:aa}{env:ag}
variable{nm qn:ma}{C N:Addr}{bs bm:List Value}{hdct:Bool}{sn:List ma}{sub:List Value}{ab:Bool}{col:Option Bool}{dd:Option Addr}{k0 k1 k2 k3 k5:Option Value}{newId:String}
end
section
variable{T:Tb}{X:Cx}
end
end L4
namespace L4
open PySem PySem.Spec PySem.Calls PyProof.Rows PySem.Builtin PySem.Builtin.ObjectAttr L2
section
variable{prog:ra}{w:Ea}{A:Da}{E:Value->aa->Prop}{s:aa}{K:W.Frag}{C ea dN:Addr}{hp:Heap}{n:Nat}{Mo:Yj}
end
section
variable{T:Tb}{X:Cx}
end
section
variable{ρ:Ev}{σ:ub}
end
end L4
namespace HT
open PySem Builtin
open Sem (wp)
end HT
namespace L4
open PySem PySem.Spec PyProof.Rows L2
end L4
namespace L4
open PySem
noncomputable def Bw(xs:Array Nat):Prop:=∀ i k:Nat,∀ a b:Nat,i<k->xs[i]?=some a->xs[k]?=some b->a<b
noncomputable def Cut(xs:Array Nat)(j p:Nat):Prop:=p<=xs.size/\(∀ i a:Nat,i<p->xs[i]?=some a->a<j)/\∀ i a:Nat,p<=i->xs[i]?=some a->j<=a
theorem PZ{xs:Array Nat}(n:Bw xs)(j:Nat):∀ (c b hi:Nat),hi - b<=c->b<=hi->hi<=xs.size->(∀ i a:Nat,i<b->xs[i]?=some a->a<j)->(∀ i a:Nat,hi<=i->xs[i]?=some a->j<=a)->Cut xs j (Pm xs j c b hi):=by
 intro c;induction c with
 |zero=>
  intro b hi h1 q h3 h4 h;have e:b=hi:=by omega
  subst e;exact⟨h3,h4,h⟩
 |succ f o=>
  intro b hi h1 q h3 h4 h;unfold Pm;by_cases m:b<hi
  ·rw[da m];dsimp only;have hm:(b+hi) / 2<hi:=by omega
   have r:b<=(b+hi) / 2:=by omega
   have hs:(b+hi) / 2<xs.size:=by omega
   have g:xs[(b+hi) / 2]?=some xs[(b+hi) / 2]:=Yg hs;have p:xs.getD ((b+hi) / 2) j=xs[(b+hi) / 2]:=by simp[Array.getD,hs]
   rw[p];by_cases k:xs[(b+hi) / 2]<j
   ·rw[da k];refine o _ _ (by omega) (by omega) h3 (λi a l d=>?_) h;by_cases e:i=(b+hi) / 2
    ·subst e;rw[g]at d;cases d;exact k
    ·have:=n i ((b+hi) / 2) a _ (by omega) d g;omega
   ·rw[ka k];refine o _ _ (by omega) (by omega) (by omega) h4 (λi a l d=>?_);by_cases e:i=(b+hi) / 2
    ·subst e;rw[g]at d;cases d;omega
    ·have:=n ((b+hi) / 2) i _ a (by omega) g d;omega
  ·rw[ka m];have e:b=hi:=by omega
   subst e;exact⟨h3,h4,h⟩
theorem i0{xs:Array Nat}(c:Bw xs)(j:Nat):Cut xs j (Il xs j):=by
 unfold Il;exact PZ c j _ _ _ (by omega) (by omega) (xa _) (λi a h=>by omega) (λi a h b=>by
  have:=(Nc.mp b).1;omega)
theorem wR{xs:Array Nat}{p x:Nat}(hp:p<=xs.size)(i:Nat):(bj xs p x)[i]?=if i<p then xs[i]? else if i=p then some x else xs[i - 1]?:=by
 unfold bj;have s1:(xs.extract 0 p).size=p:=by simp;omega
 rw[Array.getElem?_append,Array.size_push,s1];by_cases h1:i<p
 ·rw[da (by omega),da h1,gq,ka (by rw[s1];omega),Io];simp;omega
 ·rw[ka h1];by_cases a:i=p
  ·subst a;rw[da (by omega),da rfl,gq,da (by rw[s1])]
  ·rw[ka (by omega),ka a,Io];by_cases h3:i - 1<xs.size
   ·rw[da (by omega)];congr 1;omega
   ·rw[ka (by omega),Array.getElem?_eq_none (by omega)]
theorem M1{xs:Array Nat}{p x:Nat}(j:Bw xs)(g:Cut xs x p)(hn:¬ xs[p]?=some x):Bw (bj xs p x):=by
 have o:∀ i a:Nat,p<=i->xs[i]?=some a->x<a:=λi a q c=>by
  have h1:=g.2.2 i a q c;rcases Nat.lt_or_ge x a with h|h
  ·exact h
  ·have e:a=x:=by omega
   subst e;by_cases m:i=p
   ·subst m;exact absurd c hn
   ·have r:=(Nc.mp c).1;have hp:p<xs.size:=by omega
    have n:xs[p]?=some xs[p]:=Yg hp;have:=j p i _ _ (by omega) n c;have:=g.2.2 p _ (xa _) n;omega
 intro i k a b l c d;rw[wR g.1]at c d;by_cases h1:i<p
 ·rw[da h1]at c;by_cases f:k<p
  ·rw[da f]at d;exact j i k a b l c d
  ·rw[ka f]at d;by_cases h3:k=p
   ·rw[da h3]at d;cases d;exact g.2.1 i a h1 c
   ·rw[ka h3]at d;exact j i (k - 1) a b (by omega) c d
 ·rw[ka h1]at c;have f:¬ k<p:=by omega
  rw[ka f,ka (by omega)]at d;by_cases h3:i=p
  ·rw[da h3]at c;cases c;exact o (k - 1) b (by omega) d
  ·rw[ka h3]at c;exact j (i - 1) (k - 1) a b (by omega) c d
structure Np(b:Bool)(t:ig):Prop where
 led:t.led = !b
 WC:Bw t.place
 CK:t.dummies=#[]
theorem sY(j:Nat):Ct #[] j=false:=by
 unfold Ct;simp
theorem Np.put{b:Bool}{t:ig}(h:Np b t){j:Nat}(hn:¬ t.place[Il t.place j]?=some j):Np b (t.put j).1:=by
 unfold P7;dsimp only;refine⟨h.led,M1 h.WC (i0 h.WC j) hn,?_⟩;rw[h.CK,sY];rfl
theorem Np.plain{b p:Bool}{t:ig}(h:Np b t):Np b { t with plain:=p }:=⟨h.led,h.WC,h.CK⟩
theorem TZ(n:Nat):Bw (Array.range n):=by
 intro i k a c f b d;have l1:=(Nc.mp b).1;have e:=(Nc.mp d).1;simp only[Array.size_range]at l1 e;simp[l1]at b;simp[e]at d;omega
theorem Np.bz{b:Bool}{t:ig}(h:Np b t)(n:Nat):Np b (t.standIn n):=⟨h.led,TZ n,rfl⟩
theorem Np.or{b:Bool}{t:ig}(h:Np b t)(n:Nat):Np b (t.orStandIn n):=by
 unfold Q7;split
 ·exact h
 ·exact h.bz n
theorem Np.fresh(b:Bool):Np b (qr 0 0 (!b)):=⟨rfl,λi k a c _ d _=>by simp[qr]at d,rfl⟩
end L4
namespace L4
open PySem PySem.Spec PyProof.Rows
section
variable{prog:ra}{w:Ea}{K:Type}[DecidableEq K][BEq K][LawfulBEq K]{knd:KeyKind prog w K}{A:Da}{E:Value->aa->Prop}{s:aa}{b:Bool}{a:Addr}{k:K}{x:Value}
end
section
variable{prog:ra}{w:Ea}{A:Da}
variable{E:Value->aa->Prop}{s:aa}
end
section
variable{prog:ra}{w:Ea}{A:Da}{E:Value->aa->Prop}{s:aa}
set_option maxHeartbeats 3200000 in
end
noncomputable def GD(h:Heap)(a:Addr)(b:Array (Int × Value))(ep:Nat)(t:ig):Prop:=∃ o,h.get? a=some o/\o.ExactSet/\o.data=.set b ep t
noncomputable def Hz(h:Heap)(I a:Addr)(first:Value)(i n ep:Nat):Prop:=∃ o,h.get? I=some o/\o.cls=.type "set_iterator"/\o.data=.fields #[first,Wd i,.ref a,Wd n,Wd ep]
section
variable{prog:ra}{w:Ea}{A:Da}{E:Value->aa->Prop}{s:aa}{I a:Addr}{es:Array (Int × Value)}{ep:Nat}{t:ig}{i:Nat}
theorem Hz.ty{first:Value}{n:Nat}(h:Hz s.heap I a first i n ep):s.TypeIs (.ref I) "set_iterator":=let ⟨o,h1,b,_⟩:=h;⟨o,h1,b⟩
end
section
variable{prog:ra}{w:Ea}{A:Da}{E:Value->aa->Prop}{s:aa}{a:Addr}{es:Array (Int × Value)}{ep:Nat}{t:ig}{i:Nat}
end
section
variable{prog:ra}{w:Ea}{A:Da}{E:Value->aa->Prop}{s:aa}{I a p:Addr}{es:Array (Int × Value)}{ep:Nat}{t:ig}{i:Nat}
noncomputable def wE(h:Heap)(p:Addr)(ps:List Nat):Prop:=∃ o n,h.get? p=some o/\o.data=.seq (ps.map λ(i:Nat)=>Wd i).toArray n
end
section
variable{prog:ra}{w:Ea}{A:Da}{I a p:Addr}{es:Array (Int × Value)}{ep:Nat}{t:ig}
theorem Hz.keep{h h':Heap}{first:Value}{i n:Nat}(x:Hz h I a first i n ep)(k:∀ o,h.get? I=some o->h'.get? I=some o):Hz h' I a first i n ep:=let ⟨o,e,r⟩:=x;⟨o,k o e,r⟩
theorem GD.keep{h h':Heap}(x:GD h a es ep t)(k:∀ o,h.get? a=some o->h'.get? a=some o):GD h' a es ep t:=let ⟨o,e,r⟩:=x;⟨o,k o e,r⟩
theorem wE.keep{h h':Heap}{ps:List Nat}(x:wE h p ps)(k:∀ o,h.get? p=some o->h'.get? p=some o):wE h' p ps:=let ⟨o,n,e,r⟩:=x;⟨o,n,k o e,r⟩
end
end L4
namespace L4
open PySem PySem.Spec PySem.Calls PySem.W PyProof.Rows PyProof.V
section
variable{prog:ra}{w:Ea}{A:Da}{E:Value->aa->Prop}{s:aa}{a:Addr}{es:Array (Int × Value)}{ep:Nat}{t:ig}
end
end L4
namespace L4
open PySem PySem.Spec PyProof.Rows L2
section
variable{T:Tb}{X:Cx}
noncomputable def v5(x:D)(xs:List D):M D:=λa=>match x,xs with
 | .ref n,[]=>(match a[n]? with
  |some (.Lb _)=>.ok .Jb (a.set n (.Lb []))
  |_=>.bad)
 |_,_=>.bad
noncomputable def dB(ds:List D):M D:=λb=>match ds with
 |[x]=>(match rl b x with
  |some a=>.ok (.ref b.length) (b++[.Lb a])
  |none=>.bad)
 |_=>.bad
theorem BV:Tp T bE dB:=by
 intro E j H k e n Q r p h
 match e with
 |[]=>exact h.elim
 |[x]=>
  unfold dB at h;dsimp only at h;cases b:rl k x with
  |none=>rw[b]at h;exact h.elim
  |some g=>
   rw[b]at h;rw[Qa]at p;obtain⟨v,m,rfl,i,c⟩:=p;rw[Qa]at c;subst c;obtain⟨a,d,rfl,h1,f⟩:=Tv r i b;refine⟨a,d,rfl,h1,λl hn=>?_⟩;exact h (j++[l]) (.ref l) _ (Et hn) (r.push hn ⟨d,rg,Paired.oo f λ_ _ z=>⟨z.1,Rep.mono (Et hn) _ _ z.2⟩⟩) (ly r)
 |_::_::_=>exact h.elim
end
section
variable{X:Cx}{pins:List (Addr × gc)}{σ:St}{H:Hp}{s:aa}
theorem _root_.L2.Inv.freeze{a:Addr}{kvs:List (Key × V)}{od:gc}(I:Inv X pins σ H s)(hd:H a=some (.dK kvs))(e:s.heap.get? a=some od):Inv X pins σ (upd H a (.Xa od (.dK kvs))) s:=by
 have ne:∀ b u,H b=some u->u≠.dK kvs->b≠a:=λb u q n z=>by rw[z,hd]at q;exact n (nb q).symm
 refine I.step (g':=s.gens) (d':=s.drawn) (t':=s.toks) (h':=s.heap) (ch:=[]) (λ_ z=>nomatch z) (λb o _ _ _ q _=>q) (λb o _ _ _ q _=>⟨o.slots,q⟩) (λb o _ q n=>?_) (λb o _ q=>⟨o,q⟩)
  (λb xs q=>by rw[jd (ne b _ q (λz=>by cases z))];exact q) (λb u xs q=>by rw[jd (ne b _ q (λz=>by cases z))];exact q) (λb d q=>⟨#[],by rw[jd (ne b _ q (λz=>by cases z)),q];simp⟩) (λm hm=>hm) (λb u q=>?_) I.bare
 ·rw[jd (λz=>by rw[z,hd]at n;cases n)];exact n
 ·by_cases hb:b=a
  ·subst hb;rw[rg]at q;cases q;exact⟨e,I.Qb b _ hd⟩
  ·rw[jd hb]at q;exact(I.Qb b u q).ej (λc v _ z=>z) (λc z=>by rw[jd (ne c _ z (λy=>by cases y))];exact z) λc xs z=>by rw[jd (ne c _ z (λy=>by cases y))];exact z
theorem QG{a:Addr}{kvs:List (Key × V)}{od:gc}(I:Inv X pins σ H s)(hd:H a=some (.Xa od (.dK kvs))):∃ vs b ep,KV kvs vs/\od.data=.dict b ep/\s.heap.DictAt (Ij X.prog X.w) a vs ep:=by
 obtain⟨e,_,_,vs,rel,o,b,ep,d,ex,c,r⟩:=I.Qb a _ hd;rw[e]at d;cases d;exact⟨vs,b,ep,rel,c,od,b,e,ex,c,r⟩
end
noncomputable def Itm(d:Addr)(od:gc)(kvs:List (Key × V)):It:=
 ⟨λi H=>H d=some (.Xa od (.dK kvs))/\∃ x,kvs[i]?=some x,λi H v a=>∃ p k x,H p=none/\v=.ref p/\kvs[i]?=some (k,x)/\a=upd H p (.tup [kV k,x]),λi H=>H d=some (.Xa od (.dK kvs))/\i=kvs.length⟩
theorem nM{c:Type}:∀ {kvs:List (c × V)} {vs:List (c × Value)} (r:KV kvs vs) (i:Nat) {k:c} {x:V},kvs[i]?=some (k,x)->∃ u,vs[i]?=some (k,u)/\Qc x u
 |_,_,.nil,i,_,_,h=>by simp at h
 |_,_,.cons (b:=q) a b,0,k,x,h=>by
  simp only[Lh,zg]at h;obtain⟨a1,a2⟩:=a;rw[h]at a1 a2;exact⟨q.2,by simp only[Lh,zg];exact WN a1.symm rfl,a2⟩
 |_,_,.cons a b,i+1,k,x,h=>by
  simp only[Jo]at h ⊢;exact nM b i h
theorem vT{P:ra}{w:Ea}{k:Key}{v:Value}(h:(Ij P w).is k v=true):Qc (kV k) v:=by
 rcases Jr (k:=k) (v:=v) h with⟨i,t,rfl,rfl⟩|⟨x,t,rfl,rfl⟩
 ·exact⟨t,rfl⟩
 ·exact⟨t,rfl⟩
theorem bT{P:ra}{w:Ea}{K:W.Frag}{f:List Ga}{kk:Nat}{J:Ae}(d it:Addr)(od:gc)(kvs:List (Key × V))(Z:d≠it){S:Array lA}{ep:Nat}(l:od.data=.dict S ep) :
  Turn P w K (.Tuple f kk J) (Itm d od kvs) [it] it (λi h=>∃ ok c,IsItemIter h it d i kvs.length ep ok c) where
 mem:=by simp
 obj:=λi h st b hb=>by
  obtain⟨ok,c,s1⟩:=st;obtain rfl:b=it:=by simpa using hb
  exact⟨_,s1,λv z=>by cases z⟩
 keep:=λi h L st k=>by
  obtain⟨ok,c,s1⟩:=st;exact⟨ok,c,k it (by simp) _ s1⟩
 item:=by
  intro X B G y M i n s σ H E I p st D;subst B G y;obtain⟨hd,⟨k,x⟩,O⟩:=D;obtain⟨vs,t,r,rel,e,hm⟩:=QG I hd;rw[l]at e;cases e;obtain⟨u,hu,ru⟩:=nM rel i O;obtain⟨ok,c,s1⟩:=st;rw[rel.length]at s1;refine wpAny_pyNext_items_item s1 hm hu λa L j ho U a0 Y=>?_;have g:s.heap.objs.size≠it:=Qf (qa s1);refine⟨.ref s.heap.objs.size,rfl,wpAny_letOwnedTupleGo_items ho λT F m=>?_⟩;have hn:H s.heap.objs.size=none:=I.Qb.fresh (xa _);have C:T.get? s.heap.objs.size=some { cls:=.type "tuple",data:=.seq #[a,u] }:=m.extBut _ _ g U;refine⟨.ref s.heap.objs.size,upd H s.heap.objs.size (.tup [kV k,x]),I.ur (t':=s.toks) (o:=.tup [kV k,x]) (its:=[it]) (λb o hb q=>m.extBut b o (λz=>hb (by simp[z])) (Y b o (λz=>hb (by simp[z])) q)) p (xa _) ?_,rfl,⟨_,k,x,hn,rfl,O,rfl⟩,⟨a,u,by rw[rel.length];exact F⟩,λb hb=>?_⟩
  ·exact⟨(show (2:Nat)<=sizeLine by decide),[a,u],.cons (vT j) (.cons ru .nil),⟨_,C,rfl,_,rfl⟩⟩
  ·obtain rfl:b=it:=by simpa using hb
   rw[jd (λz=>g z.symm)];exact(p b hb).1
 done:=by
  intro X B G y M i n s σ H E I p st D;subst B G y;obtain⟨hd,N⟩:=D;obtain⟨vs,t,r,rel,e,hm⟩:=QG I hd;rw[l]at e;cases e;obtain⟨ok,c,s1⟩:=st;rw[rel.length]at s1 N;exact wpAny_pyNext_items_end (I.ok.hd M) s1 hm (by rw[N];simp) λL R=>⟨rfl,I.yr (t':=s.toks) (its:=[it]) (λb o hb q=>R b o (λz=>hb (by simp[z])) q) p⟩
 self:=λA i s Q E st h=>by
  obtain⟨ok,c,s1⟩:=st;exact W.kcp_self s1 h
noncomputable def zl(l a:Addr):Heap->Prop:=λh=>h.IsItemsView l a
noncomputable def nU:V->List V->Hp->VK->Prop:=λx xs H Q=>∃ a b,x=.ref a/\xs=[]/\Rd H a (.dK b)/\∀ l,H l=none->Q (.ref l) (upd H l (.ext (zl l a)))
theorem DA{H:Hp}{a:Addr}{o:HO}(h:H a=some o):upd H a o=H:=by
 funext b;unfold upd;split
 ·next e=>rw[e,h]
 ·rfl
theorem AG(h:Heap)(o:gc)(a:o.data≠.freed):(h.push o).get? h.objs.size=some o:=by
 obtain⟨c,d,x,b⟩:=o;simp[Heap.get?,Heap.push];cases x<;>first|rfl|exact absurd rfl a
section
variable{T:Tb}{X:Cx}{elts:List Ga}{kk:Nat}{p0:Ae}
theorem SJ:Tq X "dict.items" nU:=by
 intro f s st H x t v r Q I l j h;obtain⟨a,i,rfl,rfl,g,q⟩:=h;cases l;cases j;obtain⟨z,hd,m,rel,d⟩:=Ut I.Qb g;refine Nm uh d.typeIs PySem.F.entry_dict_items (PySem.F.args_dict_items_1 _) (meets_dict_items (Ij X.prog X.w) a hd) ⟨⟨m,d⟩,?_⟩;refine⟨.ref s.heap.objs.size,_,I.laid (t':=s.toks) (o:=.ext (zl s.heap.objs.size a)) (λb o e=>ia _ e) (xa _) ?_,rfl,q _ (I.Qb.fresh (xa _))⟩;refine⟨⟨_,AG _ _ (λz=>by cases z),rfl,rfl⟩,⟨_,AG _ _ (λz=>by cases z)⟩,λh1 n p k=>?_⟩;obtain⟨o,e,c⟩:=p;exact⟨o,k o e,c⟩
noncomputable def QQ(e:TE):TI:=λf H R=>e f H λv c=>∃ l a b,v=.ref l/\c l=some (.ext (zl l a))/\Rd c a (.dK b)/\∀ d,c a=some (.dK b)\/c a=some (.Xa d (.dK b))->R (Itm a d b) (upd c a (.Xa d (.dK b)))
theorem RJ{f:Ga}{p:TE}(he:PE X f p):PI X (.Tuple elts kk p0) f (QQ p):=by
 intro i s r H R I h;refine zd (he i s r H _ I h) λv s1 ⟨x,H1,j,B,A⟩=>?_;obtain⟨l,a,c,rfl,y,d,q⟩:=A;cases B;obtain⟨g,n,k⟩:∃ g,(H1 a=some (.dK c)\/H1 a=some (.Xa g (.dK c)))/\Inv X i r (upd H1 a (.Xa g (.dK c))) s1:=by
  rcases d with d|⟨g,d⟩
  ·obtain⟨_,_,C,rel,o,w,u,e,_⟩:=j.Qb a _ d;exact⟨o,.inl d,j.freeze d e⟩
  ·exact⟨g,.inr d,by rw[DA d];exact j⟩
 obtain⟨C,w,u,rel,t,hm⟩:=QG k rg;have hv:s1.heap.IsItemsView l a:=(j.Qb l _ y).1;have m:a≠s1.heap.objs.size:=Ba hm.lt_size;refine wpAny_pyIter_items hv hm ?_;refine⟨s1.heap.objs.size,[s1.heap.objs.size],_,Itm a g c,_,rfl,k.kept (t':=s1.toks) (λb o e=>ia _ e),bT a _ g c m t,⟨.none,.none,by rw[rel.length];exact AG _ _ (λz=>by cases z)⟩,λb hb=>?_,q g n⟩;obtain rfl:b=s1.heap.objs.size:=by simpa using hb
 exact k.Do (xa _) (k.Qb.fresh (xa _))
noncomputable def cq(a:List (Key × D)):NX:=λi _=>match a[i]? with
 |some p=>some (some (.tup [jx p.1,p.2]))
 |none=>if i=a.length then some none else none
noncomputable def ZA(d:D):M NX:=λb=>match d with
 | .Lb a xs=>if a.length=xs.length then .ok (cq (a.zip xs)) b else .bad
 |_=>.bad
noncomputable def Ls(f:Ev->M D):Ev->M NX:=λa=>Pc (f a) ZA
theorem XM{μ:List Addr}{H:Hp}(k:Key):Rep T μ H (jx k) (kV k):=by
 cases k<;>(unfold jx kV;rw[Rep])
theorem RH{μ:List Addr}{H:Hp}{a:Addr}{od:gc}{kvs:List (Key × V)}(c:H a=some (.dK kvs)):Ext μ H μ (upd H a (.Xa od (.dK kvs))):=by
 have ne:∀ b u,H b=some u->u≠.dK kvs->b≠a:=λb u q n z=>by rw[z,c]at q;exact n (nb q).symm
 refine⟨⟨[],by simp⟩,λp xs h=>by rw[jd (ne p _ h (λz=>by cases z))];exact h,λp o u h=>by rw[jd (ne p _ h (λz=>by cases z))];exact h,λp o h n=>⟨?_,n⟩⟩;by_cases e:p=a
 ·subst e;rw[c]at h;cases h;exact⟨_,rg,.inr (.inl ⟨od,kvs,rfl,rfl⟩)⟩
 ·exact⟨o,by rw[jd e];exact h,.inl rfl⟩
theorem BE{c d:Type}{R:c->d->Prop}:∀ {xs:List c} {ys:List d},Paired R xs ys->∀ (i:Nat) {x:c},xs[i]?=some x->∃ y,ys[i]?=some y/\R x y
 |_,_,.nil,i,_,h=>by simp at h
 |_,_,.cons a b,0,x,h=>by
  simp only[Lh,zg]at h ⊢;subst h;exact⟨_,rfl,a⟩
 |_,_,.cons a b,i+1,x,h=>by
  simp only[Jo]at h ⊢;exact BE b i h
theorem eG{e:Ga}{f:Ev->M D}{j k:Ae}(h:FE T X e f)(m:Md e "items" X.env (Wb e X.env)=Wb e X.env:=by rfl)(o:(j.endLine == k.line)=true:=by rfl) :
  Qu T X (.Tuple elts kk p0) (.Call (.Attribute e "items" j) [] [] k) (Ls f):=by
 intro G s st H R I hw;refine RJ (eK mf uh gn SJ h m o) G s st H R I ?_;obtain⟨μ,ρ,σ,hE,hr,hp⟩:=hw;refine⟨μ,ρ,σ,hE,hr,hp.bind λd σ1 c v g _ e1 r1 Z w=>?_⟩;unfold ZA at w;cases d with
 |Lb J xs=>
  dsimp only at w;by_cases W:J.length=xs.length
  ·rw[da W]at w;rw[Rep]at Z;obtain⟨a,kvs,rfl,hn,n,N,O⟩:=Z;refine⟨⟨a,kvs,rfl,n⟩,a,kvs,rfl,rfl,n,λl t=>?_⟩;have P:a≠l:=by rcases n with n|⟨_,n⟩<;>exact Jn n t
   have L:Rd (upd g l (.ext (zl l a))) a (.dK kvs):=by unfold Rd;rw[jd P];exact n
   refine⟨l,a,kvs,rfl,rg,L,λod A=>?_⟩;have x1:Ext c g c (upd g l (.ext (zl l a))):=fk t;have x:Rel T c (upd g l (.ext (zl l a))) σ1:=r1.fresh t;obtain⟨x2,Q⟩:Ext c g c (upd (upd g l (.ext (zl l a))) a (.Xa od (.dK kvs)))/\Rel T c (upd (upd g l (.ext (zl l a))) a (.Xa od (.dK kvs))) σ1:=by
    rcases A with A|A
    ·have y:=RH (μ:=c) (od:=od) A;exact⟨x1.trans y,x.keep y (λb hb=>jd (λz=>hn (by rw[<-z];exact hb))) (x.tb.out (λb hb=>jd hb) (.inr ⟨_,A⟩))⟩
    ·rw[DA A];exact⟨x1,x⟩
   have h3:upd (upd g l (.ext (zl l a))) a (.Xa od (.dK kvs)) a=some (.Xa od (.dK kvs)):=rg;generalize upd (upd g l (.ext (zl l a))) a (.Xa od (.dK kvs))=H3 at *;refine Ib.here (R:=Sq T) (Ib.mono x2 w) Q λS U a0 i ex r2=>?_;have V:U a=some (.Xa od (.dK kvs)):=ex.Xa _ _ _ h3;have E:Uh T S U (J.zip xs) kvs:=Uh.mono (x2.trans ex) (aB N O);unfold cq;cases ei:(J.zip xs)[i]? with
   |none=>
    dsimp only;by_cases K:i=(J.zip xs).length
    ·rw[da K];exact⟨V,by rw[K];exact Paired.length E⟩
    ·rw[ka K];trivial
   |some p=>
    obtain⟨q,Y,C,rx⟩:=BE E i ei;refine⟨⟨V,q,Y⟩,λz H' y=>?_⟩;obtain⟨r,k',x',u,rfl,B,rfl⟩:=y;rw[Y]at B;cases B;dsimp only at C rx;refine⟨fk u,r2.fresh u,?_⟩;rw[Rep,C];exact⟨r,_,rfl,rg,Qa.cons (XM _) (Qa.cons (Rep.mono (fk u) _ _ rx) Qa.nil)⟩
  ·rw[ka W]at w;exact w.elim
 |_=>exact w.elim
end
noncomputable def pj(nx:NX)(n:Nat)(b:D->Ev->Option Ev)(fi:Ev->M Bool)(fe:Ev->M D):Nat->Nat->Ev->M Unit
 |0,_,_=>bad
 |k+1,i,f=>λe=>match nx i e with
  |none=>.bad
  |some none=>.ok () e
  |some (some d)=>match b d f with
   |none=>.bad
   |some a=>Pc (Dm (fi a)) (λc=>if c=true then Pc (Dm (fe a)) λy=>Pc (Qm (.ref n) [y]) λ_=>pj nx n b fi fe k (i+1) a else pj nx n b fi fe k (i+1) a) e
noncomputable def VD(b:D->Ev->Option Ev)(fi:Ev->M Bool)(fe:Ev->M D)(ρ:Ev)(nx:NX):M D:=λa=>
 Pc (pj nx a.length b fi fe 1001 0 ρ) (λ_=>ret (.ref a.length)) (a++[.lst []])
noncomputable def Im(src:Ev->M NX)(ix:List Nat)(b:D->Ev->Option Ev)(fi:Ev->M Bool)(fe:Ev->M D):Ev->M D:=λa=>Pc (src a) (VD b fi fe (jt ix a))
section
variable{T:Tb}{X:Cx}
theorem ZK{E:XK}{a6 Z a4:Ga}{a7:List Ga}{scope:Scope}{b3:Ae}{x z0:ma}{M':List ma}{ix:List Nat}{I:D->Ev->Option Ev}{fi:Ev->M Bool}{fe:Ev->M D}
  {b1:List (Addr × gc)} {st:St} {S:Hp} {s3:aa} {t:Heap} {t':Nat} {m:ma->Option Value} {fp:List Addr} {it D0:Addr} {tn:Nat->Heap->Prop} {J:It} {nx:NX} {G:List Addr} {b7:ub} {ρ:Ev} {n:Nat} {Q:VK}
  (hc:X.calm=true) (L:Ul X x M' ix scope)
  (d2:∀ cl C s₀ H₀ ex,FG T (ar X (x::z0::M') scope cl C s₀ H₀ ex) a4 I)
  (c9:∀ cl C s₀ H₀ ex,ky T (ar X (x::z0::M') scope cl C s₀ H₀ ex) a7 fi)
  (c0:∀ cl C s₀ H₀ ex,FE T (ar X (x::z0::M') scope cl C s₀ H₀ ex) a6 fe)
  (I3:Inv X b1 st S s3) (c1:∀ b∈fp,Ck X b1 S b/\b<s3.heap.objs.size) (d1:t.Ns s3.heap.objs.size m) (kp:∀ b o,s3.heap.get? b=some o->t.get? b=some o)
  (TT:Turn X.prog X.w X.K a4 J fp it tn) (b0:tn 0 t) (so:Sq T G S nx J) (hE:Lg T G S ρ st) (r3:Rel T G S b7) (hn:G[n]?=some D0)
  (p3:Ib T E (Rep T) G S (Pc (pj nx n I fi fe 1001 0 (jt ix ρ)) (λ_=>ret (.ref n)) b7) Q) {RR:zw->aa->Prop}
  (c7:∀ (s6:aa) (j:Hp) (m6:ma->Option Value),s6.heap.Ns s3.heap.objs.size m6->j s3.heap.objs.size=none->Un (xi X.stack) fp S j s3.heap s6.heap->s6.os=s3.os->Kh X.prog X.w j s6.heap->bg s6.gens->Q (.ref D0) j->RR (.ok .next) s6) :
  codeAny (model X.prog X.w) X.A (.compStart (.ListComp a6 [⟨a4,Z,a7,0⟩] scope b3) 0 (.ref it) (.ref D0) (compEnvC scope (Qh X.env scope.names []) s3.heap.objs.size X.env))
   RR { s3 with heap:=t,toks:=t' }:=by
 have I4:=bW (z0:=z0) (h':=t) (t':=t') I3 L c1 d1 kp;let Y:Cx:=ar X (x::z0::M') scope (Qh X.env scope.names []) s3.heap.objs.size s3 S fp;have a3:∀ {j:Hp},(∀ b∈fp,j b=none)->∀ b∈fp,Ck Y [] j b:=fun {j} hn b hb=>⟨hn b hb,(I4.ok.Iv b hb).1,I4.ok.Go b hb,.inl hb,(I4.ok.Iv b hb).2,λp hp=>absurd (show p∈([]:List (Addr × gc))from hp) (by simp)⟩
 have km:codeAny (model X.prog X.w) X.A (.compLoop (.ListComp a6 [⟨a4,Z,a7,0⟩] scope b3) 0 (.ref it) (.ref D0) Y.env) RR { s3 with heap:=t,toks:=t' }:=by
  refine codeAny_loop rfl (λk s'=>∃ i f j σ' q B,Inv Y [] B j s'/\tn i s'.heap/\(∀ b∈fp,j b=none)/\Ext G S f j/\Lg T f j q B/\Rel T f j σ'/\
   Ib T E (Rep T) f j (Pc (pj nx n I fi fe k i q) (λ_=>ret (.ref n)) σ') Q) ?_ 1001 ⟨0,G,S,b7,jt ix ρ,Nv ix st,I4,b0,λb hb=>(c1 b hb).1.1,Ext.refl _ _,tR ix hE,r3,p3⟩
  rintro k s' ⟨i,f,j,σ',q,B,I',c3,b8,ex',hE',r',p'⟩;show wpAny _ X.A ((compTurn (.ListComp a6 [⟨a4,Z,a7,0⟩] scope b3) 0 (.ref it) (.ref D0) Y.env).onRaise (λx=>do Wf x Y.env;theTreesLotGoes x)) _ _ s';refine wpAny_noted ?_;rw[compTurn_list];refine Mb (E:=λ_ _=>False) ?_ (λ_ _ z=>z) (λ_ _ z=>z.elim);refine ba (Fq ?_);cases k with
  |zero=>exact p'.elim
  |succ k=>
   have a9:=so f j σ' i ex' r';cases en:nx i σ' with
   |none=>
    have e1:pj nx n I fi fe (k+1) i q σ'=.bad:=by unfold pj;simp only[en]
    rw[QB (m':=bad) e1]at p';exact p'.elim
   |some od=>
    rw[en]at a9;cases od with
    |none=>
     have e1:pj nx n I fi fe (k+1) i q σ'=.ok () σ':=by unfold pj;simp only[en]
     rw[QB (m':=ret ()) e1]at p';refine ba (zd (TT.done Y rfl rfl rfl hc i [] s' B j (λ_ _=>False) I' (a3 b8) c3 a9) λr s6 ⟨er,I6⟩=>?_);subst er;refine na ?_;obtain⟨m6,d0,_⟩:=I6.loc;exact c7 s6 j m6 d0 I6.free I6.base I6.os I6.Qb I6.bare (Ib.here p' r' (by rw[Rep];exact⟨_,rfl,ex'.get hn⟩))
    |some d=>
     refine ba (zd (TT.item Y rfl rfl rfl hc i [] s' B j (λ_ _=>False) I' (a3 b8) c3 a9.1) λr s6 ⟨u,er,h6⟩=>?_);subst er;refine ba (zd h6 λ_ s7 ⟨xv,H7,I7,r7,y7,b6,c8⟩=>?_);obtain⟨b2,d3,hd⟩:=a9.2 xv H7 y7;replace p':=Ib.mono b2 p';replace hE':=hE'.mono b2;replace ex':=ex'.trans b2;replace r':=d3;cases et:I d q with
     |none=>
      have e1:pj nx n I fi fe (k+1) i q σ'=.bad:=by unfold pj;simp only[en,et]
      rw[QB (m':=bad) e1]at p';exact p'.elim
     |some h=>
      have e1:pj nx n I fi fe (k+1) i q σ'=Pc (Dm (fi h)) (λc=>if c=true then Pc (Dm (fe h)) λy=>Pc (Qm (.ref n) [y]) λ_=>pj nx n I fi fe k (i+1) h else pj nx n I fi fe k (i+1) h) σ':=by
       conv=>lhs;unfold pj
       simp only[en,et]
      rw[QB e1,QF]at p';have c5:=I7.pinned (a3 c8) (TT.obj _ _ b6);refine ba (zd (d2 _ _ _ _ _ _ s7 B H7 xv u (λF H8=>H8=H7/\Lg T f H7 h F) c5 r7 ⟨f,σ',q,d,h,hE',r',hd,et,λF W=>⟨rfl,W⟩⟩) λ_ s8 ⟨F,H8,I8,c6,W⟩=>?_);subst c6;refine ba (zd (c9 _ _ _ _ _ _ s8 F H8 (λc H9=>∃ O R,Ext f H8 O H9/\Rel T O H9 R/\Ib T E (Rep T) O H9 (Pc (if c=true then Pc (Dm (fe h)) λy=>Pc (Qm (.ref n) [y]) λ_=>pj nx n I fi fe k (i+1) h else pj nx n I fi fe k (i+1) h) (λ_=>ret (.ref n)) R) Q) I8
       ⟨f,h,σ',W,r',p'.Gr λc R O c' H9 _ e9 r9 q9 p9=>by cases q9;exact⟨O,R,e9,r9,p9⟩⟩) λc s9 ⟨H9,I9,O,R,e9,r9,p9⟩=>?_)
      have V:∀ {a2:aa} {l:Hp} {a:List Addr} {g:ub},Inv Y ([]++Ky fp s7.heap) F l a2->Ext f H8 a l->Rel T a l g->Ib T E (Rep T) a l (Pc (pj nx n I fi fe k (i+1) h) (λ_=>ret (.ref n)) g) Q->
        ∃ m,m<k+1/\∃ i f j σ' q B,Inv Y [] B j a2/\tn i a2.heap/\(∀ b∈fp,j b=none)/\Ext G S f j/\Lg T f j q B/\Rel T f j σ'/\Ib T E (Rep T) f j (Pc (pj nx n I fi fe m i q) (λ_=>ret (.ref n)) σ') Q:=by
       intro a2 l a g U P a1 a0;refine⟨k,Gc _,i+1,a,l,g,h,F,U.oj,TT.keep _ _ _ b6 (λb hb o e=>(U.pin (b,o) (Ka _ (Ka _ (zC hb e)))).1),λb hb=>?_,ex'.trans P,W.mono P,a1,a0⟩;obtain⟨o,e,_⟩:=TT.obj _ _ b6 b hb;exact(U.pin (b,o) (Ka _ (Ka _ (zC hb e)))).2.1
      cases c with
      |false=>
       rw[ka Ra]at p9;exact na ⟨rfl,V I9 e9 r9 p9⟩
      |true=>
       rw[da rfl,QF]at p9;refine ba (ba (zd (c0 _ _ _ _ _ _ s9 F H9 (λv N=>∃ y s H,Ext f H8 s N/\Rel T s N H/\Rep T s N y v/\Ib T E (Rep T) s N (Pc (Qm (.ref n) [y]) (λ_=>Pc (pj nx n I fi fe k (i+1) h) (λ_=>ret (.ref n))) H) Q) I9
        ⟨O,h,R,W.mono e9,r9,p9.Gr λy H s v N _ a5 b5 b4 a8=>⟨y,s,H,e9.trans a5,b5,b4,by rw[QF]at a8;exact a8⟩⟩) λw d4 ⟨v,N,c4,c2,y,s,H,a5,b5,b4,a8⟩=>?_))
       have b9:=sZ (Q:=λ_ l=>∃ a g,Ext f H8 a l/\Rel T a l g/\Ib T E (Rep T) a l (Pc (pj nx n I fi fe k (i+1) h) (λ_=>ret (.ref n)) g) Q) b5 ((ex'.trans a5).get hn) b4
        (a8.bind λ_ g a d5 l _ P a1 d6 a0=>⟨a,g,a5.trans P,a1,a0⟩)
       refine ba (zd (vC (X:=Y) _ d4 F N (.ref D0) [v] (.ref D0) [w] _ c4 rfl (.cons c2 .nil) b9) λ_ a2 ⟨d5,l,U,_,a,g,P,a1,a0⟩=>?_);exact na (na ⟨rfl,V U P a1 a0⟩)
 exact codeAny_compStart_list km (TT.self X.A 0 _ _ _ b0 km)
theorem Ks{u f t:Ga}{G:List Ga}{scope:Scope}{a0:Ae}{x z0:ma}{M':List ma}{ix:List Nat}{src:Ev->M NX}{tg:D->Ev->Option Ev}{fi:Ev->M Bool}{fe:Ev->M D}
  (hc:X.calm=true) (L:Ul X x M' ix scope) (E:Qu T X t f src)
  (Y:∀ cl C s₀ H₀ ex,FG T (ar X (x::z0::M') scope cl C s₀ H₀ ex) t tg)
  (S:∀ cl C s₀ H₀ ex,ky T (ar X (x::z0::M') scope cl C s₀ H₀ ex) G fi)
  (z:∀ cl C s₀ H₀ ex,FE T (ar X (x::z0::M') scope cl C s₀ H₀ ex) u fe)
  (hs:∀ y,dg f X.env y=pure y:=by intro _;rfl) :
  FE T X (.ListComp u [⟨t,f,G,0⟩] scope a0) (Im src ix tg fi fe):=by
 intro l s st H Q I h;obtain⟨N,ρ,σ,hE,hr,hp⟩:=h;rw[eval_ListComp];refine Lq (use:=none) rfl hs (LG X.env scope (vv I L)) L.kind (λy hy e=>?_) ?_
 ·have q:=Pb.mp L.names y hy;rw[e]at q;simp only[Wo,ao,yj]at q;exact eq_of_beq q
 have h1:=E l s st H (λJ g=>∃ nx a c,Ext N H a g/\Rel T a g c/\Sq T a g nx J/\Ib T (XE X st) (Rep T) a g (Pc (pj nx c.length tg fi fe 1001 0 (jt ix ρ)) (λ_=>ret (.ref c.length)) (c++[Ob.lst []])) Q) I
  ⟨N,ρ,σ,hE,hr,hp.bind λnx a2 a1 J H1 _ e1 r1 q1 p1=>⟨nx,a1,a2,e1,r1,q1,p1⟩⟩
 refine zd h1 λv s1 h2=>zd h2 λa3 s2 h3=>?_;obtain⟨it,fp,tn,J,g,rfl,I2,TT,K,f2,nx,a,c,O,r2,so,p2⟩:=h3;refine ge (Xj (rz L) (by intro y hy;simp at hy) (λF j k=>?_) L.kind);have I3:=I2.Mv (ys:=[]) (its:=[]) (t':=s2.toks) .nil (by simp);have w:g s2.heap.objs.size=none:=I2.Qb.fresh (xa _);have r3:=r2.push (p:=s2.heap.objs.size) (o:=.lst []) (ob:=.lst []) w ⟨[],rg,Qa.nil⟩;have m:Ext a g (a++[s2.heap.objs.size]) (upd g s2.heap.objs.size (.lst [])):=Et w;have W:s2.heap.objs.size<(s2.heap.push { cls:=.type "list",data:=.seq ([]:List Value).toArray }).objs.size:=by rw[Jf];exact Gc _
 have kp:∀ b o,(s2.heap.push { cls:=.type "list",data:=.seq ([]:List Value).toArray }).get? b=some o->F.get? b=some o:=λb o e=>k.extBut b o (Ba (qa e)) (ia _ e);have d:∀ b∈fp,Ck X l (upd g s2.heap.objs.size (.lst [])) b/\b<(s2.heap.push { cls:=.type "list",data:=.seq ([]:List Value).toArray }).objs.size:=λb hb=>by
  obtain⟨o,e,_⟩:=TT.obj 0 _ K b hb;have lt:=qa e;exact⟨⟨by rw[jd (Ba lt)];exact(f2 b hb).1,(f2 b hb).2⟩,Bp lt W⟩
 refine ZK (s3:={ s2 with heap:=s2.heap.push { cls:=.type "list",data:=.seq ([]:List Value).toArray },toks:=s2.toks }) (n:=c.length) (D0:=s2.heap.objs.size) hc L Y S z I3 d j kp TT (TT.keep 0 _ _ K λb hb o e=>kp b o (ia _ e))
  (λN H σ i ex r=>so N H σ i (m.trans ex) r) ((hE.mono O).mono m) r3 (by rw[<-r2.len];simp) (p2.mono m) (λs6 H' m6 U P Z V A R hq=>⟨m6,U,λh7 B=>?_⟩)
 have hu:=j1 Z B (xa _);have I7:=L2.Inv.Ar (s':={ s6 with heap:=h7 }) (ch:=fp) I3 V hu (S1 A B P) R (λb hb=>⟨(d b hb).1.2.2.2.1,(d b hb).1.2.1,(d b hb).1.2.2.2.2.1,(d b hb).1.2.2.2.2.2⟩);exact⟨.ref s2.heap.objs.size,H',I7,rfl,hq⟩
end
noncomputable def iy(K:W.Frag)(mg:ma->Option Value)(x:ma)(ss:List ma):Prop:=∃ a,mg x=some (.ref a)/\Ex K a ss
noncomputable def kw:List Value->List ma->Bool
 |[],[]=>true
 | .str y _::a,x::ss=>(y == x) && kw a ss
 |_,_=>false
noncomputable def bF(K:W.Frag)(a:Addr)(ss:List ma):Bool:=match K.lookup a with
 |some o=>(o.cls == .type "tuple") && (match o.data with
  | .seq b _=>decide (b.size<=sizeLine) && kw b.toList ss
  |_=>false)
 |none=>false
theorem xN:∀ {vs:List Value} {ss:List ma},kw vs ss=true->Od (ss.map V.str) vs
 |[],[],_=>.nil
 |[],_::_,h=>by simp[kw]at h
 |v::vs,[],h=>by cases v<;>simp[kw]at h
 |v::vs,x::ss,h=>by
  cases v with
  |str y t=>
   simp only[kw,ya]at h;obtain rfl:=eq_of_beq h.1;exact .cons ⟨t,rfl⟩ (xN h.2)
  |_=>simp[kw]at h
theorem Ex.of{K:W.Frag}{a:Addr}{ss:List ma}(h:bF K a ss=true):Ex K a ss:=by
 unfold bF at h;cases e:K.lookup a with
 |none=>rw[e]at h;cases h
 |some o=>
  rw[e]at h;simp only[ya]at h;obtain⟨h1,b⟩:=h;cases c:o.data with
  |seq d n=>
   rw[c]at b;simp only[ya,Fc]at b;exact⟨o,d,n,e,eq_of_beq h1,c,b.1,xN b.2⟩
  |_=>rw[c]at b;cases b
noncomputable def uA(a:Bool)(ss:List ma)(x:D):M D:=λb=>match x with
 | .str z=>.ok (.bl (if a then !Lw (.str z) (ss.map V.str)else Lw (.str z) (ss.map V.str))) b
 |_=>.bad
section
variable{T:Tb}{X:Cx}{e:Ga}{f:Ev->M D}{x:ma}{p pos:Ae}{ss:List ma}
theorem cZ(ss:List ma):(ss.map V.str).all Th=true:=by simp[Th]
theorem MV{a:Addr}(j:Ex X.K a ss){b:Bool}{st:St}{H:Hp}{Q:VK}(h:tF T X (Fd (uA b ss) f) st H Q):Ew (VA X.K b) (tF T X f) (tC (.ref a)) st H Q:=by
 obtain⟨m,o,p,i,k,hp⟩:=h;refine⟨m,o,p,i,k,hp.bind λd q n v g _ r l e c=>?_⟩;show VA X.K b v (.ref a) g Q;cases d with
 |str z=>rw[Rep]at e;subst e;exact⟨a,ss.map V.str,rfl,.inr (.inr j),rfl,cZ ss,Ib.here c l (by rw[Rep])⟩
 |_=>exact c.elim
theorem eS(j:Gl X x)(g:iy X.K X.mg x ss)(he:FE T X e f)(hd:(x == ("__debug__" : ma))=false:=by decide):FT T X (.Compare e [.In] [.Name x p] pos) (eT (Fd (uA false ss) f)):=by
 obtain⟨a,hm,i⟩:=g;intro b s st H Q I h;refine LK AM he (kG j hm (v:=.ref a) rfl hd) rfl b s st H Q I ?_;refine MV i ?_;obtain⟨r,u,w,he,l,hp⟩:=h;refine⟨r,u,w,he,l,hp.bind λd y t v z _ A o m n=>?_⟩;obtain⟨k,c,q⟩:=CF m n;exact⟨k,c,q.here o rfl⟩
end
section
variable{T:Tb}{X:Cx}
noncomputable def ny(kvs:List (Key × D))(k:Key):List (Key × D):=kvs.filter λa=>decide (a.1≠k)
theorem TK{μ:List Addr}{H:Hp}(k:Key):∀ {kvs:List (Key × D)} {us:List (Key × V)},Uh T μ H kvs us->Uh T μ H (ny kvs k) (sr us k)
 |[],_,h=>by unfold Uh at h;cases h;exact .nil
 |p::kvs,_,h=>by
  unfold Uh at h;cases h with
  |@cons _ q _ us a b=>
   have c:Uh T μ H (ny kvs k) (sr us k):=TK k b;unfold ny sr at *;rw[Xe,Xe,a.1];split
   ·exact .cons a c
   ·exact c
noncomputable def DJ:V->List V->Hp->VK->Prop:=λx c H Q=>∃ a b k v,x=.ref a/\c=[kV k]/\H a=some (.dK b)/\vl b k=some v/\Q v (upd H a (.dK (sr b k)))
theorem ZW:Tq X "dict.pop" DJ:=by
 intro b s st H x n v m Q I j i h;obtain⟨a,e,k,y,rfl,rfl,d,hv,q⟩:=h;cases j;obtain⟨u,rfl,g⟩:=i.one;exact S0 I d g hv (.inl rfl) λo l c f=>⟨y,_,c,f,q⟩
noncomputable def Jx(x:D)(xs:List D):M D:=λb=>match x,xs with
 | .ref n,[y]=>(match Gn y with
  |some k=>(match b[n]? with
   |some (.Lb a)=>(match jq a k with
    |some d=>.ok d (b.set n (.Lb (ny a k)))
    |none=>.bad)
   |_=>.bad)
  |none=>.bad)
 |_,_=>.bad
theorem UR:Hx T DJ Jx:=by
 intro E i H u x xs v B Q r p q h;cases x with
 |ref n=>
  match xs with
  |[]=>exact h.elim
  |[y]=>
   unfold Jx at h;dsimp only at h;cases b:Gn y with
   |none=>simp only[b]at h;exact h.elim
   |some k=>
    simp only[b]at h;cases c:u[n]? with
    |none=>rw[c]at h;exact h.elim
    |some ob=>
     rw[c]at h;cases ob with
     |Lb d=>
      dsimp only at h;obtain⟨a,rfl,hn,e,h3,h4⟩:=r.at p c;rw[Qa]at q;obtain⟨w,z,rfl,m,j⟩:=q;rw[Qa]at j;subst j;obtain rfl:=ax m b;rcases Gx h4 k with⟨g,_⟩|⟨A,l,g,s,t⟩
      ·rw[g]at h;exact h.elim
      ·rw[g]at h;dsimp only at h;have ex:Ext i H i (upd H a (.dK (sr e k))):=Pt (Ja hn) h3 (λ_ z=>by cases z) (λ_ _ z=>by cases z);have f:=r.write (o:=.dK (sr e k)) (ob:=.Lb (ny d k)) hn ⟨_,rg,Uh.mono ex (TK k h4)⟩;exact⟨a,e,k,l,rfl,rfl,h3,s,h i l _ f.1 f.2 (Rep.mono f.1 _ _ t)⟩
     |lst _=>exact h.elim
     |ins _ _=>exact h.elim
     |Be _=>exact h.elim
     |cj _=>exact h.elim
  |_::_::_=>exact h.elim
 |_=>cases xs<;>exact h.elim
end
theorem TU{K:W.Frag}{mg:ma->Option Value}{h:Heap}{x:ma}{C:Addr}{ss:List ma}(X:K.In h)(G:h.Ns mainGlobals mg)(a:W.nsIn K mainGlobals x=some (some (.ref C)))(b:bF K C ss=true):iy K mg x ss:=⟨C,Jq X G a,Ex.of b⟩
section
variable{T:Tb}{X:Cx}
end
section
variable{T:Tb}{X:Cx}
end
section
variable{prog:ra}{w:Ea}{A:Da}{E:Value->aa->Prop}{l q I S:Addr}{n:Nat}{P:Nat->Value->Prop}{R:zw->aa->Prop}{Q:Value->aa->Prop}
theorem JV(G:Nat->Value->Int->aa->Prop)(hh:A.handled=none)(Y:l≠I)(H:S≠I)(a6:l≠S)
  (hl:∀ j d a s,G j d a s->∃ vs:List Value,vs.length=n/\(∀ (j:Nat) v,vs[j]?=some v->P j v)/\s.heap.IsList l vs.toArray)
  (B:∀ j d a s h' tk,G j d a s->(∀ b o,b≠I->b≠S->s.heap.get? b=some o->h'.get? b=some o)->G j d a { s with heap:=h',toks:=tk })
  (a4:∀ j d a s v oI oS,G j d a s->P j v->s.heap.get? I=some oI->s.heap.get? S=some oS->(∀ v,oI.data≠.cell v)->(∀ v,oS.data≠.cell v)->
   wpAny (model prog w) A.in1 (call (.ref q) [v]) (λx s'=>∃ k t,x=.int k t/\s'.heap.get? I=some oI/\s'.heap.get? S=some oS/\G (j+1) (if k<a then v else d) (if k<a then k else a) s') (λ_ _=>False) s)
  (hR:∀ d a s,G n d a s->R (.ok (.ret d)) s) :
  ∀ (r j:Nat) (s:aa) (d:Value) (a:Int) (tb:i4) (c:Nat),n - j=r->j<=n->G j d a s->s.heap.get? S=some (dk "list" #[d,.int a tb] c)->s.heap.IsListIter I l j->
   codeAny (model prog w) A (.builtin "min.loop" ⟨[.ref I,.ref q,.ref S],[]⟩) R s:=by
 have p:(toString "min"++toString ".loop" : String) = "min.loop":=by decide
 intro r;induction r with
 |zero=>
  intro j s d a tb c hr hj g U hit;have V:j=n:=by omega
  obtain⟨vs,O,a2,K⟩:=hl j d a s g;have W:=Mm (prog:=prog) (w:=w) (A:=A.in1) hh I l Y vs.toArray;have N:vs.toArray.size=n:=(va ..).trans O;refine Zg Fh ?_;rw[Pe Lc _];show wpAny _ A.in1 (oA (.ref S) >>= _) _ _ _;refine ba (Dp U rfl ?_);show wpAny _ A.in1 (tryCatch (pyNext (.ref I)) _ >>= _) _ _ _;refine ba (cf (W.done _ _ _ ⟨by rw[N,<-V];exact hit,K⟩ λh' a3 J=>?_));have m:∀ b o,b≠I->s.heap.get? b=some o->h'.get? b=some o:=λb o n e=>J b o (by simpa using n) e;have D:=m S _ H U;have s1:=Mh h' S (dh λ_=>(#[]:Array Value));show wpAny _ A.in1 (updateSeq S (λ_=>#[]) >>= _) _ _ _;refine ba ?_;refine Ko D rfl (ba (eo (na ?_)));subst V;exact hR d a _ (B _ _ _ s _ _ g λb o n1 n2 e=>by rw[s1.2 b n2];exact m b o n1 e)
 |succ r ih=>
  intro j s d a tb c hr hj g U hit;have L:j<n:=by omega
  obtain⟨vs,O,a2,K⟩:=hl j d a s g;have W:=Mm (prog:=prog) (w:=w) (A:=A.in1) hh I l Y vs.toArray;have N:vs.toArray.size=n:=(va ..).trans O;refine Zg Fh ?_;rw[Pe Lc _];show wpAny _ A.in1 (oA (.ref S) >>= _) _ _ _;refine ba (Dp U rfl ?_);show wpAny _ A.in1 (tryCatch (pyNext (.ref I)) _ >>= _) _ _ _;refine ba (cf (W.item j _ _ _ (by rw[N];exact L) ⟨hit,K⟩ λv h' a3 hP a1 J=>?_));have m:∀ b o,b≠I->s.heap.get? b=some o->h'.get? b=some o:=λb o n e=>J b o (by simpa using n) e;have hv:P j v:=a2 j v (by simpa using hP);obtain⟨Q,Z,a0,M⟩:=id a1.1;have g1:=B _ _ _ s h' a3 g λb o n1 n2 e=>m b o n1 e;have D:=m S _ H U;show wpAny _ A.in1 (tryCatch (cg [v] (call (.ref q) [v])) _ >>= _) _ _ _;refine ba (cf (md (Mb (a4 j d a _ v Q _ g1 hv Z D (λv z=>by rw[M]at z;cases z) (λv z=>by cases z)) (λx u he=>?_) λ_ _ hF=>hF.elim)));obtain⟨y,C,rfl,T,E,g2⟩:=he;have X:u.heap.IsListIter I l (j+1):=⟨Q,T,a0,M⟩
  show wpAny _ A.in1 (tryCatch (cg [v,.int y C] (xu .Lt (.int y C) (.int a tb) >>= _)) _ >>= _) _ _ _;refine ba (cf (md (ba (CmpOf.ints_lt (prog:=prog) (w:=w) (A:=A.in1) (P:=λ(i:Nat) v=>∃ t,v=.int (if i=0 then y else a) t) (λi=>if i=0 then y else a) (λi v h=>h) 0 1 _ _ _ _ _ ⟨C,rfl⟩ ⟨tb,rfl⟩ ?_))));refine ba (md (Rc ?_));refine ba (eo (na ?_));show wpAny _ _ _ _ _ _;by_cases f:y<a
  ·have s1:=Mh u.heap S (dh λ_=>#[v,.int y C]);obtain⟨c2,a5⟩:∃ c2,(u.heap.update S (dh λ_=>#[v,.int y C])).get? S=some (dk "list" #[v,.int y C] c2):=⟨_,SC E λ_=>#[v,.int y C]⟩
   rw[da f,da f]at g2;simp only[f,decide_true,Xf,iv,Zn];refine ba ?_;refine Ko E rfl (ba (eo ?_));rw[p];refine na ⟨ji Lc _,ih (j+1) _ v y C c2 (by omega) L (B _ _ _ u _ _ g2 λb o n1 n2 e=>by rw[s1.2 b n2];exact e) a5 ⟨Q,(s1.2 I H.symm).trans T,a0,M⟩⟩
  ·rw[ka f,ka f]at g2;simp only[f,decide_false,dr,Zn,Xf,iv];refine ba (eo ?_);rw[p];exact na ⟨ji Lc _,ih (j+1) _ d a tb c (by omega) L (B _ _ _ u _ _ g2 λb o _ _ e=>e) E X⟩
theorem N1(U:aa->Prop)(G:Addr->Addr->Nat->Value->Int->aa->Prop){s:aa}(hh:A.handled=none)(g0:U s){vs:List Value}(a8:vs.length=n)(a7:∀ (j:Nat) v,vs[j]?=some v->P j v)(h:s.heap.IsList l vs.toArray)(L:0<n)
  (X:∀ s h' tk,U s->(∀ b o,s.heap.get? b=some o->h'.get? b=some o)->U { s with heap:=h',toks:=tk })
  (first:∀ (I S:Addr) (s1:aa) v oI i,s.heap.objs.size<=I->s.heap.objs.size<=S->S≠I->(∃ s0,U s0/\(∀ b o,b≠I->s0.heap.get? b=some o->s1.heap.get? b=some o)/\(s1={ s0 with heap:=s1.heap,toks:=s1.toks }))->P 0 v->s1.heap.get? I=some oI->s1.heap.get? S=some i->(∀ v,oI.data≠.cell v)->(∀ v,i.data≠.cell v)->
   wpAny (model prog w) A.in1 (call (.ref q) [v]) (λx m=>∃ k t,x=.int k t/\m.heap.get? I=some oI/\m.heap.get? S=some i/\G I S 1 v k m) (λ_ _=>False) s1)
  (hl:∀ I S j c a s,G I S j c a s->∃ vs:List Value,vs.length=n/\(∀ (j:Nat) v,vs[j]?=some v->P j v)/\s.heap.IsList l vs.toArray)
  (K:∀ I S j c a s h' tk,G I S j c a s->(∀ b o,b≠I->b≠S->s.heap.get? b=some o->h'.get? b=some o)->G I S j c a { s with heap:=h',toks:=tk })
  (T:∀ I S j c a s v oI i,G I S j c a s->P j v->s.heap.get? I=some oI->s.heap.get? S=some i->(∀ v,oI.data≠.cell v)->(∀ v,i.data≠.cell v)->
   wpAny (model prog w) A.in1 (call (.ref q) [v]) (λx m=>∃ k t,x=.int k t/\m.heap.get? I=some oI/\m.heap.get? S=some i/\G I S (j+1) (if k<a then v else c) (if k<a then k else a) m) (λ_ _=>False) s)
  (hQ:∀ I S c a s,G I S n c a s->Q c s) :
  wpAny (model prog w) A (call (.builtin "min") [.ref l] [(Sf "key",.ref q)]) Q E s:=by
 have d:(toString "min"++toString ".loop" : String) = "min.loop":=by decide
 obtain⟨ol,a5,_⟩:=id h;have J:l<s.heap.objs.size:=qa a5;refine kmk_tree PySem.F.kind_min PySem.F.plain_min PySem.F.entry_min (kmk_min_key _ _) ?_;show wpAny _ A.in1 (Ei "min" ["key", "default"] 0 ⟨[],[(Sf "key",.ref q)]⟩ >>= _) _ _ s;refine ba (wpAny_of_eq (show Ei "min" ["key", "default"] 0 ⟨[],[(Sf "key",.ref q)]⟩=pure [some (.ref q),none]from rfl) ?_);refine ba (na ?_);refine ba (Km h ?_);refine ba (nO ?_ (Gq _));rw[d];have Z:(s.heap.push { cls:=.type "list_iterator",data:=.fields #[.ref l,.int 0 0] }).objs.size=s.heap.objs.size+1:=size_push' ..;have H:l≠s.heap.objs.size:=Ba J;have f:(s.heap.push { cls:=.type "list_iterator",data:=.fields #[.ref l,.int 0 0] }).objs.size≠s.heap.objs.size:=by rw[Z];exact Qf (Gc _)
 have a3:l≠(s.heap.push { cls:=.type "list_iterator",data:=.fields #[.ref l,.int 0 0] }).objs.size:=by rw[Z];exact Ba (wh J)
 have B:s.heap.objs.size<=(s.heap.push { cls:=.type "list_iterator",data:=.fields #[.ref l,.int 0 0] }).objs.size:=by rw[Z];exact rm _
 refine na ⟨ji Lc _,?_⟩;have gI:((s.heap.push { cls:=.type "list_iterator",data:=.fields #[.ref l,.int 0 0] }).push (dk "list" #[] 0)).get? s.heap.objs.size=some { cls:=.type "list_iterator",data:=.fields #[.ref l,.int 0 0] }:=
  ia _ (Sa _ rfl)
 have gS:((s.heap.push { cls:=.type "list_iterator",data:=.fields #[.ref l,.int 0 0] }).push (dk "list" #[] 0)).get? (s.heap.push { cls:=.type "list_iterator",data:=.fields #[.ref l,.int 0 0] }).objs.size=some (dk "list" #[] 0):=Sa _ rfl;have D:∀ b o,s.heap.get? b=some o->((s.heap.push { cls:=.type "list_iterator",data:=.fields #[.ref l,.int 0 0] }).push (dk "list" #[] 0)).get? b=some o:=λb o e=>ia _ (ia _ e);generalize (s.heap.push { cls:=.type "list_iterator",data:=.fields #[.ref l,.int 0 0] }).objs.size=S at *;generalize ((s.heap.push { cls:=.type "list_iterator",data:=.fields #[.ref l,.int 0 0] }).push (dk "list" #[] 0))=hp at *;have W:=Mm (prog:=prog) (w:=w) (A:=A.in1) hh s.heap.objs.size l H vs.toArray;have a6:vs.toArray.size=n:=(va ..).trans a8;refine Zg Fh ?_;rw[Pe Lc _];show wpAny _ A.in1 (oA (.ref _) >>= _) _ _ _;refine ba (Dp gS rfl ?_);show wpAny _ A.in1 (tryCatch (pyNext (.ref s.heap.objs.size)) _ >>= _) _ _ _;refine ba (cf (W.item 0 _ _ _ (by rw[a6];exact L) ⟨⟨_,gI,rfl,rfl⟩,h.at λo e=>D _ _ e⟩ λv h' a9 hP O a2=>?_));have C:∀ b o,b≠s.heap.objs.size->hp.get? b=some o->h'.get? b=some o:=λb o n e=>a2 b o (by simpa using n) e;have hv:P 0 v:=a7 0 v (by simpa using hP);obtain⟨R,M,a4,N⟩:=id O.1;have a0:=C S _ f gS;show wpAny _ A.in1 (tryCatch (cg [v] (call (.ref q) [v])) _ >>= _) _ _ _;refine ba (cf (md (Mb (first s.heap.objs.size S _ v R _ (xa _) B f ⟨{ s with heap:=hp,toks:=s.toks },X s hp _ g0 D,λb o n e=>C b o n e,rfl⟩ hv M a0 (λv z=>by rw[N]at z;cases z) (λv z=>by cases z)) (λx p he=>?_) λ_ _ hF=>hF.elim)));obtain⟨r,u,rfl,Y,y,g2⟩:=he;have s1:=Mh p.heap S (dh λ_=>#[v,.int r u]);obtain⟨V,a1⟩:∃ V,(p.heap.update S (dh λ_=>#[v,.int r u])).get? S=some (dk "list" #[v,.int r u] V):=⟨_,SC y λ_=>#[v,.int r u]⟩
 show wpAny _ A.in1 (updateSeq S (λ_=>#[v,.int r u]) >>= _) _ _ _;refine ba ?_;refine Ko y rfl ?_;rw[d];exact na ⟨ji Lc _,JV (G _ _) hh H f a3 (hl _ _) (K _ _) (T _ _) (λc a s g=>hQ _ _ c a s g) _ 1 _ v r u V rfl L (K _ _ _ _ _ p _ _ g2 λb o n1 n2 e=>by rw[s1.2 b n2];exact e) a1 ⟨R,(s1.2 _ f.symm).trans Y,a4,N⟩⟩
end
noncomputable def Jz(X:Cx)(A:Da)(a:List ma)(qual:ma)(scope:Scope)(q:Addr)(cd:Value)(cl:List (ma × Addr))(s₀:aa)(H₀:Hp):Cx:=
 { X with A:=A.deeper (W.envX qual scope s₀.heap.objs.size q cd cl),N:=a,s₀:=s₀,H₀:=H₀,env:=W.envX qual scope s₀.heap.objs.size q cd cl,outer:=X.stack,stack:=W.envX qual scope s₀.heap.objs.size q cd cl::X.stack,ex:=[],fn:=λ_=>false,calm:=true,pn:=[],xe:=λ_ _=>False }
noncomputable def aE(ix:List Nat)(d:D)(ρ:Ev):Ev:=some d::ix.map λi=>(ρ[i]?).getD none
noncomputable def uz(ix:List Nat)(v:V)(st:St):St:=some v::ix.map λi=>(st[i]?).getD none
theorem aY{T:Tb}{μ:List Addr}{H:Hp}{ρ:Ev}{st:St}{d:D}{v:V}(ix:List Nat)(h:Lg T μ H ρ st)(hd:Rep T μ H d v):Lg T μ H (aE ix d ρ) (uz ix v st):=by
 have z:=(zN ix h).set 0 hd;exact z
section
variable{X:Cx}{pins:List (Addr × gc)}{st:St}{H:Hp}{s:aa}{x:ma}{M':List ma}{ix:List Nat}{scope:Scope}{A:Da}{qual:ma}{q:Addr}{cd:Value}{v:V}{u:Value}
theorem XT(I:Inv X pins st H s)(L:Ul X x M' ix scope)(hx:scope.names.lookup x=some .local)(W:A.frames=some X.stack)(E:A.handled=none)(rv:Qc v u){h':Heap}{t':Nat}{m:ma->Option Value}(G:h'.Ns s.heap.objs.size m)(hm:m x=some u)
  (B:∀ b o,s.heap.get? b=some o->h'.get? b=some o) :
  Inv (Jz X A (x::M') qual scope q cd (Qh X.env scope.names []) s H) [] (uz ix v st) H { s with heap:=h',toks:=t' }:=by
 have sub:∀ n c,(Qh X.env scope.names []).lookup n=some c->X.env.cells.lookup n=some c:=λn c e=>jE X.env scope.names [] n c (λ_ _ q=>by simp at q) e;have fresh:H s.heap.objs.size=none:=I.Qb.fresh (xa _);have g:∀ b:Addr,b ∉ (Jz X A (x::M') qual scope q cd (Qh X.env scope.names []) s H).ex:=λb z=>absurd (show b∈([]:List Addr)from z) (by simp);refine⟨⟨I.ok.mod,L.kind,rfl,rfl,xa _,λa b c h1 V=>I.ok.inj a b c (sub a c h1) (sub b c V),λa Y=>?_,λa c h=>(by cases h),λ_=>E,Ro W,.inr ⟨rfl,rfl⟩,λb hb=>absurd hb (g b),λb o e=>I.bs b o e,Hb I.ok.Jp I.sz,λb o e=>g b,λb hb=>absurd hb (g b),I.stack,I.tj⟩,
  rfl,I.bare,Un.kept B,⟨m,G,λi y v' M O e3=>?_⟩,λa c e=>?_,fresh,λa c e=>I.Gf a c (sub a c e),λp hp=>absurd (show p∈([]:List (Addr × gc))from hp) (by simp),I.Qb.kept B,?_⟩
 ·have D:scope.names.lookup a=some .cell\/scope.names.lookup a=some .free:=Y;rcases D with z|z
  ·exact absurd rfl (rz L _ (Ms z))
  ·exact Vy X.env scope.names [] a (Ms z) (vv I L _ (Ms z) rfl)
 ·cases i with
  |zero=>
   have f:some x=some y:=M;have d:some (some v)=some (some v'):=O;cases f;cases d;exact⟨u,rv,.inl ⟨hx,hm⟩⟩
  |succ j=>
   have f:M'[j]?=some y:=M;have d:(ix.map λi=>(st[i]?).getD none)[j]?=some (some v'):=O;rw[Fb]at d;cases C:ix[j]? with
   |none=>rw[C]at d;cases d
   |some t=>
    rw[C]at d;have w:(st[t]?).getD none=some v':=nb d;have S:st[t]?=some (some v'):=by
     cases q:st[t]? with
     |none=>rw[q]at w;cases w
     |some o=>rw[q]at w;exact we some w
    have T:X.N[t]?=some y:=by
     have z:=we (λl=>l[j]?) L.at_;simp only[Fb,C,f,kg]at z;exact nb z
    have q:=Pb.mp L.AA y (Ja f);simp only[ya,sf]at q;have Q:X.env.scope.names.lookup y=some .cell\/X.env.scope.names.lookup y=some .free:=by
     rcases q.1 with z|z
     ·exact .inl (eq_of_beq z)
     ·exact .inr (eq_of_beq z)
    have K:scope.names.lookup y=some .free:=eq_of_beq q.2;obtain⟨m0,Z,F⟩:=I.loc;obtain⟨u2,ru,lu⟩:=F t y v' T S (by rcases Q with z|z;exact .inr (.inl z);exact .inr (.inr z));refine⟨u2,ru,.inr ⟨.inr K,?_⟩⟩;rcases lu with⟨z,_⟩|⟨_,c,U,zc⟩
    ·rcases Q with k|k
     ·rw[show X.env.kindOf y=X.env.scope.names.lookup y from rfl,k]at z;cases z
     ·rw[show X.env.kindOf y=X.env.scope.names.lookup y from rfl,k]at z;cases z
    ·obtain⟨R,r⟩:=Vy X.env scope.names [] y (Ms K) (vv I L _ (Ms K) rfl);have P:=sub y R r;rw[U]at P;cases P;obtain⟨o,J,hd⟩:=zc;exact⟨c,r,o,B _ _ J,hd⟩
 ·obtain⟨v,o,J,hd⟩:=I.cell a c (sub a c e);exact⟨v,o,B _ _ J,hd⟩
 ·have z:=we List.length L.at_;simp[uz,Jz];simpa using z
theorem oQ{name:ma}{a:Arguments}{c:Ga}{C f:Value}{d:Addr}{t:TE}{Q:VK}(I:Inv X pins st H s)(L:Ul X x M' ix scope)(E:scope.names.lookup x=some .local)(M:A.frames=some X.stack)(p:A.handled=none)(n:A.depth<recursionLimit)
  (N:s.heap.get? q=some (W.kla_obj name qual a c scope (Qh X.env scope.names []) C d f)) (l:s.heap.CodeRec (.ref d) qual)
  (g:bindArgs (W.kla_fn name qual a c scope (Qh X.env scope.names []) C (.ref d) f) ⟨[u],[]⟩=pure [(x,u)]) (m:scope.isCoroutine=false) (i:scope.isGenerator=false) (S:Qc v u)
  (hb:PE (Jz X A (x::M') qual scope q (.ref d) (Qh X.env scope.names []) s H) c t) (P:t (uz ix v st) H Q) :
  wpAny (model X.prog X.w) A (call (.ref q) [u]) (λr F=>CE X.stack X.prog X.w H s Q r F) (λ_ _=>False) s:=by
 refine zp (W.kla_callFunE (o:=W.kla_obj name qual a c scope (Qh X.env scope.names []) C d f) n N rfl m i rfl l ?_);rw[g];refine na (Xj (rz L) (λy R=>?_) (λk B j=>⟨?_,?_⟩) L.kind)
 ·have e:y=(x,u):=by simpa using R
  subst e;exact E
 ·exact(I.nolimit).fresh _ j
 ·have h:∀ b o,s.heap.get? b=some o->k.get? b=some o:=λb o e=>j.extBut b o (Ba (qa e)) (ia _ e);show codeAny _ _ (.expr c (W.envX qual scope s.heap.objs.size q (.ref d) (Qh X.env scope.names []))) _ _;refine W.kla_codeExpr ?_;have K:=XT (A:=A) (qual:=qual) (q:=q) (cd:=.ref d) (t':=s.toks+1) I L E M p S B (by simp) h;refine Mb (hb [] _ (uz ix v st) H Q K P) (λU F z=>?_) λ_ _ z=>z.elim;obtain⟨T,G,J,D,O⟩:=z;exact⟨T,G,J.os,J.bare,J.base,J.Qb,D,O⟩
end
noncomputable def Fy(K:W.Frag)(c P:Addr):Bool:=match K.lookup c with
 |some o=>(match o.cls,o.data with
  | .type n,.fields a=>n == "code" && (match (a[11]?:Option Value)with|some (.ref p)=>p == P|_=>false) && (match a.getD 11 .none with | .ref p=>p == P|_=>false) && (match a.getD 18 .none with | .str _ _=>true|_=>false) &&
   (match a.getD 7 .none with | .int _ _=>true|_=>false) && (match a.getD 9 .none with | .bool _=>true|_=>false) && (match a.getD 10 .none with | .int _ _=>true|_=>false) && (c != P)
  |_,_=>false)
 |none=>false
theorem cU{K:W.Frag}{h:Heap}{c P:Addr}(X:K.In h)(e:Fy K c P=true):W.CodeHd h c P:=by
 unfold Fy at e;split at e
 ·next o s=>
  split at e
  ·next n D r hd=>
   simp only[ya]at e;obtain⟨⟨⟨⟨⟨⟨⟨j,a⟩,b⟩,d⟩,f⟩,g⟩,i⟩,k⟩:=e;split at a;case h_2=>cases a
   next E l=>
   split at b;case h_2=>cases b
   next F h3=>
   split at d;case h_2=>cases d
   next w A h4=>
   split at f;case h_2=>cases f
   next x B m=>
   split at g;case h_2=>cases g
   next y p=>
   split at i;case h_2=>cases i
   next z C q=>
   have u:=eq_of_beq a;have v:=eq_of_beq b;subst u;subst v;have t:=eq_of_beq j;subst t;exact⟨o,D,w,A,x,B,y,z,C,X _ _ s,r,hd,l,h3,h4,m,p,q,by simpa using k⟩
  ·cases e
 ·cases e
theorem xW{X:Cx}{d:List (Addr × gc)}{st:St}{H:Hp}{s:aa}{P c':Addr}{ps more:Array Value}{qual:ma}{h':Heap}{tk:Nat}(I:Inv X d st H s)(a:H P=some (.Ik ps))(m:Heap.ExtBut P s.heap h')(h:s.heap.objs.size<=c')(E:c'<h'.objs.size)
  (i:Qq qual c' h') (j:h'.get? P=some (W.tabObj (ps++more))) :
  Inv X d st (upd (upd H P (.Ik (ps++more))) c' (.ext (Qq qual c'))) { s with heap:=h',toks:=tk }:=by
 have f:H c'=none:=I.Qb.fresh h;have r:c'≠P:=λz=>by rw[z,a]at f;cases f
 have p:∀ b,H b=none->b≠P:=λb n z=>by rw[z,a]at n;cases n
 have l:∀ b u,H b=some u->b≠P->upd (upd H P (.Ik (ps++more))) c' (.ext (Qq qual c')) b=some u:=λb u e n=>by
  rw[jd (Jn e f),jd n];exact e
 have G:upd (upd H P (.Ik (ps++more))) c' (.ext (Qq qual c')) P=some (.Ik (ps++more)):=by rw[jd r.symm,rg]
 refine I.un (h':=h') (t':=tk) ⟨λb o e n _ _=>m b o (p b n) e,λb o e n _ _=>⟨o.slots,m b o (p b n) e⟩,λb o e n _=>?_,λb o e _=>?_,λb xs e=>l b _ e (λz=>by rw[z,a]at e;cases e),λb o u e=>l b _ e (λz=>by rw[z,a]at e;cases e),λb K e=>?_⟩ λb u e=>?_
 ·have:b≠c':=λz=>by subst z;exact absurd (qa e) (VG.mpr h)
  rw[jd this,jd (p b n)];exact n
 ·by_cases hb:b=P
  ·subst hb;exact⟨_,j⟩
  ·exact⟨o,m b o hb e⟩
 ·by_cases hb:b=P
  ·subst hb;rw[a]at e;cases e;exact⟨more,G⟩
  ·exact⟨#[],by rw[Array.append_empty];exact l b _ e hb⟩
 ·by_cases g:b=c'
  ·subst g;rw[rg]at e;cases e;obtain⟨o,J,t,h1,C,h3⟩:=i;exact⟨⟨o,J,t,h1,C,h3⟩,⟨o,h1⟩,λa1 a2 ⟨F,w,t',x,A,B⟩ k=>⟨F,w,t',k _ x,A,B⟩⟩
  ·rw[jd g]at e;by_cases hb:b=P
   ·subst hb;rw[rg]at e;cases e;exact j
   ·rw[jd hb]at e;refine(I.Qb b u e).ej (λc v D q=>m c v ?_ q) (λc q=>l c _ q (λz=>by rw[z,a]at q;cases q)) λc xs q=>l c _ q (λz=>by rw[z,a]at q;cases q);rcases D with z|z
    ·rw[z];exact hb
    ·intro y;rw[y,a]at z;cases z
section
variable{T:Tb}{X:Cx}{pins:List (Addr × gc)}{st:St}{H:Hp}{s:aa}{μ:List Addr}{σ:ub}{x:ma}{M':List ma}{ix:List Nat}{scope:Scope}{params:Arguments}{body:Ga}{pos:Ae}{c:Addr}{t:Tab}
structure Gu(T:Tb)(X:Cx)(t:Tab)(c:Addr)(pos:Ae):Prop where
 mem:t∈T.tx.ul
 inj:∀ t'∈T.tx.ul,t'.P=t.P->t'=t
 code:X.env.code=.ref c
 hd:Fy X.K c t.P=true
 line:t.line=pos.line
 col:t.col=pos.col
 qual:t.qual=X.env.qual++"<lambda>"
 bm:X.mg "__builtins__" = some (.ref T.tx.bm)
 bb:T.tx.bm≠builtinsNs
theorem UP(I:Inv X pins st H s)(L:Ul X x M' ix scope)(r:Rel T μ H σ)(f:Gu T X t c pos)(F:defaultsOf params X.env=([],[])) :
  wpAny (model X.prog X.w) X.A (Wb (.Lambda params body scope pos) X.env) (λv s'=>∃ q d g l,v=.ref q/\Inv X ((q,W.kla_obj "<lambda>" t.qual params body scope (Qh X.env scope.names []) ((X.mg "__name__").getD .none) d g)::pins) st l s'/\Ext μ H μ l/\Rel T μ l σ/\d ∉ μ/\l d=some (.ext (Qq t.qual d))) X.xe s:=by
 obtain⟨⟨b0,b2,R⟩,Q,ps,y,a6⟩:=r.tb t f.mem;have i:s.heap.get? t.P=some (W.tabObj ps):=I.Qb _ _ y;have k:s.heap.Ns mainGlobals X.mg:=I.ok.mod.glob.keeps I.bk;have Z:mainGlobals≠t.P:=λz=>by
  obtain⟨o,es,ep,e,hd,_⟩:=k;rw[z,i]at e;cases e;cases hd
 obtain⟨_,⟨ob,N,o2,o3,o4⟩,_⟩:=I.Qb _ _ R;have D:T.tx.bm≠t.P:=λz=>by rw[z,i]at N;cases N;cases o2
 have S:T.tx.bm≠mainGlobals:=λz=>by
  obtain⟨o,es,ep,e,hd,_⟩:=k;rw[z,e]at N;cases N;rw[hd]at o4;cases o4
 have hB:s.heap.BuiltinsAt X.mg t.P:=⟨T.tx.bm,ob,f.bm,f.bb,S,D,N,o2,o3,o4⟩
 have E:=LG X.env scope (vv I L);have C:W.CodeHd s.heap c t.P:=(cU I.ok.mod.Cu f.hd).keeps I.bk;have pinned:∀ {h':Heap} {tk:Nat} {l:Hp} {o:gc},Inv X pins st l { s with heap:=h',toks:=tk }->o.isFreed=false->(∀ v,o.data≠.cell v)->Inv X ((h'.objs.size,o)::pins) st l { s with heap:=h'.push o,toks:=tk }:=fun {h' tk l o} J hf hc=>by
  have J2:=J.kept (h':=h'.push o) (t':=tk) λb u e=>ia _ e;refine J2.ki λp hp=>?_;rcases Pa.mp hp with rfl|hp
  ·exact⟨Sa _ hf,J.Qb.fresh (xa _),Qf J.lt,J.Rz (xa _),hc⟩
  ·exact J2.pin p (Ka _ hp)
 refine W.kla_eval F ?_;rw[<-f.qual];rcases a6 with rfl|⟨O,rfl,U,V⟩
 ·refine W.kla_makeFunction (mg:=X.mg) E I.ok.glob k f.code C i trivial rfl Z hB λd g h' tk hx G a0 K a7=>?_;have Y:Qq t.qual d h':=by
   obtain⟨c2,o,vs,tt,e,h1,h2,h3⟩:=K;cases e;exact⟨o,vs,tt,h1,h2,h3⟩
  have J:=xW (tk:=tk) I y hx G a0 Y a7;have j:H d=none:=I.Qb.fresh G;have a8:d≠t.P:=λz=>by rw[z,y]at j;cases j
  have m:d ∉ μ:=λz=>by obtain⟨u,hu,_⟩:=r.mem z;rw[j]at hu;cases hu
  have B:∀ b u,H b=some u->b≠t.P->upd (upd H t.P (.Ik (#[]++#[Wd pos.line,Wd pos.col,.ref d]))) d (.ext (Qq t.qual d)) b=some u:=λb u e n=>by
   rw[jd (Jn e j),jd n];exact e
  have uP:upd (upd H t.P (.Ik (#[]++#[Wd pos.line,Wd pos.col,.ref d]))) d (.ext (Qq t.qual d)) t.P=some (.Ik (#[]++#[Wd pos.line,Wd pos.col,.ref d])):=by rw[jd a8.symm,rg]
  have uc:upd (upd H t.P (.Ik (#[]++#[Wd pos.line,Wd pos.col,.ref d]))) d (.ext (Qq t.qual d)) d=some (.ext (Qq t.qual d)):=rg;have e:Ext μ H μ (upd (upd H t.P (.Ik (#[]++#[Wd pos.line,Wd pos.col,.ref d]))) d (.ext (Qq t.qual d))):=by
   refine⟨⟨[],by simp⟩,λp xs h=>B p _ h (λz=>by rw[z,y]at h;cases h),λp o u h=>B p _ h (λz=>by rw[z,y]at h;cases h),λp o h n=>⟨?_,n⟩⟩;by_cases hp:p=t.P
   ·subst hp;rw[y]at h;cases h;exact⟨_,uP,.inr (.inr ⟨_,_,rfl,rfl⟩)⟩
   ·exact⟨o,B p o h hp,.inl rfl⟩
  refine⟨_,d,g,_,rfl,pinned J rfl (λv z=>by cases z),e,r.keep e (λa ha=>?_) λt' M=>?_,m,uc⟩
  ·obtain⟨u,hu,_⟩:=r.mem ha;rw[hu];exact B a u hu λz=>Q (by rw[<-z];exact ha)
  ·obtain⟨⟨a1,a9,a2⟩,a3,qs,a4,a5⟩:=r.tb t' M;refine⟨⟨a1,a9,B _ _ a2 D⟩,a3,?_⟩;by_cases hp:t'.P=t.P
   ·have et:=f.inj t' M hp;subst et;exact⟨_,uP,.inr ⟨d,by rw[f.line,f.col];rfl,m,uc⟩⟩
   ·refine⟨qs,B _ _ a4 hp,a5.imp id λ⟨c3,z1,z2,z3⟩=>⟨c3,z1,z2,B _ _ z3 (λz=>by rw[z,y]at z3;cases z3)⟩⟩
 ·refine W.kla_makeFunctionHit (mg:=X.mg) (cv:=.ref O) E I.ok.glob k f.code C i ?_ ?_ hB λg h' tk hk b1=>?_
  ·exact trivial
  ·rw[f.line,f.col];show codeAmong pos [Wd pos.line,Wd pos.col,.ref O]=_;simp[codeAmong,Wd]
  ·have J:=I.kept (h':=h') (t':=tk) hk;exact⟨_,O,g,H,rfl,pinned J rfl (λv z=>by cases z),Ext.refl _ _,r,U,V⟩
end
noncomputable def ot(fe:Ev->M D)(Kg:Ev):List D->D->Int->M D
 |[],b,_=>ret b
 |d::ds,b,a=>Pc (Dm (fe (some d::Kg))) λk=>match k with
  | .int k=>if k<a then ot fe Kg ds d k else ot fe Kg ds b a
  |_=>bad
noncomputable def Nr(fe:Ev->M D)(Kg:Ev)(ds:List D):M D:=match ds with
 |[.lst (x::xs)]=>Pc (Dm (fe (some x::Kg))) λk=>match k with
  | .int k=>ot fe Kg xs x k
  |_=>bad
 |_=>bad
noncomputable def FC(ix:List Nat)(fe:Ev->M D)(fs:Ev->M (List D)):Ev->M D:=λa=>Pc (fs a) (Nr fe (ix.map λi=>(a[i]?).getD none))
theorem dM{X:Cx}{a:List (Addr × gc)}{st:St}{H:Hp}{s:aa}{h':Heap}{t':Nat}{i j:Addr}(I:Inv X a st H s)(k:∀ b o,b≠i->b≠j->s.heap.get? b=some o->h'.get? b=some o)(g:Ck X a H i)(l:Ck X a H j):Inv X a st H { s with heap:=h',toks:=t' }:=by
 have f:∀ b u,H b=some u->b≠i/\b≠j:=λb u e=>⟨(λz=>by rw[z,g.1]at e;cases e),(λz=>by rw[z,l.1]at e;cases e)⟩
 have p:∀ {b:Addr},b ∉ [i,j]->b≠i/\b≠j:=fun {b} h=>⟨λz=>h (by simp[z]),λz=>h (by simp[z])⟩
 refine I.step (g':=s.gens) (d':=s.drawn) (ch:=[i,j]) (λb hb=>?_) (λb o _ _ d e _=>k b o (p d).1 (p d).2 e) (λb o _ _ d e _=>⟨o.slots,k b o (p d).1 (p d).2 e⟩) (λ_ _ _ _ n=>n)
  (λb o d e=>⟨o,k b o (p d).1 (p d).2 e⟩) (λ_ _ e=>e) (λ_ _ _ e=>e) (λb y e=>⟨#[],by rw[e];simp⟩) (λm hm=>?_) (λb u e=>?_) I.bare
 ·have e:b=i\/b=j:=by simpa using hb
  rcases e with rfl|rfl
  ·exact⟨g.2.2.2.1,g.2.1,g.2.2.2.2.1,g.2.2.2.2.2⟩
  ·exact⟨l.2.2.2.1,l.2.1,l.2.2.2.2.1,l.2.2.2.2.2⟩
 ·obtain⟨o,w,t,x,r⟩:=hm;exact⟨o,w,t,k _ o (Ee g.2.1) (Ee l.2.1) x,r⟩
 ·refine(I.Qb b u e).ej (λc v d q=>?_) (λ_ q=>q) λ_ _ q=>q;rcases d with z|z
  ·rw[z]at q ⊢;exact k b v (f b u e).1 (f b u e).2 q
  ·exact k c v (f c _ z).1 (f c _ z).2 q
section
variable{T:Tb}{X:Cx}
theorem JK{e E:Ga}{f:Arguments}{scope:Scope}{b1 a5 kp p:Ae}{x:ma}{M':List ma}{ix:List Nat}{fs:Ev->M (List D)}{fe:Ev->M D}{t:Tab}{c:Addr}{k:Nat}
  (N:vd (k+2) X.A) (L:Ul X x M' ix scope) (hx:scope.names.lookup x=some .local) (Lm:Gu T X t c b1) (hg:Gl X "min") (hm:X.mg "min" = none)
  (c1:defaultsOf f X.env=([],[])) (d1:scope.isCoroutine=false) (c2:scope.isGenerator=false)
  (b5:∀ (cl:List (ma × Addr)) (pm cd K u:Value),bindArgs (W.kla_fn "<lambda>" t.qual f E scope cl pm cd K) ⟨[u],[]⟩=pure [(x,u)])
  (ha:FA T X [e] fs)
  (hb:∀ (A:Da) (q:Addr) (cd:Value) (s₀:aa) (H₀:Hp),vd k (A.deeper (W.envX t.qual scope s₀.heap.objs.size q cd (Qh X.env scope.names [])))->FE T (Jz X A (x::M') t.qual scope q cd (Qh X.env scope.names []) s₀ H₀) E fe)
  (he:Dc a5 (pa [e] X.env)=(false,Wb e X.env)::Dc a5 (pa [] X.env):=by rfl)
  (a8:(Dc a5 (pa [e] X.env)).any (·.1)=false:=by rfl) :
  FE T X (.Call (.Name "min" p) [e] [⟨some "key",.Lambda f E scope b1,kp⟩] a5) (FC ix fe fs):=by
 intro l s st H Q I h;refine Je (Wu I hg hm (show bootBuiltins "min" = some (.builtin "min")from rfl) ?_);obtain⟨μ,ρ,σ,hE,hr,hp⟩:=h;refine callWith_kw (zd (ha a5 l s st H (λvs H1=>∃ F a7 ds,Ext μ H F H1/\Rel T F H1 a7/\Qa T F H1 ds vs/\Ib T (XE X st) (Rep T) F H1 (Nr fe (ix.map λi=>(ρ[i]?).getD none) ds a7) Q) I ⟨μ,ρ,σ,hE,hr,hp.bind λds a7 F vs H1 _ e1 r1 q1 p1=>⟨F,a7,ds,e1,r1,q1,p1⟩⟩) λus s1 ⟨vs,H1,I1,rv,F,a7,ds,e1,r1,q1,p1⟩=>kws_cons (zd (UP I1 L r1 Lm c1) λlv s2 ⟨q,c',K,Z,c5,I2,e2,r2,c8,c9⟩=>kws_nil ?_)) he a8;subst c5;show wpAny _ _ (call (.builtin "min") us [(Sf "key",.ref q)]) _ _ _;have c6:Lg T F Z ρ st:=(hE.mono e1).mono e2;generalize b7:(ix.map λi=>(ρ[i]?).getD none)=Kg at *;obtain⟨x0,xs,rfl⟩:∃ x0 xs,ds=[.lst (x0::xs)]:=by
  unfold Nr at p1;split at p1
  ·exact⟨_,_,rfl⟩
  ·exact p1.elim
 rw[Qa]at q1;obtain⟨v0,rr,rfl,q2,q3⟩:=q1;rw[Qa]at q3;subst q3;rw[Rep]at q2;obtain⟨a,ws,rfl,c0,c7,d3⟩:=q2;obtain⟨u0,rfl,d4⟩:=Od.one rv;obtain rfl:u0=.ref a:=d4;have p2:=Ib.mono e2 p1;have b0:Z a=some (.lst ws):=(e2.Hh _ _ c7 c0).1;have a4:Qa T F Z (x0::xs) ws:=Qa.mono e2 _ _ d3;have a0:(x0::xs).length=ws.length:=a4.length;have lst:∀ {H':Hp} {s':aa} {pn:List (Addr × gc)},Inv X pn st H' s'->H' a=some (.lst ws)->∃ O:List Value,O.length=ws.length/\(∀ (j:Nat) v,O[j]?=some v->∃ w,ws[j]?=some w/\Qc w v)/\s'.heap.IsList a O.toArray:=fun {H' s' pn} J z=>by
  obtain⟨_,O,n,rv,ho⟩:=J.Qb _ _ z;refine⟨O,rv.length.symm,λj v hv=>?_,⟨_,ho,rfl,⟨_,rfl⟩⟩⟩;have hj:j<ws.length:=by rw[rv.length];exact(ja.mp hv).1
  obtain⟨u,hu,ru⟩:=rv.get (i:=j) (x:=ws[j]) (by simp[hj]);rw[hv]at hu;cases hu;exact⟨ws[j],by simp[hj],ru⟩
 have one:∀ {C:List Addr} {H':Hp} {G:ub} {s':aa} {d:D} {w:V} {v:Value} {I S:Addr} {oI oS:gc} {kk:Int->M D},Inv X ((q,W.kla_obj "<lambda>" t.qual f E scope (Qh X.env scope.names []) ((X.mg "__name__").getD .none) c' K)::l) st H' s'->Ext F Z C H'->Rel T C H' G->Rep T C H' d w->Qc w v->
   Ck X ((q,W.kla_obj "<lambda>" t.qual f E scope (Qh X.env scope.names []) ((X.mg "__name__").getD .none) c' K)::l) H' I->Ck X ((q,W.kla_obj "<lambda>" t.qual f E scope (Qh X.env scope.names []) ((X.mg "__name__").getD .none) c' K)::l) H' S->
   s'.heap.get? I=some oI->s'.heap.get? S=some oS->(∀ v,oI.data≠.cell v)->(∀ v,oS.data≠.cell v)->
   Ib T (XE X st) (Rep T) C H' (Pc (Dm (fe (some d::Kg))) (λk=>match k with | .int k=>kk k|_=>bad) G) Q->
   wpAny (model X.prog X.w) X.A.in1 (call (.ref q) [v]) (λy s''=>∃ k t',y=.int k t'/\s''.heap.get? I=some oI/\s''.heap.get? S=some oS/\∃ m B r,Inv X ((q,W.kla_obj "<lambda>" t.qual f E scope (Qh X.env scope.names []) ((X.mg "__name__").getD .none) c' K)::l) st B s''/\Ext C H' m B/\Rel T m B r/\
    Ck X ((q,W.kla_obj "<lambda>" t.qual f E scope (Qh X.env scope.names []) ((X.mg "__name__").getD .none) c' K)::l) B I/\Ck X ((q,W.kla_obj "<lambda>" t.qual f E scope (Qh X.env scope.names []) ((X.mg "__name__").getD .none) c' K)::l) B S/\Ib T (XE X st) (Rep T) m B (kk k r) Q) (λ_ _=>False) s':=by
  intro C H' G s' d w v I S oI oS kk J ex r' rd d5 fI fS gI gS cI cS po;generalize c3:W.kla_obj "<lambda>" t.qual f E scope (Qh X.env scope.names []) ((X.mg "__name__").getD .none) c' K=U at *;have b6:s'.heap.CodeRec (.ref c') t.qual:=by
   obtain⟨⟨o,d6,tt,h1,h2,h3⟩,_⟩:=J.Qb _ _ (ex.Hh _ _ c9 c8).1;exact⟨c',o,d6,tt,rfl,h1,h2,h3⟩
  have hq:=(J.pin (q,U) (Ka _ (.head _))).1;have J2:Inv X ((I,oI)::(S,oS)::(q,U)::l) st H' s':=J.ki λp hp=>by
   rcases Pa.mp hp with rfl|hp
   ·exact⟨gI,fI.1,fI.2.1,fI.2.2.1,cI⟩
   ·rcases Pa.mp hp with rfl|hp
    ·exact⟨gS,fS.1,fS.2.1,fS.2.2.1,cS⟩
    ·exact J.pin p (Ka _ hp)
  have hd:X.A.in1.handled=none:=N.hd;refine Mb (oQ (A:=X.A.in1) (t:=tF T _ fe) (v:=w) (Q:=λy B=>∃ k m r,y=.int k/\Ext C H' m B/\Rel T m B r/\Ib T (XE X st) (Rep T) m B (kk k r) Q) J2 L hx J.ok.frames hd (vd.in1 N).depth (by rw[<-c3]at hq;exact hq) b6 (b5 _ _ _ _ _) d1 c2 d5 (hb _ _ _ _ _ ((vd.in1 N).deeper _)) ⟨C,aE ix d ρ,G,aY ix (c6.mono ex) rd,r',?_⟩) (λy s'' d0=>?_) λ_ _ z=>z
  ·unfold aE;rw[b7];refine po.Gr λy r m g B _ b2 b8 c4 a9=>?_;cases y with
   |int k=>
    rw[Rep]at c4;exact⟨k,m,r,c4,b2,b8,a9⟩
   |_=>exact a9.elim
  ·obtain⟨yv,B,J3,ry,k,m,r,rfl,b2,b8,a9⟩:=J2.after d0;obtain⟨t',rfl⟩:=ry;have pI:=J3.pin (I,oI) (Ka _ (.head _));have pS:=J3.pin (S,oS) (Ka _ (.tail _ (.head _)));have J4:Inv X ((q,U)::l) st B s'':=J3.ki λp hp=>J3.pin p (Ka _ (.tail _ (.tail _ hp)));exact⟨k,t',rfl,pI.1,pS.1,m,B,r,J4,b2,b8,⟨pI.2.1,fI.2⟩,⟨pS.2.1,fS.2⟩,a9⟩
 obtain⟨O,hn,hP,d2⟩:=lst I2 b0;generalize c3:W.kla_obj "<lambda>" t.qual f E scope (Qh X.env scope.names []) ((X.mg "__name__").getD .none) c' K=U at *;refine N1 (n:=ws.length) (P:=λj v=>∃ w,ws[j]?=some w/\Qc w v) (λs'=>Inv X ((q,U)::l) st Z s')
  (λI S j vb kb s'=>Ck X ((q,U)::l) Z I/\Ck X ((q,U)::l) Z S/\∃ C H' G b wb,Inv X ((q,U)::l) st H' s'/\Ext F Z C H'/\Rel T C H' G/\Rep T C H' b wb/\Qc wb vb/\Ck X ((q,U)::l) H' I/\Ck X ((q,U)::l) H' S/\Ib T (XE X st) (Rep T) C H' (ot fe Kg ((x0::xs).drop j) b kb G) Q)
  N.hd I2 hn hP d2 (by rw[<-a0];simp) (λs0 h' tk g k=>g.kept k) ?_ ?_ ?_ ?_ ?_
 ·
  intro I S s3 v oI oS hI hS d7 ⟨s0,g0,hk,es⟩ ⟨w,hw,a6⟩ gI gS cI cS;have fI:Ck X ((q,U)::l) Z I:=I2.Do hI (I2.Qb.fresh hI);have fS:Ck X ((q,U)::l) Z S:=I2.Do hS (I2.Qb.fresh hS);have J:Inv X ((q,U)::l) st Z s3:=by
   rw[es];exact dM g0 (λb o n _ e=>hk b o n e) fI fS
  have rd:∃ w',ws[0]?=some w'/\Rep T F Z x0 w':=a4.get (i:=0) rfl;obtain⟨w',a3,rd⟩:=rd;rw[hw]at a3;cases a3;refine Mb (one (kk:=λk=>ot fe Kg xs x0 k) J (Ext.refl _ _) r2 rd a6 fI fS gI gS cI cS p2) (λy s4 z=>?_) λ_ _ z=>z;obtain⟨k,t',rfl,b3,b4,m,B,r,J4,e4,r4,f1,f2,p4⟩:=z;exact⟨k,t',rfl,b3,b4,fI,fS,m,B,r,x0,w,J4,e4,r4,Rep.mono e4 _ _ rd,a6,f1,f2,p4⟩
 ·intro I S j vb kb s' ⟨_,_,C,H',G,b,wb,J,ex,r',rb,Y,f1,f2,p'⟩;exact lst J (ex.Hh _ _ b0 c0).1
 ·intro I S j vb kb s' h' tk ⟨a1,a2,C,H',G,b,wb,J,ex,r',rb,Y,f1,f2,p'⟩ k;exact⟨a1,a2,C,H',G,b,wb,dM J k f1 f2,ex,r',rb,Y,f1,f2,p'⟩
 ·intro I S j vb kb s' v oI oS ⟨a1,a2,C,H',G,b,wb,J,ex,r',rb,Y,f1,f2,p'⟩ ⟨w,hw,a6⟩ gI gS cI cS;have hj:j<(x0::xs).length:=by rw[a0];exact(ja.mp hw).1
  obtain⟨w',a3,rd⟩:=a4.get (i:=j) (d:=(x0::xs)[j]) (by rw[Kb hj]);rw[hw]at a3;cases a3;rw[fh hj]at p';generalize (x0::xs)[j]=d at *;generalize d8:(x0::xs).drop (j+1)=b9 at *;unfold ot at p';refine Mb (one (kk:=λk=>if k<kb then ot fe Kg b9 d k else ot fe Kg b9 b kb) J ex r' (Rep.mono ex _ _ rd) a6 f1 f2 gI gS cI cS p') (λy s4 z=>?_) λ_ _ z=>z;obtain⟨k,t',rfl,b3,b4,m,B,r,J4,e4,r4,f3,f4,p4⟩:=z;refine⟨k,t',rfl,b3,b4,a1,a2,m,B,r,?_⟩;by_cases hk:k<kb
  ·rw[da hk]at p4;rw[da hk,da hk];exact⟨d,w,J4,ex.trans e4,r4,Rep.mono (ex.trans e4) _ _ rd,a6,f3,f4,p4⟩
  ·rw[ka hk]at p4;rw[ka hk,ka hk];exact⟨b,wb,J4,ex.trans e4,r4,Rep.mono e4 _ _ rb,Y,f3,f4,p4⟩
 ·intro I S vb kb s' ⟨_,_,C,H',G,b,wb,J,ex,r',rb,Y,f1,f2,p'⟩;rw[<-a0,List.drop_length]at p';have q':Q wb H':=Ib.here (R:=Rep T) p' r' rb;exact⟨wb,H',J.ki (λp hp=>J.pin p (Ka _ (.tail _ hp))),Y,q'⟩
end
noncomputable def Ht(K:W.Frag)(x:ma):Addr:=((W.tabIn K x).getD (0,0)).1
noncomputable def Qt(K:W.Frag)(x:ma):Addr:=((W.tabIn K x).getD (0,0)).2
noncomputable def Tt(K:W.Frag):Addr:=match W.nsIn K mainGlobals "__builtins__" with
 |some (some (.ref a))=>a
 |_=>0
theorem DS{K:W.Frag}{x:ma}(h:(W.tabIn K x).isSome=true):W.tabIn K x=some (Ht K x,Qt K x):=by
 unfold Ht Qt;cases e:W.tabIn K x with
 |none=>rw[e]at h;cases h
 |some p=>rfl
noncomputable def IE(K:W.Frag)(xs:List ma):Bool:=
 W.noTabs K && (match W.nsIn K mainGlobals "__builtins__" with
  |some (some (.ref a))=>(K.lookup a).isNone && (a != builtinsNs)
  |_=>false) && xs.all λx=>(W.tabIn K x).isSome && Fy K (Ht K x) (Qt K x)
structure tu(K:W.Frag)(xs:List ma):Prop where
 no:W.noTabs K=true
 bm:W.nsIn K mainGlobals "__builtins__" = some (some (.ref (Tt K)))
 bk:K.lookup (Tt K)=none
 bb:Tt K≠builtinsNs
 tab:∀ x∈xs,W.tabIn K x=some (Ht K x,Qt K x)
 hd:∀ x∈xs,Fy K (Ht K x) (Qt K x)=true
theorem lX{K:W.Frag}{xs:List ma}(h:IE K xs=true):tu K xs:=by
 unfold IE at h;rw[ya,ya]at h;obtain⟨⟨h1,b⟩,h3⟩:=h;split at b
 ·next a e=>
  have c:Tt K=a:=by unfold Tt;rw[e]
  rw[ya]at b;refine⟨h1,by rw[c];exact e,by rw[c];exact Option.isNone_iff_eq_none.mp b.1,by rw[c];simpa using b.2,λx d=>?_,λx d=>?_⟩
  ·have z:=Pb.mp h3 x d;rw[ya]at z;exact DS z.1
  ·have z:=Pb.mp h3 x d;rw[ya]at z;exact z.2
 ·cases b
noncomputable def KB(K:W.Frag)(mg:ma->Option Value)(x:ma)(st:Stmt)(ps:List ma):Prop:=
 ∃ f a,mg x=some (.ref f)/\Nu K x x st f a/\(∀ b:List Value,b.length=ps.length->bindArgs a ⟨b,[]⟩=pure (ps.zip b))/\a.code=.ref (Ht K x)
theorem AQ{K:W.Frag}{mg:ma->Option Value}{h:Heap}{x:ma}{st:Stmt}{ps xs:List ma}(X:K.In h)(G:h.Ns mainGlobals mg)(c:Vf K mg x st ps)(e:tu K xs)(g:x∈xs):KB K mg x st ps:=by
 obtain⟨f,l,hm,F,hb⟩:=c;obtain⟨m,n,kV,b,o,k,a,ct,j,rfl,i,d⟩:=F.ex;exact⟨f,_,hm,F,hb,W.law_code X G (e.tab x g) hm (X _ _ i) rfl⟩
theorem SK{P:ra}{w:Ea}{K:W.Frag}{mg:ma->Option Value}{base:Heap}{ca:Nat->Addr}{tx:Tx}{k:Nat}{x:ma}{st:Stmt}{ps N:List ma}{g:Ev->M Fl}(h:KB K mg x st ps)(S:wa N ps (Ec st))
  (hb:∀ (f:Addr) (A:Da) (outer:List ag) (s:aa) (H:Hp) (E:XK),vd k (A.deeper (eg x (Ec st) s.heap.objs.size f (.ref (Ht K x))))->xn ⟨K,ca,tx⟩ (Bo (jl P w) P w K mg base N x (Ec st) f (.ref (Ht K x)) A outer s H E) (Ni st) g) :
  Nb ⟨K,ca,tx⟩ P w mg base (k+1) x ps (run N.length g):=by
 obtain⟨f,n,hm,F,b,i⟩:=h;obtain⟨o,p,kV,d,q,m,a,ct,l,rfl,j,c⟩:=F.ex;have e:a=.ref (Ht K x):=i;subst e;exact⟨f,_,hm,F.kp,b,xx j c S (hb f)⟩
theorem KW{P:ra}{w:Ea}{K:W.Frag}{mg mb:ma->Option Value}{k:Nat}{fa a:Addr}{fd:Ad}{x:ma}{s₁:aa}{vs:List Value}{ns:List Int}{ca:Nat->Addr}{tx:Tx}{fn:List D->M D}{ob:gc}
  (KX:K.In s₁.heap) (a8:s₁.heap.Ns mainGlobals mg) (hb:s₁.heap.Ns builtinsNs mb) (a4:∀ x:ma,x ≠ "__name__"->mb x=bootBuiltins x) (S:s₁.heap.NoLimit) (hg:s₁.gens=#[])
  (C:s₁.heap.get? a=some { cls:=.type "list",data:=.seq vs.toArray }) (hi:qk vs ns) (hl:ns.length<=63) (hr:vd k gg)
  (hK:W.noTabs K=true) (i:s₁.heap.get? tx.bm=some ob) (Q:ob.cls=.type "module") (a5:ob.dict=some builtinsNs) (J:ob.data=.plain) (a3:K.lookup tx.bm=none)
  (O:∀ t∈tx.ul,∃ c,W.CodeHd s₁.heap c t.P/\s₁.heap.get? t.P=some (W.tabObj #[]))
  (F:∀ base:Heap,Dg P w K mg base (jl P w) k fa fd [x] (ln ⟨K,ca,tx⟩ 1 fn)) (I:∀ (s:aa) (u:Value),uf s fd ⟨[u],[]⟩ [(x,u)])
  (tr:∀ ns:List Int,ns.length<=63->∃ σ,fn [.Lf ns] []=.ok (.bl true) σ) :
  codeAny (model P w) gg (.call (.ref fa) ⟨[.ref a],[]⟩) (λr y=>r=.ok (.ret (.bool true))/\OldK s₁.heap y.heap/\y.os=s₁.os/\bg y.gens) s₁:=by
 have rv:=Ly hi;have T:=hi.length;have R:ns.length<=sizeLine:=Hb hl (by decide);have A:∀ G:Bool,(G=true->K.lookup a=none)->(G=false->K.lookup a=some { cls:=.type "list",data:=.seq vs.toArray })->
   codeAny (model P w) gg (.call (.ref fa) ⟨[.ref a],[]⟩) (λr y=>r=.ok (.ret (.bool true))/\OldK s₁.heap y.heap/\y.os=s₁.os/\bg y.gens) s₁:=by
  intro G a6 a7;obtain⟨H,c1,c2,c3,U⟩:∃ H:Hp,(∀ t∈tx.ul,H t.P=some (.Ik #[]))/\(H tx.bm=some (.Xa ob (.ext (HA tx.bm))))/\(G=true->H a=some (.Xa { cls:=.type "list",data:=.seq vs.toArray } (.lst (ns.map V.int))))/\
    ∀ b u,H b=some u->(u=.Ik #[]/\∃ t∈tx.ul,b=t.P)\/(b=tx.bm/\u=.Xa ob (.ext (HA tx.bm)))\/(b=a/\G=true/\u=.Xa { cls:=.type "list",data:=.seq vs.toArray } (.lst (ns.map V.int))):=by
   refine⟨λb=>if b=tx.bm then some (.Xa ob (.ext (HA tx.bm)))else if b=a then (if G=true then some (.Xa { cls:=.type "list",data:=.seq vs.toArray } (.lst (ns.map V.int)))else none)else if b∈tx.ul.map (·.P)then some (.Ik #[])else none,λt f=>?_,da rfl,λh=>?_,λb u e=>?_⟩
   ·obtain⟨c,_,j⟩:=O t f;have n1:t.P≠tx.bm:=λz=>by rw[z,i]at j;cases j;cases Q
    have n2:t.P≠a:=λz=>by rw[z,C]at j;cases j
    dsimp only;rw[ka n1,ka n2,da (Gb.mpr ⟨t,f,rfl⟩)]
   ·have n1:a≠tx.bm:=λz=>by rw[z,i]at C;cases C;cases J
    dsimp only;rw[ka n1,da rfl,da h]
   ·dsimp only at e;split at e
    ·next a1=>cases e;exact .inr (.inl ⟨a1,rfl⟩)
    ·split at e
     ·next a2=>
      split at e
      ·next h=>cases e;exact .inr (.inr ⟨a2,h,rfl⟩)
      ·cases e
     ·split at e
      ·next hm=>cases e;obtain⟨t,f,rfl⟩:=Gb.mp hm;exact .inl ⟨rfl,t,f,rfl⟩
      ·cases e
  have Qb:Kh P w H s₁.heap:=λb u e=>by
   rcases U b u e with⟨rfl,t,f,rfl⟩|⟨rfl,rfl⟩|⟨rfl,_,rfl⟩
   ·obtain⟨c,_,j⟩:=O t f;exact j
   ·exact⟨i,⟨ob,i,Q,a5,J⟩,⟨ob,i⟩,λh1 Z ⟨o,e1,B⟩ k=>⟨o,k _ e1,B⟩⟩
   ·exact⟨C,by rw[Yb];exact R,vs,_,rv,C⟩
  have g:∀ {b:Addr} {o:gc},s₁.heap.get? b=some o->H b=none->(Lp s₁.heap H).get? b=some o:=λe n=>LL e n;have b0:∀ {b:Addr} {o:gc} {Y:Array lA} {X:Nat},s₁.heap.get? b=some o->o.data=.dict Y X->H b=none:=fun {b o Y X} e d=>by
   cases q:H b with
   |none=>rfl
   |some u=>
    rcases U b u q with⟨_,t,f,rfl⟩|⟨rfl,_⟩|⟨rfl,_,_⟩
    ·obtain⟨c,_,j⟩:=O t f;rw[j]at e;cases e;cases d
    ·rw[i]at e;cases e;rw[J]at d;cases d
    ·rw[C]at e;cases e;cases d
  have N:∀ {b:Addr} {m:ma->Option Value},s₁.heap.Ns b m->(Lp s₁.heap H).Ns b m:=fun {b m} ⟨o,Y,X,e,d,r⟩=>⟨o,Y,X,g e (b0 e d),d,r⟩
  have a0:K.In (Lp s₁.heap H):=λb o e=>g (KX b o e) (by
   cases q:H b with
   |none=>rfl
   |some u=>
    rcases U b u q with⟨_,t,f,rfl⟩|⟨rfl,_⟩|⟨rfl,h,_⟩
    ·obtain⟨c,_,j⟩:=O t f;have B:=KX _ _ e;rw[j]at B;cases B;have Z:=Pb.mp hK (t.P,_) (W.mem_of_lookupK e);exact absurd (show false=true from Z) Ra
    ·rw[a3]at e;cases e
    ·rw[a6 h]at e;cases e)
  have hM:Mod K mg (Lp s₁.heap H):=⟨a0,N a8,⟨mb,N hb,a4⟩,let ⟨mc,h1,Z⟩:=S;⟨mc,N h1,Z⟩⟩
  have e0:Lk P w K mg (Lp s₁.heap H) gg [] s₁ H:=⟨rfl,hM,λb o e=>qM e,yp (GK _ _),trivial,λb hb=>absurd (show b∈([]:List Addr)from hb) (by simp),Qb,.of_eq hg⟩
  have hS:DB K H a ns:=by
   cases G with
   |true=>exact .inl ⟨_,c3 rfl⟩
   |false=>exact .inr ⟨_,vs.toArray,_,a7 rfl,rfl,rfl,rfl,by rw[va,T];exact R,by simpa using rv⟩
  obtain⟨σ,ef⟩:=tr ns hl;have a9:ln ⟨K,ca,tx⟩ 1 fn [.ref a] H (λv _=>v=.bl true) λ_ _ _=>False:=by
   refine⟨[],[],[.Lf ns],Qa.cons (by rw[Rep];exact⟨a,rfl,hS⟩) Qa.nil,rfl,⟨rfl,List.nodup_nil,λn o q=>by simp at q,λt f=>⟨⟨by simp,ob,c2⟩,by simp,#[],c1 t f,.inl rfl⟩⟩,?_⟩;rw[ef];intro b1 v H' _ _ r;rw[Rep]at r;exact r
  refine rh ((F _).run gg [] s₁ H ⟨[.ref a],[]⟩ [.ref a] [.ref a] _ _ hr e0 (I s₁ (.ref a)) (.cons rfl .nil) a9) λr y h=>?_;cases r with
  |error e=>obtain⟨_,_,_,_,z⟩:=h;exact z.elim
  |ok f2=>
   cases f2 with
   |next=>exact False.elim h
   |brk=>exact False.elim h
   |cont=>exact False.elim h
   |ret u=>
    obtain⟨v,H',os,bare,un,p,r',q⟩:=h;have q':v=.bl true:=q;subst q';obtain rfl:u=Ve true:=r';have E:∀ b o,s₁.heap.get? b=some o->(¬ ∃ t∈tx.ul,b=t.P)->y.heap.get? b=some o:=λb o e n=>by
     cases q:H b with
     |none=>exact un.keep b o e q (by intro z;exact absurd (show b∈([]:List Addr)from z) (by simp)) (by simp)
     |some u=>
      rcases U b u q with⟨_,z⟩|⟨rfl,rfl⟩|⟨rfl,_,rfl⟩
      ·exact absurd z n
      ·obtain⟨B,_⟩:=p _ _ (un.Hg _ _ _ q);rw[i]at e;cases e;exact B
      ·obtain⟨B,_⟩:=p _ _ (un.Hg _ _ _ q);rw[C]at e;cases e;exact B
    have l:∀ t∈tx.ul,∃ ps,y.heap.get? t.P=some (W.tabObj ps):=λt f=>by
     obtain⟨more,z⟩:=un.kh _ _ (c1 t f);exact⟨_,p _ _ z⟩
    refine⟨rfl,⟨λb o e=>?_,λb o e=>?_⟩,os,bare⟩
    ·by_cases hb:∃ t∈tx.ul,b=t.P
     ·obtain⟨t,f,rfl⟩:=hb;obtain⟨c,hc,j⟩:=O t f;obtain⟨ps,L⟩:=l t f;rw[j]at e;cases e;exact .inr (.inl ⟨(hc.tab j).isCodeTable,rfl,#[],ps,rfl,by rw[Array.empty_append];exact L⟩)
     ·exact .inl (E b o e hb)
    ·by_cases hb:∃ t∈tx.ul,b=t.P
     ·obtain⟨t,f,rfl⟩:=hb;obtain⟨ps,L⟩:=l t f;exact⟨_,L⟩
     ·exact⟨o,E b o e hb⟩
 cases hk:K.lookup a with
 |some o=>
  have e:=KX a o hk;rw[C]at e;cases e;exact A false (λh=>by cases h) λ_=>hk
 |none=>exact A true (λ_=>hk) λh=>by cases h
theorem pU{l:W.OpenLaw}{q:ra}{i:List ma}{L:(ma->Option Value)->Heap->Prop}{B:Ea->Heap->Prop}{d:DefRec}{K:aH->W.Frag}{k:Nat}{x:ma}{fn:List D->M D}(xs:List ma)
  (hn:l.most=some 63) (v:d.params.defaults=[]) (hr:vd k gg) (hY:∀ (w:Ea) (h:Heap),B w h->(K w.params).In h)
  (hK:∀ w:Ea,IE (K w.params) xs=true) (n:(xs.all λx=>((recsOf q).find? λe=>e.name == x).isSome)=true)
  (F:∀ (w:Ea) (mg:ma->Option Value) (h:Heap),(K w.params).In h->h.Ns mainGlobals mg->tu (K w.params) xs->∃ ca ul,(∀ t∈ul,∃ x∈xs,t.P=Qt (K w.params) x)/\pE ⟨K w.params,ca,⟨ul,Tt (K w.params)⟩⟩ l.prog w mg k d.name [x] fn)
  (tr:∀ ns:List Int,ns.length<=63->∃ σ,fn [.Lf ns] []=.ok (.bl true) σ) :
  W.WalkO q i L B l.row.toRowW d [] (λf J=>PySem.call f J):=by
 refine Att.gk hn v λw s₀ I mg mb fa o pm cd U a J ns G Y ho hd a0 A m c j hg=>?_;have p:=hY w _ Y;have TT:=lX (hK w);obtain⟨ca,ul,hP,f0,V,E,X,Z⟩:=F w mg _ p G.T.g TT;rw[A]at E;cases E;obtain⟨bm,ob,N,b2,O,Q,R,S⟩:=G.T.bmain;have C:=Jq p G.T.g TT.bm;rw[N]at C;cases C;refine KW (tx:=⟨ul,Tt (K w.params)⟩) (ca:=ca) (ob:=ob) p G.T.g G.T.b G.T.builtins G.T.nolimit hg m c j hr TT.no O Q R S TT.bk (λt ht=>?_) Z (λs u=>.of_eq (X [u] rfl)) tr;obtain⟨y,H,e⟩:=hP t ht;have z:=Pb.mp n y H;obtain⟨d',r⟩:=Xd.mp z;have:=W.tab_of G.T p r (TT.tab y H);rw[e];exact⟨_,this.1,this.2⟩
theorem HY{a b:Tab}{bm:Addr}(h:(a.P == b.P)=false):∀ t∈(⟨[a,b],bm⟩:Tx).ul,∀ t'∈(⟨[a,b],bm⟩:Tx).ul,t'.P=t.P->t'=t:=by
 have n:a.P≠b.P:=by simpa using h
 intro t d t' c e;simp only[Pa,yd,Hl]at d c;rcases d with rfl|rfl<;>rcases c with rfl|rfl
 ·rfl
 ·exact absurd e.symm n
 ·exact absurd e n
 ·rfl
noncomputable def Xv(x:D)(xs:List D):M D:=λa=>match x,xs with
 | .ref n,[y]=>(match gi a n with
  |some b=>(match Qg a y with
   |some zs=>if b.length+zs.length<=Oh then .ok .Jb (a.set n (.lst (b++zs)))else .bad
   |none=>.bad)
  |none=>.bad)
 |_,_=>.bad
section
variable{T:Tb}
theorem SW:Hx T vL Xv:=by
 intro E m H s x xs v c Q r p q h;cases x with
 |ref n=>
  match xs with
  |[]=>exact h.elim
  |[y]=>
   rw[Qa]at q;obtain⟨w,z,rfl,t,j⟩:=q;rw[Qa]at j;subst j;unfold Xv at h;cases d:gi s n with
   |none=>simp only[d]at h;exact h.elim
   |some l=>
    simp only[d]at h;cases e:Qg s y with
    |none=>simp only[e]at h;exact h.elim
    |some zs=>
     simp only[e]at h;by_cases f:l.length+zs.length<=Oh
     ·rw[da f]at h;obtain⟨a,c,rfl,hn,h1,i⟩:=r.lst p d;obtain⟨b,g,rfl,h3,h4⟩:=r.ls t e;have k:=r.write (o:=.lst (c++g)) (ob:=.lst (l++zs)) hn ⟨_,rg,by
       have ex:Ext m H m (upd H a (.lst (c++g))):=Pt (Ja hn) h1 (λ_ z=>by cases z) (λ_ _ z=>by cases z);exact Qa.append (Qa.mono ex _ _ i) (Qa.mono ex _ _ h4)⟩
      exact⟨a,b,c,g,rfl,rfl,h1,h3,by rw[<-i.length,<-h4.length];exact Sv f,h _ _ _ k.1 k.2 (by rw[Rep])⟩
     ·rw[ka f]at h;exact h.elim
  |_::_::_=>exact h.elim
 |_=>exact h.elim
end
section
variable{T:Tb}{X:Cx}
end
section
variable{X:Cx}{pins:List (Addr × gc)}{st:St}{H:Hp}{s:aa}{x z0 z1:ma}{M':List ma}{ix:List Nat}{scope:Scope}{fp:List Addr}
end
section
variable{T:Tb}{X:Cx}
end
section
variable{T:Tb}{X:Cx}{pins:List (Addr × gc)}{st:St}{H:Hp}{s:aa}{μ:List Addr}{σ:ub}
end
section
variable{T:Tb}{X:Cx}
end
section
variable{T:Tb}{X:Cx}{x y:ma}{p pos:Ae}{ss:List ma}
theorem bK(d:Gl X x)(b:iy T.K X.mg x ss)(hd:(x == ("__debug__" : ma))=false:=by decide):FE T X (.Name x p) (eC (.gt ss)):=by
 obtain⟨a,hm,c⟩:=b;exact Bx (kG d hm (v:=.ref a) rfl hd) λ_ _=>by rw[Rep];exact⟨a,rfl,c⟩
theorem Nb.alias{P:ra}{w:Ea}{mg:ma->Option Value}{base:Heap}{k:Nat}{ps:List ma}{fn:List D->M D}(h:Nb T P w mg base k x ps fn)(e:mg y=mg x):Nb T P w mg base k y ps fn:=by
 obtain⟨f,a,h1,b⟩:=h;exact⟨f,a,e.trans h1,b⟩
end
section
variable{T:Tb}{μ μ':List Addr}{H H':Hp}{σ:ub}{a:Addr}
mutual
theorem Rep.chg(j:∀ b,b≠a->H' b=H b)(l:a∈μ)(h1:∀ xs,H a≠some (.tup xs))(r:∀ o xs,H a≠some (.Xa o (.lst xs))):∀ (d:D) (v:V),Rep T μ H d v->Rep T μ H' d v
 | .Jb,v,h=>by simpa [Rep]using h
 | .bl b,v,h=>by simpa [Rep]using h
 | .int i,v,h=>by simpa [Rep]using h
 | .str x,v,h=>by simpa [Rep]using h
 | .tup ds,v,h=>by
  rw[Rep]at h ⊢;obtain⟨p,m,g,e,k⟩:=h;exact⟨p,m,g,by rw[j p (λz=>h1 _ (by rw[<-z];exact e))];exact e,Qa.chg j l h1 r ds m k⟩
 | .Lf ns,v,h=>by
  rw[Rep]at h ⊢;obtain⟨p,g,e⟩:=h;refine⟨p,g,?_⟩;rcases e with⟨o,e⟩|e
  ·exact .inl ⟨o,by rw[j p (λz=>r _ _ (by rw[<-z];exact e))];exact e⟩
  ·exact .inr e
 | .ref n,v,h=>by rw[Rep]at h ⊢;exact h
 | .lst ds,v,h=>by
  rw[Rep]at h ⊢;obtain⟨p,m,g,f,e,k⟩:=h;exact⟨p,m,g,f,by rw[j p (λz=>f (by rw[z];exact l))];exact e,Qa.chg j l h1 r ds m k⟩
 | .Lb C ds,v,h=>by
  rw[Rep]at h ⊢;obtain⟨p,m,g,f,e,s,k⟩:=h;exact⟨p,m,g,f,by unfold Rd at e ⊢;rw[j p (λz=>f (by rw[z];exact l))];exact e,s,Qa.chg j l h1 r ds _ k⟩
 | .obj c ns ds,v,h=>by
  rw[Rep]at h ⊢;obtain⟨p,y,m,g,f,e,s,k⟩:=h;exact⟨p,y,m,g,f,by rw[j p (λz=>f (by rw[z];exact l))];exact e,s,Qa.chg j l h1 r ds _ k⟩
 | .pq c,v,h=>by
  rw[Rep]at h ⊢;obtain⟨p,w,g,f,e,k⟩:=h;refine⟨p,w,g,f,by rw[j p (λz=>f (by rw[z];exact l))];exact e,λn q=>?_⟩;obtain⟨t,A,u,B⟩:=k n q;exact⟨t,A,u,by rw[j t (λz=>u (by rw[z];exact l))];exact B⟩
 | .gt ss,v,h=>by rw[Rep]at h ⊢;exact h
theorem Qa.chg(f:∀ b,b≠a->H' b=H b)(e:a∈μ)(h1:∀ xs,H a≠some (.tup xs))(c:∀ o xs,H a≠some (.Xa o (.lst xs))):∀ (ds:List D) (vs:List V),Qa T μ H ds vs->Qa T μ H' ds vs
 |[],vs,h=>by simpa [Qa]using h
 |d::ds,vs,h=>by
  rw[Qa]at h ⊢;obtain⟨v,r,g,i,j⟩:=h;exact⟨v,r,g,Rep.chg f e h1 c d v i,Qa.chg f e h1 c ds r j⟩
end
theorem DC{c:Type}(f:∀ b,b≠a->H' b=H b)(e:a∈μ)(h1:∀ xs,H a≠some (.tup xs))(d:∀ o xs,H a≠some (.Xa o (.lst xs))){xs:List (c × D)}{ys:List (c × V)}(h:Paired (λ(p:c × D) (q:c × V)=>p.1=q.1/\Rep T μ H p.2 q.2) xs ys) :
  Paired (λ(p:c × D) (q:c × V)=>p.1=q.1/\Rep T μ H' p.2 q.2) xs ys:=L2.Paired.oo h λp q z=>⟨z.1,Rep.chg f e h1 d _ _ z.2⟩
theorem on.chg(d:∀ b,b≠a->H' b=H b)(g:a∈μ)(h1:∀ xs,H a≠Option.some (.tup xs))(f:∀ o xs,H a≠Option.some (.Xa o (.lst xs))){b:Addr}(hb:b≠a):∀ {o:Ob},on T μ H b o->on T μ H' b o
 | .lst ds,⟨e,h,r⟩=>⟨e,(d b hb).trans h,Qa.chg d g h1 f _ _ r⟩
 | .Lb i,⟨e,h,r⟩=>⟨e,(d b hb).trans h,DC d g h1 f r⟩
 | .ins c fs,⟨j,e,h,r⟩=>⟨j,e,(d b hb).trans h,DC d g h1 f r⟩
 | .Be i,⟨k,e,h,r⟩=>⟨k,e,(d b hb).trans h,DC d g h1 f r⟩
 | .cj l,⟨e,h,r⟩=>⟨e,(d b hb).trans h,r⟩
theorem Rel.chg(r:Rel T μ H σ)(d:∀ b,b≠a->H' b=H b){n:Nat}(hn:μ[n]?=some a)(h1:∀ xs,H a≠some (.tup xs))(e:∀ o xs,H a≠some (.Xa o (.lst xs))){ob:Ob}(f:on T μ H' a ob):Rel T μ H' (σ.set n ob):=by
 have c:=Ja hn;refine⟨by simp[r.len],r.nd,λm x h=>?_,r.tb.out d (.inl c)⟩;rw[bc]at h;by_cases hm:n=m
 ·subst hm;rw[da rfl]at h;split at h
  ·cases h;exact⟨a,hn,f⟩
  ·cases h
 ·rw[ka hm]at h;obtain⟨b,h3,h4⟩:=r.obs m x h;exact⟨b,h3,h4.chg d c h1 e (λz=>hm (by subst z;exact xE r.nd hn h3))⟩
end
theorem _root_.L2.Inv.au{X:Cx}{d:List (Addr × gc)}{st:St}{H:Hp}{s:aa}{a:Addr}{od:gc}{kvs:List (Key × V)}(I:Inv X d st H s)(hd:H a=some (.Xa od (.dK kvs)))(h0:∀ o u,X.H₀ a≠some (.Xa o u)):Inv X d st (upd H a (.dK kvs)) s:=by
 have ne:∀ b u,H b=some u->(∀ o w,u≠.Xa o w)->b≠a:=λb u q n z=>by rw[z,hd]at q;exact n _ _ (nb q).symm
 refine⟨I.ok,I.os,I.bare,⟨I.base.keep,I.base.slot,λb o e n g=>?_,I.base.there,λb xs e=>?_,λb o u e=>?_,λb h e=>?_⟩,I.loc,I.cell,?_,λx c e=>?_,λp hp=>?_,λb u e=>?_,I.len⟩
 ·have:=I.base.free b o e n g;rw[jd (λz=>by rw[z,hd]at this;cases this)];exact this
 ·have:=I.base.yh b xs e;rw[jd (ne b _ this (λ_ _ z=>by cases z))];exact this
 ·have:=I.base.Hg b o u e;rw[jd (λz=>h0 o u (by rw[<-z];exact e))];exact this
 ·obtain⟨more,this⟩:=I.base.kh b h e;exact⟨more,by rw[jd (ne b _ this (λ_ _ z=>by cases z))];exact this⟩
 ·rw[jd (λz=>by have:=I.free;rw[z,hd]at this;cases this)];exact I.free
 ·have:=I.Gf x c e;rw[jd (λz=>by rw[z,hd]at this;cases this)];exact this
 ·obtain⟨i,f,j⟩:=I.pin p hp;exact⟨i,by rw[jd (λz=>by rw[z,hd]at f;cases f)];exact f,j⟩
 ·by_cases hb:b=a
  ·subst hb;rw[rg]at e;cases e;exact(I.Qb b _ hd).2
  ·rw[jd hb]at e;refine(I.Qb b u e).ej (λc v _ z=>z) (λc z=>?_) λc xs z=>?_
   ·rw[jd (ne c _ z (λ_ _ y=>by cases y))];exact z
   ·rw[jd (ne c _ z (λ_ _ y=>by cases y))];exact z
section
variable{T:Tb}{X:Cx}{elts:List Ga}{kk:Nat}{p0:Ae}
theorem YE{μ:List Addr}{H:Hp}{a:Addr}{od:gc}{kvs:List (Key × V)}{f:List (Key × D)}(h3:H a=some (.Xa od (.dK kvs)))(o:Uh T μ H f kvs):Sq T μ H (cq f) (Itm a od kvs):=by
 intro h j t i ex s;have k:j a=some (.Xa od (.dK kvs)):=ex.Xa _ _ _ h3;have e:Uh T h j f kvs:=Uh.mono ex o;unfold cq;cases n:f[i]? with
 |none=>
  dsimp only;by_cases g:i=f.length
  ·rw[da g];exact⟨k,by rw[g];exact Paired.length e⟩
  ·rw[ka g];trivial
 |some p=>
  obtain⟨q,l,d,m⟩:=BE e i n;refine⟨⟨k,q,l⟩,λz u y=>?_⟩;obtain⟨r,v,w,b,rfl,c,rfl⟩:=y;rw[l]at c;cases c;dsimp only at d m;refine⟨fk b,s.fresh b,?_⟩;rw[Rep,d];exact⟨r,_,rfl,rg,Qa.cons (XM _) (Qa.cons (Rep.mono (fk b) _ _ m) Qa.nil)⟩
noncomputable def sC(d:D):M NX:=λb=>match d with
 | .Lb c xs=>if c.length=xs.length then .ok (cq (c.zip xs)) b else .bad
 | .ref n=>(match b[n]? with
  |some (.Lb a)=>.ok (cq a) (b.set n (.Be a))
  |some (.Be a)=>.ok (cq a) b
  |_=>.bad)
 |_=>.bad
noncomputable def VB(f:Ev->M D):Ev->M NX:=λa=>Pc (f a) sC
theorem AR{e:Ga}{f:Ev->M D}{u w:Ae}(h:FE T X e f)(C:Md e "items" X.env (Wb e X.env)=Wb e X.env:=by rfl)(E:(u.endLine == w.line)=true:=by rfl) :
  Qu T X (.Tuple elts kk p0) (.Call (.Attribute e "items" u) [] [] w) (VB f):=by
 intro N s st H R I hw;refine RJ (eK mf uh gn SJ h C E) N s st H R I ?_;obtain⟨μ,ρ,σ,hE,hr,hp⟩:=hw;refine⟨μ,ρ,σ,hE,hr,hp.bind λd σ1 c v j _ e1 P V p=>?_⟩;unfold sC at p;cases d with
 |Lb ks xs=>
  dsimp only at p;by_cases Y:ks.length=xs.length
  ·rw[da Y]at p;rw[Rep]at V;obtain⟨a,i,rfl,hn,q,S,U⟩:=V;refine⟨⟨a,i,rfl,q⟩,a,i,rfl,rfl,q,λl g=>?_⟩;have t:a≠l:=by rcases q with q|⟨_,q⟩<;>exact Jn q g
   have Q:Rd (upd j l (.ext (zl l a))) a (.dK i):=by unfold Rd;rw[jd t];exact q
   refine⟨l,a,i,rfl,rg,Q,λod m=>?_⟩;have A:Ext c j c (upd j l (.ext (zl l a))):=fk g;have k:Rel T c (upd j l (.ext (zl l a))) σ1:=P.fresh g;obtain⟨Z,W⟩:Ext c j c (upd (upd j l (.ext (zl l a))) a (.Xa od (.dK i)))/\Rel T c (upd (upd j l (.ext (zl l a))) a (.Xa od (.dK i))) σ1:=by
    rcases m with m|m
    ·have y:=RH (μ:=c) (od:=od) m;exact⟨A.trans y,k.keep y (λb hb=>jd (λz=>hn (by rw[<-z];exact hb))) (k.tb.out (λb hb=>jd hb) (.inr ⟨_,m⟩))⟩
    ·rw[DA m];exact⟨A,k⟩
   exact Ib.here (R:=Sq T) (Ib.mono Z p) W (YE rg (Uh.mono Z (aB S U)))
  ·rw[ka Y]at p;exact p.elim
 |ref n=>
  dsimp only at p;cases O:σ1[n]? with
  |none=>rw[O]at p;exact p.elim
  |some o=>
   rw[O]at p;obtain⟨a,rfl,hn,L⟩:=P.at V O;cases o with
   |Lb i=>
    obtain⟨vs,B,G⟩:=L;have q:Rd j a (.dK vs):=.inl B;refine⟨⟨a,vs,rfl,q⟩,a,vs,rfl,rfl,q,λl g=>?_⟩;have t:a≠l:=Jn B g;have r:upd j l (.ext (zl l a)) a=some (.dK vs):=by rw[jd t];exact B
    refine⟨l,a,vs,rfl,rg,.inl r,λod _=>?_⟩;have A:Ext c j c (upd j l (.ext (zl l a))):=fk g;have k:Rel T c (upd j l (.ext (zl l a))) σ1:=P.fresh g;have K:Ext c (upd j l (.ext (zl l a))) c (upd (upd j l (.ext (zl l a))) a (.Xa od (.dK vs))):=Pt (Ja hn) r (λ_ z=>by cases z) (λ_ _ z=>by cases z);have x:Uh T c (upd (upd j l (.ext (zl l a))) a (.Xa od (.dK vs))) i vs:=Uh.mono (A.trans K) G;have wr:=k.write (o:=.Xa od (.dK vs)) (ob:=.Be i) hn ⟨od,vs,rg,x⟩ (λkv z=>by rw[O]at z;cases z);exact Ib.here (R:=Sq T) (Ib.mono (A.trans K) p) wr.2 (YE rg x)
   |Be i=>
    obtain⟨J,vs,B,G⟩:=L;have q:Rd j a (.dK vs):=.inr ⟨J,B⟩;refine⟨⟨a,vs,rfl,q⟩,a,vs,rfl,rfl,q,λl g=>?_⟩;have t:a≠l:=Jn B g;have r:upd j l (.ext (zl l a)) a=some (.Xa J (.dK vs)):=by rw[jd t];exact B
    refine⟨l,a,vs,rfl,rg,.inr ⟨J,r⟩,λod m=>?_⟩;have A:Ext c j c (upd j l (.ext (zl l a))):=fk g;have k:Rel T c (upd j l (.ext (zl l a))) σ1:=P.fresh g;rcases m with m|m
    ·rw[r]at m;cases m
    ·rw[DA m];exact Ib.here (R:=Sq T) (Ib.mono A p) k (YE m (Uh.mono A G))
   |_=>exact p.elim
 |_=>exact p.elim
noncomputable def qy{c:Type}(ok:c->Bool)(n:Nat):Out c->Out c
 | .ok a σ=>if ok a=true then (match σ[n]? with
  |some (.Be b)=>.ok a (σ.set n (.Lb b))
  |_=>.bad)else .bad
 |_=>.bad
noncomputable def SB{α:Type}(ok:α->Bool)(m:M D)(g:M α):M α:=λa=>match m a with
 | .ok (.ref n) _=>(match a[n]? with
  |some (.Lb _)=>qy ok n (g a)
  |_=>g a)
 |_=>g a
noncomputable def MD:Fl->Bool
 | .xc _ _=>false
 |_=>true
noncomputable def UA(f:Ev->M D)(g:Ev->M Fl):Ev->M Fl:=λa=>SB MD (f a) (g a)
theorem uY{μ μ':List Addr}{H b:Hp}{a:Addr}{d vs:List (Key × V)}{od:gc}(ex:Ext μ H μ' b)(c:a∈μ)(e:H a=some (.dK d))(f:b a=some (.Xa od (.dK vs))):Ext μ H μ' (upd b a (.dK vs)):=by
 refine⟨ex.pre,λp xs h=>?_,λp o u h=>?_,λp o h n=>?_⟩
 ·rw[jd (λz=>by rw[z,e]at h;cases h)];exact ex.tup p xs h
 ·rw[jd (λz=>by rw[z,e]at h;cases h)];exact ex.Xa p o u h
 ·rw[jd (λz=>n (by rw[z];exact c))];exact ex.keep p o h n
theorem M2{l s:Type}{E:XK}{R:List Addr->Hp->l->s->Prop}{ok:l->Bool}{μ:List Addr}{H:Hp}{n:Nat}{a:Addr}{q:List (Key × V)}{o:Out l}{Q:s->Hp->Prop}(hn:μ[n]?=some a)(y:H a=some (.dK q))
  (w:∀ (μ':List Addr) (c:Hp) (d:l) (g:s) (od:gc) (vs:List (Key × V)),a∈μ'->c a=some (.Xa od (.dK vs))->ok d=true->R μ' c d g->R μ' (upd c a (.dK vs)) d g) (h:Ib T E R μ H (qy ok n o) Q) :
  Ib T E R μ H o (λg c=>∃ od vs,c a=some (.Xa od (.dK vs))/\Q g (upd c a (.dK vs))/\∃ μ' d,ok d=true/\R μ' c d g):=by
 cases o with
 |bad=>exact h
 |ex x k=>exact h.elim
 |ok d k=>
  unfold qy at h;dsimp only at h;by_cases Qb:ok d=true
  ·rw[da Qb]at h;cases m:k[n]? with
   |none=>rw[m]at h;exact h.elim
   |some B=>
    rw[m]at h;cases B with
    |Be A=>
     intro μ' g c ex r v;obtain⟨C,i,od,vs,j,p⟩:=r.obs n _ m;have e:=ex.get hn;rw[e]at i;cases i;have f:a∈μ':=Ja e;have u:∀ b,b≠a->upd c a (.dK vs) b=c b:=λb hb=>jd hb;have t:∀ xs,c a≠some (.tup xs):=λxs z=>by rw[j]at z;cases z
     have g2:∀ o xs,c a≠some (.Xa o (.lst xs)):=λo xs z=>by rw[j]at z;cases z
     exact⟨od,vs,j,h μ' g _ (uY ex (Ja hn) y j) (r.chg u e t g2 ⟨vs,rg,DC u f t g2 p⟩) (w μ' c d g od vs f j Qb v),μ',d,Qb,v⟩
    |_=>exact h.elim
  ·rw[ka Qb]at h;exact h.elim
theorem lC{μ':List Addr}{c:Hp}{a:Addr}{od:gc}{vs:List (Key × V)}(e:a∈μ')(f:c a=some (.Xa od (.dK vs)))(d:D)(v:V)(h:Rep T μ' c d v):Rep T μ' (upd c a (.dK vs)) d v:=
 Rep.chg (λb hb=>jd hb) e (λxs z=>by rw[f]at z;cases z) (λo xs z=>by rw[f]at z;cases z) d v h
theorem A1{s:Stmt}{f:Ev->M D}{g:Ev->M Fl}(h:FS T X s g):FS T X s (UA f g):=by
 intro p sh st H D I l;obtain⟨E,G,J,K,C,hp⟩:=l;have plain:Ib T EN (nk T) E H (g G J) (qj X D)->wpAny (model X.prog X.w) X.A (exec s X.env) (SP X p D) X.xe sh:=λq=>h p sh st H D I ⟨E,G,J,K,C,q⟩;unfold UA SB at hp;split at hp
 ·rename_i n _ _
  split at hp
  ·rename_i P N
   obtain⟨a,hn,R,L,_⟩:=C.obs n _ N;have h0:∀ o u,X.H₀ a≠some (.Xa o u):=λo u z=>by have:=I.base.Hg a o u z;rw[L]at this;cases this
   have q:=M2 hn L (λF e d gl k c r j Qb m=>by
    cases d with
    |xc _ _=>cases Qb
    |nx B=>cases gl<;>first|exact m.elim|exact⟨m.1,λi d q=>let ⟨v,x,y⟩:=m.2 i d q;⟨v,x,lC r j _ _ y⟩⟩
    |bk B=>cases gl<;>first|exact m.elim|exact⟨m.1,λi d q=>let ⟨v,x,y⟩:=m.2 i d q;⟨v,x,lC r j _ _ y⟩⟩
    |ct B=>cases gl<;>first|exact m.elim|exact⟨m.1,λi d q=>let ⟨v,x,y⟩:=m.2 i d q;⟨v,x,lC r j _ _ y⟩⟩
    |rt S=>cases gl<;>first|exact m.elim|exact lC r j _ _ m) hp
   refine Mb (h p sh st H ⟨λb e=>∃ k c,e a=some (.Xa k (.dK c))/\D.nx b (upd e a (.dK c)),λv e=>∃ k c,e a=some (.Xa k (.dK c))/\D.rt v (upd e a (.dK c)),λb e=>∃ k c,e a=some (.Xa k (.dK c))/\D.bk b (upd e a (.dK c)),λb e=>∃ k c,e a=some (.Xa k (.dK c))/\D.ct b (upd e a (.dK c))⟩ I ⟨E,G,J,K,C,q.imp λgl e z=>?_⟩) (λO U z=>?_) λ_ _ z=>z
   ·obtain⟨k,c,j,l,F,d,Qb,m⟩:=z;cases gl with
    |nx b=>exact⟨k,c,j,l⟩
    |rt v=>exact⟨k,c,j,l⟩
    |bk b=>exact⟨k,c,j,l⟩
    |ct b=>exact⟨k,c,j,l⟩
    |xc b cls fd=>cases d<;>first|exact m.elim|cases Qb
   ·cases O with
    |next=>obtain⟨b,e,t,k,c,j,l⟩:=z;exact⟨b,_,t.au j h0,l⟩
    |brk=>obtain⟨b,e,t,k,c,j,l⟩:=z;exact⟨b,_,t.au j h0,l⟩
    |cont=>obtain⟨b,e,t,k,c,j,l⟩:=z;exact⟨b,_,t.au j h0,l⟩
    |ret u=>obtain⟨v,b,e,t,Q,k,c,j,l⟩:=z;exact⟨v,b,_,t.au j h0,Q,l⟩
  ·exact plain hp
 ·exact plain hp
end
end L4
namespace L4
open PySem PySem.Spec PyProof.Rows L2
section
variable{T:Tb}{X:Cx}{tg:Ga}
end
section
variable{T:Tb}{X:Cx}
theorem Ej{a:List Stmt}:xn T X a sj:=λpins s st H D I ⟨b,c,σ,_,_,hp⟩=>hp.elim
end
open Classical in
noncomputable def eH(μ μ' b:List Addr):Prop:=(∃ r,μ'=μ++r)/\(∀ (n:Nat) (a:Addr),μ[n]?=some a->b[n]?=some a)/\∀ a∈b,a∈μ'
section
variable{T:Tb}{μ μ' μ2:List Addr}{H H':Hp}{σ σ':ub}
mutual
theorem yF.down(e:eH μ μ' μ2):∀ (d:D) (v0 v:V),Rep T μ H d v0->Rep T μ' H' d v->Rep T μ2 H' d v
 | .Jb,v0,v,_,h=>by simpa [Rep]using h
 | .bl b,v0,v,_,h=>by simpa [Rep]using h
 | .int i,v0,v,_,h=>by simpa [Rep]using h
 | .str x,v0,v,_,h=>by simpa [Rep]using h
 | .tup ds,v0,v,c,h=>by
  rw[Rep]at h c ⊢;obtain⟨p,j,h1,f,h3⟩:=h;obtain⟨E,g,_,_,s⟩:=c;exact⟨p,j,h1,f,ro.down e ds g j s h3⟩
 | .Lf ns,v0,v,_,h=>by rw[Rep]at h ⊢;exact h
 | .ref n,v0,v,c,h=>by
  rw[Rep]at h c ⊢;obtain⟨a,h1,f⟩:=h;obtain⟨b,_,m⟩:=c;refine⟨a,h1,?_⟩;have h3:=e.2.1 _ _ m;obtain⟨⟨r,rfl⟩,_⟩:=e;rw[gb (ja.mp m).1]at f;rw[m]at f;cases f;exact h3
 | .lst ds,v0,v,c,h=>by
  rw[Rep]at h c ⊢;obtain⟨a,j,h1,f,h3,h4⟩:=h;obtain⟨_,g,_,_,_,l⟩:=c;exact⟨a,j,h1,λz=>f (e.2.2 _ z),h3,ro.down e ds g j l h4⟩
 | .Lb C ds,v0,v,c,h=>by
  rw[Rep]at h c ⊢;obtain⟨a,j,h1,f,h3,o,h4⟩:=h;obtain⟨_,g,_,_,_,_,l⟩:=c;exact⟨a,j,h1,λz=>f (e.2.2 _ z),h3,o,ro.down e ds _ _ l h4⟩
 | .obj k ns ds,v0,v,c,h=>by
  rw[Rep]at h c ⊢;obtain⟨a,w,j,h1,f,h3,o,h4⟩:=h;obtain⟨_,_,g,_,_,_,_,l⟩:=c;exact⟨a,w,j,h1,λz=>f (e.2.2 _ z),h3,o,ro.down e ds _ _ l h4⟩
 | .pq k,v0,v,_,h=>by
  rw[Rep]at h ⊢;obtain⟨a,u,h1,f,h3,h4⟩:=h;exact⟨a,u,h1,λz=>f (e.2.2 _ z),h3,λn q=>let ⟨t,y,A,B⟩:=h4 n q;⟨t,y,λz=>A (e.2.2 _ z),B⟩⟩
 | .gt ss,v0,v,_,h=>by rw[Rep]at h ⊢;exact h
theorem ro.down(e:eH μ μ' μ2):∀ (ds:List D) (a vs:List V),Qa T μ H ds a->Qa T μ' H' ds vs->Qa T μ2 H' ds vs
 |[],a,vs,_,h=>by simpa [Qa]using h
 |d::ds,a,vs,c,h=>by
  rw[Qa]at h c ⊢;obtain⟨v,r,h1,g,h3⟩:=h;obtain⟨i,r0,_,b,f⟩:=c;exact⟨v,r,h1,yF.down e d i v b g,ro.down e ds r0 r f h3⟩
end
end
end L4
namespace L4
open PySem PySem.Spec PyProof.Rows L2
section
variable{P:ra}{w:Ea}{K:W.Frag}{mg:ma->Option Value}{base:Heap}{T:Tb}
end
section
variable{T:Tb}{X:Cx}
end
section
variable{T:Tb}{X:Cx}{tg:Ga}
end
section
variable{T:Tb}{X:Cx}
end
noncomputable def mC(dds ds:List D):M (List D):=ret (ds++dds)
noncomputable def qx(dds:List D)(fs:Ev->M (List D)):Ev->M (List D):=λa=>Pc (fs a) (mC dds)
section
variable{T:Tb}{X:Cx}
theorem VQ{k c:Nat}{ps:List ma}{a:List Value}{dvs:List V}{dds:List D}{fn:List D->M D}{x:ma}{p b:Ae}{e:Ga}{g:List Ga}{fs:Ev->M (List D)}{f:Addr}{B:Ad}(hm:X.mg x=some (.ref (T.ca c)))(l:Mk T.K (T.ca c) f)(hb:ip T.K B ps a)
  (C:Dg X.prog X.w T.K X.mg X.base (jl X.prog X.w) k f B ps (ln T ps.length fn)) (hv:Od dvs a) (n:∀ μ H,Qa T μ H dds dvs) (G:T.K=X.K) (O:vd (k+1) X.A) (L:Gl X x)
  (J:FA T X (e::g) fs) (m:(x == ("__debug__" : ma))=false:=by decide) (he:pa (e::g) X.env=(false,Wb e X.env)::pa g X.env:=by rfl) (t:(Dc b (pa g X.env)).any (·.1)=false:=by rfl) :
  FE T X (.Call (.Name x p) (e::g) [] b) (Er c ps.length fn (qx dds fs)):=by
 rw[G]at l C hb;intro h s st H Q I N;obtain⟨μ,i,σ,F,u,hp⟩:=N;have o:Ib T (XE X st) (Rep T) μ H (Pc (fs i) (λds=>Qo c ps.length fn (ds++dds)) σ) Q:=by
  have:Er c ps.length fn (qx dds fs) i σ=Pc (fs i) (λds=>Qo c ps.length fn (ds++dds)) σ:=by
   unfold Er qx mC Pc;cases fs i σ<;>rfl
  rw[<-this];exact hp
 refine Je (Ow I L hm ?_ m);refine gm (h₀:=X.base) I.ok.mod.Cu l.kp (zd (J b h s st H (λy d=>∀ x j,d x=none->d j=none->j≠x->ln T ps.length fn (.ref x::(y++dvs)) (upd (upd d j (.own x)) x (.ins (T.ca c) j [])) (λv E=>v=.Jb/\Q (.ref x) E) (XE X st)) I ⟨μ,i,σ,F,u,o.bind λds Y U y d _ Z S P R=>?_⟩) λus s1 ⟨y,d,z,r,q⟩=>⟨z.Xi,?_⟩) he t
 ·have:=GN S (Qa.append P (n _ _)) R;rw[ii]at this;exact this
 ·exact GI (ds:=a) (dvs:=dvs) l C O hb hv z r q
theorem VZ{k c:Nat}{ps:List ma}{l a:List Value}{dvs:List V}{dds:List D}{fn:List D->M D}{x:ma}{p d:Ae}{e:Ga}{b:List Ga}{fs:Ev->M (List D)}{f:Addr}(hm:X.mg x=some (.ref (T.ca c)))(o:Mk T.K (T.ca c) f)(h:kt T X.prog X.w X.mg X.base k f ps l fn)(hd:a=[]\/a=l)(hv:Od dvs a)(i:∀ μ H,Qa T μ H dds dvs)(n:T.K=X.K)(t:vd (k+1) X.A)(s:Gl X x)
  (q:FA T X (e::b) fs) (g:(x == ("__debug__" : ma))=false:=by decide) (he:pa (e::b) X.env=(false,Wb e X.env)::pa b X.env:=by rfl) (j:(Dc d (pa b X.env)).any (·.1)=false:=by rfl) :
  FE T X (.Call (.Name x p) (e::b) [] d) (Er c ps.length fn (qx dds fs)):=by
 obtain⟨u,hb,r,m⟩:=h;exact VQ hm o (by rcases hd with rfl|rfl<;>assumption) m hv i n t s q g he j
end
structure ay(P:ra)(w:Ea)(K:W.Frag)(mg:ma->Option Value)(base:Heap)(k:Nat)(f:Addr)(fd:Ad)(ps:List ma)(sp:Sp):Prop where
 len:∀ vs H Q E,sp vs H Q E->vs.length=ps.length
 run:∀ (A:Da) (outer:List ag) (s:aa) (H:Hp) (args:Args) (us:List Value) (vs:List V) (Q:VK) (E:XK),vd k { A with handled:=none }->Lk P w K mg base A outer s H->uf s fd args (ps.zip us)->Od vs us->sp vs H Q E->
  codeAny (model P w) A (.call (.ref f) args) (CR (jl P w) outer P w H s Q E) s
section
variable{P:ra}{w:Ea}{K:W.Frag}{mg:ma->Option Value}{base:Heap}{ca:Nat->Addr}{tx:Tx}{T:Tb}{k:Nat}{f:Addr}{ps:List ma}
noncomputable def SF(T:Tb)(P:ra)(w:Ea)(mg:ma->Option Value)(base:Heap)(k:Nat)(x:ma)(ps:List ma)(fn:List D->M D):Prop:=
 ∃ f b,mg x=some (.ref f)/\W.keepIn T.K (.ref f)=true/\(∀ a:List Value,a.length=ps.length->bindArgs b ⟨a,[]⟩=pure (ps.zip a))/\ay P w T.K mg base k f b ps (ln T ps.length fn)
theorem SF.hide{k:Nat}{x:ma}{ps:List ma}{fn:List D->M D}(h:SF T P w mg base k x ps fn):SF T P w mg base k x ps (L4.hide fn):=by rw[sq];exact h
end
section
variable{T:Tb}{X:Cx}
open Classical in
open Classical in
end
section
variable{T:Tb}{X:Cx}
open Classical in
theorem G2{c:List Addr}{f:Hp}{src:Src}{J:It}(h:Yt T c f src J):Sq T c f src.nx J:=λk H g i ex r=>by
 have q:=h k H g i ex r;cases e:src.nx i g with
 |none=>trivial
 |some o=>
  rw[e]at q;cases o with
  |none=>exact q
  |some d=>exact⟨q.1,λx j y=>let ⟨a,b⟩:=q.2 x j y;by subst a;exact⟨Ext.refl _ _,r,b⟩⟩
noncomputable def YK(s:Src):M NX:=ret s.nx
noncomputable def toN(f:Ev->M Src):Ev->M NX:=λa=>Pc (f a) YK
theorem qt{c a:Ga}{f:Ev->M Src}(h:FI T X c a f):Qu T X c a (toN f):=by
 intro b s st H R I g;obtain⟨m,o,p,d,e,hp⟩:=g;exact h b s st H R I ⟨m,o,p,d,e,hp.bind λl q n J r _ t k j i=>Ib.here i k (G2 j)⟩
theorem YS{w f t:Ga}{F:List Ga}{scope:Scope}{O G py:Ae}{x y z0:ma}{i:Nat}{M':List ma}{ix:List Nat}{src:Ev->M NX}{tg:D->Ev->Option Ev}{fi:Ev->M Bool}{fe:Ev->M D}
  (hN:X.N.Nodup) (hi:X.N[i]?=some y) (hx:Loc X.env.scope y)
  (hc:X.calm=true) (L:Ul X x M' ix scope) (W:Qu T X t f src)
  (b4:∀ cl C s₀ H₀ ex,FG T (ar X (x::z0::M') scope cl C s₀ H₀ ex) t tg)
  (a7:∀ cl C s₀ H₀ ex,ky T (ar X (x::z0::M') scope cl C s₀ H₀ ex) F fi)
  (U:∀ cl C s₀ H₀ ex,FE T (ar X (x::z0::M') scope cl C s₀ H₀ ex) w fe)
  (hs:∀ y,dg f X.env y=pure y:=by intro _;rfl)
  (b2:Di (.ListComp w [⟨t,f,F,0⟩] scope O) (some (.Name y py)) G.line X.env=pure true:=by rfl)
  (hf:X.fn y=true\/X.env.scope.names.lookup y=some .local:=by first|exact .inl rfl|exact .inr rfl|assumption) :
  FS T X (.Assign [.Name y py] (.ListComp w [⟨t,f,F,0⟩] scope O) G) (jg i (Im src ix tg fi fe)):=by
 intro m s st H D I h;obtain⟨μ,ρ,σ,hE,hr,b0⟩:=h;have hp:Ib T (XE X st) (Rep T) μ H (Im src ix tg fi fe ρ σ) (λv R=>D.nx (st.set i (some v)) R):=b0.xs hE λd a3 a2 v R _ e1 r1 q1 p1=>Ib.here (g:=wl.nx (st.set i (some v))) p1 r1 ((hE.mono e1).set i q1);rw[exec_Assign_Name_used _ _ _ _ b2];refine ba (Fq (ba ?_));show wpAny _ X.A (do let _ <-comprehension (.ListComp w [⟨t,f,F,0⟩] scope O) scope X.env _ (newList []) false (Wb f X.env) (some (Zj (.Name y py) X.env))) _ _ s;refine ba (Mb (Lq (use:=some (Zj (.Name y py) X.env)) (Q:=λ_ s'=>SP X m D .next s') rfl hs (LG X.env scope (vv I L)) L.kind (λy hy e=>?_)
  ?_) (λ_ s' hq=>na (na hq)) λ_ _ e=>e)
 ·have q:=Pb.mp L.names y hy;rw[e]at q;simp only[Wo,ao,yj]at q;exact eq_of_beq q
 have h1:=W m s st H (λJ u=>∃ nx j k,Ext μ H j u/\Rel T j u k/\Sq T j u nx J/\Ib T (XE X st) (Rep T) j u (Pc (pj nx k.length tg fi fe 1001 0 (jt ix ρ)) (λ_=>ret (.ref k.length)) (k++[Ob.lst []])) (λv R=>D.nx (st.set i (some v)) R)) I
  ⟨μ,ρ,σ,hE,hr,hp.bind λnx a3 a2 J R _ e1 r1 q1 p1=>⟨nx,a2,a3,e1,r1,q1,p1⟩⟩
 refine zd h1 λv s1 h2=>zd h2 λb7 s2 h3=>?_;obtain⟨it,fp,tn,J,u,rfl,I2,TT,a1,f2,nx,j,k,a4,r2,so,p2⟩:=h3;refine ge (Xj (rz L) (by intro y hy;simp at hy) (λY B E=>?_) L.kind);have P:=I2.Mv (ys:=[]) (its:=[]) (t':=s2.toks) .nil (by simp);have S:u s2.heap.objs.size=none:=I2.Qb.fresh (xa _);have r3:=r2.push (p:=s2.heap.objs.size) (o:=.lst []) (ob:=.lst []) S ⟨[],rg,Qa.nil⟩;have K:Ext j u (j++[s2.heap.objs.size]) (upd u s2.heap.objs.size (.lst [])):=Et S;have b3:s2.heap.objs.size<(s2.heap.push { cls:=.type "list",data:=.seq ([]:List Value).toArray }).objs.size:=by rw[Jf];exact Gc _
 have kp:∀ b o,(s2.heap.push { cls:=.type "list",data:=.seq ([]:List Value).toArray }).get? b=some o->Y.get? b=some o:=λb o e=>E.extBut b o (Ba (qa e)) (ia _ e);have l:∀ b∈fp,Ck X m (upd u s2.heap.objs.size (.lst [])) b/\b<(s2.heap.push { cls:=.type "list",data:=.seq ([]:List Value).toArray }).objs.size:=λb hb=>by
  obtain⟨o,e,_⟩:=TT.obj 0 _ a1 b hb;have lt:=qa e;exact⟨⟨by rw[jd (Ba lt)];exact(f2 b hb).1,(f2 b hb).2⟩,Bp lt b3⟩
 refine ZK (s3:={ s2 with heap:=s2.heap.push { cls:=.type "list",data:=.seq ([]:List Value).toArray },toks:=s2.toks }) (n:=k.length) (D0:=s2.heap.objs.size) hc L b4 a7 U P l B kp TT (TT.keep 0 _ _ a1 λb hb o e=>kp b o (ia _ e))
  (λμ H σ i ex r=>so μ H σ i (K.trans ex) r) ((hE.mono a4).mono K) r3 (by rw[<-r2.len];simp) (p2.mono K) (λs6 H' m6 a8 a5 b5 a9 V a6 hq=>?_)
 have I6:=L2.Inv.Ar (s':=s6) (ch:=fp) P a9 b5 V a6 (λb hb=>⟨(l b hb).1.2.2.2.1,(l b hb).1.2.1,(l b hb).1.2.2.2.2.1,(l b hb).1.2.2.2.2.2⟩);have a0:X.env.locals<(s2.heap.push { cls:=.type "list",data:=.seq ([]:List Value).toArray }).objs.size:=P.lt;have Z:∀ z c,X.env.cells.lookup z=some c->c<(s2.heap.push { cls:=.type "list",data:=.seq ([]:List Value).toArray }).objs.size:=λz c e=>by
  obtain⟨v,q⟩:=P.cell z c e;exact q.lt
 show wpAny _ X.A (Zj (.Name y py) X.env (.ref s2.heap.objs.size)) _ _ s6;refine Mx (CJ (v:=.ref s2.heap.objs.size) I6 hN hi hx rfl (λs7 I7 ⟨a,sb,ha⟩=>?_) hf);have b6:a≠(s2.heap.push { cls:=.type "list",data:=.seq ([]:List Value).toArray }).objs.size:=by
  rcases ha with rfl|ha
  ·exact Ba a0
  ·exact Ba (Z _ _ ha)
 refine⟨m6,a8.sameBut sb (Ee b6),λh8 b1=>?_⟩;refine⟨st.set i (some (.ref s2.heap.objs.size)),H',?_,hq⟩;exact I7.turned (t':=s7.toks) (it:=(s2.heap.push { cls:=.type "list",data:=.seq ([]:List Value).toArray }).objs.size) (λb o hb e=>(b1.2 b hb).trans e) a5 (Qf a0) (.inr (Hb P.sz (xa _))) (λz c e=>Ba (Z z c e)) (λp hp=>Ba (qa (P.pin p hp).1))
end
section
variable{P:ra}{w:Ea}
noncomputable def KS(h0 h:Heap):Prop:=∀ b o a n,h0.get? b=some o->o.data=.seq a n->h.get? b=some o
theorem KS.keeps{h0 h h':Heap}{d:Addr}{o:gc}{es ep}(x:KS h0 h)(g:h.get? d=some o)(hd:o.data=.dict es ep)(hs:Ye d h h'):KS h0 h':=λb i f n e a=>by
 have q:=x b i f n e a;have c:b≠d:=by
  rintro rfl;rw[g]at q;cases q;rw[hd]at a;exact nomatch a
 exact(hs.2 b c).trans q
noncomputable def NT(P:ra)(w:Ea)(h0:Heap):Nat->Value->Int->Nat->Prop
 |0,v,x,n=>∃ k,(Ij P w).is k v=true/\x=(Ij P w).hash k/\n=1
 |d+1,v,x,n=>(∃ k,(Ij P w).is k v=true/\x=(Ij P w).hash k/\n=1)\/
  ∃ a o b m,∃ c:List (Value × Int × Nat),v=.ref a/\h0.get? a=some o/\o.cls=.type "tuple"/\o.data=.seq b m/\b.toList=c.map (·.1)/\(∀ p∈c,NT P w h0 d p.1 p.2.1 p.2.2)/\
   x=reduceHash (pA (c.map (·.2.1)))/\n=(c.map (·.2.2)).sum+1
structure NQ(P:ra)(w:Ea)(h0:Heap)(a0:Addr)(x0:Int)(n0:Nat)(t:Key):Prop where
 nt:NT P w h0 5 (.ref a0) x0 n0
 hd:∃ o v0 its m,h0.get? a0=some o/\o.cls=.type "tuple"/\o.data=.seq its m/\its.toList.head?=some v0/\(Ij P w).is t v0=true
end
section
variable{T:Tb}{X:Cx}
open Classical in
end
structure Oq(K:W.Frag)(C:Addr):Prop where
 f:W.findIn K (.ref C) "__eq__" = some (some (.builtin "object.__eq__"))
 o:W.mroIn K C (.type "object")=some true
section
variable{prog:ra}{w:Ea}{K:W.Frag}{A:Da}{E:Value->aa->Prop}{h:Heap}{g:Array Fp}{d:YG}{t:Nat}{os:y4}{x y C D:Addr}{ox oy:gc}
theorem xS{M:Yj}{r:Option Value}{name:ma}{Q:Option Value->aa->Prop}(X:K.In h)(f:W.findIn K (.ref C) name=some r)(c:h.get? x=some ox)(a:ox.cls=.ref C)(b:Q r ⟨h,g,d,t,os⟩):wpAny M A (specialOf (.ref x) name) Q E ⟨h,g,d,t,os⟩:=by
 unfold specialOf;repeat (first|(with_reducible refine Yh c ?_;rw[a])|(with_reducible refine W.Looks.at (aA X f) ?_)|wp_step)
 exact b
theorem KN(X:K.In h)(c:Oq K C)(n:h.get? x=some ox)(l:ox.cls=.ref C)(r:h.get? y=some oy)(i:x≠y){Q:Value->aa->Prop}(q:Q .notImplemented ⟨h,g,d,t,os⟩) :
  wpAny (model prog w) A (call (.builtin "object.__eq__") [.ref x,.ref y]) Q E ⟨h,g,d,t,os⟩:=by
 refine zp (codeAny_call_builtin XG.eq.plain F.cmpEntry_eq ?_);have j:=F.cmpArgs_eq (.ref x) (.ref y);have f:=TC (M:=model prog w) X c.o;have b:ox.cls≠.type "tuple":=by rw[l];intro e;cases e
 simp only[checkBuiltinCall,F.cmpKind_eq,F.cmpSplit_eq];refine ba ?_;unfold isInstance;have s:∀ (k:Unit->aa->Prop),k () ⟨h,g,d,t,os⟩->wpAny (model prog w) A (match Lo "object.__eq__" with|some sig=>kn "object.__eq__" sig ⟨[.ref x,.ref y],[]⟩|none=>pure ()) k E ⟨h,g,d,t,os⟩:=λk m=>by
  cases a:Lo "object.__eq__" with
  |none=>exact na m
  |some sig=>
   simp only[argsOk,a]at j;have p:kn "object.__eq__" sig ⟨[.ref x,.ref y],[]⟩=pure ():=j;show wpAny _ A (kn "object.__eq__" sig ⟨[.ref x,.ref y],[]⟩) k E _;rw[p];exact na m
 repeat (first|(with_reducible refine Yh n ?_;rw[l])|(with_reducible refine W.Looks.at f ?_)|(with_reducible refine Fs i n r b ?_)|wp_step)
 exact q
theorem dI(X:K.In h)(c:Oq K C)(e:h.get? x=some ox)(b:ox.cls=.ref C)(j:h.get? y=some oy)(a:x≠y){Q:Option Value->aa->Prop}(i:Q none ⟨h,g,d,t,os⟩) :
  wpAny (model prog w) A (tryCompare (.ref x) "__eq__" (.ref y)) Q E ⟨h,g,d,t,os⟩:=by
 simp only[tryCompare];refine ba ?_;simp only[callSpecialIfBound?,bindSpecialIfBound?];refine md (ba (ba (xS X c.f e b ?_)));simp only[XG.eq.bind];refine ba (wpAny_askSetting (wpAny_ite ?_));split
 ·exact ba (na (na (ba (KN X c e b j a (na (na i))))))
 ·exact cf (ba (na (na (ba (KN X c e b j a (na (na i)))))))
theorem EU(X:K.In h)(c:Oq K C)(o:Oq K D)(hs:W.mroIn K D (.ref C)=some false)(j:h.get? x=some ox)(k:ox.cls=.ref C)(f:h.get? y=some oy)(a:oy.cls=.ref D)(i:C≠D)(hu:A.units<cLine){Q:Value->aa->Prop}(p:Q (.bool false) ⟨h,g,d,t,os⟩) :
  wpAny (model prog w) A (Ab .Eq (.ref x) (.ref y)) Q E ⟨h,g,d,t,os⟩:=by
 have b:x≠y:=λe=>by
  subst e;rw[j]at f;cases f;rw[k]at a;cases a;exact i rfl
 have m:ox.cls≠.type "tuple":=by rw[k];intro e;cases e
 have n:=TC (M:=model prog w) X hs;have l:(eb C != eb D)=true:=by simp[i]
 show wpAny (model prog w) A (xu .Eq (.ref x) (.ref y)) Q E _;simp only[xu,cmpInfo_Eq,oneThing_ref];repeat (first|with_reducible refine wpAny_cRoomFor hu ?_|(with_reducible refine Yh j ?_;rw[k])|(with_reducible refine Yh f ?_;rw[a])|(rw[l,da rfl];with_reducible refine ba (W.Looks.at n ?_))|(with_reducible refine W.Looks.at n ?_)|(with_reducible refine dI X c j k f b ?_)|(with_reducible refine dI X o f a j (Ee b) ?_)|(with_reducible refine Fs b j f m ?_)|wp_step)
 exact p
end
noncomputable def yL(K:W.Frag):R2:=λv u H Q=>∃ x y C D a b fs c,v=.ref x/\u=.ref y/\H x=some (.ins C a fs)/\H y=some (.ins D b c)/\Oq K C/\Oq K D/\W.mroIn K D (.ref C)=some false/\C≠D/\Q (.bl false) H
noncomputable def mB(K:W.Frag)(ca:Nat->Addr)(l:List (Nat × Nat)):Prop:=∀ p∈l,Oq K (ca p.1)/\Oq K (ca p.2)/\W.mroIn K (ca p.2) (.ref (ca p.1))=some false/\ca p.1≠ca p.2
noncomputable def cy(l:List (Nat × Nat))(x y:D):M D:=λa=>match jm a x,jm a y with
 |some (c,_),some (d,_)=>if (c,d)∈l then .ok (.bl false) a else .bad
 |_,_=>.bad
theorem zX{K:W.Frag}{ca:Nat->Addr}:mB K ca []:=λ_ h=>nomatch h
theorem cJ{K:W.Frag}{ca:Nat->Addr}{c d:Nat}{l:List (Nat × Nat)}(a:Oq K (ca c))(b:Oq K (ca d))(m:W.mroIn K (ca d) (.ref (ca c))=some false)(n:ca c≠ca d)(r:mB K ca l):mB K ca ((c,d)::l):=λp hp=>by
 rcases Pa.mp hp with rfl|hp
 ·exact⟨a,b,m,n⟩
 ·exact r p hp
section
variable{T:Tb}{X:Cx}
theorem SX(hu:X.A.units+9<cLine):gh X (Ab .Eq) (yL X.K):=by
 intro b s st H v u o z Q I r p h;obtain⟨x,y,C,D,f,i,fs,j,rfl,rfl,h1,k,c,e,hs,a,q⟩:=h;obtain rfl:o=eb x:=r;obtain rfl:z=eb y:=p;obtain⟨_,_,_,m,_⟩:=(show mi X.prog X.w H s.heap x (.ins C f fs)from I.Qb x _ h1)
 obtain⟨_,_,_,n,_⟩:=(show mi X.prog X.w H s.heap y (.ins D i j)from I.Qb y _ k)
 have l:=I.Xi;obtain⟨h,g,d,t,os⟩:=s;exact EU l c e hs m rfl n rfl a (by omega) ⟨.bl false,H,I,rfl,q⟩
theorem PV{K:W.Frag}{l:List (Nat × Nat)}(o:mB K T.ca l):Kj T (yL K) (cy l):=by
 intro E D H g x y u v Q r q p h;unfold cy at h;cases e:jm g x with
 |none=>rw[e]at h;exact h.elim
 |some i=>
  cases f:jm g y with
  |none=>rw[e,f]at h;exact h.elim
  |some j=>
   obtain⟨c,fs⟩:=i;obtain⟨d,C⟩:=j;rw[e,f]at h;dsimp only at h;by_cases hm:(c,d)∈l
   ·rw[da hm]at h;obtain⟨a,k,s,rfl,h1,_⟩:=Iw r q e;obtain⟨b,m,t,rfl,n,_⟩:=Iw r p f;obtain⟨w,z,A,B⟩:=o (c,d) hm;exact⟨a,b,_,_,k,m,s,t,rfl,rfl,h1,n,w,z,A,B,Ib.here h r (by rw[Rep])⟩
   ·rw[ka hm]at h;exact h.elim
end
noncomputable def Yz(x y:D):M D:=λa=>match x,y with
 | .gt ss,.gt c=>(match Bm (Wi a 0) (ss.map D.str) (c.map D.str)with
  |some b=>.ok (.bl b) a
  |none=>.bad)
 |_,_=>.bad
theorem cW{T:Tb}{X:Cx}(n:T.K=X.K)(hu:X.A.units+9<cLine):gh X (Ab .Eq) (rD T Yz):=by
 intro a s st H v u i O Q I C B h;obtain⟨E,μ,L,x,y,r,d,f,hp⟩:=h;unfold Yz at hp;cases x with
 |gt ss=>
  cases y with
  |gt g=>
   dsimp only at hp;cases e:Bm (Wi L 0) (ss.map D.str) (g.map D.str)with
   |none=>rw[e]at hp;exact hp.elim
   |some b=>
    rw[e]at hp;rw[Rep]at d f;obtain⟨p,rfl,h1⟩:=d;obtain⟨q,rfl,c⟩:=f;rw[n]at h1 c;cases C;cases B;obtain⟨M,o,F,_⟩:=L2.Inv.tuple I (.inr h1);obtain⟨N,t,G,_⟩:=L2.Inv.tuple I (.inr c);obtain⟨m,g2⟩:=AE (A:=X.A.in1) (λx y v w i J b a1 a2 j k l=>wB I r 0 X.A.in1 x y v w i J b (by show X.A.units+1+0+1<cLine;omega) a1 a2 j k l) (bB (T:=T) (μ:=μ) (H:=H) ss) (bB g) o t e;have z:Og X.A s (.ref p) (.ref q) b:=by rw[g2];exact .tuples F G (by omega) m
    exact z X.prog X.w X.xe (EP X a st Q) ⟨.bl b,H,I,rfl,Ib.here hp r (by rw[Rep])⟩
  |_=>exact hp.elim
 |_=>exact hp.elim
end L4
set_option maxHeartbeats 0
namespace K48
open PySem PySem.Spec PyProof.Rows L2 L4
noncomputable def top(i:Nat):Stmt:=PySem.Challenge.pw_sidebook_k48_asks.main.body.getD i (.Pass ⟨0,0,0,0⟩)
noncomputable def zB(K:W.Frag):Tab:=⟨Qt K "least_fate",266,35, "least_fate.<locals>.<lambda>"⟩
noncomputable def rC(K:W.Frag):Tab:=⟨Qt K "paper",281,27, "paper.<locals>.<lambda>"⟩
noncomputable def tx(K:W.Frag):Tx:=⟨[zB K,rC K],Tt K⟩
theorem CI(K:W.Frag):zB K∈(tx K).ul:=(.head _)
theorem aL(K:W.Frag):rC K∈(tx K).ul:=(.tail _ (.head _))
theorem FZ(K:W.Frag):∀ t∈(tx K).ul,∃ x∈[("least_fate" : ma),("paper" : ma)],t.P=Qt K x:=by
 intro t a;have h:t∈[zB K,rC K]:=a;simp only[Pa,yd,Hl]at h;rcases h with rfl|rfl
 ·exact⟨"least_fate",by simp,rfl⟩
 ·exact⟨"paper",by simp,rfl⟩
structure Txt(K:W.Frag)(mg:ma->Option Value)(ca:Nat->Addr):Prop where
 Na:Vf K mg "_law_cell_at" (top 91) ["_law_script", "_law_k"]
 Nf:Vf K mg "is_whole" (top 7) ["thing"]
 Rb:Vf K mg "is_between" (top 8) ["thing", "least", "most"]
 Re:Vf K mg "check_span" (top 81) ["hand", "every", "pots"]
 Jc:Pf K (ca 9) "learn" "Keeper.learn" (Yf (top 89) 2) ["self", "words"] (ca 22)
 Uc:Pf K (ca 9) "hold" "Keeper.hold" (Yf (top 89) 1) ["self", "account", "claim", "seen"] (ca 21)
 lh:Vf K mg "is_day" (top 11) ["thing"]
 ug:Vf K mg "is_word" (top 10) ["thing"]
 Pd:Vf K mg "is_amount" (top 13) ["thing"]
 df:Vf K mg "is_side" (top 9) ["thing"]
 Bg:Vf K mg "is_tie" (top 24) ["thing"]
 Kf:Vf K mg "are_ties" (top 26) ["thing"]
 Qe:Vf K mg "are_shares" (top 25) ["thing"]
 Ie:Vf K mg "is_number" (top 12) ["thing"]
 qe:Vf K mg "is_stand" (top 27) ["thing"]
 og:sE K mg "stand" (top 28) ["number", "shares", "ties"] [.none]
 ni:Vf K mg "first" (top 29) ["left", "right"]
 al:Pf K (ca 4) "__init__" "Account.__init__" (Yf (top 52) 0) ["self", "pot", "side", "mine", "grant", "may", "strikes"] (ca 10)
 Gd:Vf K mg "first_account" (top 56) ["pot", "side", "left", "right"]
 Eo:Qr K (ca 9) "__init__" "Keeper.__init__" (Yf (top 89) 0) ["self", "hand", "every", "pots", "words"] [.none] (ca 20)
 Hc:Vf K mg "_law_moved" (top 93) ["_law_coins", "_law_amount"]
 wc:Pf K (ca 9) "holds" "Keeper.holds" (Yf (top 89) 12) ["self", "pot"] (ca 32)
 Bb:Pf K (ca 5) "word" "Calm.word" (Yf (top 53) 0) ["self"] (ca 13)
 yc:Pf K (ca 6) "word" "Offered.word" (Yf (top 54) 0) ["self"] (ca 15)
 Bc:Pf K (ca 7) "word" "Waiting.word" (Yf (top 55) 0) ["self"] (ca 17)
 Nd:Vf K mg "with_more" (top 32) ["shares", "side", "amount"]
 kf:Vf K mg "following" (top 33) ["one", "shares", "ties"]
 me:Vf K mg "other_side" (top 15) ["side"]
 Rj:Vf K mg "gift" (top 34) ["one", "side", "amount"]
 Zd:Vf K mg "stand_wished" (top 86) ["account", "wish", "known"]
 be:Vf K mg "allowance_of" (top 87) ["wish"]
 Aa:Pf K (ca 4) "agree_of" "Account.agree_of" (Yf (top 52) 1) ["self", "side", "one"] (ca 11)
 Gg:Vf K mg "is_pot" (top 14) ["thing"]
 Ic:Vf K mg "is_of_a_side" (top 43) ["thing"]
 je:Vf K mg "is_thing" (top 44) ["thing"]
 Of:Vf K mg "is_agree" (top 46) ["thing"]
 jf:Vf K mg "is_strike" (top 47) ["thing"]
 Oc:Vf K mg "has_its_parts" (top 48) ["letter"]
 Wc:Vf K mg "is_letter" (top 49) ["thing"]
 Ah:Vf K mg "deals" (top 30) ["one"]
 ye:Vf K mg "is_stand_of" (top 31) ["thing", "coin"]
 ce:Vf K mg "is_following" (top 51) ["thing", "one"]
 Wa:Pf K (ca 4) "strike_of" "Account.strike_of" (Yf (top 52) 2) ["self", "side", "one"] (ca 12)
 Cb:Pf K (ca 5) "taken" "Calm.taken" (Yf (top 53) 1) ["self", "letter"] (ca 14)
 Vb:Pf K (ca 6) "taken" "Offered.taken" (Yf (top 54) 1) ["self", "letter"] (ca 16)
 xb:Pf K (ca 7) "taken" "Waiting.taken" (Yf (top 55) 1) ["self", "letter"] (ca 18)
 vg:Vf K mg "step_to" (top 88) ["account", "one"]
 Jd:Vf K mg "shown_in_time" (top 37) ["tie", "shown"]
 Te:Vf K mg "lot_of_due" (top 62) ["view", "seen", "tie"]
 ph:Vf K mg "lot_of" (top 63) ["view", "pot", "tie"]
 ie:Vf K mg "read_stand" (top 64) ["view", "pot", "one"]
 ff:Vf K mg "read_pots" (top 65) ["view"]
 Sd:Vf K mg "all_choices" (top 66) ["readings"]
 ae:Vf K mg "lots_by_word" (top 68) ["reads"]
 Mf:Vf K mg "fates_of" (top 69) ["lots"]
 gd:Vf K mg "comes_by_fate" (top 70) ["lot", "fate", "every"]
 sd:Vf K mg "sum_by_fate" (top 71) ["lots", "fate", "every"]
 Se:KB K mg "least_fate" (top 72) ["lots", "every"]
 Cg:Vf K mg "sum_of" (top 73) ["reads", "by_word", "fates", "every"]
 Td:Vf K mg "least_paper" (top 74) ["reads", "chosen", "every"]
 Kc:Vf K mg "chosen_readings" (top 67) ["readings", "chosen"]
 li:KB K mg "paper" (top 75) ["view"]
 Bh:Vf K mg "worth" (top 76) ["view"]
 ze:Vf K mg "stands_told" (top 82) ["account", "claim"]
 tp:Pf K (ca 8) "__init__" "View.__init__" (Yf (top 60) 0) ["self", "every", "look", "words", "pots"] (ca 19)
 Xc:Pf K (ca 9) "words" "Keeper.words" (Yf (top 89) 3) ["self"] (ca 23)
 Xb:Pf K (ca 9) "view_by" "Keeper.view_by" (Yf (top 89) 7) ["self", "accounts"] (ca 27)
 qd:Pf K (ca 9) "view" "Keeper.view" (Yf (top 89) 8) ["self"] (ca 28)
 ib:Pf K (ca 9) "worth" "Keeper.worth" (Yf (top 89) 9) ["self"] (ca 29)
 qb:Pf K (ca 9) "is_good" "Keeper.is_good" (Yf (top 89) 11) ["self", "account", "allowance"] (ca 31)
 qc:Pf K (ca 9) "wish_for" "Keeper.wish_for" (Yf (top 89) 14) ["self", "one", "wish"] (ca 34)
 cc:Pf K (ca 9) "wish" "Keeper.wish" (Yf (top 89) 13) ["self", "wish"] (ca 33)
 lb:Pf K (ca 9) "given" "Keeper.given" (Yf (top 89) 5) ["self"] (ca 25)
 Va:Pf K (ca 9) "account" "Keeper.account" (Yf (top 89) 6) ["self", "pot"] (ca 26)
 Fa:Pf K (ca 9) "is_as_asked" "Keeper.is_as_asked" (Yf (top 89) 17) ["self", "letter"] (ca 37)
 Ia:Pf K (ca 9) "take_step" "Keeper.take_step" (Yf (top 89) 18) ["self", "letter"] (ca 38)
 dc:Pf K (ca 9) "take" "Keeper.take" (Yf (top 89) 15) ["self", "letter"] (ca 35)
 db:Vf K mg "_law_offer" (top 92) ["_law_keeper", "_law_split", "_law_ties"]
 Vm:Vf K mg "law" (top 94) ["_law_script"]
 bi:mg "worth_worth" = mg "worth"
 Cz:mg "all" = none
 wv:mg "bool" = none
 Vr:mg "dict" = none
 Fo:mg "enumerate" = none
 Dz:mg "int" = none
 Tc:mg "isinstance" = none
 jh:mg "len" = none
 yn:mg "list" = none
 Dr:mg "min" = none
 Kt:mg "range" = none
 Oz:mg "set" = none
 Rr:mg "sorted" = none
 Ru:mg "str" = none
 aq:mg "sum" = none
 oi:mg "tuple" = none
 Sy:mg "zip" = none
 uv:iy K mg "FIRM" ["won", "sure", "back"]
 Br:iy K mg "HELD" ["held"]
 Gi:∃ t,mg "MOST_AMOUNT" = some (.int 1000000000000 t)
 Ml:∃ t,mg "MOST_DAY" = some (.int 1000000 t)
 nj:∃ t,mg "MOST_EVERY" = some (.int 50 t)
 Fi:∃ t,mg "MOST_NUMBER" = some (.int 1000000 t)
 Ll:∃ t,mg "MOST_POT" = some (.int 2 t)
 ng:∃ t,mg "MOST_SHARE" = some (.int 2000000000000 t)
 ek:∃ t,mg "MOST_TIES" = some (.int 6 t)
 pk:∃ t,mg "MOST_WORD" = some (.int 59 t)
 Um:mg "NoStand" = some (.ref (ca 1))
 uq:W.excIn K (ca 1) pY "ValueError.__new__" = true
 fj:W.exmOne K (.ref (ca 1)) (.ref (ca 1))=some true
 zb:L2.Wm K (ca 9)
 am:L2.Eg K (ca 9) "hand"
 Wk:L2.Eg K (ca 9) "every"
 Bl:L2.Wm K (ca 8)
 Fm:L2.Eg K (ca 8) "every"
 ui:L2.Eg K (ca 9) "last_look"
 rj:L2.Eg K (ca 8) "last_look"
 Rl:L2.Eg K (ca 9) "gave"
 Jk:L2.Eg K (ca 9) "known"
 zm:L2.Eg K (ca 8) "known"
 Oi:L2.Eg K (ca 9) "accounts"
 Jj:L2.Eg K (ca 9) "claims"
 Jl:L2.Eg K (ca 9) "seen"
 yk:L2.Eg K (ca 9) "asked"
 Ai:L2.Eg K (ca 9) "finishing"
 Yk:L2.qf K (ca 9) "learn" (ca 22)
 Ud:L2.Wm K (ca 7)
 Ql:L2.Eg K (ca 7) "pot"
 pe:L2.Wm K (ca 6)
 Vl:L2.Eg K (ca 6) "pot"
 Cf:L2.Wm K (ca 5)
 Co:L2.Eg K (ca 5) "pot"
 bf:L2.Wm K (ca 4)
 dm:L2.Eg K (ca 4) "pot"
 Wl:L2.qf K (ca 9) "hold" (ca 21)
 Pk:L2.Eg K (ca 7) "side"
 Uk:L2.Eg K (ca 6) "side"
 mn:L2.Eg K (ca 5) "side"
 Sk:L2.Eg K (ca 4) "side"
 Tk:L2.Eg K (ca 7) "mine"
 Gk:L2.Eg K (ca 6) "mine"
 Kn:L2.Eg K (ca 5) "mine"
 xk:L2.Eg K (ca 4) "mine"
 Sj:L2.Eg K (ca 7) "grant"
 Tj:L2.Eg K (ca 6) "grant"
 Hm:L2.Eg K (ca 5) "grant"
 Mj:L2.Eg K (ca 4) "grant"
 fm:L2.Eg K (ca 7) "may"
 Pl:L2.Eg K (ca 6) "may"
 yo:L2.Eg K (ca 5) "may"
 Tl:L2.Eg K (ca 4) "may"
 Pi:L2.Eg K (ca 7) "strikes"
 Ki:L2.Eg K (ca 6) "strikes"
 uk:L2.Eg K (ca 5) "strikes"
 Ri:L2.Eg K (ca 4) "strikes"
 Wr:mg "Calm" = some (.ref (ca 5))
 Yp:L2.Mk K (ca 5) (ca 10)
 Cr:mg "Keeper" = some (.ref (ca 9))
 yq:L2.Mk K (ca 9) (ca 20)
 vk:L2.qf K (ca 9) "holds" (ca 32)
 Kk:L2.qf K (ca 7) "word" (ca 17)
 Ek:L2.qf K (ca 6) "word" (ca 15)
 rn:L2.qf K (ca 5) "word" (ca 13)
 zi:L2.qf K (ca 7) "agree_of" (ca 11)
 pi:L2.qf K (ca 6) "agree_of" (ca 11)
 oh:L2.qf K (ca 5) "agree_of" (ca 11)
 ri:L2.qf K (ca 4) "agree_of" (ca 11)
 Bq:mg "Waiting" = some (.ref (ca 7))
 Zo:L2.Mk K (ca 7) (ca 10)
 dj:L2.qf K (ca 5) "strike_of" (ca 12)
 ci:L2.qf K (ca 7) "strike_of" (ca 12)
 Uj:L2.qf K (ca 7) "taken" (ca 18)
 Pj:L2.qf K (ca 6) "taken" (ca 16)
 um:L2.qf K (ca 5) "taken" (ca 14)
 Fn:L2.Eg K (ca 8) "pots"
 Jv:mg "View" = some (.ref (ca 8))
 eu:L2.Mk K (ca 8) (ca 19)
 Xk:L2.qf K (ca 9) "words" (ca 23)
 kj:L2.qf K (ca 9) "view_by" (ca 27)
 Nl:L2.qf K (ca 9) "view" (ca 28)
 Nk:L2.qf K (ca 9) "worth" (ca 29)
 ij:L2.qf K (ca 9) "is_good" (ca 31)
 Li:L2.qf K (ca 9) "wish_for" (ca 34)
 Yl:L2.qf K (ca 9) "wish" (ca 33)
 Ak:L2.qf K (ca 9) "given" (ca 25)
 lj:L2.qf K (ca 9) "account" (ca 26)
 qo:L4.Oq K (ca 5)
 ik:L4.Oq K (ca 7)
 il:W.mroIn K (ca 7) (.ref (ca 5))=some false
 Qk:(ca 5)≠(ca 7)
 Dk:W.mroIn K (ca 5) (.ref (ca 7))=some false
 wk:(ca 7)≠(ca 5)
 Ph:L2.qf K (ca 9) "is_as_asked" (ca 37)
 ti:L2.qf K (ca 9) "take_step" (ca 38)
 Ol:L2.qf K (ca 9) "take" (ca 35)
 tb:tu K ["least_fate", "paper"]
 eJ:mg "__builtins__" = some (.ref (Tt K))
 Ny:∀ t∈(tx K).ul,∀ t'∈(tx K).ul,t'.P=t.P->t'=t
seal L2.PE L2.PS L2.Mp L2.PT L2.PW L2.PA L2.PI L2.PG
section
variable{P:ra}{w:Ea}{K:W.Frag}{mg:ma->Option Value}{base:Heap}{ca:Nat->Addr}
theorem ke{N P:List ma}{sc:Scope}(a:sc.kind=.function)(b:sc.isCoroutine=false)(c:sc.isGenerator=false)(h:N.Nodup/\N.take P.length=P/\(∀ x∈P,sc.names.lookup x=some .local\/sc.names.lookup x=some .cell)/\∀ y∈sc.names,y.2≠.free):wa N P sc:=⟨a,b,c,h.1,h.2.1,h.2.2.1,h.2.2.2⟩
noncomputable abbrev PQ:Stmt:=top 91
noncomputable def PJ:Ev->M Fl:=
 (kc (rf (eT (Ha oLt (ga 1) (Nh Dl (ua (ga 0) Ma)))) (pd (Ha Ua (ga 0) (ga 1))) xf) (pd (eC (.int 0))))
noncomputable def Na:List D->M D:=hide λa=>Xa (run 2 PJ a)
theorem DX:wa ["_law_script", "_law_k"] ["_law_script", "_law_k"] (Ec PQ):=ke rfl rfl rfl (by decide +kernel)
theorem Uu(a:Txt K mg ca):Nb ⟨K,ca,tx K⟩ P w mg base 1 "_law_cell_at" ["_law_script", "_law_k"] Na:=
 Nb.hide (Nb.Xa (qg a.Na DX λ_ _ _ _ _ _ _ b=>
  (rc (Bf (zf Dw lx (la 1) (Hn Vq (Uq rfl) rfl a.jh ec (za (la 0) Ta)) (ve _)) (Cc (ud (nc pc (lc rfl) (la 0) (la 1) (λ_ _=>rfl)))) Df)
  (Cc (ud Ya)))))
noncomputable abbrev WT:Stmt:=top 7
noncomputable def BL:Ev->M Fl:=
 (pd (Bi (Fd (Ym .int) (ga 0)) (yE (Fd (Ym .bool) (ga 0)))))
noncomputable def Nf:List D->M D:=hide λa=>Xa (run 1 BL a)
theorem JQ:wa ["thing"] ["thing"] (Ec WT):=ke rfl rfl rfl (by decide +kernel)
theorem YV(a:Txt K mg ca):Nb ⟨K,ca,tx K⟩ P w mg base 1 "is_whole" ["thing"] Nf:=
 Nb.hide (Nb.Xa (qg a.Nf JQ λ_ _ _ _ _ _ _ b=>
  (Cc (ud (Mi (Xs .int (la 0) rfl a.Tc rfl a.Dz boot_int) (Cm (mQ (Xs .bool (la 0) rfl a.Tc rfl a.wv boot_bool))))))))
noncomputable abbrev BX:Stmt:=top 8
noncomputable def qL:Ev->M Fl:=
 (pd (Bi (Yc 1 Nf [] (ua (ga 0) Ma)) (KF oLe oLe (ga 1) (ga 0) (ga 2))))
noncomputable def Rb:List D->M D:=hide λa=>Xa (run 3 qL a)
theorem EV:wa ["thing", "least", "most"] ["thing", "least", "most"] (Ec BX):=ke rfl rfl rfl (by decide +kernel)
theorem zev(a:Txt K mg ca):Nb ⟨K,ca,tx K⟩ P w mg base 2 "is_between" ["thing", "least", "most"] Rb:=
 Nb.hide (Nb.Xa (qg a.Rb EV λ_ _ _ _ _ _ _ b=>
  (Cc (ud (Mi (Bd (YV a) rfl (b.mono (by decide)) rfl (za (la 0) Ta)) (Cm (tW OH oJ OH oJ (la 1) (la 0) (la 2))))))))
noncomputable abbrev B1:Stmt:=top 81
noncomputable abbrev xD:Ev->M Fl:=(rf (Xy (eT (Ha (aC false) (ga 0) (mz (ga 3) none (some (eC (.int 2)))))) (eT (Ha oLt (Ha Ua (ga 3) (eC (.int 4))) (Ha gj (ga 1) (eC (.int 1)))))) sj xf)
noncomputable def nJ:Ev->M Fl:=
 (kc (rf (Al (eT (Yc 3 Rb [] (ua (ga 1) (ua (eC (.int 1)) (ua (eC (.int 50)) Ma)))))) sj xf) (Ur (Vi (ga 2)) (yf 3) xD))
noncomputable def Re:List D->M D:=hide λa=>Xa (run 4 nJ a)
theorem IJ:wa ["hand", "every", "pots", "made"] ["hand", "every", "pots"] (Ec B1):=ke rfl rfl rfl (by decide +kernel)
theorem xY(a:Txt K mg ca):Nb ⟨K,ca,tx K⟩ P w mg base 3 "check_span" ["hand", "every", "pots"] Re:=
 Nb.hide (Nb.Xa (qg a.Re IJ λ_ _ _ _ _ _ _ b=>
  (rc (Bf (lm (Cj (Bd (zev a) rfl (b.mono (by decide)) rfl (za (la 1) (za Ya (za (Wt (u:=.int 50 (a.nj).choose) rfl (a.nj).choose_spec ⟨_,rfl⟩) Ta)))))) Ej Df)
  (Cc (yes Zp rfl (Rn rfl (la 2)) (Ji (i:=3) IJ.nd rfl (Or.inl rfl)) (Cc (Bf (L2.PW.pt (bD (zf AM (OR rfl false) (la 0) (aD rfl (la 3) cD (HD Ya)) rfl) (NE (zf Dw lx (nc pc (lc rfl) (la 3) Ya (λ_ _=>rfl)) (zh (An rfl) de (la 1) Ya) (ve _))))) Ej Df)))))))
theorem DW(a:Txt K mg ca):cm ⟨K,ca,tx K⟩ [9] "hand":=(Ih (T:=⟨K,ca,tx K⟩) (c:=9) a.zb a.am mo)
theorem My(a:Txt K mg ca):cm ⟨K,ca,tx K⟩ [8,9] "every":=(Ih (T:=⟨K,ca,tx K⟩) (c:=8) a.Bl a.Fm (Ih (T:=⟨K,ca,tx K⟩) (c:=9) a.zb a.Wk mo))
theorem xz(a:Txt K mg ca):cm ⟨K,ca,tx K⟩ [8,9] "last_look":=(Ih (T:=⟨K,ca,tx K⟩) (c:=8) a.Bl a.rj (Ih (T:=⟨K,ca,tx K⟩) (c:=9) a.zb a.ui mo))
theorem JC(a:Txt K mg ca):cm ⟨K,ca,tx K⟩ [9] "gave":=(Ih (T:=⟨K,ca,tx K⟩) (c:=9) a.zb a.Rl mo)
theorem Rw(a:Txt K mg ca):cm ⟨K,ca,tx K⟩ [8,9] "known":=(Ih (T:=⟨K,ca,tx K⟩) (c:=8) a.Bl a.zm (Ih (T:=⟨K,ca,tx K⟩) (c:=9) a.zb a.Jk mo))
theorem bq(a:Txt K mg ca):cm ⟨K,ca,tx K⟩ [9] "accounts":=(Ih (T:=⟨K,ca,tx K⟩) (c:=9) a.zb a.Oi mo)
theorem rA(a:Txt K mg ca):cm ⟨K,ca,tx K⟩ [9] "claims":=(Ih (T:=⟨K,ca,tx K⟩) (c:=9) a.zb a.Jj mo)
theorem ZE(a:Txt K mg ca):cm ⟨K,ca,tx K⟩ [9] "seen":=(Ih (T:=⟨K,ca,tx K⟩) (c:=9) a.zb a.Jl mo)
theorem Nw(a:Txt K mg ca):cm ⟨K,ca,tx K⟩ [9] "asked":=(Ih (T:=⟨K,ca,tx K⟩) (c:=9) a.zb a.yk mo)
theorem yY(a:Txt K mg ca):cm ⟨K,ca,tx K⟩ [9] "finishing":=(Ih (T:=⟨K,ca,tx K⟩) (c:=9) a.zb a.Ai mo)
noncomputable abbrev U2:Stmt:=Yf (top 89) 2
noncomputable abbrev dU:Ev->M Fl:=(Rq (eC (.bl true)) (Fd (Zc [8,9] "known") (ga 0)) (ga 2))
noncomputable def AJ:Ev->M Fl:=
 (Ur (Vi (ga 1)) (yf 2) dU)
noncomputable def Jc:List D->M D:=hide (run 3 AJ)
theorem uL:wa ["self", "words", "word"] ["self", "words"] (Ec U2):=ke rfl rfl rfl (by decide +kernel)
theorem yR(a:Txt K mg ca):ue ⟨K,ca,tx K⟩ P w mg base 1 (ca 22) ["self", "words"] Jc:=
 ue.hide (Rk a.Jc uL λ_ _ _ _ _ _ b=>
  (Cc (yes Zp rfl (Rn rfl (la 1)) (Ji (i:=2) uL.nd rfl (Or.inl rfl)) (Cc (Ps (Ed b) cn (Ue rfl (Rw a) (la 0)) (la 2))))))
theorem YU(a:Txt K mg ca):nl ⟨K,ca,tx K⟩ P w mg base 1 "learn" ["self", "words"] [(9,Jc)]:=(Dj (T:=⟨K,ca,tx K⟩) (c:=9) a.zb a.Yk (yR a) (by decide) vm)
theorem Qp(a:Txt K mg ca):cm ⟨K,ca,tx K⟩ [4,5,6,7] "pot":=(Ih (T:=⟨K,ca,tx K⟩) (c:=4) a.bf a.dm (Ih (T:=⟨K,ca,tx K⟩) (c:=5) a.Cf a.Co (Ih (T:=⟨K,ca,tx K⟩) (c:=6) a.pe a.Vl (Ih (T:=⟨K,ca,tx K⟩) (c:=7) a.Ud a.Ql mo))))
noncomputable abbrev vY:Stmt:=Yf (top 89) 1
noncomputable def FM:Ev->M Fl:=
 (kc (Rq (ga 1) (Fd (Zc [9] "accounts") (ga 0)) (Fd (Zc [4,5,6,7] "pot") (ga 1))) (kc (Rq (ga 2) (Fd (Zc [9] "claims") (ga 0)) (Fd (Zc [4,5,6,7] "pot") (ga 1))) (Rq (ga 3) (Fd (Zc [9] "seen") (ga 0)) (Fd (Zc [4,5,6,7] "pot") (ga 1)))))
noncomputable def Uc:List D->M D:=hide (run 4 FM)
theorem DP:wa ["self", "account", "claim", "seen"] ["self", "account", "claim", "seen"] (Ec vY):=ke rfl rfl rfl (by decide +kernel)
theorem oX(a:Txt K mg ca):ue ⟨K,ca,tx K⟩ P w mg base 1 (ca 21) ["self", "account", "claim", "seen"] Uc:=
 ue.hide (Rk a.Uc DP λ_ _ _ _ _ _ b=>
  (rc (Ps (Ed b) (la 1) (Ue rfl (bq a) (la 0)) (Ue rfl (Qp a) (la 1)))
  (rc (Ps (Ed b) (la 2) (Ue rfl (rA a) (la 0)) (Ue rfl (Qp a) (la 1)))
  (Cc (Ps (Ed b) (la 3) (Ue rfl (ZE a) (la 0)) (Ue rfl (Qp a) (la 1)))))))
theorem lS(a:Txt K mg ca):nl ⟨K,ca,tx K⟩ P w mg base 1 "hold" ["self", "account", "claim", "seen"] [(9,Uc)]:=(Dj (T:=⟨K,ca,tx K⟩) (c:=9) a.zb a.Wl (oX a) (by decide) vm)
noncomputable abbrev OP:Stmt:=top 11
noncomputable def MK:Ev->M Fl:=
 (pd (Yc 3 Rb [] (ua (ga 0) (ua (eC (.int 0)) (ua (eC (.int 1000000)) Ma)))))
noncomputable def lh:List D->M D:=hide λa=>Xa (run 1 MK a)
theorem zS:wa ["thing"] ["thing"] (Ec OP):=ke rfl rfl rfl (by decide +kernel)
theorem aW(a:Txt K mg ca):Nb ⟨K,ca,tx K⟩ P w mg base 3 "is_day" ["thing"] lh:=
 Nb.hide (Nb.Xa (qg a.lh zS λ_ _ _ _ _ _ _ b=>
  (Cc (ud (Bd (zev a) rfl (b.mono (by decide)) rfl (za (la 0) (za Ya (za (Wt (u:=.int 1000000 (a.Ml).choose) rfl (a.Ml).choose_spec ⟨_,rfl⟩) Ta))))))))
noncomputable abbrev TV:Stmt:=top 10
noncomputable def jJ:Ev->M Fl:=
 (pd (Yc 3 Rb [] (ua (ga 0) (ua (eC (.int 0)) (ua (eC (.int 59)) Ma)))))
noncomputable def ug:List D->M D:=hide λa=>Xa (run 1 jJ a)
theorem D2:wa ["thing"] ["thing"] (Ec TV):=ke rfl rfl rfl (by decide +kernel)
theorem WQ(a:Txt K mg ca):Nb ⟨K,ca,tx K⟩ P w mg base 3 "is_word" ["thing"] ug:=
 Nb.hide (Nb.Xa (qg a.ug D2 λ_ _ _ _ _ _ _ b=>
  (Cc (ud (Bd (zev a) rfl (b.mono (by decide)) rfl (za (la 0) (za Ya (za (Wt (u:=.int 59 (a.pk).choose) rfl (a.pk).choose_spec ⟨_,rfl⟩) Ta))))))))
noncomputable abbrev LU:Stmt:=top 13
noncomputable def zF:Ev->M Fl:=
 (pd (Yc 3 Rb [] (ua (ga 0) (ua (eC (.int 1)) (ua (eC (.int 1000000000000)) Ma)))))
noncomputable def Pd:List D->M D:=hide λa=>Xa (run 1 zF a)
theorem oV:wa ["thing"] ["thing"] (Ec LU):=ke rfl rfl rfl (by decide +kernel)
theorem SN(a:Txt K mg ca):Nb ⟨K,ca,tx K⟩ P w mg base 3 "is_amount" ["thing"] Pd:=
 Nb.hide (Nb.Xa (qg a.Pd oV λ_ _ _ _ _ _ _ b=>
  (Cc (ud (Bd (zev a) rfl (b.mono (by decide)) rfl (za (la 0) (za Ya (za (Wt (u:=.int 1000000000000 (a.Gi).choose) rfl (a.Gi).choose_spec ⟨_,rfl⟩) Ta))))))))
noncomputable abbrev WV:Stmt:=top 9
noncomputable def nH:Ev->M Fl:=
 (pd (Yc 3 Rb [] (ua (ga 0) (ua (eC (.int 0)) (ua (eC (.int 1)) Ma)))))
noncomputable def df:List D->M D:=hide λa=>Xa (run 1 nH a)
theorem pR:wa ["thing"] ["thing"] (Ec WV):=ke rfl rfl rfl (by decide +kernel)
theorem kD(a:Txt K mg ca):Nb ⟨K,ca,tx K⟩ P w mg base 3 "is_side" ["thing"] df:=
 Nb.hide (Nb.Xa (qg a.df pR λ_ _ _ _ _ _ _ b=>
  (Cc (ud (Bd (zev a) rfl (b.mono (by decide)) rfl (za (la 0) (za Ya (za Ya Ta))))))))
noncomputable abbrev FV:Stmt:=top 24
noncomputable def sJ:Ev->M Fl:=
 (pd (Bi (Fd (Ym .tuple) (ga 0)) (Bi (Ha oEq (Nh Dl (ua (ga 0) Ma)) (eC (.int 4))) (Bi (Yc 1 df [] (ua (Ha Ua (ga 0) (eC (.int 0))) Ma)) (Bi (Yc 1 Pd [] (ua (Ha Ua (ga 0) (eC (.int 1))) Ma)) (Bi (Yc 1 ug [] (ua (Ha Ua (ga 0) (eC (.int 2))) Ma)) (Yc 1 lh [] (ua (Ha Ua (ga 0) (eC (.int 3))) Ma))))))))
noncomputable def Bg:List D->M D:=hide λa=>Xa (run 1 sJ a)
theorem iX:wa ["thing"] ["thing"] (Ec FV):=ke rfl rfl rfl (by decide +kernel)
theorem S3(a:Txt K mg ca):Nb ⟨K,ca,tx K⟩ P w mg base 4 "is_tie" ["thing"] Bg:=
 Nb.hide (Nb.Xa (qg a.Bg iX λ_ _ _ _ _ _ _ b=>
  (Cc (ud (Mi (Xs .tuple (la 0) rfl a.Tc rfl a.oi Si) (Mi (Zk (Vg (Ed b)) de (Hn Vq (Uq rfl) rfl a.jh ec (za (la 0) Ta)) Ya (ve _)) (Mi (Bd (kD a) rfl (b.mono (by decide)) rfl (za (nc pc (lc rfl) (la 0) Ya (λ_ _=>rfl)) Ta)) (Mi (Bd (SN a) rfl (b.mono (by decide)) rfl (za (nc pc (lc rfl) (la 0) Ya (λ_ _=>rfl)) Ta)) (Mi (Bd (WQ a) rfl (b.mono (by decide)) rfl (za (nc pc (lc rfl) (la 0) Ya (λ_ _=>rfl)) Ta)) (Cm (Bd (aW a) rfl (b.mono (by decide)) rfl (za (nc pc (lc rfl) (la 0) Ya (λ_ _=>rfl)) Ta))))))))))))
noncomputable abbrev SU:Stmt:=top 26
noncomputable def RI:Ev->M Fl:=
 (kc (rf (mm (Al (eT (Fd (Ym .tuple) (ga 0)))) (eT (Ha HC (Nh Dl (ua (ga 0) Ma)) (eC (.int 6))))) sj xf) (kc (rf (Al (eT (Nh Iy (ua (si (Im (toN (Vi (ga 0))) [] (yf 0) Xm (Yc 1 Bg [] (ua (ga 0) Ma)))) Ma)))) sj xf) (pd (Ha oEq (Fd Ay (si (Im (toN (Vi (ga 0))) [] (yf 0) Xm (Ha Ua (ga 0) (eC (.int 2)))))) (Nh Dl (ua (ga 0) Ma))))))
noncomputable def Kf:List D->M D:=hide λa=>Xa (run 1 RI a)
theorem dX:wa ["thing"] ["thing"] (Ec SU):=ke rfl rfl rfl (by decide +kernel)
theorem QS(a:Txt K mg ca):Nb ⟨K,ca,tx K⟩ P w mg base 5 "are_ties" ["thing"] Kf:=
 Nb.hide (Nb.Xa (qg a.Kf dX λ_ _ _ _ _ _ _ b=>
  (rc (Bf (L2.PW.pt (Rm (lm (Cj (Xs .tuple (la 0) rfl a.Tc rfl a.oi Si))) (bp (zf EE nE (Hn Vq (Uq rfl) rfl a.jh ec (za (la 0) Ta)) (Wt (u:=.int 6 (a.ek).choose) rfl (a.ek).choose_spec ⟨_,rfl⟩) (ve _))))) Ej Df)
  (rc (Bf (lm (Cj (Hn (FY rfl) (qQ rfl) rfl a.Cz boot_all (za (Bn (Ks (x:="tie") (z0:="0") (M':=[]) (ix:=[]) rfl ⟨rfl,rfl,rfl,rfl,rfl,rfl⟩ (qt (Rn rfl (la 0))) (λ_ _ _ _ _=>Ji (i:=0) (by show List.Nodup (("tie"::"0"::[]):List ma);decide +kernel) rfl (Or.inl rfl)) (λ_ _ _ _ _=>nu) (λ_ _ _ _ _=>(Bd (S3 a) rfl (b.mono (by decide)) rfl (za (la 0) Ta))))) Ta)))) Ej Df)
  (Cc (ud (Zk (Vg (Ed b)) de (XS rfl rfl rfl a.jh rfl a.Oz (Bn (Ks (x:="tie") (z0:="0") (M':=[]) (ix:=[]) rfl ⟨rfl,rfl,rfl,rfl,rfl,rfl⟩ (qt (Rn rfl (la 0))) (λ_ _ _ _ _=>Ji (i:=0) (by show List.Nodup (("tie"::"0"::[]):List ma);decide +kernel) rfl (Or.inl rfl)) (λ_ _ _ _ _=>nu) (λ_ _ _ _ _=>(nc pc (lc rfl) (la 0) Ya (λ_ _=>rfl)))))) (Hn Vq (Uq rfl) rfl a.jh ec (za (la 0) Ta)) (ve _))))))))
noncomputable abbrev i2:Stmt:=top 25
noncomputable def KH:Ev->M Fl:=
 (pd (Bi (Fd (Ym .tuple) (ga 0)) (Bi (Ha oEq (Nh Dl (ua (ga 0) Ma)) (eC (.int 2))) (Bi (Yc 3 Rb [] (ua (Ha Ua (ga 0) (eC (.int 0))) (ua (eC (.int 0)) (ua (eC (.int 2000000000000)) Ma)))) (Yc 3 Rb [] (ua (Ha Ua (ga 0) (eC (.int 1))) (ua (eC (.int 0)) (ua (eC (.int 2000000000000)) Ma))))))))
noncomputable def Qe:List D->M D:=hide λa=>Xa (run 1 KH a)
theorem VY:wa ["thing"] ["thing"] (Ec i2):=ke rfl rfl rfl (by decide +kernel)
theorem hV(a:Txt K mg ca):Nb ⟨K,ca,tx K⟩ P w mg base 3 "are_shares" ["thing"] Qe:=
 Nb.hide (Nb.Xa (qg a.Qe VY λ_ _ _ _ _ _ _ b=>
  (Cc (ud (Mi (Xs .tuple (la 0) rfl a.Tc rfl a.oi Si) (Mi (Zk (Vg (Ed b)) de (Hn Vq (Uq rfl) rfl a.jh ec (za (la 0) Ta)) Ya (ve _)) (Mi (Bd (zev a) rfl (b.mono (by decide)) rfl (za (nc pc (lc rfl) (la 0) Ya (λ_ _=>rfl)) (za Ya (za (Wt (u:=.int 2000000000000 (a.ng).choose) rfl (a.ng).choose_spec ⟨_,rfl⟩) Ta)))) (Cm (Bd (zev a) rfl (b.mono (by decide)) rfl (za (nc pc (lc rfl) (la 0) Ya (λ_ _=>rfl)) (za Ya (za (Wt (u:=.int 2000000000000 (a.ng).choose) rfl (a.ng).choose_spec ⟨_,rfl⟩) Ta))))))))))))
noncomputable abbrev N2:Stmt:=top 12
noncomputable def eL:Ev->M Fl:=
 (pd (Yc 3 Rb [] (ua (ga 0) (ua (eC (.int 0)) (ua (eC (.int 1000000)) Ma)))))
noncomputable def Ie:List D->M D:=hide λa=>Xa (run 1 eL a)
theorem xZ:wa ["thing"] ["thing"] (Ec N2):=ke rfl rfl rfl (by decide +kernel)
theorem tN(a:Txt K mg ca):Nb ⟨K,ca,tx K⟩ P w mg base 3 "is_number" ["thing"] Ie:=
 Nb.hide (Nb.Xa (qg a.Ie xZ λ_ _ _ _ _ _ _ b=>
  (Cc (ud (Bd (zev a) rfl (b.mono (by decide)) rfl (za (la 0) (za Ya (za (Wt (u:=.int 1000000 (a.Fi).choose) rfl (a.Fi).choose_spec ⟨_,rfl⟩) Ta))))))))
noncomputable abbrev aP:Stmt:=top 27
noncomputable def nK:Ev->M Fl:=
 (pd (Bi (Fd (Ym .tuple) (ga 0)) (Bi (Ha oEq (Nh Dl (ua (ga 0) Ma)) (eC (.int 3))) (Bi (Yc 1 Ie [] (ua (Ha Ua (ga 0) (eC (.int 0))) Ma)) (Bi (Yc 1 Qe [] (ua (Ha Ua (ga 0) (eC (.int 1))) Ma)) (Yc 1 Kf [] (ua (Ha Ua (ga 0) (eC (.int 2))) Ma)))))))
noncomputable def qe:List D->M D:=hide λa=>Xa (run 1 nK a)
theorem ZU:wa ["thing"] ["thing"] (Ec aP):=ke rfl rfl rfl (by decide +kernel)
theorem XD(a:Txt K mg ca):Nb ⟨K,ca,tx K⟩ P w mg base 6 "is_stand" ["thing"] qe:=
 Nb.hide (Nb.Xa (qg a.qe ZU λ_ _ _ _ _ _ _ b=>
  (Cc (ud (Mi (Xs .tuple (la 0) rfl a.Tc rfl a.oi Si) (Mi (Zk (Vg (Ed b)) de (Hn Vq (Uq rfl) rfl a.jh ec (za (la 0) Ta)) Ya (ve _)) (Mi (Bd (tN a) rfl (b.mono (by decide)) rfl (za (nc pc (lc rfl) (la 0) Ya (λ_ _=>rfl)) Ta)) (Mi (Bd (hV a) rfl (b.mono (by decide)) rfl (za (nc pc (lc rfl) (la 0) Ya (λ_ _=>rfl)) Ta)) (Cm (Bd (QS a) rfl (b.mono (by decide)) rfl (za (nc pc (lc rfl) (la 0) Ya (λ_ _=>rfl)) Ta)))))))))))
noncomputable abbrev BD(x q:ma)(s:Stmt)(ps:List ma):Prop:=∀ (kV b c:Value) (an:Option Addr) (a ct:Value) (us:List Value),us.length=ps.length->bindArgs (W.fnOf x q (Em s) (Ni s) (Ec s) .none kV b c an a ct) ⟨us,[]⟩=pure (ps.zip us)
noncomputable abbrev fw:Stmt:=top 28
noncomputable def DF:Ev->M Fl:=
 (kc (jg 3 (vf (ua (ga 0) (ua (ga 1) (ua (Ku (eT (Ha Os (ga 2) (eC .Jb))) (vf Ma) (ga 2)) Ma))))) (kc (rf (Al (eT (Yc 1 qe [] (ua (ga 3) Ma)))) sj xf) (pd (ga 3))))
noncomputable def og:List D->M D:=hide λa=>Xa (run 4 DF a)
theorem gM:wa ["number", "shares", "ties", "made"] ["number", "shares", "ties"] (Ec fw):=ke rfl rfl rfl (by decide +kernel)
theorem M3(t:Addr)(kV b f:Value)(d:Option Addr)(a ct:Value)(s:aa)(o:gc)(n:Nat)(us:List Value)(h1:s.heap.get? t=some o)(e:o.data=.seq ([pb]:List Value).toArray n) :
  ((us++[]).length=(["number", "shares", "ties"]:List ma).length->uf s (W.fnOf "stand" "stand" (Em fw) (Ni fw) (Ec fw) (.ref t) kV b f d a ct) ⟨us,[]⟩ ((["number", "shares", "ties"]:List ma).zip (us++[])))/\
  ((us++[pb]).length=(["number", "shares", "ties"]:List ma).length->uf s (W.fnOf "stand" "stand" (Em fw) (Ni fw) (Ec fw) (.ref t) kV b f d a ct) ⟨us,[]⟩ ((["number", "shares", "ties"]:List ma).zip (us++[pb]))):=
 ⟨λc=>match us,(show us.length=3 by simpa using c)with|[_,_,_],_=>lg rfl h1 e rfl rfl,λc=>match us,(show us.length=2 by simpa using c)with|[_,_],_=>lg rfl h1 e rfl rfl⟩
theorem vJ(a:Txt K mg ca):Zq ⟨K,ca,tx K⟩ P w mg base 7 "stand" ["number", "shares", "ties"] [pb] og:=
 Zq.hide (Zq.Xa (wT a.og gM λ_ _ _ _ _ _ _ b=>
  (rc (Rg (i:=3) gM.nd rfl (Or.inl rfl) (Hf (za (la 0) (za (la 1) (za (iz (zf qB oC (la 2) Js (ve _)) (Hf Ta) (la 2)) Ta)))))
  (rc (Bf (lm (Cj (Bd (XD a) rfl (b.mono (by decide)) rfl (za (la 3) Ta)))) Ej Df)
  (Cc (ud (la 3)))))))
noncomputable abbrev iZ:Stmt:=top 29
noncomputable def kL:Ev->M Fl:=
 (pd (Yc 3 og [.Jb] (ua (eC (.int 0)) (ua (vf (ua (ga 0) (ua (ga 1) Ma))) Ma))))
noncomputable def ni:List D->M D:=hide λa=>Xa (run 2 kL a)
theorem AU:wa ["left", "right"] ["left", "right"] (Ec iZ):=ke rfl rfl rfl (by decide +kernel)
theorem eU(a:Txt K mg ca):Nb ⟨K,ca,tx K⟩ P w mg base 8 "first" ["left", "right"] ni:=
 Nb.hide (Nb.Xa (qg a.ni AU λ_ _ _ _ _ _ _ b=>
  (Cc (ud (HS (vJ a) rfl (b.mono (by decide)) rfl cK AI (za Ya (za (Hf (za (la 0) (za (la 1) Ta))) Ta)))))))
theorem Pu(a:Txt K mg ca):cm ⟨K,ca,tx K⟩ [4,5,6,7] "side":=(Ih (T:=⟨K,ca,tx K⟩) (c:=4) a.bf a.Sk (Ih (T:=⟨K,ca,tx K⟩) (c:=5) a.Cf a.mn (Ih (T:=⟨K,ca,tx K⟩) (c:=6) a.pe a.Uk (Ih (T:=⟨K,ca,tx K⟩) (c:=7) a.Ud a.Pk mo))))
theorem bu(a:Txt K mg ca):cm ⟨K,ca,tx K⟩ [4,5,6,7] "mine":=(Ih (T:=⟨K,ca,tx K⟩) (c:=4) a.bf a.xk (Ih (T:=⟨K,ca,tx K⟩) (c:=5) a.Cf a.Kn (Ih (T:=⟨K,ca,tx K⟩) (c:=6) a.pe a.Gk (Ih (T:=⟨K,ca,tx K⟩) (c:=7) a.Ud a.Tk mo))))
theorem sH(a:Txt K mg ca):cm ⟨K,ca,tx K⟩ [4,5,6,7] "grant":=(Ih (T:=⟨K,ca,tx K⟩) (c:=4) a.bf a.Mj (Ih (T:=⟨K,ca,tx K⟩) (c:=5) a.Cf a.Hm (Ih (T:=⟨K,ca,tx K⟩) (c:=6) a.pe a.Tj (Ih (T:=⟨K,ca,tx K⟩) (c:=7) a.Ud a.Sj mo))))
theorem OA(a:Txt K mg ca):cm ⟨K,ca,tx K⟩ [4,5,6,7] "may":=(Ih (T:=⟨K,ca,tx K⟩) (c:=4) a.bf a.Tl (Ih (T:=⟨K,ca,tx K⟩) (c:=5) a.Cf a.yo (Ih (T:=⟨K,ca,tx K⟩) (c:=6) a.pe a.Pl (Ih (T:=⟨K,ca,tx K⟩) (c:=7) a.Ud a.fm mo))))
theorem sF(a:Txt K mg ca):cm ⟨K,ca,tx K⟩ [4,5,6,7] "strikes":=(Ih (T:=⟨K,ca,tx K⟩) (c:=4) a.bf a.Ri (Ih (T:=⟨K,ca,tx K⟩) (c:=5) a.Cf a.uk (Ih (T:=⟨K,ca,tx K⟩) (c:=6) a.pe a.Ki (Ih (T:=⟨K,ca,tx K⟩) (c:=7) a.Ud a.Pi mo))))
noncomputable abbrev eQ:Stmt:=Yf (top 52) 0
noncomputable def FL:Ev->M Fl:=
 (kc (yl [4,5,6,7] "pot" (ga 1) (ga 0)) (kc (yl [4,5,6,7] "side" (ga 2) (ga 0)) (kc (yl [4,5,6,7] "mine" (ga 3) (ga 0)) (kc (yl [4,5,6,7] "grant" (ga 4) (ga 0)) (kc (yl [4,5,6,7] "may" (si (Nh vp (ua (ga 5) Ma))) (ga 0)) (yl [4,5,6,7] "strikes" (si (Nh vp (ua (ga 6) Ma))) (ga 0)))))))
noncomputable def al:List D->M D:=hide (run 7 FL)
theorem JW:wa ["self", "pot", "side", "mine", "grant", "may", "strikes"] ["self", "pot", "side", "mine", "grant", "may", "strikes"] (Ec eQ):=ke rfl rfl rfl (by decide +kernel)
theorem QE(a:Txt K mg ca):ue ⟨K,ca,tx K⟩ P w mg base 1 (ca 10) ["self", "pot", "side", "mine", "grant", "may", "strikes"] al:=
 ue.hide (Rk a.al JW λ_ _ _ _ _ _ b=>
  (rc (Zm rfl (Qp a) (la 0) (la 1))
  (rc (Zm rfl (Pu a) (la 0) (la 2))
  (rc (Zm rfl (bu a) (la 0) (la 3))
  (rc (Zm rfl (sH a) (la 0) (la 4))
  (rc (Zm rfl (OA a) (la 0) (Bn (fx CA (uB rfl) rfl a.yn ir (za (la 5) Ta))))
  (Cc (Zm rfl (sF a) (la 0) (Bn (fx CA (uB rfl) rfl a.yn ir (za (la 6) Ta)))))))))))
noncomputable abbrev iR:Stmt:=top 56
noncomputable def KL:Ev->M Fl:=
 (kc (jg 4 (Yc 2 ni [] (ua (ga 2) (ua (ga 3) Ma)))) (pd (si (Er 5 7 al (ua (ga 0) (ua (ga 1) (ua (ga 4) (ua (eC .Jb) (ua (Zi (ua (ga 4) Ma)) (ua (Zi Ma) Ma))))))))))
noncomputable def Gd:List D->M D:=hide λa=>Xa (run 5 KL a)
theorem zJ:wa ["pot", "side", "left", "right", "mine"] ["pot", "side", "left", "right"] (Ec iR):=ke rfl rfl rfl (by decide +kernel)
theorem j2(a:Txt K mg ca):Nb ⟨K,ca,tx K⟩ P w mg base 9 "first_account" ["pot", "side", "left", "right"] Gd:=
 Nb.hide (Nb.Xa (qg a.Gd zJ λ_ _ _ _ _ _ _ b=>
  (rc (Rg (i:=4) zJ.nd rfl (Or.inl rfl) (Bd (eU a) rfl (b.mono (by decide)) rfl (za (la 2) (za (la 3) Ta))))
  (Cc (ud (Bn (XB (c:=5) (ps:=["self", "pot", "side", "mine", "grant", "may", "strikes"]) ⟨_,a.Wr,a.Yp,QE a⟩ rfl (b.mono (by decide)) rfl (za (la 0) (za (la 1) (za (la 4) (za Js (za (ml (za (la 4) Ta)) (za (ml Ta) Ta)))))))))))))
noncomputable abbrev zv:Stmt:=Yf (top 89) 0
noncomputable abbrev zy:Ev->M Fl:=(rf (eT (Ha oEq (Ha Ua (ga 6) (ga 7)) (ga 1))) (xr (Pg [(9,Uc)] 4 "hold" (ga 0) (ua (Yc 4 Gd [] (ua (ga 5) (ua (ga 7) (ua (Ha Ua (ga 6) (eC (.int 2))) (ua (Ha Ua (ga 6) (eC (.int 3))) Ma))))) (ua (eC (.gt ["held"])) (ua (eC (.Lb [] [])) Ma))))) xf)
noncomputable abbrev jC:Ev->M Fl:=(Ur (Vi (vf (ua (eC (.int 0)) (ua (eC (.int 1)) Ma)))) (yf 7) zy)
noncomputable def oM:Ev->M Fl:=
 (kc (xr (Yc 3 Re [] (ua (ga 1) (ua (ga 2) (ua (ga 3) Ma))))) (kc (yl [9] "hand" (ga 1) (ga 0)) (kc (yl [8,9] "every" (ga 2) (ga 0)) (kc (yl [8,9] "last_look" (eC (.int 0)) (ga 0)) (kc (yl [9] "gave" (eC (.int 0)) (ga 0)) (kc (yl [8,9] "known" Pq (ga 0)) (kc (yl [9] "accounts" Pq (ga 0)) (kc (yl [9] "claims" Pq (ga 0)) (kc (yl [9] "seen" Pq (ga 0)) (kc (yl [9] "asked" Pq (ga 0)) (kc (yl [9] "finishing" Pq (ga 0)) (kc (xr (Pg [(9,Jc)] 2 "learn" (ga 0) (ua (Ku (eT (Ha Os (ga 4) (eC .Jb))) (Zi Ma) (ga 4)) Ma))) (nq (oF (ga 3)) (Xp 2 (Fk (yf 5) (Fk (yf 6) Cq))) jC)))))))))))))
noncomputable def Eo:List D->M D:=hide (run 8 oM)
theorem EB:wa ["self", "hand", "every", "pots", "words", "pot", "made", "side"] ["self", "hand", "every", "pots", "words"] (Ec zv):=ke rfl rfl rfl (by decide +kernel)
theorem SS(t:Addr)(kV b f:Value)(d:Option Addr)(a ct:Value)(s:aa)(o:gc)(n:Nat)(us:List Value)(h1:s.heap.get? t=some o)(e:o.data=.seq ([pb]:List Value).toArray n) :
  ((us++[]).length=(["self", "hand", "every", "pots", "words"]:List ma).length->uf s (W.fnOf "__init__" "Keeper.__init__" (Em zv) (Ni zv) (Ec zv) (.ref t) kV b f d a ct) ⟨us,[]⟩ ((["self", "hand", "every", "pots", "words"]:List ma).zip (us++[])))/\
  ((us++[pb]).length=(["self", "hand", "every", "pots", "words"]:List ma).length->uf s (W.fnOf "__init__" "Keeper.__init__" (Em zv) (Ni zv) (Ec zv) (.ref t) kV b f d a ct) ⟨us,[]⟩ ((["self", "hand", "every", "pots", "words"]:List ma).zip (us++[pb]))):=
 ⟨λc=>match us,(show us.length=5 by simpa using c)with|[_,_,_,_,_],_=>lg rfl h1 e rfl rfl,λc=>match us,(show us.length=4 by simpa using c)with|[_,_,_,_],_=>lg rfl h1 e rfl rfl⟩
theorem HV(a:Txt K mg ca):kt ⟨K,ca,tx K⟩ P w mg base 10 (ca 20) ["self", "hand", "every", "pots", "words"] [pb] Eo:=
 kt.hide (kZ a.Eo EB λ_ _ _ _ _ _ b=>
  (rc (iu (Bd (xY a) rfl (b.mono (by decide)) rfl (za (la 1) (za (la 2) (za (la 3) Ta)))))
  (rc (Zm rfl (DW a) (la 0) (la 1))
  (rc (Zm rfl (My a) (la 0) (la 2))
  (rc (Zm rfl (xz a) (la 0) Ya)
  (rc (Zm rfl (JC a) (la 0) Ya)
  (rc (Zm rfl (Rw a) (la 0) Zt)
  (rc (Zm rfl (bq a) (la 0) Zt)
  (rc (Zm rfl (rA a) (la 0) Zt)
  (rc (Zm rfl (ZE a) (la 0) Zt)
  (rc (Zm rfl (Nw a) (la 0) Zt)
  (rc (Zm rfl (yY a) (la 0) Zt)
  (rc (iu (Oj (k:=1) (ps:=["self", "words"]) rfl (la 0) (YU a) (b.mono (by decide)) (za (iz (zf qB oC (la 4) Js (ve _)) (ml Ta) (la 4)) Ta)))
  (Cc (Kz Zp rfl (oT rfl a.Fo (la 3)) (Lx rfl (Xq (Ji (i:=5) EB.nd rfl (Or.inl rfl)) (Xq (Ji (i:=6) EB.nd rfl (Or.inl rfl)) Yw))) (Cc (yes Zp rfl (Rn rfl (Hf (za Ya (za Ya Ta)))) (Ji (i:=7) EB.nd rfl (Or.inl rfl)) (Cc (Bf (zf (Vg (Ed b)) de (nc pc (lc rfl) (la 6) (la 7) (λ_ _=>rfl)) (la 1) (ve _)) (Cc (iu (Oj (k:=1) (ps:=["self", "account", "claim", "seen"]) rfl (la 0) (lS a) (b.mono (by decide)) (za (Bd (j2 a) rfl (b.mono (by decide)) rfl (za (la 5) (za (la 7) (za (nc pc (lc rfl) (la 6) Ya (λ_ _=>rfl)) (za (nc pc (lc rfl) (la 6) Ya (λ_ _=>rfl)) Ta))))) (za (bK (ss:=["held"]) rfl a.Br) (za eY Ta)))))) Df)))))))))))))))))))
noncomputable abbrev uX:Stmt:=top 93
noncomputable def JM:Ev->M Fl:=
 (pd (vf (ua (Ha gj (Ha Ua (ga 0) (eC (.int 0))) (ga 1)) (ua (Ha Xu (Ha Ua (ga 0) (eC (.int 1))) (ga 1)) Ma))))
noncomputable def Hc:List D->M D:=hide λa=>Xa (run 2 JM a)
theorem vQ:wa ["_law_coins", "_law_amount"] ["_law_coins", "_law_amount"] (Ec uX):=ke rfl rfl rfl (by decide +kernel)
theorem Xw(a:Txt K mg ca):Nb ⟨K,ca,tx K⟩ P w mg base 1 "_law_moved" ["_law_coins", "_law_amount"] Hc:=
 Nb.hide (Nb.Xa (qg a.Hc vQ λ_ _ _ _ _ _ _ b=>
  (Cc (ud (Hf (za (zh (An rfl) de (nc pc (lc rfl) (la 0) Ya (λ_ _=>rfl)) (la 1)) (za (zh jw cw (nc pc (lc rfl) (la 0) Ya (λ_ _=>rfl)) (la 1)) Ta)))))))
noncomputable abbrev fP:Stmt:=Yf (top 89) 12
noncomputable def ZJ:Ev->M Fl:=
 (pd (Bi (Ha kx (ga 1) (Fd (Zc [9] "accounts") (ga 0))) (Ha Yz (Ha xl (Fd (Zc [9] "claims") (ga 0)) (ga 1)) (eC (.gt ["held"])))))
noncomputable def wc:List D->M D:=hide λa=>Xa (run 2 ZJ a)
theorem D1:wa ["self", "pot"] ["self", "pot"] (Ec fP):=ke rfl rfl rfl (by decide +kernel)
theorem oR(a:Txt K mg ca):ue ⟨K,ca,tx K⟩ P w mg base 1 (ca 32) ["self", "pot"] wc:=
 ue.hide (ue.Xa (Rk a.wc D1 λ_ _ _ _ _ _ b=>
  (Cc (ud (Mi (Zk (lK (Ed b)) qK (la 1) (Ue rfl (bq a) (la 0)) rfl) (Cm (Zk (cW rfl (Ed b)) de (zq (Ed b) (Ue rfl (rA a) (la 0)) (la 1) (λ_ _=>rfl)) (bK (ss:=["held"]) rfl a.Br) (ve _))))))))
theorem FH(a:Txt K mg ca):nl ⟨K,ca,tx K⟩ P w mg base 1 "holds" ["self", "pot"] [(9,wc)]:=(Dj (T:=⟨K,ca,tx K⟩) (c:=9) a.zb a.vk (oR a) (by decide) vm)
noncomputable abbrev nT:Stmt:=Yf (top 53) 0
noncomputable def GA:Ev->M Fl:=
 (pd (eC (.str "calm")))
noncomputable def Bb:List D->M D:=hide λa=>Xa (run 1 GA a)
theorem CQ:wa ["self"] ["self"] (Ec nT):=ke rfl rfl rfl (by decide +kernel)
theorem yQ(a:Txt K mg ca):ue ⟨K,ca,tx K⟩ P w mg base 1 (ca 13) ["self"] Bb:=
 ue.hide (ue.Xa (Rk a.Bb CQ λ_ _ _ _ _ _ b=>
  (Cc (ud Fg))))
noncomputable abbrev rW:Stmt:=Yf (top 54) 0
noncomputable def JU:Ev->M Fl:=
 (pd (eC (.str "offered")))
noncomputable def yc:List D->M D:=hide λa=>Xa (run 1 JU a)
theorem ZR:wa ["self"] ["self"] (Ec rW):=ke rfl rfl rfl (by decide +kernel)
theorem zT(a:Txt K mg ca):ue ⟨K,ca,tx K⟩ P w mg base 1 (ca 15) ["self"] yc:=
 ue.hide (ue.Xa (Rk a.yc ZR λ_ _ _ _ _ _ b=>
  (Cc (ud Fg))))
noncomputable abbrev tX:Stmt:=Yf (top 55) 0
noncomputable def NZ:Ev->M Fl:=
 (pd (eC (.str "waiting")))
noncomputable def Bc:List D->M D:=hide λa=>Xa (run 1 NZ a)
theorem L3:wa ["self"] ["self"] (Ec tX):=ke rfl rfl rfl (by decide +kernel)
theorem ZS(a:Txt K mg ca):ue ⟨K,ca,tx K⟩ P w mg base 1 (ca 17) ["self"] Bc:=
 ue.hide (ue.Xa (Rk a.Bc L3 λ_ _ _ _ _ _ b=>
  (Cc (ud Fg))))
theorem UF(a:Txt K mg ca):nl ⟨K,ca,tx K⟩ P w mg base 1 "word" ["self"] [(5,Bb),(6,yc),(7,Bc)]:=(Dj (T:=⟨K,ca,tx K⟩) (c:=5) a.Cf a.rn (yQ a) (by decide) (Dj (T:=⟨K,ca,tx K⟩) (c:=6) a.pe a.Ek (zT a) (by decide) (Dj (T:=⟨K,ca,tx K⟩) (c:=7) a.Ud a.Kk (ZS a) (by decide) vm)))
noncomputable abbrev eX:Stmt:=top 32
noncomputable def dF:Ev->M Fl:=
 (kc (rf (eT (Ha oEq (ga 1) (eC (.int 0)))) (pd (vf (ua (Ha gj (Ha Ua (ga 0) (eC (.int 0))) (ga 2)) (ua (Ha Ua (ga 0) (eC (.int 1))) Ma)))) xf) (pd (vf (ua (Ha Ua (ga 0) (eC (.int 0))) (ua (Ha gj (Ha Ua (ga 0) (eC (.int 1))) (ga 2)) Ma)))))
noncomputable def Nd:List D->M D:=hide λa=>Xa (run 3 dF a)
theorem RX:wa ["shares", "side", "amount"] ["shares", "side", "amount"] (Ec eX):=ke rfl rfl rfl (by decide +kernel)
theorem PK(a:Txt K mg ca):Nb ⟨K,ca,tx K⟩ P w mg base 1 "with_more" ["shares", "side", "amount"] Nd:=
 Nb.hide (Nb.Xa (qg a.Nd RX λ_ _ _ _ _ _ _ b=>
  (rc (Bf (zf (Vg (Ed b)) de (la 1) Ya (ve _)) (Cc (ud (Hf (za (zh (An rfl) de (nc pc (lc rfl) (la 0) Ya (λ_ _=>rfl)) (la 2)) (za (nc pc (lc rfl) (la 0) Ya (λ_ _=>rfl)) Ta))))) Df)
  (Cc (ud (Hf (za (nc pc (lc rfl) (la 0) Ya (λ_ _=>rfl)) (za (zh (An rfl) de (nc pc (lc rfl) (la 0) Ya (λ_ _=>rfl)) (la 2)) Ta))))))))
noncomputable abbrev KQ:Stmt:=top 33
noncomputable def oN:Ev->M Fl:=
 (pd (Yc 3 og [] (ua (Ha gj (Ha Ua (ga 0) (eC (.int 0))) (eC (.int 1))) (ua (ga 1) (ua (ga 2) Ma)))))
noncomputable def kf:List D->M D:=hide λa=>Xa (run 3 oN a)
theorem RS:wa ["one", "shares", "ties"] ["one", "shares", "ties"] (Ec KQ):=ke rfl rfl rfl (by decide +kernel)
theorem nQ(a:Txt K mg ca):Nb ⟨K,ca,tx K⟩ P w mg base 8 "following" ["one", "shares", "ties"] kf:=
 Nb.hide (Nb.Xa (qg a.kf RS λ_ _ _ _ _ _ _ b=>
  (Cc (ud (mS (vJ a) rfl (b.mono (by decide)) rfl (za (zh (An rfl) de (nc pc (lc rfl) (la 0) Ya (λ_ _=>rfl)) Ya) (za (la 1) (za (la 2) Ta))))))))
noncomputable abbrev FU:Stmt:=top 15
noncomputable def jK:Ev->M Fl:=
 (pd (Ha Xu (eC (.int 1)) (ga 0)))
noncomputable def me:List D->M D:=hide λa=>Xa (run 1 jK a)
theorem CS:wa ["side"] ["side"] (Ec FU):=ke rfl rfl rfl (by decide +kernel)
theorem yS(a:Txt K mg ca):Nb ⟨K,ca,tx K⟩ P w mg base 1 "other_side" ["side"] me:=
 Nb.hide (Nb.Xa (qg a.me CS λ_ _ _ _ _ _ _ b=>
  (Cc (ud (zh jw cw Ya (la 0))))))
noncomputable abbrev NR:Stmt:=top 34
noncomputable def NL:Ev->M Fl:=
 (kc (rf (mm (Al (eT (Yc 1 df [] (ua (ga 1) Ma)))) (Al (eT (Yc 1 Pd [] (ua (ga 2) Ma))))) (dL 1 (ua (eC (.str "no side gives such an amount")) Ma)) xf) (kc (jg 3 (Yc 3 Nd [] (ua (Ha Ua (ga 0) (eC (.int 1))) (ua (ga 1) (ua (Fd hD (ga 2)) Ma))))) (pd (Yc 3 kf [] (ua (ga 0) (ua (Yc 3 Nd [] (ua (ga 3) (ua (Yc 1 me [] (ua (ga 1) Ma)) (ua (ga 2) Ma)))) (ua (Ha Ua (ga 0) (eC (.int 2))) Ma)))))))
noncomputable def Rj:List D->M D:=hide λa=>Xa (run 4 NL a)
theorem sL:wa ["one", "side", "amount", "less"] ["one", "side", "amount"] (Ec NR):=ke rfl rfl rfl (by decide +kernel)
theorem A3(a:Txt K mg ca):Nb ⟨K,ca,tx K⟩ P w mg base 9 "gift" ["one", "side", "amount"] Rj:=
 Nb.hide (Nb.Xa (qg a.Rj sL λ_ _ _ _ _ _ _ b=>
  (rc (Bf (L2.PW.pt (Rm (lm (Cj (Bd (kD a) rfl (b.mono (by decide)) rfl (za (la 1) Ta)))) (bp (lm (Cj (Bd (SN a) rfl (b.mono (by decide)) rfl (za (la 2) Ta))))))) (Cc (QX 1 PySem.F.excBase_ValueError rfl a.uq a.Um rfl rfl (za Fg Ta))) Df)
  (rc (Rg (i:=3) sL.nd rfl (Or.inl rfl) (Bd (PK a) rfl (b.mono (by decide)) rfl (za (nc pc (lc rfl) (la 0) Ya (λ_ _=>rfl)) (za (la 1) (za (ZX wS XV (la 2)) Ta)))))
  (Cc (ud (Bd (nQ a) rfl (b.mono (by decide)) rfl (za (la 0) (za (Bd (PK a) rfl (b.mono (by decide)) rfl (za (la 3) (za (Bd (yS a) rfl (b.mono (by decide)) rfl (za (la 1) Ta)) (za (la 2) Ta)))) (za (nc pc (lc rfl) (la 0) Ya (λ_ _=>rfl)) Ta))))))))))
noncomputable abbrev lQ:Stmt:=top 86
noncomputable def wI:Ev->M Fl:=
 (kc (jg 3 (Fd (Zc [4,5,6,7] "mine") (ga 0))) (kc (jg 4 (Fd (Zc [4,5,6,7] "side") (ga 0))) (kc (rf (eT (Ha oEq (Ha Ua (ga 1) (eC (.int 0))) (eC (.str "give")))) (pd (Yc 3 Rj [] (ua (ga 3) (ua (ga 4) (ua (Ha Ua (ga 1) (eC (.int 2))) Ma))))) xf) sj)))
noncomputable def Zd:List D->M D:=hide λa=>Xa (run 5 wI a)
theorem dD:wa ["account", "wish", "known", "mine", "side"] ["account", "wish", "known"] (Ec lQ):=ke rfl rfl rfl (by decide +kernel)
theorem UO(a:Txt K mg ca):Nb ⟨K,ca,tx K⟩ P w mg base 10 "stand_wished" ["account", "wish", "known"] Zd:=
 Nb.hide (Nb.Xa (qg a.Zd dD λ_ _ _ _ _ _ _ b=>
  (rc (Rg (i:=3) dD.nd rfl (Or.inl rfl) (Ue rfl (bu a) (la 0)))
  (rc (Rg (i:=4) dD.nd rfl (Or.inl rfl) (Ue rfl (Pu a) (la 0)))
  (rc (Bf (zf (Vg (Ed b)) de (nc pc (lc rfl) (la 1) Ya (λ_ _=>rfl)) Fg (ve _)) (Cc (ud (Bd (A3 a) rfl (b.mono (by decide)) rfl (za (la 3) (za (la 4) (za (nc pc (lc rfl) (la 1) Ya (λ_ _=>rfl)) Ta)))))) Df)
  Ej)))))
noncomputable abbrev KY:Stmt:=top 87
noncomputable def YI:Ev->M Fl:=
 (pd (Ku (mm (eT (Ha oEq (Ha Ua (ga 0) (eC (.int 0))) (eC (.str "give")))) (eT (Ha oEq (Ha Ua (ga 0) (eC (.int 0))) (eC (.str "pay"))))) (Ha Ua (ga 0) (eC (.int 2))) (eC (.int 0))))
noncomputable def be:List D->M D:=hide λa=>Xa (run 1 YI a)
theorem W0:wa ["wish"] ["wish"] (Ec KY):=ke rfl rfl rfl (by decide +kernel)
theorem aT(b:Txt K mg ca):Nb ⟨K,ca,tx K⟩ P w mg base 1 "allowance_of" ["wish"] be:=
 Nb.hide (Nb.Xa (qg b.be W0 λ_ _ _ _ _ _ _ a=>
  (Cc (ud (iz (L2.PW.pt (Rm (zf (Vg (Ed a)) de (nc pc (lc rfl) (la 0) Ya (λ_ _=>rfl)) Fg (ve _)) (bp (zf (Vg (Ed a)) de (nc pc (lc rfl) (la 0) Ya (λ_ _=>rfl)) Fg (ve _))))) (nc pc (lc rfl) (la 0) Ya (λ_ _=>rfl)) Ya)))))
noncomputable abbrev QT:Stmt:=Yf (top 52) 1
noncomputable def QM:Ev->M Fl:=
 (pd (vf (ua (eC (.str "agree")) (ua (Fd (Zc [4,5,6,7] "pot") (ga 0)) (ua (ga 1) (ua (ga 2) Ma))))))
noncomputable def Aa:List D->M D:=hide λa=>Xa (run 3 QM a)
theorem VR:wa ["self", "side", "one"] ["self", "side", "one"] (Ec QT):=ke rfl rfl rfl (by decide +kernel)
theorem Xz(a:Txt K mg ca):ue ⟨K,ca,tx K⟩ P w mg base 1 (ca 11) ["self", "side", "one"] Aa:=
 ue.hide (ue.Xa (Rk a.Aa VR λ_ _ _ _ _ _ b=>
  (Cc (ud (Hf (za Fg (za (Ue rfl (Qp a) (la 0)) (za (la 1) (za (la 2) Ta)))))))))
theorem mU(a:Txt K mg ca):nl ⟨K,ca,tx K⟩ P w mg base 1 "agree_of" ["self", "side", "one"] [(4,Aa),(5,Aa),(6,Aa),(7,Aa)]:=(Dj (T:=⟨K,ca,tx K⟩) (c:=4) a.bf a.ri (Xz a) (by decide) (Dj (T:=⟨K,ca,tx K⟩) (c:=5) a.Cf a.oh (Xz a) (by decide) (Dj (T:=⟨K,ca,tx K⟩) (c:=6) a.pe a.pi (Xz a) (by decide) (Dj (T:=⟨K,ca,tx K⟩) (c:=7) a.Ud a.zi (Xz a) (by decide) vm))))
noncomputable abbrev GW:Stmt:=top 14
noncomputable def gN:Ev->M Fl:=
 (pd (Yc 3 Rb [] (ua (ga 0) (ua (eC (.int 0)) (ua (eC (.int 2)) Ma)))))
noncomputable def Gg:List D->M D:=hide λa=>Xa (run 1 gN a)
theorem I0:wa ["thing"] ["thing"] (Ec GW):=ke rfl rfl rfl (by decide +kernel)
theorem iN(a:Txt K mg ca):Nb ⟨K,ca,tx K⟩ P w mg base 3 "is_pot" ["thing"] Gg:=
 Nb.hide (Nb.Xa (qg a.Gg I0 λ_ _ _ _ _ _ _ b=>
  (Cc (ud (Bd (zev a) rfl (b.mono (by decide)) rfl (za (la 0) (za Ya (za (Wt (u:=.int 2 (a.Ll).choose) rfl (a.Ll).choose_spec ⟨_,rfl⟩) Ta))))))))
noncomputable abbrev WX:Stmt:=top 43
noncomputable def GF:Ev->M Fl:=
 (pd (Bi (Ha oEq (Nh Dl (ua (ga 0) Ma)) (eC (.int 4))) (Bi (Yc 1 Gg [] (ua (Ha Ua (ga 0) (eC (.int 1))) Ma)) (Yc 1 df [] (ua (Ha Ua (ga 0) (eC (.int 2))) Ma)))))
noncomputable def Ic:List D->M D:=hide λa=>Xa (run 1 GF a)
theorem FR:wa ["thing"] ["thing"] (Ec WX):=ke rfl rfl rfl (by decide +kernel)
theorem aK(a:Txt K mg ca):Nb ⟨K,ca,tx K⟩ P w mg base 4 "is_of_a_side" ["thing"] Ic:=
 Nb.hide (Nb.Xa (qg a.Ic FR λ_ _ _ _ _ _ _ b=>
  (Cc (ud (Mi (Zk (Vg (Ed b)) de (Hn Vq (Uq rfl) rfl a.jh ec (za (la 0) Ta)) Ya (ve _)) (Mi (Bd (iN a) rfl (b.mono (by decide)) rfl (za (nc pc (lc rfl) (la 0) Ya (λ_ _=>rfl)) Ta)) (Cm (Bd (kD a) rfl (b.mono (by decide)) rfl (za (nc pc (lc rfl) (la 0) Ya (λ_ _=>rfl)) Ta)))))))))
noncomputable abbrev qV:Stmt:=top 44
noncomputable def CG:Ev->M Fl:=
 (kc (rf (mm (Al (eT (Fd (Ym .tuple) (ga 0)))) (mm (eT (Ha oEq (Nh Dl (ua (ga 0) Ma)) (eC (.int 0)))) (Al (eT (Fd (Ym .str) (Ha Ua (ga 0) (eC (.int 0)))))))) sj xf) (kc (rf (eT (Ha oEq (Ha Ua (ga 0) (eC (.int 0))) (eC (.str "word")))) sj xf) (kc (rf (eT (Ha oEq (Ha Ua (ga 0) (eC (.int 0))) (eC (.str "strike")))) (pd (Bi (Yc 1 Ic [] (ua (ga 0) Ma)) (Yc 1 Ie [] (ua (Ha Ua (ga 0) (eC (.int 3))) Ma)))) xf) (kc (rf (eT (Ha oEq (Ha Ua (ga 0) (eC (.int 0))) (eC (.str "agree")))) (pd (Bi (Yc 1 Ic [] (ua (ga 0) Ma)) (Yc 1 qe [] (ua (Ha Ua (ga 0) (eC (.int 3))) Ma)))) xf) (pd (eC (.bl false)))))))
noncomputable def je:List D->M D:=hide λa=>Xa (run 1 CG a)
theorem RW:wa ["thing"] ["thing"] (Ec qV):=ke rfl rfl rfl (by decide +kernel)
theorem UI(a:Txt K mg ca):Nb ⟨K,ca,tx K⟩ P w mg base 7 "is_thing" ["thing"] je:=
 Nb.hide (Nb.Xa (qg a.je RW λ_ _ _ _ _ _ _ b=>
  (rc (Bf (L2.PW.pt (Rm (lm (Cj (Xs .tuple (la 0) rfl a.Tc rfl a.oi Si))) (Rm (zf (Vg (Ed b)) de (Hn Vq (Uq rfl) rfl a.jh ec (za (la 0) Ta)) Ya (ve _)) (bp (lm (Cj (Xs .str (nc pc (lc rfl) (la 0) Ya (λ_ _=>rfl)) rfl a.Tc rfl a.Ru boot_str))))))) Ej Df)
  (rc (Bf (zf (Vg (Ed b)) de (nc pc (lc rfl) (la 0) Ya (λ_ _=>rfl)) Fg (ve _)) Ej Df)
  (rc (Bf (zf (Vg (Ed b)) de (nc pc (lc rfl) (la 0) Ya (λ_ _=>rfl)) Fg (ve _)) (Cc (ud (Mi (Bd (aK a) rfl (b.mono (by decide)) rfl (za (la 0) Ta)) (Cm (Bd (tN a) rfl (b.mono (by decide)) rfl (za (nc pc (lc rfl) (la 0) Ya (λ_ _=>rfl)) Ta)))))) Df)
  (rc (Bf (zf (Vg (Ed b)) de (nc pc (lc rfl) (la 0) Ya (λ_ _=>rfl)) Fg (ve _)) (Cc (ud (Mi (Bd (aK a) rfl (b.mono (by decide)) rfl (za (la 0) Ta)) (Cm (Bd (XD a) rfl (b.mono (by decide)) rfl (za (nc pc (lc rfl) (la 0) Ya (λ_ _=>rfl)) Ta)))))) Df)
  (Cc (ud cn))))))))
noncomputable abbrev MY:Stmt:=top 46
noncomputable def yI:Ev->M Fl:=
 (pd (Bi (Yc 1 je [] (ua (ga 0) Ma)) (Ha oEq (Ha Ua (ga 0) (eC (.int 0))) (eC (.str "agree")))))
noncomputable def Of:List D->M D:=hide λa=>Xa (run 1 yI a)
theorem RY:wa ["thing"] ["thing"] (Ec MY):=ke rfl rfl rfl (by decide +kernel)
theorem sW(a:Txt K mg ca):Nb ⟨K,ca,tx K⟩ P w mg base 8 "is_agree" ["thing"] Of:=
 Nb.hide (Nb.Xa (qg a.Of RY λ_ _ _ _ _ _ _ b=>
  (Cc (ud (Mi (Bd (UI a) rfl (b.mono (by decide)) rfl (za (la 0) Ta)) (Cm (Zk (Vg (Ed b)) de (nc pc (lc rfl) (la 0) Ya (λ_ _=>rfl)) Fg (ve _))))))))
noncomputable abbrev YY:Stmt:=top 47
noncomputable def zH:Ev->M Fl:=
 (pd (Bi (Yc 1 je [] (ua (ga 0) Ma)) (Ha oEq (Ha Ua (ga 0) (eC (.int 0))) (eC (.str "strike")))))
noncomputable def jf:List D->M D:=hide λa=>Xa (run 1 zH a)
theorem NO:wa ["thing"] ["thing"] (Ec YY):=ke rfl rfl rfl (by decide +kernel)
theorem kR(a:Txt K mg ca):Nb ⟨K,ca,tx K⟩ P w mg base 8 "is_strike" ["thing"] jf:=
 Nb.hide (Nb.Xa (qg a.jf NO λ_ _ _ _ _ _ _ b=>
  (Cc (ud (Mi (Bd (UI a) rfl (b.mono (by decide)) rfl (za (la 0) Ta)) (Cm (Zk (Vg (Ed b)) de (nc pc (lc rfl) (la 0) Ya (λ_ _=>rfl)) Fg (ve _))))))))
noncomputable abbrev MU:Stmt:=top 48
noncomputable def OE:Ev->M Fl:=
 (kc (rf (eT (Ha oEq (Ha Ua (ga 0) (eC (.int 0))) (eC (.str "offer")))) (pd (Bi (Ha oEq (Nh Dl (ua (ga 0) Ma)) (eC (.int 3))) (Yc 1 Of [] (ua (Ha Ua (ga 0) (eC (.int 2))) Ma)))) xf) (kc (rf (eT (Ha oEq (Ha Ua (ga 0) (eC (.int 0))) (eC (.str "accept")))) sj xf) (kc (rf (eT (Ha oEq (Ha Ua (ga 0) (eC (.int 0))) (eC (.str "struck")))) (pd (Bi (Ha oEq (Nh Dl (ua (ga 0) Ma)) (eC (.int 3))) (Yc 1 jf [] (ua (Ha Ua (ga 0) (eC (.int 2))) Ma)))) xf) (kc (rf (eT (Ha oEq (Ha Ua (ga 0) (eC (.int 0))) (eC (.str "ask")))) sj xf) (kc (rf (eT (Ha oEq (Ha Ua (ga 0) (eC (.int 0))) (eC (.str "word")))) sj xf) (pd (eC (.bl false))))))))
noncomputable def Oc:List D->M D:=hide λa=>Xa (run 1 OE a)
theorem nY:wa ["letter"] ["letter"] (Ec MU):=ke rfl rfl rfl (by decide +kernel)
theorem O3(b:Txt K mg ca):Nb ⟨K,ca,tx K⟩ P w mg base 9 "has_its_parts" ["letter"] Oc:=
 Nb.hide (Nb.Xa (qg b.Oc nY λ_ _ _ _ _ _ _ a=>
  (rc (Bf (zf (Vg (Ed a)) de (nc pc (lc rfl) (la 0) Ya (λ_ _=>rfl)) Fg (ve _)) (Cc (ud (Mi (Zk (Vg (Ed a)) de (Hn Vq (Uq rfl) rfl b.jh ec (za (la 0) Ta)) Ya (ve _)) (Cm (Bd (sW b) rfl (a.mono (by decide)) rfl (za (nc pc (lc rfl) (la 0) Ya (λ_ _=>rfl)) Ta)))))) Df)
  (rc (Bf (zf (Vg (Ed a)) de (nc pc (lc rfl) (la 0) Ya (λ_ _=>rfl)) Fg (ve _)) Ej Df)
  (rc (Bf (zf (Vg (Ed a)) de (nc pc (lc rfl) (la 0) Ya (λ_ _=>rfl)) Fg (ve _)) (Cc (ud (Mi (Zk (Vg (Ed a)) de (Hn Vq (Uq rfl) rfl b.jh ec (za (la 0) Ta)) Ya (ve _)) (Cm (Bd (kR b) rfl (a.mono (by decide)) rfl (za (nc pc (lc rfl) (la 0) Ya (λ_ _=>rfl)) Ta)))))) Df)
  (rc (Bf (zf (Vg (Ed a)) de (nc pc (lc rfl) (la 0) Ya (λ_ _=>rfl)) Fg (ve _)) Ej Df)
  (rc (Bf (zf (Vg (Ed a)) de (nc pc (lc rfl) (la 0) Ya (λ_ _=>rfl)) Fg (ve _)) Ej Df)
  (Cc (ud cn)))))))))
noncomputable abbrev sQ:Stmt:=top 49
noncomputable def RF:Ev->M Fl:=
 (kc (rf (mm (Al (eT (Fd (Ym .tuple) (ga 0)))) (mm (eT (Ha oLt (Nh Dl (ua (ga 0) Ma)) (eC (.int 3)))) (Al (eT (Fd (Ym .str) (Ha Ua (ga 0) (eC (.int 0)))))))) sj xf) (pd (Bi (Yc 1 Gg [] (ua (Ha Ua (ga 0) (eC (.int 1))) Ma)) (Yc 1 Oc [] (ua (ga 0) Ma)))))
noncomputable def Wc:List D->M D:=hide λa=>Xa (run 1 RF a)
theorem xV:wa ["thing"] ["thing"] (Ec sQ):=ke rfl rfl rfl (by decide +kernel)
theorem wD(a:Txt K mg ca):Nb ⟨K,ca,tx K⟩ P w mg base 10 "is_letter" ["thing"] Wc:=
 Nb.hide (Nb.Xa (qg a.Wc xV λ_ _ _ _ _ _ _ b=>
  (rc (Bf (L2.PW.pt (Rm (lm (Cj (Xs .tuple (la 0) rfl a.Tc rfl a.oi Si))) (Rm (zf Dw lx (Hn Vq (Uq rfl) rfl a.jh ec (za (la 0) Ta)) Ya (ve _)) (bp (lm (Cj (Xs .str (nc pc (lc rfl) (la 0) Ya (λ_ _=>rfl)) rfl a.Tc rfl a.Ru boot_str))))))) Ej Df)
  (Cc (ud (Mi (Bd (iN a) rfl (b.mono (by decide)) rfl (za (nc pc (lc rfl) (la 0) Ya (λ_ _=>rfl)) Ta)) (Cm (Bd (O3 a) rfl (b.mono (by decide)) rfl (za (la 0) Ta)))))))))
theorem uM(a:Txt K mg ca):nl ⟨K,ca,tx K⟩ P w mg base 1 "agree_of" ["self", "side", "one"] [(5,Aa)]:=(Dj (T:=⟨K,ca,tx K⟩) (c:=5) a.Cf a.oh (Xz a) (by decide) vm)
noncomputable abbrev gR:Stmt:=top 30
noncomputable def EK:Ev->M Fl:=
 (pd (Ha gj (Nh Op (ua (Ha Ua (ga 0) (eC (.int 1))) Ma)) (Nh Op (ua (si (Im (toN (Vi (Ha Ua (ga 0) (eC (.int 2))))) [] (yf 0) Xm (Ha Ua (ga 0) (eC (.int 1))))) Ma))))
noncomputable def Ah:List D->M D:=hide λa=>Xa (run 1 EK a)
theorem t2:wa ["one"] ["one"] (Ec gR):=ke rfl rfl rfl (by decide +kernel)
theorem pJ(a:Txt K mg ca):Nb ⟨K,ca,tx K⟩ P w mg base 1 "deals" ["one"] Ah:=
 Nb.hide (Nb.Xa (qg a.Ah t2 λ_ _ _ _ _ _ _ b=>
  (Cc (ud (zh (An rfl) de (Hn (LB rfl) (IC rfl) rfl a.aq vu (za (nc pc (lc rfl) (la 0) Ya (λ_ _=>rfl)) Ta)) (Hn (LB rfl) (IC rfl) rfl a.aq vu (za (Bn (Ks (x:="tie") (z0:="0") (M':=[]) (ix:=[]) rfl ⟨rfl,rfl,rfl,rfl,rfl,rfl⟩ (qt (Rn rfl (nc pc (lc rfl) (la 0) Ya (λ_ _=>rfl)))) (λ_ _ _ _ _=>Ji (i:=0) (by show List.Nodup (("tie"::"0"::[]):List ma);decide +kernel) rfl (Or.inl rfl)) (λ_ _ _ _ _=>nu) (λ_ _ _ _ _=>(nc pc (lc rfl) (la 0) Ya (λ_ _=>rfl))))) Ta)))))))
noncomputable abbrev RQ:Stmt:=top 31
noncomputable def OK:Ev->M Fl:=
 (pd (Bi (Yc 1 qe [] (ua (ga 0) Ma)) (Ha oEq (Yc 1 Ah [] (ua (ga 0) Ma)) (ga 1))))
noncomputable def ye:List D->M D:=hide λa=>Xa (run 2 OK a)
theorem Z2:wa ["thing", "coin"] ["thing", "coin"] (Ec RQ):=ke rfl rfl rfl (by decide +kernel)
theorem kS(a:Txt K mg ca):Nb ⟨K,ca,tx K⟩ P w mg base 7 "is_stand_of" ["thing", "coin"] ye:=
 Nb.hide (Nb.Xa (qg a.ye Z2 λ_ _ _ _ _ _ _ b=>
  (Cc (ud (Mi (Bd (XD a) rfl (b.mono (by decide)) rfl (za (la 0) Ta)) (Cm (Zk (Vg (Ed b)) de (Bd (pJ a) rfl (b.mono (by decide)) rfl (za (la 0) Ta)) (la 1) (ve _))))))))
noncomputable abbrev IP:Stmt:=top 51
noncomputable def DL:Ev->M Fl:=
 (pd (Bi (Yc 2 ye [] (ua (ga 0) (ua (Yc 1 Ah [] (ua (ga 1) Ma)) Ma))) (Ha oEq (Ha Ua (ga 0) (eC (.int 0))) (Ha gj (Ha Ua (ga 1) (eC (.int 0))) (eC (.int 1))))))
noncomputable def ce:List D->M D:=hide λa=>Xa (run 2 DL a)
theorem VW:wa ["thing", "one"] ["thing", "one"] (Ec IP):=ke rfl rfl rfl (by decide +kernel)
theorem ES(a:Txt K mg ca):Nb ⟨K,ca,tx K⟩ P w mg base 8 "is_following" ["thing", "one"] ce:=
 Nb.hide (Nb.Xa (qg a.ce VW λ_ _ _ _ _ _ _ b=>
  (Cc (ud (Mi (Bd (kS a) rfl (b.mono (by decide)) rfl (za (la 0) (za (Bd (pJ a) rfl (b.mono (by decide)) rfl (za (la 1) Ta)) Ta))) (Cm (Zk (Vg (Ed b)) de (nc pc (lc rfl) (la 0) Ya (λ_ _=>rfl)) (zh (An rfl) de (nc pc (lc rfl) (la 1) Ya (λ_ _=>rfl)) Ya) (ve _))))))))
noncomputable abbrev tZ:Stmt:=Yf (top 52) 2
noncomputable def DN:Ev->M Fl:=
 (pd (vf (ua (eC (.str "strike")) (ua (Fd (Zc [4,5,6,7] "pot") (ga 0)) (ua (ga 1) (ua (Ha Ua (ga 2) (eC (.int 0))) Ma))))))
noncomputable def Wa:List D->M D:=hide λa=>Xa (run 3 DN a)
theorem CV:wa ["self", "side", "one"] ["self", "side", "one"] (Ec tZ):=ke rfl rfl rfl (by decide +kernel)
theorem JL(a:Txt K mg ca):ue ⟨K,ca,tx K⟩ P w mg base 1 (ca 12) ["self", "side", "one"] Wa:=
 ue.hide (ue.Xa (Rk a.Wa CV λ_ _ _ _ _ _ b=>
  (Cc (ud (Hf (za Fg (za (Ue rfl (Qp a) (la 0)) (za (la 1) (za (nc pc (lc rfl) (la 2) Ya (λ_ _=>rfl)) Ta)))))))))
theorem UQ(a:Txt K mg ca):nl ⟨K,ca,tx K⟩ P w mg base 1 "strike_of" ["self", "side", "one"] [(5,Wa)]:=(Dj (T:=⟨K,ca,tx K⟩) (c:=5) a.Cf a.dj (JL a) (by decide) vm)
noncomputable abbrev AT:Stmt:=Yf (top 53) 1
noncomputable def eM:Ev->M Fl:=
 (kc (rf (mm (eT (Ha di (Fd (Zc [4,5,6,7] "side") (ga 0)) (eC (.int 1)))) (mm (Al (eT (Yc 1 Wc [] (ua (ga 1) Ma)))) (eT (Ha di (Ha Ua (ga 1) (eC (.int 0))) (eC (.str "offer")))))) sj xf) (kc (jg 2 (Ha Ua (Ha Ua (ga 1) (eC (.int 2))) (eC (.int 3)))) (kc (jg 3 (Pg [(5,Aa)] 3 "agree_of" (ga 0) (ua (eC (.int 0)) (ua (ga 2) Ma)))) (kc (rf (mm (eT (Ha di (ga 1) (vf (ua (eC (.str "offer")) (ua (Fd (Zc [4,5,6,7] "pot") (ga 0)) (ua (ga 3) Ma)))))) (Al (eT (Yc 2 ce [] (ua (ga 2) (ua (Fd (Zc [4,5,6,7] "mine") (ga 0)) Ma)))))) (pd (vf (ua (ga 0) (ua (eC .Jb) Ma)))) xf) (kc (jg 4 (si (Er 7 7 al (ua (Fd (Zc [4,5,6,7] "pot") (ga 0)) (ua (Fd (Zc [4,5,6,7] "side") (ga 0)) (ua (ga 2) (ua (ga 3) (ua (Zi (ua (Fd (Zc [4,5,6,7] "mine") (ga 0)) (ua (ga 2) Ma))) (ua (Fd (Zc [4,5,6,7] "strikes") (ga 0)) Ma))))))))) (pd (vf (ua (ga 4) (ua (vf (ua (eC (.str "accept")) (ua (Fd (Zc [4,5,6,7] "pot") (ga 0)) (ua (Pg [(5,Aa)] 3 "agree_of" (ga 0) (ua (eC (.int 1)) (ua (ga 2) Ma))) (ua (Pg [(5,Wa)] 3 "strike_of" (ga 0) (ua (eC (.int 1)) (ua (Fd (Zc [4,5,6,7] "mine") (ga 0)) Ma))) Ma))))) Ma)))))))))
noncomputable def Cb:List D->M D:=hide λa=>Xa (run 5 eM a)
theorem pB:wa ["self", "letter", "one", "agree", "behind"] ["self", "letter"] (Ec AT):=ke rfl rfl rfl (by decide +kernel)
theorem XQ(a:Txt K mg ca):ue ⟨K,ca,tx K⟩ P w mg base 11 (ca 14) ["self", "letter"] Cb:=
 ue.hide (ue.Xa (Rk a.Cb pB λ_ _ _ _ _ _ b=>
  (rc (Bf (L2.PW.pt (Rm (zf (Qn (Ed b)) de (Ue rfl (Pu a) (la 0)) Ya (ve _)) (Rm (lm (Cj (Bd (wD a) rfl (b.mono (by decide)) rfl (za (la 1) Ta)))) (bp (zf (Qn (Ed b)) de (nc pc (lc rfl) (la 1) Ya (λ_ _=>rfl)) Fg (ve _)))))) Ej Df)
  (rc (Rg (i:=2) pB.nd rfl (Or.inl rfl) (nc pc (lc rfl) (nc pc (lc rfl) (la 1) Ya (λ_ _=>rfl)) Ya (λ_ _=>rfl)))
  (rc (Rg (i:=3) pB.nd rfl (Or.inl rfl) (Oj (k:=1) (ps:=["self", "side", "one"]) rfl (la 0) (uM a) (b.mono (by decide)) (za Ya (za (la 2) Ta))))
  (rc (Bf (L2.PW.pt (Rm (zf (Qn (Ed b)) de (la 1) (Hf (za Fg (za (Ue rfl (Qp a) (la 0)) (za (la 3) Ta)))) (ve _)) (bp (lm (Cj (Bd (ES a) rfl (b.mono (by decide)) rfl (za (la 2) (za (Ue rfl (bu a) (la 0)) Ta)))))))) (Cc (ud (Hf (za (la 0) (za Js Ta))))) Df)
  (rc (Rg (i:=4) pB.nd rfl (Or.inl rfl) (Bn (XB (c:=7) (ps:=["self", "pot", "side", "mine", "grant", "may", "strikes"]) ⟨_,a.Bq,a.Zo,QE a⟩ rfl (b.mono (by decide)) rfl (za (Ue rfl (Qp a) (la 0)) (za (Ue rfl (Pu a) (la 0)) (za (la 2) (za (la 3) (za (ml (za (Ue rfl (bu a) (la 0)) (za (la 2) Ta))) (za (Ue rfl (sF a) (la 0)) Ta)))))))))
  (Cc (ud (Hf (za (la 4) (za (Hf (za Fg (za (Ue rfl (Qp a) (la 0)) (za (Oj (k:=1) (ps:=["self", "side", "one"]) rfl (la 0) (uM a) (b.mono (by decide)) (za Ya (za (la 2) Ta))) (za (Oj (k:=1) (ps:=["self", "side", "one"]) rfl (la 0) (UQ a) (b.mono (by decide)) (za Ya (za (Ue rfl (bu a) (la 0)) Ta))) Ta))))) Ta))))))))))))
noncomputable abbrev nX:Stmt:=Yf (top 54) 1
noncomputable def P2:Ev->M Fl:=
 sj
noncomputable def Vb:List D->M D:=hide λa=>Xa (run 5 P2 a)
theorem m3:wa ["self", "letter", "one", "agree", "behind"] ["self", "letter"] (Ec nX):=ke rfl rfl rfl (by decide +kernel)
theorem VV(a:Txt K mg ca):ue ⟨K,ca,tx K⟩ P w mg base 1 (ca 16) ["self", "letter"] Vb:=
 ue.hide (ue.Xa (Rk a.Vb m3 λ_ _ _ _ _ _ b=>
  Ej))
theorem wY(a:Txt K mg ca):nl ⟨K,ca,tx K⟩ P w mg base 1 "strike_of" ["self", "side", "one"] [(7,Wa)]:=(Dj (T:=⟨K,ca,tx K⟩) (c:=7) a.Ud a.ci (JL a) (by decide) vm)
noncomputable abbrev QV:Stmt:=Yf (top 55) 1
noncomputable def zL:Ev->M Fl:=
 (kc (jg 2 (Ha Ua (Fd (Zc [4,5,6,7] "may") (ga 0)) (eC (.int 0)))) (kc (rf (mm (Al (eT (Yc 1 Wc [] (ua (ga 1) Ma)))) (eT (Ha di (ga 1) (vf (ua (eC (.str "struck")) (ua (Fd (Zc [4,5,6,7] "pot") (ga 0)) (ua (Pg [(7,Wa)] 3 "strike_of" (ga 0) (ua (eC (.int 0)) (ua (ga 2) Ma))) Ma))))))) (pd (vf (ua (ga 0) (ua (eC .Jb) Ma)))) xf) (kc (jg 3 (si (Er 5 7 al (ua (Fd (Zc [4,5,6,7] "pot") (ga 0)) (ua (Fd (Zc [4,5,6,7] "side") (ga 0)) (ua (Fd (Zc [4,5,6,7] "mine") (ga 0)) (ua (Fd (Zc [4,5,6,7] "grant") (ga 0)) (ua (Zi (ua (Fd (Zc [4,5,6,7] "mine") (ga 0)) Ma)) (ua (Ha gj (Fd (Zc [4,5,6,7] "strikes") (ga 0)) (Zi (ua (Ha Ua (ga 2) (eC (.int 0))) Ma))) Ma))))))))) (pd (vf (ua (ga 3) (ua (eC .Jb) Ma)))))))
noncomputable def xb:List D->M D:=hide λa=>Xa (run 4 zL a)
theorem ID:wa ["self", "letter", "old", "behind"] ["self", "letter"] (Ec QV):=ke rfl rfl rfl (by decide +kernel)
theorem IZ(a:Txt K mg ca):ue ⟨K,ca,tx K⟩ P w mg base 11 (ca 18) ["self", "letter"] xb:=
 ue.hide (ue.Xa (Rk a.xb ID λ_ _ _ _ _ _ b=>
  (rc (Rg (i:=2) ID.nd rfl (Or.inl rfl) (nc pc (lc rfl) (Ue rfl (OA a) (la 0)) Ya (λ_ _=>rfl)))
  (rc (Bf (L2.PW.pt (Rm (lm (Cj (Bd (wD a) rfl (b.mono (by decide)) rfl (za (la 1) Ta)))) (bp (zf (Qn (Ed b)) de (la 1) (Hf (za Fg (za (Ue rfl (Qp a) (la 0)) (za (Oj (k:=1) (ps:=["self", "side", "one"]) rfl (la 0) (wY a) (b.mono (by decide)) (za Ya (za (la 2) Ta))) Ta)))) (ve _))))) (Cc (ud (Hf (za (la 0) (za Js Ta))))) Df)
  (rc (Rg (i:=3) ID.nd rfl (Or.inl rfl) (Bn (XB (c:=5) (ps:=["self", "pot", "side", "mine", "grant", "may", "strikes"]) ⟨_,a.Wr,a.Yp,QE a⟩ rfl (b.mono (by decide)) rfl (za (Ue rfl (Qp a) (la 0)) (za (Ue rfl (Pu a) (la 0)) (za (Ue rfl (bu a) (la 0)) (za (Ue rfl (sH a) (la 0)) (za (ml (za (Ue rfl (bu a) (la 0)) Ta)) (za (zh (An rfl) de (Ue rfl (sF a) (la 0)) (ml (za (nc pc (lc rfl) (la 2) Ya (λ_ _=>rfl)) Ta))) Ta)))))))))
  (Cc (ud (Hf (za (la 3) (za Js Ta))))))))))
theorem WJ(a:Txt K mg ca):nl ⟨K,ca,tx K⟩ P w mg base 11 "taken" ["self", "letter"] [(5,Cb),(6,Vb),(7,xb)]:=(Dj (T:=⟨K,ca,tx K⟩) (c:=5) a.Cf a.um (XQ a) (by decide) (Dj (T:=⟨K,ca,tx K⟩) (c:=6) a.pe a.Pj (VV a) (by decide) (Dj (T:=⟨K,ca,tx K⟩) (c:=7) a.Ud a.Uj (IZ a) (by decide) vm)))
noncomputable abbrev US:Stmt:=top 88
noncomputable def OJ:Ev->M Fl:=
 (kc (rf (eT (Ha oEq (Fd (Zc [4,5,6,7] "side") (ga 0)) (eC (.int 0)))) sj xf) (kc (jg 2 (vf (ua (eC (.str "offer")) (ua (Fd (Zc [4,5,6,7] "pot") (ga 0)) (ua (Pg [(4,Aa),(5,Aa),(6,Aa),(7,Aa)] 3 "agree_of" (ga 0) (ua (eC (.int 0)) (ua (ga 1) Ma))) Ma))))) (pd (vf (ua (Ha Ua (Pg [(5,Cb),(6,Vb),(7,xb)] 2 "taken" (ga 0) (ua (ga 2) Ma)) (eC (.int 0))) (ua (vf (ua (eC (.str "ask")) (ua (Fd (Zc [4,5,6,7] "pot") (ga 0)) (ua (Ha Ua (ga 1) (eC (.int 1))) (ua (Ha Ua (ga 1) (eC (.int 2))) Ma))))) Ma))))))
noncomputable def vg:List D->M D:=hide λa=>Xa (run 3 OJ a)
theorem WM:wa ["account", "one", "offer"] ["account", "one"] (Ec US):=ke rfl rfl rfl (by decide +kernel)
theorem zO(a:Txt K mg ca):Nb ⟨K,ca,tx K⟩ P w mg base 12 "step_to" ["account", "one"] vg:=
 Nb.hide (Nb.Xa (qg a.vg WM λ_ _ _ _ _ _ _ b=>
  (rc (Bf (zf (Vg (Ed b)) de (Ue rfl (Pu a) (la 0)) Ya (ve _)) Ej Df)
  (rc (Rg (i:=2) WM.nd rfl (Or.inl rfl) (Hf (za Fg (za (Ue rfl (Qp a) (la 0)) (za (Oj (k:=1) (ps:=["self", "side", "one"]) rfl (la 0) (mU a) (b.mono (by decide)) (za Ya (za (la 1) Ta))) Ta)))))
  (Cc (ud (Hf (za (nc pc (lc rfl) (Oj (k:=11) (ps:=["self", "letter"]) rfl (la 0) (WJ a) (b.mono (by decide)) (za (la 2) Ta)) Ya (λ_ _=>rfl)) (za (Hf (za Fg (za (Ue rfl (Qp a) (la 0)) (za (nc pc (lc rfl) (la 1) Ya (λ_ _=>rfl)) (za (nc pc (lc rfl) (la 1) Ya (λ_ _=>rfl)) Ta))))) Ta)))))))))
theorem GJ(a:Txt K mg ca):cm ⟨K,ca,tx K⟩ [8] "pots":=(Ih (T:=⟨K,ca,tx K⟩) (c:=8) a.Bl a.Fn mo)
noncomputable abbrev sS:Stmt:=top 37
noncomputable def II:Ev->M Fl:=
 (pd (Bi (Ha kx (Ha Ua (ga 0) (eC (.int 2))) (ga 1)) (Ha oLt (Ha xl (ga 1) (Ha Ua (ga 0) (eC (.int 2)))) (Ha Ua (ga 0) (eC (.int 3))))))
noncomputable def Jd:List D->M D:=hide λa=>Xa (run 2 II a)
theorem QU:wa ["tie", "shown"] ["tie", "shown"] (Ec sS):=ke rfl rfl rfl (by decide +kernel)
theorem SO(b:Txt K mg ca):Nb ⟨K,ca,tx K⟩ P w mg base 1 "shown_in_time" ["tie", "shown"] Jd:=
 Nb.hide (Nb.Xa (qg b.Jd QU λ_ _ _ _ _ _ _ a=>
  (Cc (ud (Mi (Zk (lK (Ed a)) qK (nc pc (lc rfl) (la 0) Ya (λ_ _=>rfl)) (la 1) rfl) (Cm (Zk Dw lx (zq (Ed a) (la 1) (nc pc (lc rfl) (la 0) Ya (λ_ _=>rfl)) (λ_ _=>rfl)) (nc pc (lc rfl) (la 0) Ya (λ_ _=>rfl)) (ve _))))))))
noncomputable abbrev XW:Stmt:=top 62
noncomputable def EL:Ev->M Fl:=
 (kc (rf (eT (Yc 2 Jd [] (ua (ga 2) (ua (ga 1) Ma)))) sj xf) (kc (rf (eT (Ha oD (Fd (Zc [8,9] "last_look") (ga 0)) (Ha Ua (ga 2) (eC (.int 3))))) sj xf) (kc (rf (Xy (eT (Ha (gC false) (Ha Ua (ga 2) (eC (.int 2))) (Fd (Zc [8,9] "known") (ga 0)))) (eT (Ha oLt (Ha gj (Fd (Zc [8,9] "last_look") (ga 0)) (Fd (Zc [8,9] "every") (ga 0))) (Ha Ua (ga 2) (eC (.int 3)))))) sj xf) (pd (eC (.str "hangs"))))))
noncomputable def Te:List D->M D:=hide λa=>Xa (run 3 EL a)
theorem W1:wa ["view", "seen", "tie"] ["view", "seen", "tie"] (Ec XW):=ke rfl rfl rfl (by decide +kernel)
theorem hX(a:Txt K mg ca):Nb ⟨K,ca,tx K⟩ P w mg base 2 "lot_of_due" ["view", "seen", "tie"] Te:=
 Nb.hide (Nb.Xa (qg a.Te W1 λ_ _ _ _ _ _ _ b=>
  (rc (Bf (Cj (Bd (SO a) rfl (b.mono (by decide)) rfl (za (la 2) (za (la 1) Ta)))) Ej Df)
  (rc (Bf (zf DI nI (Ue rfl (xz a) (la 0)) (nc pc (lc rfl) (la 2) Ya (λ_ _=>rfl)) (ve _)) Ej Df)
  (rc (Bf (L2.PW.pt (bD (zf (IX rfl (Ed b)) de (nc pc (lc rfl) (la 2) Ya (λ_ _=>rfl)) (Ue rfl (Rw a) (la 0)) rfl) (NE (zf Dw lx (zh (An rfl) de (Ue rfl (xz a) (la 0)) (Ue rfl (My a) (la 0))) (nc pc (lc rfl) (la 2) Ya (λ_ _=>rfl)) (ve _))))) Ej Df)
  (Cc (ud Fg)))))))
noncomputable abbrev LO:Stmt:=top 63
noncomputable def EI:Ev->M Fl:=
 (kc (rf (eT (Ha oEq (Ha Ua (ga 2) (eC (.int 0))) (Ha Ua (ga 1) (eC (.int 0))))) sj xf) (pd (Yc 3 Te [] (ua (ga 0) (ua (Ha Ua (ga 1) (eC (.int 2))) (ua (ga 2) Ma))))))
noncomputable def ph:List D->M D:=hide λa=>Xa (run 3 EI a)
theorem WS:wa ["view", "pot", "tie"] ["view", "pot", "tie"] (Ec LO):=ke rfl rfl rfl (by decide +kernel)
theorem E1(a:Txt K mg ca):Nb ⟨K,ca,tx K⟩ P w mg base 3 "lot_of" ["view", "pot", "tie"] ph:=
 Nb.hide (Nb.Xa (qg a.ph WS λ_ _ _ _ _ _ _ b=>
  (rc (Bf (zf (Vg (Ed b)) de (nc pc (lc rfl) (la 2) Ya (λ_ _=>rfl)) (nc pc (lc rfl) (la 1) Ya (λ_ _=>rfl)) (ve _)) Ej Df)
  (Cc (ud (Bd (hX a) rfl (b.mono (by decide)) rfl (za (la 0) (za (nc pc (lc rfl) (la 1) Ya (λ_ _=>rfl)) (za (la 2) Ta)))))))))
noncomputable abbrev kT:Stmt:=top 64
noncomputable abbrev sD:Ev->M Fl:=(kc (jg 6 (Yc 3 ph [] (ua (ga 0) (ua (ga 1) (ua (ga 5) Ma))))) (kc (Rq (vf (ua (ga 6) (ua (Ha Ua (ga 5) (eC (.int 1))) (ua (Ha Ua (ga 5) (eC (.int 3))) Ma)))) (ga 4) (Ha Ua (ga 5) (eC (.int 2)))) (rf (eT (Fd (uA false ["won", "sure", "back"]) (ga 6))) (Cw (λa b=>a+b) 3 (Ha Ua (ga 5) (eC (.int 1)))) xf)))
noncomputable def EJ:Ev->M Fl:=
 (kc (jg 3 (Ha Ua (Ha Ua (ga 2) (eC (.int 1))) (Ha Ua (ga 1) (eC (.int 0))))) (kc (jg 4 Pq) (kc (Ur (Vi (Ha Ua (ga 2) (eC (.int 2)))) (yf 5) sD) (pd (vf (ua (ga 3) (ua (ga 4) Ma)))))))
noncomputable def ie:List D->M D:=hide λa=>Xa (run 7 EJ a)
theorem Jw:wa ["view", "pot", "one", "firm", "lots", "tie", "lot"] ["view", "pot", "one"] (Ec kT):=ke rfl rfl rfl (by decide +kernel)
theorem zQ(a:Txt K mg ca):Nb ⟨K,ca,tx K⟩ P w mg base 4 "read_stand" ["view", "pot", "one"] ie:=
 Nb.hide (Nb.Xa (qg a.ie Jw λ_ _ _ _ _ _ _ b=>
  (rc (Rg (i:=3) Jw.nd rfl (Or.inl rfl) (nc pc (lc rfl) (nc pc (lc rfl) (la 2) Ya (λ_ _=>rfl)) (nc pc (lc rfl) (la 1) Ya (λ_ _=>rfl)) (λ_ _=>rfl)))
  (rc (Rg (i:=4) Jw.nd rfl (Or.inl rfl) Zt)
  (rc (yes Zp rfl (Rn rfl (nc pc (lc rfl) (la 2) Ya (λ_ _=>rfl))) (Ji (i:=5) Jw.nd rfl (Or.inl rfl)) (rc (Rg (i:=6) Jw.nd rfl (Or.inl rfl) (Bd (E1 a) rfl (b.mono (by decide)) rfl (za (la 0) (za (la 1) (za (la 5) Ta)))))
  (rc (Ps (Ed b) (Hf (za (la 6) (za (nc pc (lc rfl) (la 5) Ya (λ_ _=>rfl)) (za (nc pc (lc rfl) (la 5) Ya (λ_ _=>rfl)) Ta)))) (la 4) (nc pc (lc rfl) (la 5) Ya (λ_ _=>rfl)))
  (Cc (Bf (eS (ss:=["won", "sure", "back"]) rfl a.uv (la 6)) (Cc (fN (i:=3) JI Jw.nd rfl (Or.inl rfl) (nc pc (lc rfl) (la 5) Ya (λ_ _=>rfl)))) Df)))))
  (Cc (ud (Hf (za (la 3) (za (la 4) Ta))))))))))
noncomputable abbrev WR:Stmt:=top 65
noncomputable abbrev yG:Ev->M Fl:=(xr (Pw Qm (ga 1) (ua (si (Im (toN (Vi (Ha Ua (ga 2) (eC (.int 1))))) [0,2] (yf 0) Xm (Yc 3 ie [] (ua (ga 2) (ua (ga 3) (ua (ga 0) Ma)))))) Ma)))
noncomputable def lL:Ev->M Fl:=
 (kc (jg 1 (Tw Ma)) (kc (Ur (Vi (Fd (Zc [8] "pots") (ga 0))) (yf 2) yG) (pd (ga 1))))
noncomputable def ff:List D->M D:=hide λa=>Xa (run 3 lL a)
theorem cE:wa ["view", "readings", "pot"] ["view"] (Ec WR):=ke rfl rfl rfl (by decide +kernel)
theorem R3(a:Txt K mg ca):Nb ⟨K,ca,tx K⟩ P w mg base 5 "read_pots" ["view"] ff:=
 Nb.hide (Nb.Xa (qg a.ff cE λ_ _ _ _ _ _ _ b=>
  (rc (Rg (i:=1) cE.nd rfl (Or.inl rfl) (QA Ta))
  (rc (yes Zp rfl (Rn rfl (Ue rfl (GJ a) (la 0))) (Ji (i:=2) cE.nd rfl (Or.inr rfl)) (Cc (iu (HB pf ah bh vC IA (la 1) (za (Bn (Ks (x:="one") (z0:="0") (M':=["view", "pot"]) (ix:=[0,2]) rfl ⟨rfl,rfl,rfl,rfl,rfl,rfl⟩ (qt (Rn rfl (nc pc (lc rfl) (la 2) Ya (λ_ _=>rfl)))) (λ_ _ _ _ _=>Ji (i:=0) (by show List.Nodup (("one"::"0"::["view", "pot"]):List ma);decide +kernel) rfl (Or.inl rfl)) (λ_ _ _ _ _=>nu) (λ_ _ _ _ _=>(Bd (zQ a) rfl (b.mono (by decide)) rfl (za (la 2) (za (la 3) (za (la 0) Ta))))))) Ta)))))
  (Cc (ud (la 1)))))))
noncomputable abbrev Q3:Stmt:=top 66
noncomputable abbrev CB:Ev->M Fl:=(xr (Pw Xv (ga 3) (ua (si (Im (toN (cz (Nh Dl (ua (ga 2) Ma)))) [4] (yf 0) Xm (Ha gj (ga 2) (Zi (ua (ga 0) Ma))))) Ma)))
noncomputable abbrev BG:Ev->M Fl:=(kc (jg 3 (Tw Ma)) (kc (Ur (Vi (ga 1)) (yf 4) CB) (jg 1 (ga 3))))
noncomputable def rH:Ev->M Fl:=
 (kc (jg 1 (Zi (ua (Zi Ma) Ma))) (kc (Ur (Vi (ga 0)) (yf 2) BG) (pd (ga 1))))
noncomputable def Sd:List D->M D:=hide λa=>Xa (run 5 rH a)
theorem Qw:wa ["readings", "choices", "stands", "longer", "chosen"] ["readings"] (Ec Q3):=ke rfl rfl rfl (by decide +kernel)
theorem wX(a:Txt K mg ca):Nb ⟨K,ca,tx K⟩ P w mg base 1 "all_choices" ["readings"] Sd:=
 Nb.hide (Nb.Xa (qg a.Sd Qw λ_ _ _ _ _ _ _ b=>
  (rc (Rg (i:=1) Qw.nd rfl (Or.inl rfl) (ml (za (ml Ta) Ta)))
  (rc (yes Zp rfl (Rn rfl (la 0)) (Ji (i:=2) Qw.nd rfl (Or.inl rfl)) (rc (Rg (i:=3) Qw.nd rfl (Or.inl rfl) (QA Ta))
  (rc (yes Zp rfl (Rn rfl (la 1)) (Ji (i:=4) Qw.nd rfl (Or.inr rfl)) (Cc (iu (HB pf PySem.F.slot_list_extend PySem.F.type_list_extend WP SW (la 3) (za (Bn (Ks (x:="place") (z0:="0") (M':=["chosen"]) (ix:=[4]) rfl ⟨rfl,rfl,rfl,rfl,rfl,rfl⟩ (qt (cY rfl a.Kt (Hn Vq (Uq rfl) rfl a.jh ec (za (la 2) Ta)))) (λ_ _ _ _ _=>Ji (i:=0) (by show List.Nodup (("place"::"0"::["chosen"]):List ma);decide +kernel) rfl (Or.inl rfl)) (λ_ _ _ _ _=>nu) (λ_ _ _ _ _=>(zh (An rfl) de (la 2) (ml (za (la 0) Ta)))))) Ta)))))
  (Cc (Rg (i:=1) Qw.nd rfl (Or.inl rfl) (la 3))))))
  (Cc (ud (la 1)))))))
noncomputable abbrev aR:Stmt:=top 68
noncomputable abbrev YC:Ev->M Fl:=(xr (Pw Qm (vA Fv (ga 1) (ua (ga 3) (ua (Tw Ma) Ma))) (ua (ga 4) Ma)))
noncomputable abbrev sx:Ev->M Fl:=(nq (Ls (Ha Ua (ga 2) (eC (.int 1)))) (Xp 2 (Fk (yf 3) (Fk (yf 4) Cq))) YC)
noncomputable def pM:Ev->M Fl:=
 (kc (jg 1 Pq) (kc (Ur (Vi (ga 0)) (yf 2) sx) (pd (ga 1))))
noncomputable def ae:List D->M D:=hide λa=>Xa (run 5 pM a)
theorem qz:wa ["reads", "by_word", "read", "word", "lot"] ["reads"] (Ec aR):=ke rfl rfl rfl (by decide +kernel)
theorem aZ(a:Txt K mg ca):Nb ⟨K,ca,tx K⟩ P w mg base 1 "lots_by_word" ["reads"] ae:=
 Nb.hide (Nb.Xa (qg a.ae qz λ_ _ _ _ _ _ _ b=>
  (rc (Rg (i:=1) qz.nd rfl (Or.inl rfl) Zt)
  (rc (yes Zp rfl (Rn rfl (la 0)) (Ji (i:=2) qz.nd rfl (Or.inl rfl)) (Cc (Kz Zp rfl (eG (nc pc (lc rfl) (la 2) Ya (λ_ _=>rfl))) (Lx rfl (Xq (Ji (i:=3) qz.nd rfl (Or.inl rfl)) (Xq (Ji (i:=4) qz.nd rfl (Or.inl rfl)) Yw))) (Cc (iu (HB pf ah bh vC IA (CM mf ll PySem.F.type_dict_setdefault R1 U3 (la 1) (za (la 3) (za (QA Ta) Ta))) (za (la 4) Ta)))))))
  (Cc (ud (la 1)))))))
noncomputable abbrev OU:Stmt:=top 69
noncomputable def uN:Ev->M Fl:=
 (pd (Ha gj (Zi (ua (eC .Jb) Ma)) (si (Im (toN (Vi (ga 0))) [] (yf 0) (eT (Ha oEq (Ha Ua (ga 0) (eC (.int 0))) (eC (.str "open")))) (Ha Ua (ga 0) (eC (.int 2)))))))
noncomputable def Mf:List D->M D:=hide λa=>Xa (run 1 uN a)
theorem uW:wa ["lots"] ["lots"] (Ec OU):=ke rfl rfl rfl (by decide +kernel)
theorem ZV(a:Txt K mg ca):Nb ⟨K,ca,tx K⟩ P w mg base 1 "fates_of" ["lots"] Mf:=
 Nb.hide (Nb.Xa (qg a.Mf uW λ_ _ _ _ _ _ _ b=>
  (Cc (ud (zh (An rfl) de (ml (za Js Ta)) (Bn (Ks (x:="lot") (z0:="0") (M':=[]) (ix:=[]) rfl ⟨rfl,rfl,rfl,rfl,rfl,rfl⟩ (qt (Rn rfl (la 0))) (λ_ _ _ _ _=>Ji (i:=0) (by show List.Nodup (("lot"::"0"::[]):List ma);decide +kernel) rfl (Or.inl rfl)) (λ_ _ _ _ _=>vK (zf (Vg (Ed b)) de (nc pc (lc rfl) (la 0) Ya (λ_ _=>rfl)) Fg (ve _))) (λ_ _ _ _ _=>(nc pc (lc rfl) (la 0) Ya (λ_ _=>rfl))))))))))
noncomputable abbrev sP:Stmt:=top 70
noncomputable def pN:Ev->M Fl:=
 (kc (rf (eT (Ha oEq (Ha Ua (ga 0) (eC (.int 0))) (eC (.str "open")))) (pd (nL (Ha Os (ga 1) (eC .Jb)) (Ha HC (ga 1) (Ha Ua (ga 0) (eC (.int 2)))))) xf) (pd (Bi (Ha oEq (Ha Ua (ga 0) (eC (.int 0))) (eC (.str "hangs"))) (Bi (Ha ED (ga 1) (eC .Jb)) (Ha oLt (Ha gj (Ha Xu (ga 1) (eC (.int 1))) (ga 2)) (Ha Ua (ga 0) (eC (.int 2))))))))
noncomputable def gd:List D->M D:=hide λa=>Xa (run 3 pN a)
theorem HR:wa ["lot", "fate", "every"] ["lot", "fate", "every"] (Ec sP):=ke rfl rfl rfl (by decide +kernel)
theorem sX(b:Txt K mg ca):Nb ⟨K,ca,tx K⟩ P w mg base 1 "comes_by_fate" ["lot", "fate", "every"] gd:=
 Nb.hide (Nb.Xa (qg b.gd HR λ_ _ _ _ _ _ _ a=>
  (rc (Bf (zf (Vg (Ed a)) de (nc pc (lc rfl) (la 0) Ya (λ_ _=>rfl)) Fg (ve _)) (Cc (ud (qS (Zk qB oC (la 1) Js (ve _)) (Cm (Zk EE nE (la 1) (nc pc (lc rfl) (la 0) Ya (λ_ _=>rfl)) (ve _)))))) Df)
  (Cc (ud (Mi (Zk (Vg (Ed a)) de (nc pc (lc rfl) (la 0) Ya (λ_ _=>rfl)) Fg (ve _)) (Mi (Zk AS ZY (la 1) Js (ve _)) (Cm (Zk Dw lx (zh (An rfl) de (zh jw cw (la 1) Ya) (la 2)) (nc pc (lc rfl) (la 0) Ya (λ_ _=>rfl)) (ve _))))))))))
noncomputable abbrev NW:Stmt:=top 71
noncomputable def nN:Ev->M Fl:=
 (pd (Nh Op (ua (si (Im (toN (Vi (ga 0))) [1,2] (yf 0) (eT (Yc 3 gd [] (ua (ga 0) (ua (ga 2) (ua (ga 3) Ma))))) (Ha Ua (ga 0) (eC (.int 1))))) Ma)))
noncomputable def sd:List D->M D:=hide λa=>Xa (run 3 nN a)
theorem dQ:wa ["lots", "fate", "every"] ["lots", "fate", "every"] (Ec NW):=ke rfl rfl rfl (by decide +kernel)
theorem fK(a:Txt K mg ca):Nb ⟨K,ca,tx K⟩ P w mg base 2 "sum_by_fate" ["lots", "fate", "every"] sd:=
 Nb.hide (Nb.Xa (qg a.sd dQ λ_ _ _ _ _ _ _ b=>
  (Cc (ud (Hn (LB rfl) (IC rfl) rfl a.aq vu (za (Bn (Ks (x:="lot") (z0:="0") (M':=["fate", "every"]) (ix:=[1,2]) rfl ⟨rfl,rfl,rfl,rfl,rfl,rfl⟩ (qt (Rn rfl (la 0))) (λ_ _ _ _ _=>Ji (i:=0) (by show List.Nodup (("lot"::"0"::["fate", "every"]):List ma);decide +kernel) rfl (Or.inl rfl)) (λ_ _ _ _ _=>vK (Cj (Bd (sX a) rfl (b.mono (by decide)) rfl (za (la 0) (za (la 2) (za (la 3) Ta)))))) (λ_ _ _ _ _=>(nc pc (lc rfl) (la 0) Ya (λ_ _=>rfl))))) Ta))))))
noncomputable abbrev XR:Stmt:=top 72
noncomputable def FN:Ev->M Fl:=
 (pd (FC [0,1] (Yc 3 sd [] (ua (ga 1) (ua (ga 0) (ua (ga 2) Ma)))) (ua (Yc 1 Mf [] (ua (ga 0) Ma)) Ma)))
noncomputable def Se:List D->M D:=hide λa=>Xa (run 2 FN a)
theorem rT:wa ["lots", "every"] ["lots", "every"] (Ec XR):=ke rfl rfl rfl (by decide +kernel)
theorem MP(a:Txt K mg ca):Nb ⟨K,ca,tx K⟩ P w mg base 5 "least_fate" ["lots", "every"] Se:=
 Nb.hide (Nb.Xa (SK a.Se rT λ_ _ _ _ _ _ b=>
  (Cc (ud (JK (x:="fate") (M':=["lots", "every"]) (ix:=[0,1]) (t:=zB K) (k:=2) (b.mono (by decide)) ⟨rfl,rfl,rfl,rfl,rfl,rfl⟩ rfl ⟨(CI K),λd c=>a.Ny _ (CI K) d c,rfl,a.tb.hd _ (by decide),rfl,rfl,rfl,a.eJ,a.tb.bb⟩ rfl a.Dr rfl rfl rfl (λ_ _ _ _ _=>rfl) (za (Bd (ZV a) rfl (b.mono (by decide)) rfl (za (la 0) Ta)) Ta) (λ_ _ _ _ _ b=>(Bd (fK a) rfl (b.mono (by decide)) rfl (za (la 1) (za (la 0) (za (la 2) Ta))))))))))
noncomputable abbrev iQ:Stmt:=top 73
noncomputable abbrev mE:Ev->M Fl:=(Cw (λa b=>a+b) 4 (Yc 3 sd [] (ua (ga 6) (ua (Ha xl (ga 2) (ga 5)) (ua (ga 3) Ma)))))
noncomputable def EH:Ev->M Fl:=
 (kc (jg 4 (Nh Op (ua (si (Im (toN (Vi (ga 0))) [] (yf 0) Xm (Ha Ua (ga 0) (eC (.int 0))))) Ma))) (kc (nq (Ls (ga 1)) (Xp 2 (Fk (yf 5) (Fk (yf 6) Cq))) mE) (pd (ga 4))))
noncomputable def Cg:List D->M D:=hide λa=>Xa (run 7 EH a)
theorem Jy:wa ["reads", "by_word", "fates", "every", "total", "word", "lots"] ["reads", "by_word", "fates", "every"] (Ec iQ):=ke rfl rfl rfl (by decide +kernel)
theorem CT(a:Txt K mg ca):Nb ⟨K,ca,tx K⟩ P w mg base 3 "sum_of" ["reads", "by_word", "fates", "every"] Cg:=
 Nb.hide (Nb.Xa (qg a.Cg Jy λ_ _ _ _ _ _ _ b=>
  (rc (Rg (i:=4) Jy.nd rfl (Or.inl rfl) (Hn (LB rfl) (IC rfl) rfl a.aq vu (za (Bn (Ks (x:="read") (z0:="0") (M':=[]) (ix:=[]) rfl ⟨rfl,rfl,rfl,rfl,rfl,rfl⟩ (qt (Rn rfl (la 0))) (λ_ _ _ _ _=>Ji (i:=0) (by show List.Nodup (("read"::"0"::[]):List ma);decide +kernel) rfl (Or.inl rfl)) (λ_ _ _ _ _=>nu) (λ_ _ _ _ _=>(nc pc (lc rfl) (la 0) Ya (λ_ _=>rfl))))) Ta)))
  (rc (Kz Zp rfl (eG (la 1)) (Lx rfl (Xq (Ji (i:=5) Jy.nd rfl (Or.inl rfl)) (Xq (Ji (i:=6) Jy.nd rfl (Or.inl rfl)) Yw))) (Cc (fN (i:=4) JI Jy.nd rfl (Or.inl rfl) (Bd (fK a) rfl (b.mono (by decide)) rfl (za (la 6) (za (zq (Ed b) (la 2) (la 5) (λ_ _=>rfl)) (za (la 3) Ta)))))))
  (Cc (ud (la 4)))))))
noncomputable abbrev TQ:Stmt:=top 74
noncomputable abbrev oE:Ev->M Fl:=(Rq (Yc 2 Se [] (ua (ga 6) (ua (ga 2) Ma))) (ga 4) (ga 5))
noncomputable def BN:Ev->M Fl:=
 (kc (jg 3 (Yc 1 ae [] (ua (ga 0) Ma))) (kc (jg 4 Pq) (kc (nq (Ls (ga 3)) (Xp 2 (Fk (yf 5) (Fk (yf 6) Cq))) oE) (pd (vf (ua (Yc 4 Cg [] (ua (ga 0) (ua (ga 3) (ua (ga 4) (ua (ga 2) Ma))))) (ua (ga 1) (ua (ga 4) Ma))))))))
noncomputable def Td:List D->M D:=hide λa=>Xa (run 7 BN a)
theorem Pz:wa ["reads", "chosen", "every", "by_word", "fates", "word", "lots"] ["reads", "chosen", "every"] (Ec TQ):=ke rfl rfl rfl (by decide +kernel)
theorem ZT(a:Txt K mg ca):Nb ⟨K,ca,tx K⟩ P w mg base 6 "least_paper" ["reads", "chosen", "every"] Td:=
 Nb.hide (Nb.Xa (qg a.Td Pz λ_ _ _ _ _ _ _ b=>
  (rc (Rg (i:=3) Pz.nd rfl (Or.inl rfl) (Bd (aZ a) rfl (b.mono (by decide)) rfl (za (la 0) Ta)))
  (rc (Rg (i:=4) Pz.nd rfl (Or.inl rfl) Zt)
  (rc (Kz Zp rfl (eG (la 3)) (Lx rfl (Xq (Ji (i:=5) Pz.nd rfl (Or.inl rfl)) (Xq (Ji (i:=6) Pz.nd rfl (Or.inl rfl)) Yw))) (Cc (Ps (Ed b) (Bd (MP a) rfl (b.mono (by decide)) rfl (za (la 6) (za (la 2) Ta))) (la 4) (la 5))))
  (Cc (ud (Hf (za (Bd (CT a) rfl (b.mono (by decide)) rfl (za (la 0) (za (la 3) (za (la 4) (za (la 2) Ta))))) (za (la 1) (za (la 4) Ta)))))))))))
noncomputable abbrev vW:Stmt:=top 67
noncomputable def UL:Ev->M Fl:=
 (pd (si (Im (Wv (ga 0) (ga 1)) [] (Xp 2 (Fk (yf 0) (Fk (yf 1) Cq))) Xm (Ha Ua (ga 0) (ga 1)))))
noncomputable def Kc:List D->M D:=hide λa=>Xa (run 2 UL a)
theorem l3:wa ["readings", "chosen"] ["readings", "chosen"] (Ec vW):=ke rfl rfl rfl (by decide +kernel)
theorem SR(a:Txt K mg ca):Nb ⟨K,ca,tx K⟩ P w mg base 1 "chosen_readings" ["readings", "chosen"] Kc:=
 Nb.hide (Nb.Xa (qg a.Kc l3 λ_ _ _ _ _ _ _ b=>
  (Cc (ud (Bn (Ks (x:="stands") (z0:="place") (M':=[]) (ix:=[]) rfl ⟨rfl,rfl,rfl,rfl,rfl,rfl⟩ (BR rfl a.Sy (la 0) (la 1)) (λ_ _ _ _ _=>Lx rfl (Xq (Ji (i:=0) (by show List.Nodup (("stands"::"place"::[]):List ma);decide +kernel) rfl (Or.inl rfl)) (Xq (Ji (i:=1) (by show List.Nodup (("stands"::"place"::[]):List ma);decide +kernel) rfl (Or.inl rfl)) Yw))) (λ_ _ _ _ _=>nu) (λ_ _ _ _ _=>(nc pc (lc rfl) (la 0) (la 1) (λ_ _=>rfl)))))))))
noncomputable abbrev CW:Stmt:=top 75
noncomputable def wH:Ev->M Fl:=
 (kc (jg 1 (Yc 1 ff [] (ua (ga 0) Ma))) (kc (jg 2 (si (Im (toN (Vi (Yc 1 Sd [] (ua (ga 1) Ma)))) [1,0] (yf 0) Xm (Yc 3 Td [] (ua (Yc 2 Kc [] (ua (ga 2) (ua (ga 0) Ma))) (ua (ga 0) (ua (Fd (Zc [8,9] "every") (ga 3)) Ma))))))) (pd (FC [] (Ha Ua (ga 0) (eC (.int 0))) (ua (ga 2) Ma)))))
noncomputable def li:List D->M D:=hide λa=>Xa (run 3 wH a)
theorem gG:wa ["view", "readings", "papers"] ["view"] (Ec CW):=ke rfl rfl rfl (by decide +kernel)
theorem NS(a:Txt K mg ca):Nb ⟨K,ca,tx K⟩ P w mg base 7 "paper" ["view"] li:=
 Nb.hide (Nb.Xa (SK a.li gG λ_ _ _ _ _ _ b=>
  (rc (Rg (i:=1) gG.nd rfl (Or.inr rfl) (Bd (R3 a) rfl (b.mono (by decide)) rfl (za (la 0) Ta)))
  (rc (qP (YS (i:=2) gG.nd rfl (Or.inl rfl) (x:="chosen") (z0:="0") (M':=["readings", "view"]) (ix:=[1,0]) rfl ⟨rfl,rfl,rfl,rfl,rfl,rfl⟩ (qt (Rn rfl (Bd (wX a) rfl (b.mono (by decide)) rfl (za (la 1) Ta)))) (λ_ _ _ _ _=>Ji (i:=0) (by show List.Nodup (("chosen"::"0"::["readings", "view"]):List ma);decide +kernel) rfl (Or.inl rfl)) (λ_ _ _ _ _=>nu) (λ_ _ _ _ _=>(Bd (ZT a) rfl (b.mono (by decide)) rfl (za (Bd (SR a) rfl (b.mono (by decide)) rfl (za (la 2) (za (la 0) Ta))) (za (la 0) (za (Ue rfl (My a) (la 3)) Ta)))))))
  (Cc (ud (JK (x:="told") (M':=[]) (ix:=[]) (t:=rC K) (k:=0) (b.mono (by decide)) ⟨rfl,rfl,rfl,rfl,rfl,rfl⟩ rfl ⟨(aL K),λd c=>a.Ny _ (aL K) d c,rfl,a.tb.hd _ (by decide),rfl,rfl,rfl,a.eJ,a.tb.bb⟩ rfl a.Dr rfl rfl rfl (λ_ _ _ _ _=>rfl) (za (la 2) Ta) (λ_ _ _ _ _ b=>(nc pc (lc rfl) (la 0) Ya (λ_ _=>rfl))))))))))
noncomputable abbrev lZ:Stmt:=top 76
noncomputable def LH:Ev->M Fl:=
 (pd (Ha Ua (Yc 1 li [] (ua (ga 0) Ma)) (eC (.int 0))))
noncomputable def Bh:List D->M D:=hide λa=>Xa (run 1 LH a)
theorem EX:wa ["view"] ["view"] (Ec lZ):=ke rfl rfl rfl (by decide +kernel)
theorem ZI(a:Txt K mg ca):Nb ⟨K,ca,tx K⟩ P w mg base 8 "worth" ["view"] Bh:=
 Nb.hide (Nb.Xa (qg a.Bh EX λ_ _ _ _ _ _ _ b=>
  (Cc (ud (nc pc (lc rfl) (Bd (NS a) rfl (b.mono (by decide)) rfl (za (la 0) Ta)) Ya (λ_ _=>rfl))))))
noncomputable abbrev OO:Stmt:=top 82
noncomputable def tM:Ev->M Fl:=
 (kc (rf (eT (Ha oEq (Ha Ua (ga 1) (eC (.int 0))) (eC (.str "held")))) (pd (Fd (Zc [4,5,6,7] "may") (ga 0))) xf) sj)
noncomputable def ze:List D->M D:=hide λa=>Xa (run 2 tM a)
theorem XZ:wa ["account", "claim"] ["account", "claim"] (Ec OO):=ke rfl rfl rfl (by decide +kernel)
theorem mW(a:Txt K mg ca):Nb ⟨K,ca,tx K⟩ P w mg base 1 "stands_told" ["account", "claim"] ze:=
 Nb.hide (Nb.Xa (qg a.ze XZ λ_ _ _ _ _ _ _ b=>
  (rc (Bf (zf (Vg (Ed b)) de (nc pc (lc rfl) (la 1) Ya (λ_ _=>rfl)) Fg (ve _)) (Cc (ud (Ue rfl (OA a) (la 0)))) Df)
  Ej)))
noncomputable abbrev vS:Stmt:=Yf (top 60) 0
noncomputable def tJ:Ev->M Fl:=
 (kc (yl [8,9] "every" (ga 1) (ga 0)) (kc (yl [8,9] "last_look" (ga 2) (ga 0)) (kc (yl [8,9] "known" (si (Nh vp (ua (ga 3) Ma))) (ga 0)) (yl [8] "pots" (si (Im (toN (Vi (ga 4))) [] (yf 0) Xm (vf (ua (Ha Ua (ga 0) (eC (.int 0))) (ua (si (Nh vp (ua (Ha Ua (ga 0) (eC (.int 1))) Ma))) (ua (Nh Dx (ua (Ha Ua (ga 0) (eC (.int 2))) Ma)) Ma)))))) (ga 0)))))
noncomputable def tp:List D->M D:=hide (run 5 tJ)
theorem BY:wa ["self", "every", "look", "words", "pots"] ["self", "every", "look", "words", "pots"] (Ec vS):=ke rfl rfl rfl (by decide +kernel)
theorem XX(a:Txt K mg ca):ue ⟨K,ca,tx K⟩ P w mg base 1 (ca 19) ["self", "every", "look", "words", "pots"] tp:=
 ue.hide (Rk a.tp BY λ_ _ _ _ _ _ b=>
  (rc (Zm rfl (My a) (la 0) (la 1))
  (rc (Zm rfl (xz a) (la 0) (la 2))
  (rc (Zm rfl (Rw a) (la 0) (Bn (fx CA (uB rfl) rfl a.yn ir (za (la 3) Ta))))
  (Cc (Zm rfl (GJ a) (la 0) (Bn (Ks (x:="pot") (z0:="0") (M':=[]) (ix:=[]) rfl ⟨rfl,rfl,rfl,rfl,rfl,rfl⟩ (qt (Rn rfl (la 4))) (λ_ _ _ _ _=>Ji (i:=0) (by show List.Nodup (("pot"::"0"::[]):List ma);decide +kernel) rfl (Or.inl rfl)) (λ_ _ _ _ _=>nu) (λ_ _ _ _ _=>(Hf (za (nc pc (lc rfl) (la 0) Ya (λ_ _=>rfl)) (za (Bn (fx CA (uB rfl) rfl a.yn ir (za (nc pc (lc rfl) (la 0) Ya (λ_ _=>rfl)) Ta))) (za (fx vI FP rfl a.Vr boot_dict (za (nc pc (lc rfl) (la 0) Ya (λ_ _=>rfl)) Ta)) Ta)))))))))))))
noncomputable abbrev F3:Stmt:=Yf (top 89) 3
noncomputable def XI:Ev->M Fl:=
 (pd (si (Nh bx (ua (Fd (Zc [8,9] "known") (ga 0)) Ma))))
noncomputable def Xc:List D->M D:=hide λa=>Xa (run 1 XI a)
theorem x3:wa ["self"] ["self"] (Ec F3):=ke rfl rfl rfl (by decide +kernel)
theorem eZ(a:Txt K mg ca):ue ⟨K,ca,tx K⟩ P w mg base 1 (ca 23) ["self"] Xc:=
 ue.hide (ue.Xa (Rk a.Xc x3 λ_ _ _ _ _ _ b=>
  (Cc (ud (Bn (Hn (FX rfl) (YR rfl) rfl a.Rr L4.iY (za (Ue rfl (Rw a) (la 0)) Ta)))))))
theorem Y2(a:Txt K mg ca):nl ⟨K,ca,tx K⟩ P w mg base 1 "words" ["self"] [(9,Xc)]:=(Dj (T:=⟨K,ca,tx K⟩) (c:=9) a.zb a.Xk (eZ a) (by decide) vm)
noncomputable abbrev cP:Stmt:=Yf (top 89) 7
noncomputable abbrev WB:Ev->M Fl:=(xr (Pw Qm (ga 2) (ua (vf (ua (Fd (Zc [4,5,6,7] "side") (ga 4)) (ua (Yc 2 ze [] (ua (ga 4) (ua (Ha xl (Fd (Zc [9] "claims") (ga 0)) (ga 3)) Ma))) (ua (Ha xl (Fd (Zc [9] "seen") (ga 0)) (ga 3)) Ma)))) Ma)))
noncomputable def HL:Ev->M Fl:=
 (kc (jg 2 (Tw Ma)) (kc (UA (ga 1) (nq (VB (ga 1)) (Xp 2 (Fk (yf 3) (Fk (yf 4) Cq))) WB)) (pd (si (Er 8 5 tp (ua (Fd (Zc [8,9] "every") (ga 0)) (ua (Fd (Zc [8,9] "last_look") (ga 0)) (ua (Pg [(9,Xc)] 1 "words" (ga 0) Ma) (ua (ga 2) Ma)))))))))
noncomputable def Xb:List D->M D:=hide λa=>Xa (run 5 HL a)
theorem sA:wa ["self", "accounts", "pots", "pot", "account"] ["self", "accounts"] (Ec cP):=ke rfl rfl rfl (by decide +kernel)
theorem A0(a:Txt K mg ca):ue ⟨K,ca,tx K⟩ P w mg base 3 (ca 27) ["self", "accounts"] Xb:=
 ue.hide (ue.Xa (Rk a.Xb sA λ_ _ _ _ _ _ b=>
  (rc (Rg (i:=2) sA.nd rfl (Or.inl rfl) (QA Ta))
  (rc (A1 (Kz Zp rfl (AR (la 1)) (Lx rfl (Xq (Ji (i:=3) sA.nd rfl (Or.inl rfl)) (Xq (Ji (i:=4) sA.nd rfl (Or.inl rfl)) Yw))) (Cc (iu (HB pf ah bh vC IA (la 2) (za (Hf (za (Ue rfl (Pu a) (la 4)) (za (Bd (mW a) rfl (b.mono (by decide)) rfl (za (la 4) (za (zq (Ed b) (Ue rfl (rA a) (la 0)) (la 3) (λ_ _=>rfl)) Ta))) (za (zq (Ed b) (Ue rfl (ZE a) (la 0)) (la 3) (λ_ _=>rfl)) Ta)))) Ta))))))
  (Cc (ud (Bn (XB (c:=8) (ps:=["self", "every", "look", "words", "pots"]) ⟨_,a.Jv,a.eu,XX a⟩ rfl (b.mono (by decide)) rfl (za (Ue rfl (My a) (la 0)) (za (Ue rfl (xz a) (la 0)) (za (Wp (k:=1) (ps:=["self"]) rfl (la 0) (Y2 a) (b.mono (by decide))) (za (la 2) Ta))))))))))))
theorem QK(a:Txt K mg ca):nl ⟨K,ca,tx K⟩ P w mg base 3 "view_by" ["self", "accounts"] [(9,Xb)]:=(Dj (T:=⟨K,ca,tx K⟩) (c:=9) a.zb a.kj (A0 a) (by decide) vm)
noncomputable abbrev X2:Stmt:=Yf (top 89) 8
noncomputable def iH:Ev->M Fl:=
 (pd (Pg [(9,Xb)] 2 "view_by" (ga 0) (ua (Fd (Zc [9] "accounts") (ga 0)) Ma)))
noncomputable def qd:List D->M D:=hide λa=>Xa (run 1 iH a)
theorem GR:wa ["self"] ["self"] (Ec X2):=ke rfl rfl rfl (by decide +kernel)
theorem TR(a:Txt K mg ca):ue ⟨K,ca,tx K⟩ P w mg base 4 (ca 28) ["self"] qd:=
 ue.hide (ue.Xa (Rk a.qd GR λ_ _ _ _ _ _ b=>
  (Cc (ud (Oj (k:=3) (ps:=["self", "accounts"]) rfl (la 0) (QK a) (b.mono (by decide)) (za (Ue rfl (bq a) (la 0)) Ta))))))
theorem QO(a:Txt K mg ca):nl ⟨K,ca,tx K⟩ P w mg base 4 "view" ["self"] [(9,qd)]:=(Dj (T:=⟨K,ca,tx K⟩) (c:=9) a.zb a.Nl (TR a) (by decide) vm)
noncomputable abbrev K1:Stmt:=Yf (top 89) 9
noncomputable def ZM:Ev->M Fl:=
 (pd (Yc 1 Bh [] (ua (Pg [(9,qd)] 1 "view" (ga 0) Ma) Ma)))
noncomputable def ib:List D->M D:=hide λa=>Xa (run 1 ZM a)
theorem pT:wa ["self"] ["self"] (Ec K1):=ke rfl rfl rfl (by decide +kernel)
theorem TX(a:Txt K mg ca):ue ⟨K,ca,tx K⟩ P w mg base 9 (ca 29) ["self"] ib:=
 ue.hide (ue.Xa (Rk a.ib pT λ_ _ _ _ _ _ b=>
  (Cc (ud (Bd (Nb.alias (ZI a) a.bi) rfl (b.mono (by decide)) rfl (za (Wp (k:=4) (ps:=["self"]) rfl (la 0) (QO a) (b.mono (by decide))) Ta))))))
theorem cC(a:Txt K mg ca):nl ⟨K,ca,tx K⟩ P w mg base 9 "worth" ["self"] [(9,ib)]:=(Dj (T:=⟨K,ca,tx K⟩) (c:=9) a.zb a.Nk (TX a) (by decide) vm)
noncomputable abbrev jX:Stmt:=Yf (top 89) 11
noncomputable def SH:Ev->M Fl:=
 (kc (jg 3 (Nh dB (ua (Fd (Zc [9] "accounts") (ga 0)) Ma))) (kc (Rq (ga 1) (ga 3) (Fd (Zc [4,5,6,7] "pot") (ga 1))) (pd (Ha oD (Yc 1 Bh [] (ua (Pg [(9,Xb)] 2 "view_by" (ga 0) (ua (ga 3) Ma)) Ma)) (Ha Xu (Pg [(9,ib)] 1 "worth" (ga 0) Ma) (ga 2))))))
noncomputable def qb:List D->M D:=hide λa=>Xa (run 4 SH a)
theorem MN:wa ["self", "account", "allowance", "accounts"] ["self", "account", "allowance"] (Ec jX):=ke rfl rfl rfl (by decide +kernel)
theorem wV(a:Txt K mg ca):ue ⟨K,ca,tx K⟩ P w mg base 10 (ca 31) ["self", "account", "allowance"] qb:=
 ue.hide (ue.Xa (Rk a.qb MN λ_ _ _ _ _ _ b=>
  (rc (Rg (i:=3) MN.nd rfl (Or.inl rfl) (fx vI BV rfl a.Vr boot_dict (za (Ue rfl (bq a) (la 0)) Ta)))
  (rc (Ps (Ed b) (la 1) (la 3) (Ue rfl (Qp a) (la 1)))
  (Cc (ud (Zk DI nI (Bd (Nb.alias (ZI a) a.bi) rfl (b.mono (by decide)) rfl (za (Oj (k:=3) (ps:=["self", "accounts"]) rfl (la 0) (QK a) (b.mono (by decide)) (za (la 3) Ta)) Ta)) (zh jw cw (Wp (k:=9) (ps:=["self"]) rfl (la 0) (cC a) (b.mono (by decide))) (la 2)) (ve _))))))))
theorem RN(a:Txt K mg ca):nl ⟨K,ca,tx K⟩ P w mg base 10 "is_good" ["self", "account", "allowance"] [(9,qb)]:=(Dj (T:=⟨K,ca,tx K⟩) (c:=9) a.zb a.ij (wV a) (by decide) vm)
noncomputable abbrev eW:Stmt:=Yf (top 89) 14
noncomputable abbrev gJ:Ev->M Fl:=(jg 3 (Ha Ua (ga 2) (eC (.int 1))))
noncomputable abbrev vM:Ev->M Fl:=(jg 4 (Fd (Zc [4,5,6,7] "side") (Ha xl (Fd (Zc [9] "accounts") (ga 0)) (ga 3))))
noncomputable abbrev HM:Ev->M Fl:=(jg 5 (Yc 1 be [] (ua (ga 2) Ma)))
noncomputable abbrev jN:Ev->M Fl:=(jg 6 (Yc 2 vg [] (ua (Ha xl (Fd (Zc [9] "accounts") (ga 0)) (ga 3)) (ua (ga 1) Ma))))
noncomputable abbrev sN:Ev->M Fl:=(rf (Al (eT (Pg [(9,qb)] 3 "is_good" (ga 0) (ua (Ha Ua (ga 6) (eC (.int 0))) (ua (ga 5) Ma))))) (pd (vf (ua (eC (.bl false)) (ua (Zi Ma) Ma)))) xf)
noncomputable abbrev WL:Ev->M Fl:=(rf (eT (Ha oEq (ga 4) (eC (.int 0)))) (kc (Rq (Ha Ua (ga 6) (eC (.int 0))) (Fd (Zc [9] "accounts") (ga 0)) (ga 3)) (yA [9] "gave" (ga 5) (ga 0))) (Rq (vf (ua (ga 5) (ua (Ha Ua (ga 1) (eC (.int 1))) (ua (Ha Ua (ga 1) (eC (.int 2))) Ma)))) (Fd (Zc [9] "asked") (ga 0)) (ga 3)))
noncomputable abbrev ON:Ev->M Fl:=(rf (eT (Ha oEq (Ha Ua (ga 2) (eC (.int 0))) (eC (.str "settle")))) (pd (vf (ua (eC (.bl true)) (ua (Zi (ua (vf (ua (eC (.str "word")) (ua (ga 3) (ua (Ha Ua (ga 2) (eC (.int 2))) Ma)))) (ua (Ha Ua (ga 6) (eC (.int 1))) Ma))) Ma)))) xf)
noncomputable abbrev NH:Ev->M Fl:=(pd (vf (ua (eC (.bl true)) (ua (Zi (ua (Ha Ua (ga 6) (eC (.int 1))) Ma)) Ma))))
noncomputable def DM:Ev->M Fl:=
 (kc gJ (kc vM (kc HM (kc jN (kc sN (kc WL (kc ON NH)))))))
noncomputable def qc:List D->M D:=hide (run 7 DM)
theorem uy:wa ["self", "one", "wish", "pot", "side", "allowance", "step"] ["self", "one", "wish"] (Ec eW):=ke rfl rfl rfl (by decide +kernel)
theorem Y1(a:Txt K mg ca):ue ⟨K,ca,tx K⟩ P w mg base 13 (ca 34) ["self", "one", "wish"] qc:=
 ue.hide (Rk a.qc uy λ_ _ _ _ _ _ b=>
  (rc (Rg (i:=3) uy.nd rfl (Or.inl rfl) (nc pc (lc rfl) (la 2) Ya (λ_ _=>rfl)))
  (rc (Rg (i:=4) uy.nd rfl (Or.inl rfl) (Ue rfl (Pu a) (zq (Ed b) (Ue rfl (bq a) (la 0)) (la 3) (λ_ _=>rfl))))
  (rc (Rg (i:=5) uy.nd rfl (Or.inl rfl) (Bd (aT a) rfl (b.mono (by decide)) rfl (za (la 2) Ta)))
  (rc (Rg (i:=6) uy.nd rfl (Or.inl rfl) (Bd (zO a) rfl (b.mono (by decide)) rfl (za (zq (Ed b) (Ue rfl (bq a) (la 0)) (la 3) (λ_ _=>rfl)) (za (la 1) Ta))))
  (rc (Bf (lm (Cj (Oj (k:=10) (ps:=["self", "account", "allowance"]) rfl (la 0) (RN a) (b.mono (by decide)) (za (nc pc (lc rfl) (la 6) Ya (λ_ _=>rfl)) (za (la 5) Ta))))) (Cc (ud (Hf (za cn (za (ml Ta) Ta))))) Df)
  (rc (Bf (zf (Vg (Ed b)) de (la 4) Ya (ve _)) (rc (Ps (Ed b) (nc pc (lc rfl) (la 6) Ya (λ_ _=>rfl)) (Ue rfl (bq a) (la 0)) (la 3))
  (Cc (FK rfl (JC a) (la 0) (la 5)))) (Cc (Ps (Ed b) (Hf (za (la 5) (za (nc pc (lc rfl) (la 1) Ya (λ_ _=>rfl)) (za (nc pc (lc rfl) (la 1) Ya (λ_ _=>rfl)) Ta)))) (Ue rfl (Nw a) (la 0)) (la 3))))
  (rc (Bf (zf (Vg (Ed b)) de (nc pc (lc rfl) (la 2) Ya (λ_ _=>rfl)) Fg (ve _)) (Cc (ud (Hf (za cn (za (ml (za (Hf (za Fg (za (la 3) (za (nc pc (lc rfl) (la 2) Ya (λ_ _=>rfl)) Ta)))) (za (nc pc (lc rfl) (la 6) Ya (λ_ _=>rfl)) Ta))) Ta))))) Df)
  (Cc (ud (Hf (za cn (za (ml (za (nc pc (lc rfl) (la 6) Ya (λ_ _=>rfl)) Ta)) Ta)))))))))))))
theorem S2(a:Txt K mg ca):nl ⟨K,ca,tx K⟩ P w mg base 13 "wish_for" ["self", "one", "wish"] [(9,qc)]:=(Dj (T:=⟨K,ca,tx K⟩) (c:=9) a.zb a.Li (Y1 a) (by decide) vm)
noncomputable abbrev DZ:Stmt:=Yf (top 89) 13
noncomputable abbrev YL:Ev->M Fl:=(rf (Al (eT (Pg [(9,wc)] 2 "holds" (ga 0) (ua (Ha Ua (ga 1) (eC (.int 1))) Ma)))) sj xf)
noncomputable abbrev qN:Ev->M Fl:=(rf (eT (Ha oEq (Ha Ua (ga 1) (eC (.int 0))) (eC (.str "finish")))) sj xf)
noncomputable abbrev qI:Ev->M Fl:=(jg 2 (Ha xl (Fd (Zc [9] "accounts") (ga 0)) (Ha Ua (ga 1) (eC (.int 1)))))
noncomputable abbrev HI:Ev->M Fl:=(rf (eT (Ha di (Pg [(5,Bb),(6,yc),(7,Bc)] 1 "word" (ga 2) Ma) (eC (.str "calm")))) sj xf)
noncomputable abbrev MJ:Ev->M Fl:=(DE (jg 3 (Yc 3 Zd [] (ua (ga 2) (ua (ga 1) (ua (Fd (Zc [8,9] "known") (ga 0)) Ma))))) (⟨(NN [(1,true)]),none,(pd (vf (ua (eC (.bl false)) (ua (Zi Ma) Ma))))⟩::[]))
noncomputable abbrev BM:Ev->M Fl:=(pd (Pg [(9,qc)] 3 "wish_for" (ga 0) (ua (ga 3) (ua (ga 1) Ma))))
noncomputable def QL:Ev->M Fl:=
 (kc YL (kc qN (kc qI (kc HI (kc MJ BM)))))
noncomputable def cc:List D->M D:=hide (run 4 QL)
theorem GE:wa ["self", "wish", "account", "one"] ["self", "wish"] (Ec DZ):=ke rfl rfl rfl (by decide +kernel)
theorem Z0(a:Txt K mg ca):ue ⟨K,ca,tx K⟩ P w mg base 14 (ca 33) ["self", "wish"] cc:=
 ue.hide (Rk a.cc GE λ_ _ _ _ _ _ b=>
  (rc (Bf (lm (Cj (Oj (k:=1) (ps:=["self", "pot"]) rfl (la 0) (FH a) (b.mono (by decide)) (za (nc pc (lc rfl) (la 1) Ya (λ_ _=>rfl)) Ta)))) Ej Df)
  (rc (Bf (zf (Vg (Ed b)) de (nc pc (lc rfl) (la 1) Ya (λ_ _=>rfl)) Fg (ve _)) Ej Df)
  (rc (Rg (i:=2) GE.nd rfl (Or.inl rfl) (zq (Ed b) (Ue rfl (bq a) (la 0)) (nc pc (lc rfl) (la 1) Ya (λ_ _=>rfl)) (λ_ _=>rfl)))
  (rc (Bf (zf (Qn (Ed b)) de (Wp (k:=1) (ps:=["self"]) rfl (la 2) (UF a) (b.mono (by decide))) Fg (ve _)) Ej Df)
  (rc (dS rfl rfl (λ_ _ c=>(Cc (Rg (i:=3) GE.nd rfl (Or.inl rfl) (Bd (UO a) rfl (b.mono (by decide)) rfl (za (la 2) (za (la 1) (za (Ue rfl (Rw a) (la 0)) Ta))))))) (.cons rfl (by decide) (.inl a.Um) (VP (JR a.fj fT)) (λ_=>(Cc (ud (Hf (za cn (za (ml Ta) Ta)))))) .nil))
  (Cc (ud (Oj (k:=13) (ps:=["self", "one", "wish"]) rfl (la 0) (S2 a) (b.mono (by decide)) (za (la 3) (za (la 1) Ta)))))))))))
theorem fL(a:Txt K mg ca):nl ⟨K,ca,tx K⟩ P w mg base 14 "wish" ["self", "wish"] [(9,cc)]:=(Dj (T:=⟨K,ca,tx K⟩) (c:=9) a.zb a.Yl (Z0 a) (by decide) vm)
noncomputable abbrev yO:Stmt:=Yf (top 89) 5
noncomputable def yH:Ev->M Fl:=
 (pd (Fd (Zc [9] "gave") (ga 0)))
noncomputable def lb:List D->M D:=hide λa=>Xa (run 1 yH a)
theorem DQ:wa ["self"] ["self"] (Ec yO):=ke rfl rfl rfl (by decide +kernel)
theorem CY(a:Txt K mg ca):ue ⟨K,ca,tx K⟩ P w mg base 1 (ca 25) ["self"] lb:=
 ue.hide (ue.Xa (Rk a.lb DQ λ_ _ _ _ _ _ b=>
  (Cc (ud (Ue rfl (JC a) (la 0))))))
theorem az(a:Txt K mg ca):nl ⟨K,ca,tx K⟩ P w mg base 1 "given" ["self"] [(9,lb)]:=(Dj (T:=⟨K,ca,tx K⟩) (c:=9) a.zb a.Ak (CY a) (by decide) vm)
noncomputable abbrev wZ:Stmt:=Yf (top 89) 6
noncomputable def zM:Ev->M Fl:=
 (kc (rf (eT (Ha Vw (ga 1) (Fd (Zc [9] "accounts") (ga 0)))) sj xf) (pd (Ha xl (Fd (Zc [9] "accounts") (ga 0)) (ga 1))))
noncomputable def Va:List D->M D:=hide λa=>Xa (run 2 zM a)
theorem sV:wa ["self", "pot"] ["self", "pot"] (Ec wZ):=ke rfl rfl rfl (by decide +kernel)
theorem N3(a:Txt K mg ca):ue ⟨K,ca,tx K⟩ P w mg base 1 (ca 26) ["self", "pot"] Va:=
 ue.hide (ue.Xa (Rk a.Va sV λ_ _ _ _ _ _ b=>
  (rc (Bf (zf (JN (Ed b)) tH (la 1) (Ue rfl (bq a) (la 0)) rfl) Ej Df)
  (Cc (ud (zq (Ed b) (Ue rfl (bq a) (la 0)) (la 1) (λ_ _=>rfl)))))))
theorem Fz(a:Txt K mg ca):nl ⟨K,ca,tx K⟩ P w mg base 1 "account" ["self", "pot"] [(9,Va)]:=(Dj (T:=⟨K,ca,tx K⟩) (c:=9) a.zb a.lj (N3 a) (by decide) vm)
noncomputable abbrev t3:Stmt:=Yf (top 89) 17
noncomputable def WA:Ev->M Fl:=
 (kc (rf (mm (eT (Ha di (Ha Ua (ga 1) (eC (.int 0))) (eC (.str "offer")))) (eT (Ha Vw (Ha Ua (ga 1) (eC (.int 1))) (Fd (Zc [9] "asked") (ga 0))))) (pd (eC (.bl false))) xf) (pd (Ha oEq (mz (Ha Ua (Ha Ua (ga 1) (eC (.int 2))) (eC (.int 3))) (some (eC (.int 1))) none) (mz (Ha xl (Fd (Zc [9] "asked") (ga 0)) (Ha Ua (ga 1) (eC (.int 1)))) (some (eC (.int 1))) none))))
noncomputable def Fa:List D->M D:=hide λa=>Xa (run 2 WA a)
theorem BO:wa ["self", "letter"] ["self", "letter"] (Ec t3):=ke rfl rfl rfl (by decide +kernel)
theorem UU(b:Txt K mg ca):ue ⟨K,ca,tx K⟩ P w mg base 1 (ca 37) ["self", "letter"] Fa:=
 ue.hide (ue.Xa (Rk b.Fa BO λ_ _ _ _ _ _ a=>
  (rc (Bf (L2.PW.pt (Rm (zf (Qn (Ed a)) de (nc pc (lc rfl) (la 1) Ya (λ_ _=>rfl)) Fg (ve _)) (bp (zf (JN (Ed a)) tH (nc pc (lc rfl) (la 1) Ya (λ_ _=>rfl)) (Ue rfl (Nw b) (la 0)) rfl)))) (Cc (ud cn)) Df)
  (Cc (ud (Zk (Vg (Ed a)) de (aD rfl (nc pc (lc rfl) (nc pc (lc rfl) (la 1) Ya (λ_ _=>rfl)) Ya (λ_ _=>rfl)) (HD Ya) cD) (aD rfl (zq (Ed a) (Ue rfl (Nw b) (la 0)) (nc pc (lc rfl) (la 1) Ya (λ_ _=>rfl)) (λ_ _=>rfl)) (HD Ya) cD) (ve _)))))))
theorem uZ(a:Txt K mg ca):nl ⟨K,ca,tx K⟩ P w mg base 1 "is_as_asked" ["self", "letter"] [(9,Fa)]:=(Dj (T:=⟨K,ca,tx K⟩) (c:=9) a.zb a.Ph (UU a) (by decide) vm)
noncomputable abbrev QZ:Stmt:=Yf (top 89) 18
noncomputable abbrev Py:Ev->M Fl:=(jg 2 (Ha Ua (ga 1) (eC (.int 1))))
noncomputable abbrev Ey:Ev->M Fl:=(jg 3 (Pg [(5,Cb),(6,Vb),(7,xb)] 2 "taken" (Ha xl (Fd (Zc [9] "accounts") (ga 0)) (ga 2)) (ua (ga 1) Ma)))
noncomputable abbrev Mz:Ev->M Fl:=(rf (eT (Ha (cy [(7,5),(5,7)]) (Ha Ua (ga 3) (eC (.int 0))) (Ha xl (Fd (Zc [9] "accounts") (ga 0)) (ga 2)))) (pd (Zi Ma)) xf)
noncomputable abbrev By:Ev->M Fl:=(jg 4 (Pg [(9,Fa)] 2 "is_as_asked" (ga 0) (ua (ga 1) Ma)))
noncomputable abbrev fy:Ev->M Fl:=(jg 5 (Ku (eT (ga 4)) (Ha Ua (Ha xl (Fd (Zc [9] "asked") (ga 0)) (ga 2)) (eC (.int 0))) (eC (.int 0))))
noncomputable abbrev pz:Ev->M Fl:=(rf (Al (eT (Pg [(9,qb)] 3 "is_good" (ga 0) (ua (Ha Ua (ga 3) (eC (.int 0))) (ua (ga 5) Ma))))) (pd (Zi Ma)) xf)
noncomputable abbrev kz:Ev->M Fl:=(Rq (Ha Ua (ga 3) (eC (.int 0))) (Fd (Zc [9] "accounts") (ga 0)) (ga 2))
noncomputable abbrev Dy:Ev->M Fl:=(rf (eT (ga 4)) (kc (xr (vA Jx (Fd (Zc [9] "asked") (ga 0)) (ua (ga 2) Ma))) (yA [9] "gave" (ga 5) (ga 0))) xf)
noncomputable abbrev Oy:Ev->M Fl:=(pd (Ku (eT (Ha Os (Ha Ua (ga 3) (eC (.int 1))) (eC .Jb))) (Zi Ma) (Zi (ua (Ha Ua (ga 3) (eC (.int 1))) Ma))))
noncomputable def nz:Ev->M Fl:=
 (kc Py (kc Ey (kc Mz (kc By (kc fy (kc pz (kc kz (kc Dy Oy))))))))
noncomputable def Ia:List D->M D:=hide (run 6 nz)
theorem gz:wa ["self", "letter", "pot", "step", "as_asked", "allowance"] ["self", "letter"] (Ec QZ):=ke rfl rfl rfl (by decide +kernel)
theorem dZ(a:Txt K mg ca):ue ⟨K,ca,tx K⟩ P w mg base 12 (ca 38) ["self", "letter"] Ia:=
 ue.hide (Rk a.Ia gz λ_ _ _ _ _ _ b=>
  (rc (Rg (i:=2) gz.nd rfl (Or.inl rfl) (nc pc (lc rfl) (la 1) Ya (λ_ _=>rfl)))
  (rc (Rg (i:=3) gz.nd rfl (Or.inl rfl) (Oj (k:=11) (ps:=["self", "letter"]) rfl (zq (Ed b) (Ue rfl (bq a) (la 0)) (la 2) (λ_ _=>rfl)) (WJ a) (b.mono (by decide)) (za (la 1) Ta)))
  (rc (Bf (zf (SX (Ed b)) (PV (K:=K) (cJ a.ik a.qo a.Dk a.wk (cJ a.qo a.ik a.il a.Qk zX))) (nc pc (lc rfl) (la 3) Ya (λ_ _=>rfl)) (zq (Ed b) (Ue rfl (bq a) (la 0)) (la 2) (λ_ _=>rfl)) rfl) (Cc (ud (ml Ta))) Df)
  (rc (Rg (i:=4) gz.nd rfl (Or.inl rfl) (Oj (k:=1) (ps:=["self", "letter"]) rfl (la 0) (uZ a) (b.mono (by decide)) (za (la 1) Ta)))
  (rc (Rg (i:=5) gz.nd rfl (Or.inl rfl) (iz (Cj (la 4)) (nc pc (lc rfl) (zq (Ed b) (Ue rfl (Nw a) (la 0)) (la 2) (λ_ _=>rfl)) Ya (λ_ _=>rfl)) Ya))
  (rc (Bf (lm (Cj (Oj (k:=10) (ps:=["self", "account", "allowance"]) rfl (la 0) (RN a) (b.mono (by decide)) (za (nc pc (lc rfl) (la 3) Ya (λ_ _=>rfl)) (za (la 5) Ta))))) (Cc (ud (ml Ta))) Df)
  (rc (Ps (Ed b) (nc pc (lc rfl) (la 3) Ya (λ_ _=>rfl)) (Ue rfl (bq a) (la 0)) (la 2))
  (rc (Bf (Cj (la 4)) (rc (iu (CM mf bo PySem.F.type_dict_pop ZW UR (Ue rfl (Nw a) (la 0)) (za (la 2) Ta)))
  (Cc (FK rfl (JC a) (la 0) (la 5)))) Df)
  (Cc (ud (iz (zf qB oC (nc pc (lc rfl) (la 3) Ya (λ_ _=>rfl)) Js (ve _)) (ml Ta) (ml (za (nc pc (lc rfl) (la 3) Ya (λ_ _=>rfl)) Ta))))))))))))))
theorem cV(a:Txt K mg ca):nl ⟨K,ca,tx K⟩ P w mg base 12 "take_step" ["self", "letter"] [(9,Ia)]:=(Dj (T:=⟨K,ca,tx K⟩) (c:=9) a.zb a.ti (dZ a) (by decide) vm)
noncomputable abbrev Q2:Stmt:=Yf (top 89) 15
noncomputable def kI:Ev->M Fl:=
 (kc (rf (Al (eT (Yc 1 Wc [] (ua (ga 1) Ma)))) sj xf) (kc (rf (eT (Ha oEq (Ha Ua (ga 1) (eC (.int 0))) (eC (.str "word")))) sj xf) (kc (rf (Al (eT (Pg [(9,wc)] 2 "holds" (ga 0) (ua (Ha Ua (ga 1) (eC (.int 1))) Ma)))) sj xf) (kc (rf (eT (Ha oEq (Ha Ua (ga 1) (eC (.int 0))) (eC (.str "ask")))) sj xf) (pd (Pg [(9,Ia)] 2 "take_step" (ga 0) (ua (ga 1) Ma)))))))
noncomputable def dc:List D->M D:=hide (run 2 kI)
theorem jT:wa ["self", "letter"] ["self", "letter"] (Ec Q2):=ke rfl rfl rfl (by decide +kernel)
theorem IU(b:Txt K mg ca):ue ⟨K,ca,tx K⟩ P w mg base 13 (ca 35) ["self", "letter"] dc:=
 ue.hide (Rk b.dc jT λ_ _ _ _ _ _ a=>
  (rc (Bf (lm (Cj (Bd (wD b) rfl (a.mono (by decide)) rfl (za (la 1) Ta)))) Ej Df)
  (rc (Bf (zf (Vg (Ed a)) de (nc pc (lc rfl) (la 1) Ya (λ_ _=>rfl)) Fg (ve _)) Ej Df)
  (rc (Bf (lm (Cj (Oj (k:=1) (ps:=["self", "pot"]) rfl (la 0) (FH b) (a.mono (by decide)) (za (nc pc (lc rfl) (la 1) Ya (λ_ _=>rfl)) Ta)))) Ej Df)
  (rc (Bf (zf (Vg (Ed a)) de (nc pc (lc rfl) (la 1) Ya (λ_ _=>rfl)) Fg (ve _)) Ej Df)
  (Cc (ud (Oj (k:=12) (ps:=["self", "letter"]) rfl (la 0) (cV b) (a.mono (by decide)) (za (la 1) Ta)))))))))
theorem IK(a:Txt K mg ca):nl ⟨K,ca,tx K⟩ P w mg base 13 "take" ["self", "letter"] [(9,dc)]:=(Dj (T:=⟨K,ca,tx K⟩) (c:=9) a.zb a.Ol (IU a) (by decide) vm)
noncomputable abbrev lR:Stmt:=top 92
noncomputable abbrev WE:Ev->M Fl:=(jg 3 (Fd (Zc [4,5,6,7] "mine") (Pg [(9,Va)] 2 "account" (ga 0) (ua (eC (.int 0)) Ma))))
noncomputable abbrev HG:Ev->M Fl:=(jg 4 (vf (ua (Ha gj (Ha Ua (ga 3) (eC (.int 0))) (eC (.int 1))) (ua (ga 1) (ua (ga 2) Ma)))))
noncomputable abbrev qE:Ev->M Fl:=(rf (eT (Ha oEq (Pg [(9,dc)] 2 "take" (ga 0) (ua (vf (ua (eC (.str "offer")) (ua (eC (.int 0)) (ua (vf (ua (eC (.str "agree")) (ua (eC (.int 0)) (ua (eC (.int 0)) (ua (ga 4) Ma))))) Ma)))) Ma)) (Zi Ma))) (pd (eC (.bl false))) xf)
noncomputable abbrev aF:Ev->M Fl:=(xr (Pg [(9,dc)] 2 "take" (ga 0) (ua (vf (ua (eC (.str "struck")) (ua (eC (.int 0)) (ua (vf (ua (eC (.str "strike")) (ua (eC (.int 0)) (ua (eC (.int 0)) (ua (Ha Ua (ga 3) (eC (.int 0))) Ma))))) Ma)))) Ma)))
noncomputable abbrev vG:Ev->M Fl:=(pd (Bi (Ha oEq (Fd (Zc [4,5,6,7] "mine") (Pg [(9,Va)] 2 "account" (ga 0) (ua (eC (.int 0)) Ma))) (ga 4)) (Ha oEq (Pg [(5,Bb),(6,yc),(7,Bc)] 1 "word" (Pg [(9,Va)] 2 "account" (ga 0) (ua (eC (.int 0)) Ma)) Ma) (eC (.str "calm")))))
noncomputable def LD:Ev->M Fl:=
 (kc WE (kc HG (kc qE (kc aF vG))))
noncomputable def db:List D->M D:=hide (run 5 LD)
theorem jG:wa ["_law_keeper", "_law_split", "_law_ties", "_law_one", "_law_new"] ["_law_keeper", "_law_split", "_law_ties"] (Ec lR):=ke rfl rfl rfl (by decide +kernel)
theorem aw(a:Txt K mg ca):Nb ⟨K,ca,tx K⟩ P w mg base 14 "_law_offer" ["_law_keeper", "_law_split", "_law_ties"] db:=
 Nb.hide (qg a.db jG λ_ _ _ _ _ _ _ b=>
  (rc (Rg (i:=3) jG.nd rfl (Or.inl rfl) (Ue rfl (bu a) (Oj (k:=1) (ps:=["self", "pot"]) rfl (la 0) (Fz a) (b.mono (by decide)) (za Ya Ta))))
  (rc (Rg (i:=4) jG.nd rfl (Or.inl rfl) (Hf (za (zh (An rfl) de (nc pc (lc rfl) (la 3) Ya (λ_ _=>rfl)) Ya) (za (la 1) (za (la 2) Ta)))))
  (rc (Bf (zf (Vg (Ed b)) de (Oj (k:=13) (ps:=["self", "letter"]) rfl (la 0) (IK a) (b.mono (by decide)) (za (Hf (za Fg (za Ya (za (Hf (za Fg (za Ya (za Ya (za (la 4) Ta))))) Ta)))) Ta)) (ml Ta) (ve _)) (Cc (ud cn)) Df)
  (rc (iu (Oj (k:=13) (ps:=["self", "letter"]) rfl (la 0) (IK a) (b.mono (by decide)) (za (Hf (za Fg (za Ya (za (Hf (za Fg (za Ya (za Ya (za (nc pc (lc rfl) (la 3) Ya (λ_ _=>rfl)) Ta))))) Ta)))) Ta)))
  (Cc (ud (Mi (Zk (Vg (Ed b)) de (Ue rfl (bu a) (Oj (k:=1) (ps:=["self", "pot"]) rfl (la 0) (Fz a) (b.mono (by decide)) (za Ya Ta))) (la 4) (ve _)) (Cm (Zk (Vg (Ed b)) de (Wp (k:=1) (ps:=["self"]) rfl (Oj (k:=1) (ps:=["self", "pot"]) rfl (la 0) (Fz a) (b.mono (by decide)) (za Ya Ta)) (UF a) (b.mono (by decide))) Fg (ve _)))))))))))
noncomputable abbrev J1:Stmt:=top 94
noncomputable abbrev iD:Ev->M Fl:=(kc (jg 6 (vf (ua (eC (.bl true)) (ua (Zi (ua (vf (ua (eC (.str "ask")) (ua (eC (.int 0)) (ua (Yc 2 Hc [] (ua (ga 1) (ua (ga 5) Ma))) (ua (vf Ma) Ma))))) Ma)) Ma)))) (rf (mm (eT (Ha di (Pg [(9,cc)] 2 "wish" (ga 2) (ua (vf (ua (eC (.str "give")) (ua (eC (.int 0)) (ua (ga 5) Ma)))) Ma)) (ga 6))) (eT (Ha di (Pg [(9,lb)] 1 "given" (ga 2) Ma) (eC (.int 0))))) (pd (eC (.bl false))) xf))
noncomputable abbrev u1:Ev->M Fl:=(jg 1 (vf (ua (Ha wq (Yc 2 Na [] (ua (ga 0) (ua (eC (.int 0)) Ma))) (Ha gj (Ha Yr (eC (.int 10)) (eC (.int 12))) (eC (.int 1)))) (ua (Ha gj (eC (.int 3)) (Ha wq (Yc 2 Na [] (ua (ga 0) (ua (eC (.int 1)) Ma))) (Ha Xu (Ha Yr (eC (.int 10)) (eC (.int 12))) (eC (.int 2))))) Ma))))
noncomputable abbrev u2:Ev->M Fl:=(jg 2 (Er 9 5 Eo (qx [.Jb] (ua (eC (.int 2)) (ua (Ha gj (eC (.int 1)) (Ha wq (Yc 2 Na [] (ua (ga 0) (ua (eC (.int 2)) Ma))) (eC (.int 9)))) (ua (Zi (ua (vf (ua (eC (.int 1)) (ua (eC (.int 2)) (ua (Ha Ua (ga 1) (eC (.int 0))) (ua (Ha Ua (ga 1) (eC (.int 1))) (ua (eC (.int 20)) Ma)))))) Ma)) Ma))))))
noncomputable abbrev u3:Ev->M Fl:=(jg 3 (Ha gj (eC (.int 1)) (Ha wq (Yc 2 Na [] (ua (ga 0) (ua (eC (.int 3)) Ma))) (Ha Ua (ga 1) (eC (.int 1))))))
noncomputable abbrev u4:Ev->M Fl:=(jg 4 (Ha gj (eC (.int 1)) (Ha wq (Yc 2 Na [] (ua (ga 0) (ua (eC (.int 4)) Ma))) (Ha Ua (ga 1) (eC (.int 1))))))
noncomputable abbrev u5:Ev->M Fl:=(rf (eT (Ha oEq (Ha wq (Yc 2 Na [] (ua (ga 0) (ua (eC (.int 5)) Ma))) (eC (.int 4))) (eC (.int 1)))) (jg 4 (ga 3)) xf)
noncomputable abbrev u6:Ev->M Fl:=(Ur (Vi (Zi (ua (ga 3) (ua (ga 4) Ma)))) (yf 5) iD)
noncomputable abbrev u7:Ev->M Fl:=(rf (eT (Ha di (ga 3) (ga 4))) (kc (rf (mm (eT (Yc 3 db [] (ua (ga 2) (ua (Yc 2 Hc [] (ua (ga 1) (ua (ga 3) Ma))) (ua (vf Ma) Ma))))) (eT (Ha di (Pg [(9,lb)] 1 "given" (ga 2) Ma) (eC (.int 0))))) (pd (eC (.bl false))) xf) (rf (eT (Ha di (Fd (Zc [4,5,6,7] "may") (Pg [(9,Va)] 2 "account" (ga 2) (ua (eC (.int 0)) Ma))) (Zi (ua (vf (ua (eC (.int 0)) (ua (ga 1) (ua (vf Ma) Ma)))) Ma)))) (pd (eC (.bl false))) xf)) xf)
noncomputable abbrev u8:Ev->M Fl:=(rf (mm (Al (eT (Yc 3 db [] (ua (ga 2) (ua (Yc 2 Hc [] (ua (ga 1) (ua (ga 4) Ma))) (ua (vf Ma) Ma)))))) (eT (Ha di (Pg [(9,lb)] 1 "given" (ga 2) Ma) (ga 4)))) (pd (eC (.bl false))) xf)
noncomputable abbrev u9:Ev->M Fl:=(rf (mm (eT (Ha di (Pg [(9,ib)] 1 "worth" (ga 2) Ma) (Ha Xu (Ha Ua (ga 1) (eC (.int 1))) (ga 4)))) (mm (Al (eT (Yc 3 db [] (ua (ga 2) (ua (ga 1) (ua (vf Ma) Ma)))))) (eT (Ha di (Pg [(9,ib)] 1 "worth" (ga 2) Ma) (Ha Ua (ga 1) (eC (.int 1))))))) (pd (eC (.bl false))) xf)
noncomputable abbrev WD:Ev->M Fl:=(rf (Xy (eT (Ha oEq (Ha wq (Ha cB (Yc 2 Na [] (ua (ga 0) (ua (eC (.int 5)) Ma))) (eC (.int 4))) (eC (.int 2))) (eC (.int 1)))) (eT (Ha HC (Ha Ua (ga 1) (eC (.int 0))) (eC (.int 0))))) (kc (jg 7 (vf (ua (eC (.int 0)) (ua (Ha gj (eC (.int 1)) (Ha wq (Yc 2 Na [] (ua (ga 0) (ua (eC (.int 6)) Ma))) (Nh Wz (ua (Ha Ua (ga 1) (eC (.int 0))) (ua (Ha Yr (eC (.int 10)) (eC (.int 12))) Ma))))) (ua (eC (.int 7)) (ua (eC (.int 5)) Ma)))))) (rf (mm (Al (eT (Yc 3 db [] (ua (ga 2) (ua (vf (ua (Ha Xu (Ha Ua (ga 1) (eC (.int 0))) (Ha Ua (ga 7) (eC (.int 1)))) (ua (Ha Ua (ga 1) (eC (.int 1))) Ma))) (ua (vf (ua (ga 7) Ma)) Ma)))))) (Al (eT (Yc 3 db [] (ua (ga 2) (ua (ga 1) (ua (vf Ma) Ma))))))) (pd (eC (.bl false))) xf)) xf)
noncomputable abbrev tG:Ev->M Fl:=(rf (eT (Yc 3 db [] (ua (ga 2) (ua (Yc 2 Hc [] (ua (ga 1) (ua (ga 4) Ma))) (ua (vf Ma) Ma))))) (pd (eC (.bl false))) xf)
noncomputable abbrev BF:Ev->M Fl:=(rf (mm (eT (Ha di (Pg [(9,lb)] 1 "given" (ga 2) Ma) (ga 4))) (mm (eT (Ha di (Pg [(9,ib)] 1 "worth" (ga 2) Ma) (Ha Ua (ga 1) (eC (.int 1))))) (eT (Ha di (Pg [(5,Bb),(6,yc),(7,Bc)] 1 "word" (Pg [(9,Va)] 2 "account" (ga 2) (ua (eC (.int 0)) Ma)) Ma) (eC (.str "calm")))))) (pd (eC (.bl false))) xf)
noncomputable abbrev VF:Ev->M Fl:=(rf (eT (Ha di (Pg [(9,cc)] 2 "wish" (ga 2) (ua (vf (ua (eC (.str "give")) (ua (eC (.int 0)) (ua (ga 4) Ma)))) Ma)) (vf (ua (eC (.bl true)) (ua (Zi (ua (vf (ua (eC (.str "ask")) (ua (eC (.int 0)) (ua (Yc 2 Hc [] (ua (ga 1) (ua (ga 4) Ma))) (ua (vf Ma) Ma))))) Ma)) Ma))))) (pd (eC (.bl false))) xf)
noncomputable abbrev pF:Ev->M Fl:=(pd (Bi (Yc 3 db [] (ua (ga 2) (ua (Yc 2 Hc [] (ua (ga 1) (ua (ga 4) Ma))) (ua (vf Ma) Ma)))) (Ha oEq (Pg [(9,lb)] 1 "given" (ga 2) Ma) (Ha XA (eC (.int 2)) (ga 4)))))
noncomputable def mM:Ev->M Fl:=
 (kc u1 (kc u2 (kc u3 (kc u4 (kc u5 (kc u6 (kc u7 (kc u8 (kc u9 (kc WD (kc tG (kc BF (kc VF pF)))))))))))))
noncomputable def Vm:List D->M D:=run 8 mM
theorem mu:wa ["_law_script", "_law_coins", "_law_keeper", "_law_before", "_law_second", "_law_amount", "_law_asked", "_law_tie"] ["_law_script"] (Ec J1):=ke rfl rfl rfl (by decide +kernel)
theorem HZ(b:Txt K mg ca):pE ⟨K,ca,tx K⟩ P w mg 15 "law" ["_law_script"] Vm:=
 QY b.Vm mu λ_ _ _ _ _ _ _ _ a=>
  (rc (Rg (i:=1) mu.nd rfl (Or.inl rfl) (Hf (za (zh Su Tu (Bd (Uu b) rfl (a.mono (by decide)) rfl (za (la 0) (za Ya Ta))) (zh (An rfl) de (zh lG xF Ya Ya) Ya)) (za (zh (An rfl) de Ya (zh Su Tu (Bd (Uu b) rfl (a.mono (by decide)) rfl (za (la 0) (za Ya Ta))) (zh jw cw (zh lG xF Ya Ya) Ya))) Ta))))
  (rc (Rg (i:=2) mu.nd rfl (Or.inl rfl) (VZ (c:=9) (ps:=["self", "hand", "every", "pots", "words"]) b.Cr b.yq (HV b) (.inr rfl) cK AI rfl (a.mono (by decide)) rfl (za Ya (za (zh (An rfl) de Ya (zh Su Tu (Bd (Uu b) rfl (a.mono (by decide)) rfl (za (la 0) (za Ya Ta))) Ya)) (za (ml (za (Hf (za Ya (za Ya (za (nc pc (lc rfl) (la 1) Ya (λ_ _=>rfl)) (za (nc pc (lc rfl) (la 1) Ya (λ_ _=>rfl)) (za Ya Ta)))))) Ta)) Ta)))))
  (rc (Rg (i:=3) mu.nd rfl (Or.inl rfl) (zh (An rfl) de Ya (zh Su Tu (Bd (Uu b) rfl (a.mono (by decide)) rfl (za (la 0) (za Ya Ta))) (nc pc (lc rfl) (la 1) Ya (λ_ _=>rfl)))))
  (rc (Rg (i:=4) mu.nd rfl (Or.inl rfl) (zh (An rfl) de Ya (zh Su Tu (Bd (Uu b) rfl (a.mono (by decide)) rfl (za (la 0) (za Ya Ta))) (nc pc (lc rfl) (la 1) Ya (λ_ _=>rfl)))))
  (rc (Bf (zf (Vg (Ed a)) de (zh Su Tu (Bd (Uu b) rfl (a.mono (by decide)) rfl (za (la 0) (za Ya Ta))) Ya) Ya (ve _)) (Cc (Rg (i:=4) mu.nd rfl (Or.inl rfl) (la 3))) Df)
  (rc (yes Zp rfl (Rn rfl (ml (za (la 3) (za (la 4) Ta)))) (Ji (i:=5) mu.nd rfl (Or.inl rfl)) (rc (Rg (i:=6) mu.nd rfl (Or.inl rfl) (Hf (za cn (za (ml (za (Hf (za Fg (za Ya (za (Bd (Xw b) rfl (a.mono (by decide)) rfl (za (la 1) (za (la 5) Ta))) (za (Hf Ta) Ta))))) Ta)) Ta))))
  (Cc (Bf (L2.PW.pt (Rm (zf (Qn (Ed a)) de (Oj (k:=14) (ps:=["self", "wish"]) rfl (la 2) (fL b) (a.mono (by decide)) (za (Hf (za Fg (za Ya (za (la 5) Ta)))) Ta)) (la 6) (ve _)) (bp (zf (Qn (Ed a)) de (Wp (k:=1) (ps:=["self"]) rfl (la 2) (az b) (a.mono (by decide))) Ya (ve _))))) (Cc (ud cn)) Df))))
  (rc (Bf (zf (Qn (Ed a)) de (la 3) (la 4) (ve _)) (rc (Bf (L2.PW.pt (Rm (Cj (Bd (aw b) rfl (a.mono (by decide)) rfl (za (la 2) (za (Bd (Xw b) rfl (a.mono (by decide)) rfl (za (la 1) (za (la 3) Ta))) (za (Hf Ta) Ta))))) (bp (zf (Qn (Ed a)) de (Wp (k:=1) (ps:=["self"]) rfl (la 2) (az b) (a.mono (by decide))) Ya (ve _))))) (Cc (ud cn)) Df)
  (Cc (Bf (zf (Qn (Ed a)) de (Ue rfl (OA b) (Oj (k:=1) (ps:=["self", "pot"]) rfl (la 2) (Fz b) (a.mono (by decide)) (za Ya Ta))) (ml (za (Hf (za Ya (za (la 1) (za (Hf Ta) Ta)))) Ta)) (ve _)) (Cc (ud cn)) Df))) Df)
  (rc (Bf (L2.PW.pt (Rm (lm (Cj (Bd (aw b) rfl (a.mono (by decide)) rfl (za (la 2) (za (Bd (Xw b) rfl (a.mono (by decide)) rfl (za (la 1) (za (la 4) Ta))) (za (Hf Ta) Ta)))))) (bp (zf (Qn (Ed a)) de (Wp (k:=1) (ps:=["self"]) rfl (la 2) (az b) (a.mono (by decide))) (la 4) (ve _))))) (Cc (ud cn)) Df)
  (rc (Bf (L2.PW.pt (Rm (zf (Qn (Ed a)) de (Wp (k:=9) (ps:=["self"]) rfl (la 2) (cC b) (a.mono (by decide))) (zh jw cw (nc pc (lc rfl) (la 1) Ya (λ_ _=>rfl)) (la 4)) (ve _)) (Rm (lm (Cj (Bd (aw b) rfl (a.mono (by decide)) rfl (za (la 2) (za (la 1) (za (Hf Ta) Ta)))))) (bp (zf (Qn (Ed a)) de (Wp (k:=9) (ps:=["self"]) rfl (la 2) (cC b) (a.mono (by decide))) (nc pc (lc rfl) (la 1) Ya (λ_ _=>rfl)) (ve _)))))) (Cc (ud cn)) Df)
  (rc (Bf (L2.PW.pt (bD (zf (Vg (Ed a)) de (zh Su Tu (zh JO fR (Bd (Uu b) rfl (a.mono (by decide)) rfl (za (la 0) (za Ya Ta))) Ya) Ya) Ya (ve _)) (NE (zf EE nE (nc pc (lc rfl) (la 1) Ya (λ_ _=>rfl)) Ya (ve _))))) (rc (Rg (i:=7) mu.nd rfl (Or.inl rfl) (Hf (za Ya (za (zh (An rfl) de Ya (zh Su Tu (Bd (Uu b) rfl (a.mono (by decide)) rfl (za (la 0) (za Ya Ta))) (Hn (LW rfl) eV rfl b.Dr boot_min (za (nc pc (lc rfl) (la 1) Ya (λ_ _=>rfl)) (za (zh lG xF Ya Ya) Ta))))) (za Ya (za Ya Ta))))))
  (Cc (Bf (L2.PW.pt (Rm (lm (Cj (Bd (aw b) rfl (a.mono (by decide)) rfl (za (la 2) (za (Hf (za (zh jw cw (nc pc (lc rfl) (la 1) Ya (λ_ _=>rfl)) (nc pc (lc rfl) (la 7) Ya (λ_ _=>rfl))) (za (nc pc (lc rfl) (la 1) Ya (λ_ _=>rfl)) Ta))) (za (Hf (za (la 7) Ta)) Ta)))))) (bp (lm (Cj (Bd (aw b) rfl (a.mono (by decide)) rfl (za (la 2) (za (la 1) (za (Hf Ta) Ta))))))))) (Cc (ud cn)) Df))) Df)
  (rc (Bf (Cj (Bd (aw b) rfl (a.mono (by decide)) rfl (za (la 2) (za (Bd (Xw b) rfl (a.mono (by decide)) rfl (za (la 1) (za (la 4) Ta))) (za (Hf Ta) Ta))))) (Cc (ud cn)) Df)
  (rc (Bf (L2.PW.pt (Rm (zf (Qn (Ed a)) de (Wp (k:=1) (ps:=["self"]) rfl (la 2) (az b) (a.mono (by decide))) (la 4) (ve _)) (Rm (zf (Qn (Ed a)) de (Wp (k:=9) (ps:=["self"]) rfl (la 2) (cC b) (a.mono (by decide))) (nc pc (lc rfl) (la 1) Ya (λ_ _=>rfl)) (ve _)) (bp (zf (Qn (Ed a)) de (Wp (k:=1) (ps:=["self"]) rfl (Oj (k:=1) (ps:=["self", "pot"]) rfl (la 2) (Fz b) (a.mono (by decide)) (za Ya Ta)) (UF b) (a.mono (by decide))) Fg (ve _)))))) (Cc (ud cn)) Df)
  (rc (Bf (zf (Qn (Ed a)) de (Oj (k:=14) (ps:=["self", "wish"]) rfl (la 2) (fL b) (a.mono (by decide)) (za (Hf (za Fg (za Ya (za (la 4) Ta)))) Ta)) (Hf (za cn (za (ml (za (Hf (za Fg (za Ya (za (Bd (Xw b) rfl (a.mono (by decide)) rfl (za (la 1) (za (la 4) Ta))) (za (Hf Ta) Ta))))) Ta)) Ta))) (ve _)) (Cc (ud cn)) Df)
  (Cc (ud (Mi (Bd (aw b) rfl (a.mono (by decide)) rfl (za (la 2) (za (Bd (Xw b) rfl (a.mono (by decide)) rfl (za (la 1) (za (la 4) Ta))) (za (Hf Ta) Ta)))) (Cm (Zk (Vg (Ed a)) de (Wp (k:=1) (ps:=["self"]) rfl (la 2) (az b) (a.mono (by decide))) (zh OW AZ Ya (la 4)) (ve _)))))))))))))))))))
end
end K48
namespace K48
open PySem L2 L4
set_option maxHeartbeats 4000000
section
variable{α:Type}{xs:List α}{σ:ub}{fi:Ev->M Bool}{fe:Ev->M D}{tg:D->Ev->Option Ev}{nx:NX}{Kg:Ev}
theorem UX(O:Option D->Prop)(v a:α->D)(b:α->Option D)(p:α->Bool)(y:α->D)(hn:∀ i j,i<=xs.length->nx i (σ++j)=some ((xs[i]?).map v))(q:∀ x o c,O c->tg (v x) (o::c::Kg)=some (some (a x)::b x::Kg)/\O (b x))
  (step:∀ x∈xs,∀ j,fi (some (a x)::b x::Kg) (σ++j)=.ok (p x) (σ++j)/\(p x=true->fe (some (a x)::b x::Kg) (σ++j)=.ok (y x) (σ++j))) (s:xs.length<=1000) :
  ∀ (k i:Nat) (o c:Option D) (ys:List D),O c->xs.length<k+i->i<=xs.length->ys.length<=i->
   pj nx σ.length tg fi fe k i (o::c::Kg) (σ++[.lst ys])=.ok () (σ++[.lst (ys++((xs.drop i).filter p).map y)]):=by
 intro k;induction k with
 |zero=>intro i o c ys _ h1 h;omega
 |succ k l=>
  intro i o c ys n h1 h t;unfold pj;rw[hn i _ h];cases e:xs[i]? with
  |none=>
   have f:xs.length<=i:=Sb.mp e;rw[Vo f];simp
  |some d=>
   obtain⟨f,g⟩:=ja.mp e;have hd:xs.drop i=d::xs.drop (i+1):=by rw[<-g];exact fh f
   obtain⟨s1,s2⟩:=step d (by rw[<-g];exact Bt f) [.lst ys];obtain⟨r,m⟩:=q d o c n;simp only[kg,r];rw[En,Vv s1,Tf];by_cases hp:p d=true
   ·rw[hp,da rfl,En,Vv (s2 hp),Tf,En,vB (by omega),Tf,l (i+1) _ _ (ys++[y d]) m (by omega) (by omega) (by simp;omega),hd,Xe,da hp];simp
   ·rw[ka hp,l (i+1) _ _ ys m (by omega) (by omega) (by omega),hd,Xe,ka hp]
end
theorem Ez{σ:ub}{xs:List D}(h:af xs=true):eh σ (.ok (.ref σ.length) (σ++[.lst xs]))=.ok (.lst xs) σ:=by
 have:=xL (σ:=σ) (j:=[]) (j':=[]) h;simpa using this
theorem gF{src:Ev->M Src}{s:Src}{ix:List Nat}{fi:Ev->M Bool}{fe:Ev->M D}{ds:List D}{ρ:Ev}{σ:ub}(y:D->D)(p:D->Bool)(hs:src ρ σ=.ok s σ)(hn:∀ i j,s.nx i (σ++j)=some ds[i]?)(e:ds.length<=1000)
  (step:∀ d∈ds,∀ j,fi (some d::none::(ix.map λi=>(ρ[i]?).getD none)) (σ++j)=.ok (p d) (σ++j)/\(p d=true->fe (some d::none::(ix.map λi=>(ρ[i]?).getD none)) (σ++j)=.ok (y d) (σ++j))) (c:∀ d∈ds,p d=true->cl (y d)=true) :
  si (Im (toN src) ix (yf 0) fi fe) ρ σ=.ok (.lst ((ds.filter p).map y)) σ:=by
 show eh σ (Pc (Pc (src ρ) YK) (VD (yf 0) fi fe (jt ix ρ)) σ)=_;rw[En,En,hs,Tf];show eh σ (Pc (pj s.nx σ.length (yf 0) fi fe 1001 0 (none::none::(ix.map λi=>(ρ[i]?).getD none))) _ (σ++[.lst []]))=_;rw[En,UX (λo=>o=none) (λd=>d) (λd=>d) (λ_=>none) p y (λi j _=>by rw[hn];cases ds[i]?<;>rfl) (λx o g h=>by subst h;exact⟨rfl,rfl⟩) step e 1001 0 none none [] rfl (by omega) (by omega) (by simp),Tf];refine Eq.trans (we (eh σ) ?_) (Ez (xs:=(ds.filter p).map y) (Uv λd hd=>by obtain⟨x,f,rfl⟩:=Gb.mp hd;obtain⟨a,b⟩:=om.mp f;exact c x a b));simp
theorem yu{src:Ev->M Src}{s:Src}{ix:List Nat}{fe:Ev->M D}{ds:List D}{ρ:Ev}{σ:ub}(y:D->D)(hs:src ρ σ=.ok s σ)(hn:∀ i j,s.nx i (σ++j)=some ds[i]?)(b:ds.length<=1000)
  (step:∀ d∈ds,∀ j,fe (some d::none::(ix.map λi=>(ρ[i]?).getD none)) (σ++j)=.ok (y d) (σ++j)) (a:∀ d∈ds,cl (y d)=true) :
  si (Im (toN src) ix (yf 0) Xm fe) ρ σ=.ok (.lst (ds.map y)) σ:=by
 have:=gF (p:=λ_=>true) y (ix:=ix) (fi:=Xm) hs hn b (λd hd j=>⟨rfl,λ_=>step d hd j⟩) (λd hd _=>a d hd);rw[show List.filter (λ_=>true) ds=ds from List.filter_eq_self.mpr λ_ _=>rfl]at this;exact this
noncomputable def Sc:D->Bool
 | .int _=>true
 | .Jb=>true
 | .bl _=>true
 | .str _=>true
 |_=>false
noncomputable def bd(d:D)(a b:Int):Bool:=match d with
 | .int i=>decide (a<=i) && decide (i<=b)
 |_=>false
theorem jY(x:ma)(σ:ub):Ym .int (.str x) σ=.ok (.bl false) σ:=nr rfl
theorem yW{d:D}(h:Sc d=true)(σ:ub):Nf [d] σ=.ok (.bl (match d with | .int _=>true|_=>false)) σ:=by
 unfold Nf BL;cases d with
 |int i=>simp
 |Jb=>simp
 |bl b=>simp
 |str x=>simp[jY]
 |_=>cases h
theorem WO{d:D}(h:Sc d=true)(a b:Int)(σ:ub):Rb [d,.int a,.int b] σ=.ok (.bl (bd d a b)) σ:=by
 have w:=λσ=>yW h σ;unfold Rb qL;cases d with
 |int i=>cases c:decide (a<=i)<;>simp[bd,c,w]
 |Jb=>simp[bd,w]
 |bl b=>simp[bd,w]
 |str x=>simp[bd,w]
 |_=>cases h
theorem LY(a b c d e:D)(r:List D)(σ:ub):Ua (.tup (a::b::c::d::e::r)) (.int 4) σ=.ok e σ:=lz (show Am _ ((4:Nat):Int)=_ from Mu rfl)
@[simp] theorem D5(f:Ev->M D)(b a:PF)(ρ:Ev)(σ:ub):mz f b a ρ σ=(f ρ σ).bind (lD (Hv b ρ) (Hv a ρ)):=nr rfl
@[simp] theorem K4(b a:M (Option Int))(x:D)(σ:ub):lD b a x σ=(b σ).bind (rE x a):=nr rfl
@[simp] theorem e7(x:D)(a:M (Option Int))(b:Option Int)(σ:ub):rE x a b σ=(a σ).bind (mx x b):=nr rfl
@[simp] theorem K6(ρ:Ev)(σ:ub):Hv none ρ σ=.ok none σ:=nr rfl
@[simp] theorem F6(f:Ev->M D)(ρ:Ev)(σ:ub):Hv (some f) ρ σ=(f ρ σ).bind fE:=nr rfl
@[simp] theorem k7(i:Int)(σ:ub):fE (.int i) σ=.ok (some i) σ:=nr rfl
@[simp] theorem N6(a:D)(r:List D)(σ:ub):Ua (.lst (a::r)) (.int 0) σ=.ok a σ:=JH (show Am _ ((0:Nat):Int)=_ from Mu rfl)
theorem kE{nx:NX}{b:D->Ev->Option Ev}{a:Ev->M Fl}{k i:Nat}{ρ ρ1:Ev}{σ:ub}{d:D}(h:nx i σ=some (some d))(c:b d ρ=some ρ1):Ao nx b a (k+1) i ρ σ=(a ρ1 σ).bind (Rt (Ao nx b a k (i+1))):=by
 rw[Ao];simp only[h,c];rfl
theorem GC{nx:NX}{b:D->Ev->Option Ev}{a:Ev->M Fl}{k i:Nat}{ρ:Ev}{σ:ub}(h:nx i σ=some none):Ao nx b a (k+1) i ρ σ=.ok (.nx ρ) σ:=by
 rw[Ao];simp only[h]
@[simp] theorem XO(f:Ev->M D)(ρ:Ev)(σ:ub):oF f ρ σ=(f ρ σ).bind Ix:=nr rfl
@[simp] theorem Ju(src:Ev->M NX)(b:D->Ev->Option Ev)(a:Ev->M Fl)(ρ:Ev)(σ:ub):nq src b a ρ σ=Oo ρ (XC b a ρ) (src ρ σ):=Vp ..
theorem Z1{xs:List D}{x:D}{σ:ub}(a:Vk σ x=some xs)(h:af xs=true):eh σ (vp [x] σ)=.ok (.lst xs) σ:=by
 have e:vp [x] σ=.ok (.ref σ.length) (σ++[.lst xs]):=by unfold vp;simp only[a];rfl
 rw[e];have:=xL (σ:=σ) (j:=[]) (j':=[]) h;simpa using this
section
variable{σ:ub}{x:D}{xs:List D}
theorem fY(h:Qg σ x=some xs):Ix x σ=.ok (Ot x) σ:=by unfold Ix;rw[h]
theorem tY{i:Nat}{d:D}(h:Qg σ x=some xs)(a:xs[i]?=some d):Ot x i σ=some (some (.tup [.int i,d])):=by unfold Ot;rw[h];simp only[a]
theorem nS(h:Qg σ x=some xs):Ot x xs.length σ=some none:=by unfold Ot;rw[h];simp
end
theorem gB{xs:List D}(h:af xs=true)(σ:ub):eh σ (vp [.lst xs] σ)=.ok (.lst xs) σ:=Z1 (x:=.lst xs) (aM xs) h
theorem bt{i a b:Int}(h:a<=i/\i<=b)(σ:ub):Rb [.int i,.int a,.int b] σ=.ok (.bl true) σ:=by
 rw[WO (d:=.int i) rfl];simp[bd,h]
theorem xB{s:Int}(h:s=0\/s=1)(σ:ub):df [.int s] σ=.ok (.bl true) σ:=by
 have b:=bt (i:=s) (a:=0) (b:=1) (by omega) σ;unfold df nH;simp[b]
theorem DU{s:Int}(h:0<=s/\s<=9)(σ:ub):ug [.int s] σ=.ok (.bl true) σ:=by
 have b:=bt (i:=s) (a:=0) (b:=59) (by omega) σ;unfold ug jJ;simp[b]
theorem NK{s:Int}(h:0<=s/\s<=1000000)(σ:ub):Ie [.int s] σ=.ok (.bl true) σ:=by
 have b:=bt h σ;unfold Ie eL;simp[b]
theorem wL(σ:ub):Gg [.int 0] σ=.ok (.bl true) σ:=by
 have b:=bt (i:=0) (a:=0) (b:=2) (by omega) σ;unfold Gg gN;simp[b]
theorem VT(s:Int)(σ:ub):me [.int s] σ=.ok (.int (1 - s)) σ:=by
 unfold me jK;simp
structure Ti where
 (p a w y:Int)
noncomputable def Ti.D(t:Ti):L4.D:=.tup [.int t.p,.int t.a,.int t.w,.int t.y]
structure Ti.Ok(t:Ti):Prop where
 p:t.p=0\/t.p=1
 a:1<=t.a/\t.a<=1000000000000
 w:0<=t.w/\t.w<=9
 y:0<=t.y/\t.y<=59
noncomputable def Hu(ts:List Ti):Int:=(ts.map Ti.a).sum
noncomputable def Sh(n a b:Int)(ts:List Ti):D:=.tup [.int n,.tup [.int a,.int b],.tup (ts.map Ti.D)]
structure bw(n a b:Int)(ts:List Ti):Prop where
 n:0<=n/\n<=1000000
 a:0<=a/\a<=2000000000000
 b:0<=b/\b<=2000000000000
 t:∀ t∈ts,t.Ok
 l:ts.length<=2
 d:(ts.map Ti.w).Nodup
theorem bR{t:Ti}(h:t.Ok)(σ:ub):Bg [t.D] σ=.ok (.bl true) σ:=by
 have h1:=xB h.p σ;have c:Pd [.int t.a] σ=.ok (.bl true) σ:=by
  have b:=bt h.a σ;unfold Pd zF;simp[b]
 have h3:=DU h.w σ;have h4:lh [.int t.y] σ=.ok (.bl true) σ:=by
  have b:=bt (i:=t.y) (a:=0) (b:=1000000) (by have:=h.y;omega) σ;unfold lh MK;simp[b]
 unfold Ti.D Bg sJ;simp[h1,c,h3,h4]
theorem qT{ts:List Ti}(g:∀ t∈ts,t.Ok)(n:ts.length<=2)(hd:(ts.map Ti.w).Nodup)(σ:ub):Kf [.tup (ts.map Ti.D)] σ=.ok (.bl true) σ:=by
 have b:∀ σ,Vi (ga 0) [some (.tup (ts.map Ti.D))] σ=.ok (.seq (ts.map Ti.D)) σ:=λσ=>by simp
 have l1:=yu (s:=.seq (ts.map Ti.D)) (ix:=[]) (ds:=ts.map Ti.D) (fe:=Yc 1 Bg [] (ua (ga 0) Ma)) (λ_=>.bl true) (b σ) (λ_ _=>rfl) (by simp;omega) (λd hd j=>by
  obtain⟨t,h,rfl⟩:=Gb.mp hd;have:=bR (g t h) (σ++j);generalize t.D=m at *;simp[this]) (λ_ _=>by simp)
 have a:=yu (s:=.seq (ts.map Ti.D)) (ix:=[]) (ds:=ts.map Ti.D) (fe:=Ha Ua (ga 0) (eC (.int 2))) (λd=>match d with | .tup [_,_,x,_]=>x|_=>.Jb) (b σ) (λ_ _=>rfl) (by simp;omega) (λd hd j=>by
  obtain⟨t,h,rfl⟩:=Gb.mp hd;simp[Ti.D]) (λd hd=>by
  obtain⟨t,h,rfl⟩:=Gb.mp hd;simp[Ti.D])
 have e:(ts.map Ti.D).map (λd=>match d with | .tup [_,_,x,_]=>x|_=>.Jb)=(ts.map Ti.w).map D.int:=by rw[Mg,Mg];rfl
 rw[e]at a;have a1:=RT (σ:=σ) (f:=λ_:D=>true) (l:=ts.map Ti.D);rw[show (ts.map Ti.D).all (λ_=>true)=true from Pb.mpr λ_ _=>rfl]at a1;have s1:=SZ (σ:=σ) (l:=ts.map Ti.w) (by simp;omega);have c:=(rO (ts.map Ti.w)).mpr hd;rw[c]at s1;have i:Dl [.tup (ts.map Ti.D)] σ=.ok (.int (ts.length:Int)) σ:=by
  have:=IT (σ:=σ) (ts.map Ti.D);simpa using this
 have hb:decide ((ts.length:Int) > 6)=false:=by simp;omega
 have k:((ts.map Ti.w).length:Int)=ts.length:=by simp
 rw[k]at s1;unfold Kf RI;generalize (ts.map Ti.w).map D.int=W at *;generalize ts.map Ti.D=TT at *;generalize (ts.length:Int)=N at *;simp[l1,a,a1,s1,i,hb,-dt]
theorem kB{n a b:Int}{ts:List Ti}(h:bw n a b ts)(σ:ub):qe [Sh n a b ts] σ=.ok (.bl true) σ:=by
 have h1:=NK h.n σ;have c:Qe [.tup [.int a,.int b]] σ=.ok (.bl true) σ:=by
  have w:=bt h.a σ;have e:=bt h.b σ;unfold Qe KH;simp[w,e]
 have h3:=qT h.t h.l h.d σ;unfold Sh qe nK;generalize D.tup (ts.map Ti.D)=TT at *;simp[h1,c,h3]
theorem zK(t:Ti):cl t.D=true:=by unfold Ti.D;simp
theorem IN(n a b:Int)(ts:List Ti):cl (Sh n a b ts)=true:=by
 have:af (ts.map Ti.D)=true:=Uv λd hd=>by obtain⟨t,_,rfl⟩:=Gb.mp hd;exact zK t
 unfold Sh;simp[cl,af,this]
theorem QR{u v:Int}(hu:0<=u/\u<=1000000000000)(hv:0<=v/\v<=1000000000000)(σ:ub):ni [.int u,.int v] σ=.ok (Sh 0 u v []) σ:=by
 have c:=kB (n:=0) (a:=u) (b:=v) (ts:=[]) ⟨by omega,by omega,by omega,by simp,by simp,by simp⟩ σ;have d:og [.int 0,.tup [.int u,.int v],.Jb] σ=.ok (Sh 0 u v []) σ:=by
  unfold Sh at c ⊢;simp only[Xh]at c ⊢;unfold og DF;simp[c]
 have e:=IN 0 u v [];unfold ni kL;generalize Sh 0 u v []=S at *;simp[d,e]
theorem yV(a b:Int)(σ:ub):Op [.tup [.int a,.int b]] σ=.ok (.int (a+b)) σ:=by
 simp[Op,oq]
theorem j3(l:List Int)(σ:ub):Op [.lst (l.map D.int)] σ=.ok (.int l.sum) σ:=by
 simp[Op]
theorem lH(n a b:Int){ts:List Ti}(g:ts.length<=2)(σ:ub):Ah [Sh n a b ts] σ=.ok (.int (a+b+Hu ts)) σ:=by
 have f:∀ σ,Ua (Sh n a b ts) (.int 2) σ=.ok (.tup (ts.map Ti.D)) σ:=λσ=>by simp[Sh]
 have e:∀ σ,Ua (Sh n a b ts) (.int 1) σ=.ok (.tup [.int a,.int b]) σ:=λσ=>by simp[Sh]
 have l:=yu (s:=.seq (ts.map Ti.D)) (ix:=[]) (fe:=Ha Ua (ga 0) (eC (.int 1))) (ds:=ts.map Ti.D) (ρ:=[some (Sh n a b ts)]) (σ:=σ) (src:=Vi (Ha Ua (ga 0) (eC (.int 2)))) (λd=>match d with | .tup [_,a,_,_]=>a|_=>.Jb) (by simp[f]) (λ_ _=>rfl) (by simp;omega) (λd hd j=>by obtain⟨t,_,rfl⟩:=Gb.mp hd;simp[Ti.D]) (λd hd=>by obtain⟨t,_,rfl⟩:=Gb.mp hd;simp[Ti.D]);have c:(ts.map Ti.D).map (λd=>match d with | .tup [_,a,_,_]=>a|_=>.Jb)=(ts.map Ti.a).map D.int:=by rw[Mg,Mg];rfl
 rw[c]at l;have o:=j3 (ts.map Ti.a) σ;unfold Ah EK;generalize Sh n a b ts=S at *;generalize (ts.map Ti.a).map D.int=G at *;simp[e,l,yV,o,Hu,-dt]
theorem cR{n a b:Int}{ts:List Ti}(h:bw n a b ts)(σ:ub):ye [Sh n a b ts,.int (a+b+Hu ts)] σ=.ok (.bl true) σ:=by
 have h1:=kB h σ;have c:=lH n a b h.l σ;unfold ye OK;generalize Sh n a b ts=S at *;simp[h1,c]
noncomputable abbrev Kv:=List (Key × D)
structure Sn where
 (n a b:Int)
 (x:Option Int)
noncomputable def mh:Option Int->List Ti
 |none=>[]
 |some v=>[⟨0,v,7,5⟩]
noncomputable def Sn.D(s:Sn):L4.D:=Sh s.n s.a s.b (mh s.x)
theorem Kl(s:Sn):cl s.D=true:=IN ..
theorem Nz(ss:List Sn):af (ss.map Sn.D)=true:=Uv λd hd=>by obtain⟨s,_,rfl⟩:=Gb.mp hd;exact Kl s
noncomputable def Tg(ss:List Sn):D:=.tup [.int 1,.lst (ss.map Sn.D),.Lb [] []]
noncomputable def Jh(e:Int)(ss:List Sn):D:=.obj 8 ["every", "last_look", "known", "pots"] [.int e,.int 0,.lst [],.lst [Tg ss]]
theorem ZD(ss:List Sn):cl (Tg ss)=true:=by unfold Tg;simp[cl,Nz]
theorem QH(e:Int)(ss:List Sn):cl (Jh e ss)=true:=by unfold Jh;simp[cl,ZD]
noncomputable def Qj(v:Int):D:=(⟨0,v,7,5⟩:Ti).D
noncomputable def wf(v:Int):D:=.tup [.str "hangs",.int v,.int 5]
noncomputable def Rp:Option Int->Kv
 |none=>[]
 |some v=>[(.inl 7,wf v)]
noncomputable def He(s:Sn):D:=.tup [.int s.b,.Lb ((Rp s.x).map (·.1)) ((Rp s.x).map (·.2))]
theorem YJ(x:Option Int):af ((Rp x).map (·.2))=true:=by cases x<;>simp[Rp,wf]
theorem nF(s:Sn):cl (He s)=true:=by unfold He;simp[cl,YJ]
theorem xR(ss:List Sn):af (ss.map He)=true:=Uv λd hd=>by obtain⟨s,_,rfl⟩:=Gb.mp hd;exact nF s
@[simp] theorem zY(ρ:Ev)(σ:ub):Pq ρ σ=.ok (.ref σ.length) (σ++[.Lb []]):=nr rfl
@[simp] theorem i7(o:D->List D->M D)(f:Ev->M D)(fs:Ev->M (List D))(ρ:Ev)(σ:ub):vA o f fs ρ σ=(f ρ σ).bind (Aw o (fs ρ)):=nr rfl
@[simp] theorem N4(f a fi:Ev->M D)(ρ:Ev)(σ:ub):Rq f a fi ρ σ=Oo ρ (EF ρ a fi) (f ρ σ):=Vp ..
@[simp] theorem M6(a fi:Ev->M D)(d:D)(ρ:Ev)(σ:ub):EF ρ a fi d σ=Oo ρ (dE ρ fi d) (a ρ σ):=Vp ..
@[simp] theorem V5(fi:Ev->M D)(d x:D)(ρ:Ev)(σ:ub):dE ρ fi d x σ=Oo ρ (Kr ρ d x) (fi ρ σ):=Vp ..
theorem zu{ρ:Ev}{σ:ub}{d:D}{n:Nat}{w:Int}{kvs:List (Key × D)}(h:σ[n]?=some (.Lb kvs))(a:kvs.length<1000):Kr ρ d (.ref n) (.int w) σ=.ok (.nx ρ) (σ.set n (.Lb (Xr kvs (.inl w) d))):=by
 unfold Kr;simp only[Gn,h];rw[da (show kvs.length<Oh from a)]
theorem cN{f:D->Option D}(a:∀ d,cl d=true->f d=some d):∀ {xs:List D},af xs=true->ql f xs=some xs
 |[],_=>rfl
 |x::xs,h=>by
  rw[af,ya]at h;rw[ql,a x h.1,cN a h.2]
theorem RD{σ j:ub}{kvs:Kv}{m:Nat}(h:af (kvs.map (·.2))=true):fz σ.length (σ++.Lb kvs::j) (m+1) (.ref σ.length)=some (.Lb (kvs.map (·.1)) (kvs.map (·.2))):=by
 have e:(σ++Ob.Lb kvs::j)[σ.length]?=some (.Lb kvs):=by simp
 unfold fz;rw[ka (by simp[cl])];dsimp only;rw[ka (wd _),e];dsimp only;rw[cN (λd hd=>Zv hd) h];rfl
section
variable(e:Int)(ss:List Sn)(σ:ub)
theorem pW(v:Int):ph [Jh e ss,Tg ss,Qj v] σ=.ok (.str "hangs") σ:=by
 have g:∀ σ,Zc [8,9] "last_look" (Jh e ss) σ=.ok (.int 0) σ:=λσ=>wm (zo rfl) rfl rfl;have h:∀ σ,Zc [8,9] "known" (Jh e ss) σ=.ok (.lst []) σ:=λσ=>wm (zo rfl) rfl rfl;have d:∀ σ,Ua (Tg ss) (.int 0) σ=.ok (.int 1) σ:=λσ=>by unfold Tg;simp
 have f:∀ σ,Ua (Tg ss) (.int 2) σ=.ok (.Lb [] []) σ:=λσ=>by unfold Tg;simp
 have i:∀ σ,Ua (Qj v) (.int 0) σ=.ok (.int 0) σ:=λσ=>by unfold Qj Ti.D;simp
 have a:∀ σ,Ua (Qj v) (.int 2) σ=.ok (.int 7) σ:=λσ=>by unfold Qj Ti.D;simp
 have j:∀ σ,Ua (Qj v) (.int 3) σ=.ok (.int 5) σ:=λσ=>by unfold Qj Ti.D;simp
 have b:∀ σ,kx (.int 7) (.Lb [] []) σ=.ok (.bl false) σ:=λσ=>nr rfl;have c:∀ σ,gC false (.int 7) (.lst []) σ=.ok (.bl false) σ:=λσ=>nr rfl;have k:∀ σ,Jd [Qj v,.Lb [] []] σ=.ok (.bl false) σ:=λσ=>by
  unfold Jd II;generalize Qj v=T at *;simp[a,b]
 have l:∀ σ,Te [Jh e ss,.Lb [] [],Qj v] σ=.ok (.str "hangs") σ:=λσ=>by
  unfold Te EL;generalize Qj v=T at *;generalize Jh e ss=V at *;simp[k,g,h,a,j,c]
 unfold ph EI;generalize Qj v=T at *;generalize Jh e ss=V at *;generalize Tg ss=P at *;simp[d,f,i,l]
theorem MS(s:Sn):ie [Jh e ss,Tg ss,s.D] σ=.ok (He s) σ:=by
 have i:∀ σ,Ua (Tg ss) (.int 0) σ=.ok (.int 1) σ:=λσ=>by unfold Tg;simp
 have s1:∀ σ,Ua s.D (.int 1) σ=.ok (.tup [.int s.a,.int s.b]) σ:=λσ=>by unfold Sn.D Sh;simp
 have s2:∀ σ,Ua s.D (.int 2) σ=.ok (.tup ((mh s.x).map Ti.D)) σ:=λσ=>by unfold Sn.D Sh;simp
 have c:∃ f g,km (yf 5) sD ((mh s.x).map Ti.D) [some (Jh e ss),some (Tg ss),some s.D,some (.int s.b),some (.ref σ.length),none,none] (σ++[.Lb []])=.ok (.nx [some (Jh e ss),some (Tg ss),some s.D,some (.int s.b),some (.ref σ.length),f,g]) (σ++[.Lb (Rp s.x)]):=by
  cases s.x with
  |none=>exact⟨none,none,by simp[mh,Rp]⟩
  |some v=>
   have l:=λσ=>pW e ss σ v;have o:∀ σ,Ua (Qj v) (.int 1) σ=.ok (.int v) σ:=λσ=>by unfold Qj Ti.D;simp
   have p:∀ σ,Ua (Qj v) (.int 2) σ=.ok (.int 7) σ:=λσ=>by unfold Qj Ti.D;simp
   have q:∀ σ,Ua (Qj v) (.int 3) σ=.ok (.int 5) σ:=λσ=>by unfold Qj Ti.D;simp
   have st:=λρ=>zu (ρ:=ρ) (σ:=σ++[.Lb []]) (d:=wf v) (n:=σ.length) (w:=7) (kvs:=[]) (by simp) (by simp);rw[EA]at st;rw[show Xr [] (.inl 7) (wf v)=Rp (some v)from rfl]at st;unfold wf at st;have k:∀ σ,uA false ["won", "sure", "back"] (.str "hangs") σ=.ok (.bl false) σ:=λσ=>nr rfl;refine⟨some (Qj v),some (.str "hangs"),?_⟩;rw[show (mh (some v)).map Ti.D=[Qj v]from rfl,Zs];simp only[ic,jc];unfold sD;generalize Qj v=T at *;generalize Jh e ss=V at *;generalize Tg ss=P at *;generalize s.D=S at *;generalize σ++[.Lb (Rp (some v))]=Z at *;generalize σ++[.Lb []]=Y at *;simp[l,o,p,q,st,k]
 obtain⟨f,g,c⟩:=c;have fz:eh σ (.ok (.tup [.int s.b,.ref σ.length]) (σ++[.Lb (Rp s.x)]))=.ok (He s) σ:=by
  unfold eh;dsimp only;rw[da (by simp)];have h:=RD (σ:=σ) (j:=[]) (m:=4) (YJ s.x);have:fz σ.length (σ++[.Lb (Rp s.x)]) 6 (.tup [.int s.b,.ref σ.length])=some (He s):=by
   unfold fz;rw[ka (by simp[cl,af])];dsimp only;unfold ql;rw[Zv (by simp[cl])];unfold ql;rw[h];rfl
  rw[this]
 unfold ie EJ;generalize Jh e ss=V at *;generalize Tg ss=P at *;generalize He s=R at *;generalize s.D=S at *;generalize (mh s.x).map Ti.D=TT at *;simp[i,s1,s2,c,fz]
end
theorem uS{σ:ub}{ys zs:List D}(h:ys.length+zs.length<=1000):Xv (.ref σ.length) [.lst zs] (σ++[.lst ys])=.ok .Jb (σ++[.lst (ys++zs)]):=by
 have e:Qg (σ++[Ob.lst ys]) (.lst zs)=some zs:=rfl;unfold Xv;simp only[pL,e];rw[da (show _<=Oh from h),EA]
noncomputable def RL(ss:List Sn):D:=.lst [.lst (ss.map He)]
theorem UW(e:Int){ss:List Sn}(hs:ss.length<=2)(σ:ub):ff [Jh e ss] σ=.ok (RL ss) σ:=by
 have f:∀ σ,Zc [8] "pots" (Jh e ss) σ=.ok (.lst [Tg ss]) σ:=λσ=>wm (zo rfl) rfl rfl;have l:si (Im (toN (Vi (Ha Ua (ga 2) (eC (.int 1))))) [0,2] (yf 0) Xm (Yc 3 ie [] (ua (ga 2) (ua (ga 3) (ua (ga 0) Ma))))) [some (Jh e ss),some (.ref σ.length),some (Tg ss)] (σ++[.lst []])=.ok (.lst ((ss.map Sn.D).map λd=>match d with | .tup [_,.tup [_,.int b],.tup []]=>.tup [.int b,.Lb [] []] | .tup [_,.tup [_,.int b],.tup (.tup [_,.int v,_,_]::_)]=>.tup [.int b,.Lb [.inl 7] [wf v]]|_=>.Jb)) (σ++[.lst []]):=by
  refine yu (s:=.seq (ss.map Sn.D)) (ix:=[0,2]) _ (by unfold Tg;simp) (λ_ _=>rfl) (by simp;omega) (λd hd j=>?_) (λd hd=>?_)
  ·obtain⟨s,_,rfl⟩:=Gb.mp hd;have r:=MS e ss (σ++[.lst []]++j) s;have q:He s=(match s.D with | .tup [_,.tup [_,.int b],.tup []]=>.tup [.int b,.Lb [] []] | .tup [_,.tup [_,.int b],.tup (.tup [_,.int v,_,_]::_)]=>.tup [.int b,.Lb [.inl 7] [wf v]]|_=>.Jb):=by
    obtain⟨n,a,b,x⟩:=s;cases x<;>rfl
   rw[<-q];generalize He s=R at *;generalize Tg ss=o at *;generalize Jh e ss=V at *;generalize s.D=k at *;generalize σ++[Ob.lst []]++j=Y at *;simp[r]
  ·obtain⟨s,_,rfl⟩:=Gb.mp hd;obtain⟨n,a,b,x⟩:=s;cases x<;>simp[Sn.D,Sh,mh,Ti.D,wf,cl,af]
 rw[Mg,show (ss.map ((λd=>match d with | .tup [_,.tup [_,.int b],.tup []]=>.tup [.int b,.Lb [] []] | .tup [_,.tup [_,.int b],.tup (.tup [_,.int v,_,_]::_)]=>.tup [.int b,.Lb [.inl 7] [wf v]]|_=>.Jb) ∘ Sn.D))=ss.map He from List.map_congr_left λs _=>by
  obtain⟨n,a,b,x⟩:=s;cases x<;>rfl]at l
 have c:=vB (σ:=σ) (xs:=[]) (d:=.lst (ss.map He)) (by simp);have h:∀ m,ku Qm m (.ref σ.length) (σ++[.lst []])=(m (σ++[.lst []])).bind (Qm (.ref σ.length)):=λm=>MA (xs:=[]) (by unfold Qg gi;simp);have fz:eh σ (.ok (.ref σ.length) (σ++[.lst ([]++[.lst (ss.map He)])]))=.ok (RL ss) σ:=Ez (by simp[cl,xR]);have g:km (yf 2) yG [Tg ss] [some (Jh e ss),some (.ref σ.length),none] (σ++[.lst []])=.ok (.nx [some (Jh e ss),some (.ref σ.length),some (Tg ss)]) (σ++[.lst ([]++[.lst (ss.map He)])]):=by
  rw[Zs];simp only[ic,jc];unfold yG;generalize σ++[Ob.lst ([]++[.lst (ss.map He)])]=Z at *;generalize σ++[Ob.lst []]=Y at *;generalize Jh e ss=V at *;generalize Tg ss=P at *;simp[h,l,c,-dt]
 unfold ff lL;generalize RL ss=i at *;generalize Jh e ss=V at *;generalize Tg ss=P at *;generalize σ++[Ob.lst ([]++[.lst (ss.map He)])]=Z at *;simp[f,g,fz]
noncomputable def Cn(k:Nat):List D:=(List.range k).map λ(i:Nat)=>.lst [.int i]
theorem IR(k:Nat):af (Cn k)=true:=Uv λd hd=>by obtain⟨i,_,rfl⟩:=Gb.mp hd;simp
theorem BP{ss:List Sn}(hs:ss.length<=2)(σ:ub):Sd [RL ss] σ=.ok (.lst (Cn ss.length)) σ:=by
 have e:∀ (i:Nat) τ,gj (.lst []) (.lst [.int i]) τ=.ok (.lst [.int i]) τ:=λi τ=>by rw[qD (by unfold Oh;simp)];rfl
 have h:∀ τ,Dl [.lst (ss.map He)] τ=.ok (.int ss.length) τ:=λτ=>by simp
 have o:∀ (R C a:Option D) (τ:ub),cz (Nh Dl (ua (ga 2) Ma)) [R,C,some (.lst (ss.map He)),a,some (.lst [])] τ=.ok (.seq ((List.range ss.length).map λ(i:Nat)=>.int i)) τ:=λR C a τ=>by
  have n:zx (.int ss.length) τ=.ok (.seq ((List.range ss.length).map λ(i:Nat)=>.int i)) τ:=by
   rw[HP (by omega) (by omega)];rfl
  generalize ss.map He=c at *;simp[h,n]
 have l:∀ (R C a:Option D) (τ:ub),si (Im (toN (cz (Nh Dl (ua (ga 2) Ma)))) [4] (yf 0) Xm (Ha gj (ga 2) (Zi (ua (ga 0) Ma)))) [R,C,some (.lst (ss.map He)),a,some (.lst [])] τ=.ok (.lst (Cn ss.length)) τ:=λR C a τ=>by
  have:=yu (ix:=[4]) (fe:=Ha gj (ga 2) (Zi (ua (ga 0) Ma))) (λd=>.lst [d]) (o R C a τ) (λ_ _=>rfl) (by simp;omega) (λd hd j=>by
   obtain⟨i,_,rfl⟩:=Gb.mp hd;have:=e i (τ++j);simp[this]) (λd hd=>by obtain⟨i,_,rfl⟩:=Gb.mp hd;simp)
  rw[this,Mg];rfl
 have ex:=uS (σ:=σ) (ys:=[]) (zs:=Cn ss.length) (by unfold Cn;simp;omega);have k:∀ m,ku Xv m (.ref σ.length) (σ++[.lst []])=(m (σ++[.lst []])).bind (Xv (.ref σ.length)):=λm=>MA (xs:=[]) (by unfold Qg gi;simp);rw[wu]at ex;have fz:eh σ (.ok (.ref σ.length) (σ++[.lst (Cn ss.length)]))=.ok (.lst (Cn ss.length)) σ:=Ez (IR _);have st:∀ R C,CB [R,C,some (.lst (ss.map He)),some (.ref σ.length),some (.lst [])] (σ++[.lst []])=.ok (.nx [R,C,some (.lst (ss.map He)),some (.ref σ.length),some (.lst [])]) (σ++[.lst (Cn ss.length)]):=λR C=>by
  unfold CB;generalize Cn ss.length=b at *;generalize ss.map He=c at *;generalize σ++[Ob.lst b]=Z at *;generalize σ++[Ob.lst []]=Y at *;simp[k,l,ex,-dt]
 have g:∀ R C,km (yf 4) CB [.lst []] [R,C,some (.lst (ss.map He)),some (.ref σ.length),none] (σ++[.lst []])=.ok (.nx [R,C,some (.lst (ss.map He)),some (.ref σ.length),some (.lst [])]) (σ++[.lst (Cn ss.length)]):=λR C=>by
  rw[Zs];simp only[ic,jc];rw[st,Tf,Ss,Sz]
 have f:∀ R,km (yf 2) BG [.lst (ss.map He)] [R,some (.lst [.lst []]),none,none,none] σ=.ok (.nx [R,some (.ref σ.length),some (.lst (ss.map He)),some (.ref σ.length),some (.lst [])]) (σ++[.lst (Cn ss.length)]):=λR=>by
  rw[Zs];simp only[ic,jc];unfold BG;generalize ss.map He=c at *;generalize σ++[Ob.lst (Cn ss.length)]=Z at *;simp[g]
 unfold Sd rH RL;generalize Cn ss.length=b at *;generalize ss.map He=c at *;generalize σ++[Ob.lst b]=Z at *;simp[f,fz]
theorem jZ{i j:Nat}{ρ:Ev}{σ:ub}{xs ys:List D}(h1:ga i ρ σ=.ok (.lst xs) σ)(c:ga j ρ σ=.ok (.lst ys) σ):Wv (ga i) (ga j) ρ σ=.ok (mw (.lst xs) (.lst ys)) σ:=by
 have a:Qg σ (.lst xs)=some xs:=rfl;have b:Qg σ (.lst ys)=some ys:=rfl;unfold Wv;rw[En,h1,Tf];unfold bJ;rw[En,c,Tf];unfold aG;simp only[a,b]
theorem JY{ss:List Sn}{i:Nat}{s:Sn}(c:ss[i]?=some s)(σ:ub):Kc [RL ss,.lst [.int i]] σ=.ok (.lst [He s]) σ:=by
 have a:cl (.lst [He s])=true:=by simp[cl,nF]
 have d:∀ σ,Ua (.lst (ss.map He)) (.int i) σ=.ok (He s) σ:=λσ=>JH (Mu (by rw[Fb,c];rfl));have l:si (Im (Wv (ga 0) (ga 1)) [] (Xp 2 (Fk (yf 0) (Fk (yf 1) Cq))) Xm (Ha Ua (ga 0) (ga 1))) [some (RL ss),some (.lst [.int i])] σ=.ok (.lst [He s]) σ:=by
  have e:∀ σ,mw (RL ss) (.lst [.int i]) 0 σ=some (some (.tup [.lst (ss.map He),.int i])):=λσ=>rfl;have g:∀ σ,mw (RL ss) (.lst [.int i]) 1 σ=some none:=λσ=>rfl;show eh σ (Pc (Wv (ga 0) (ga 1) _) (VD _ Xm _ (jt [] _)) σ)=_;rw[En,show Wv (ga 0) (ga 1) [some (RL ss),some (.lst [.int i])] σ=.ok (mw (RL ss) (.lst [.int i])) σ from jZ (xs:=[.lst (ss.map He)]) rfl rfl,Tf];show eh σ (Pc (pj (mw (RL ss) (.lst [.int i])) σ.length _ Xm _ 1001 0 [none,none]) _ (σ++[.lst []]))=_;have t:Xp 2 (Fk (yf 0) (Fk (yf 1) Cq)) (.tup [.lst (ss.map He),.int i]) [none,none]=some [some (.lst (ss.map He)),some (.int i)]:=rfl;have b:∀ h (σ:ub),Xm h σ=.ok true σ:=λ_ _=>rfl;have f:∀ σ,Ha Ua (ga 0) (ga 1) [some (.lst (ss.map He)),some (.int i)] σ=.ok (He s) σ:=λσ=>by
   generalize ss.map He=j at *;simp[d]
  rw[En,pj];simp only[e,t];rw[En,Vv (b _ _),Tf,da rfl,En,Vv (f _),Tf,En,vB (by simp),Tf,pj];simp only[g];exact Ez (xs:=[He s]) (by simp[af,nF])
 unfold Kc UL;generalize RL ss=R at *;generalize D.lst [He s]=k at *;simp[l,a,-dt]
theorem FD(A:Kv)(σ:ub):cq A A.length σ=some none:=by unfold cq;simp
theorem NG{f:Ev->M D}{ρ:Ev}{σ:ub}{b:D->Ev->Option Ev}{a:Ev->M Fl}(h:f ρ σ=.ok (.Lb [] []) σ):nq (Ls f) b a ρ σ=.ok (.nx ρ) σ:=by
 have:Ls f ρ σ=.ok (cq []) σ:=by
  show Pc (f ρ) ZA σ=_;rw[En,h,Tf];rfl
 rw[Ju,this,xq];exact GC (FD [] σ)
theorem cG{f:Ev->M D}{ρ ρ1 b:Ev}{σ σ2:ub}{k:Key}{v:D}{c:D->Ev->Option Ev}{a:Ev->M Fl}(h:f ρ σ=.ok (.Lb [k] [v]) σ)(e:c (.tup [jx k,v]) ρ=some ρ1)(hb:a ρ1 σ=.ok (.nx b) σ2):nq (Ls f) c a ρ σ=.ok (.nx b) σ2:=by
 have:Ls f ρ σ=.ok (cq [(k,v)]) σ:=by
  show Pc (f ρ) ZA σ=_;rw[En,h,Tf];rfl
 rw[Ju,this,xq];show Ao (cq [(k,v)]) c a (1000+1) 0 ρ σ=_;rw[kE (d:=.tup [jx k,v]) rfl e,hb,Tf,Ss];exact GC (k:=999) (FD [(k,v)] σ2)
noncomputable def gD:Option Int->D
 |none=>.Lb [] []
 |some v=>.Lb [.inl 7] [.lst [wf v]]
theorem P0(σ:ub)(R rd:Option D)(v:Int):YC [R,some (.ref σ.length),rd,some (.int 7),some (wf v)] (σ++[.Lb []])=.ok (.nx [R,some (.ref σ.length),rd,some (.int 7),some (wf v)]) (σ++[.Lb [(.inl 7,.ref (σ.length+1))],.lst [wf v]]):=by
 have h1:∀ fs,Aw Fv fs (.ref σ.length) (σ++[.Lb []])=(fs (σ++[.Lb []])).bind (Fv (.ref σ.length)):=λfs=>by
  have:rl (σ++[.Lb []]) (.ref σ.length)=some []:=by unfold rl;simp
  unfold Aw;rw[this];rfl
 have h3:Fv (.ref σ.length) [.int 7,.ref (σ.length+1)] (σ++[.Lb [],.lst []])=.ok (.ref (σ.length+1)) (σ++[.Lb [(.inl 7,.ref (σ.length+1))],.lst []]):=by
  have e:(σ++[Ob.Lb [],.lst []])[σ.length]?=some (.Lb []):=by simp
  unfold Fv;simp only[Gn,e];rw[da (by unfold Oh;simp)];simp[jq,Xr]
 have g:gi (σ++[Ob.Lb [(.inl 7,.ref (σ.length+1))],.lst []]) (σ.length+1)=some []:=by unfold gi;simp
 have h4:∀ fs,ku Qm fs (.ref (σ.length+1)) (σ++[.Lb [(.inl 7,.ref (σ.length+1))],.lst []])=(fs (σ++[.Lb [(.inl 7,.ref (σ.length+1))],.lst []])).bind (Qm (.ref (σ.length+1))):=λfs=>MA (xs:=[]) g;have a:Qm (.ref (σ.length+1)) [wf v] (σ++[.Lb [(.inl 7,.ref (σ.length+1))],.lst []])=.ok .Jb (σ++[.Lb [(.inl 7,.ref (σ.length+1))],.lst [wf v]]):=by
  unfold Qm;simp only[g];rw[da (by unfold Oh;simp)];simp
 have b:(σ++[Ob.Lb []]).length=σ.length+1:=by simp
 have c:(σ++[Ob.Lb []])++[.lst []]=σ++[.Lb [],.lst []]:=by simp
 unfold YC;generalize wf v=L at *;generalize σ++[Ob.Lb [(.inl 7,.ref (σ.length+1))],.lst [L]]=Z at *;generalize σ++[Ob.Lb [(.inl 7,.ref (σ.length+1))],.lst []]=Y at *;generalize σ++[Ob.Lb [],.lst []]=X at *;generalize σ++[Ob.Lb []]=W at *;simp[h1,h3,h4,a,b,c]
theorem zP(s:Sn)(σ:ub):ae [.lst [He s]] σ=.ok (gD s.x) σ:=by
 have b:∀ σ,Ua (He s) (.int 1) σ=.ok (.Lb ((Rp s.x).map (·.1)) ((Rp s.x).map (·.2))) σ:=λσ=>by unfold He;simp
 have c:∃ e f g a,km (yf 2) sx [He s] [some (.lst [He s]),some (.ref σ.length),none,none,none] (σ++[.Lb []])=.ok (.nx [some (.lst [He s]),some (.ref σ.length),e,f,g]) a/\eh σ (.ok (.ref σ.length) a)=.ok (gD s.x) σ:=by
  rw[Zs];simp only[ic,jc];generalize He s=R at *;cases d:s.x with
  |none=>
   refine⟨some R,none,none,σ++[.Lb []],?_,?_⟩
   ·have:sx [some (.lst [R]),some (.ref σ.length),some R,none,none] (σ++[.Lb []])=.ok (.nx [some (.lst [R]),some (.ref σ.length),some R,none,none]) (σ++[.Lb []]):=by
     unfold sx;exact NG (by rw[d]at b;simp[b,Rp])
    rw[this,Tf,Ss,Sz]
   ·unfold eh;dsimp only;rw[da (by simp),RD (j:=[]) (m:=5) (by simp)];rfl
  |some v=>
   refine⟨some R,some (.int 7),some (wf v),σ++[.Lb [(.inl 7,.ref (σ.length+1))],.lst [wf v]],?_,?_⟩
   ·have:sx [some (.lst [R]),some (.ref σ.length),some R,none,none] (σ++[.Lb []])=.ok (.nx [some (.lst [R]),some (.ref σ.length),some R,some (.int 7),some (wf v)]) (σ++[.Lb [(.inl 7,.ref (σ.length+1))],.lst [wf v]]):=by
     unfold sx;exact cG (k:=.inl 7) (v:=wf v) (ρ1:=[some (.lst [R]),some (.ref σ.length),some R,some (.int 7),some (wf v)]) (by rw[d]at b;simp[b,Rp]) rfl (P0 ..)
    rw[this,Tf,Ss,Sz]
   ·unfold eh;dsimp only;rw[da (by simp)];have h:(σ++[Ob.Lb [(.inl 7,.ref (σ.length+1))],.lst [wf v]])[σ.length]?=some (.Lb [(.inl 7,.ref (σ.length+1))]):=by simp
    have i:(σ++[Ob.Lb [(.inl 7,.ref (σ.length+1))],.lst [wf v]])[σ.length+1]?=some (.lst [wf v]):=by simp
    have l:¬ σ.length+1<σ.length:=by omega
    simp[fz,ql,cl,h,i,wf,gD,l]
 obtain⟨e,f,g,a,c,fz⟩:=c;unfold ae pM;generalize He s=R at *;simp[c,fz,-Ju]
@[simp] theorem O5(ix:List Nat)(fe:Ev->M D)(fs:Ev->M (List D))(ρ:Ev)(σ:ub):FC ix fe fs ρ σ=(fs ρ σ).bind (Nr fe (ix.map λi=>(ρ[i]?).getD none)):=nr rfl
theorem VH{fe:Ev->M D}{x:D}{k:Int}{σ:ub}{Kg:Ev}(h:fe (some x::Kg) σ=.ok (.int k) σ):Nr fe Kg [.lst [x]] σ=.ok x σ:=by
 unfold Nr;dsimp only;rw[En,Vv h,Tf];rfl
section
variable(v e:Int)(σ:ub)
theorem l0:Ua (wf v) (.int 0) σ=.ok (.str "hangs") σ:=by unfold wf;simp
theorem l1:Ua (wf v) (.int 1) σ=.ok (.int v) σ:=by unfold wf;simp
theorem so:(("hangs" : ma) == "open")=false:=by decide
theorem rP:Mf [.lst [wf v]] σ=.ok (.lst [.Jb]) σ:=by
 have c:=λσ=>l0 v σ;have l:=gF (src:=Vi (ga 0)) (ρ:=[some (.lst [wf v])]) (σ:=σ) (s:=.seq [wf v]) (ix:=[]) (ds:=[wf v]) (fi:=eT (Ha oEq (Ha Ua (ga 0) (eC (.int 0))) (eC (.str "open")))) (fe:=Ha Ua (ga 0) (eC (.int 2))) (λd=>d) (λ_=>false) (by simp) (λ_ _=>rfl) (by simp) (λd hd j=>by
  have e:d=wf v:=by simpa using hd
  subst e;generalize wf v=L at *;refine⟨?_,λz=>by cases z⟩;have a:¬ ("hangs" : ma) = "open":=by decide
  simp[c,a]) (λd hd z=>by cases z)
 rw[show ([wf v].filter λ_=>false).map (λd=>d)=[]from rfl]at l;have b:∀ σ,gj (.lst [.Jb]) (.lst []) σ=.ok (.lst [.Jb]) σ:=λσ=>by rw[qD (by unfold Oh;simp)];rfl
 unfold Mf uN;generalize wf v=L at *;simp[l,b,-dt]
theorem EQ:gd [wf v,.Jb,.int e] σ=.ok (.bl false) σ:=by
 have a:=λσ=>l0 v σ;unfold gd pN;generalize wf v=L at *;simp[a,so]
theorem uH:sd [.lst [wf v],.Jb,.int e] σ=.ok (.int 0) σ:=by
 have c:=λσ=>EQ v e σ;have l:=gF (src:=Vi (ga 0)) (ρ:=[some (.lst [wf v]),some .Jb,some (.int e)]) (σ:=σ) (s:=.seq [wf v]) (ix:=[1,2]) (ds:=[wf v]) (fi:=eT (Yc 3 gd [] (ua (ga 0) (ua (ga 2) (ua (ga 3) Ma))))) (fe:=Ha Ua (ga 0) (eC (.int 1))) (λd=>d) (λ_=>false) (by simp) (λ_ _=>rfl) (by simp) (λd hd j=>by
  have e:d=wf v:=by simpa using hd
  subst e;generalize wf v=L at *;refine⟨?_,λz=>by cases z⟩;simp[c]) (λd hd z=>by cases z)
 rw[show ([wf v].filter λ_=>false).map (λd=>d)=[]from rfl]at l;have s0:∀ σ,Op [.lst []] σ=.ok (.int 0) σ:=λσ=>by simp[Op,oq]
 unfold sd nN;generalize wf v=L at *;simp[l,s0,-dt]
theorem sR:Se [.lst [wf v],.int e] σ=.ok .Jb σ:=by
 have f:=λσ=>rP v σ;have s:=λσ=>uH v e σ;have m:Nr (Yc 3 sd [] (ua (ga 1) (ua (ga 0) (ua (ga 2) Ma)))) [some (.lst [wf v]),some (.int e)] [.lst [.Jb]] σ=.ok .Jb σ:=VH (k:=0) (by
  generalize wf v=L at *;simp[s])
 unfold Se FN;generalize wf v=L at *;simp[f,m]
end
noncomputable def fD:Option Int->D
 |none=>.Lb [] []
 |some _=>.Lb [.inl 7] [.Jb]
section
variable(s:Sn)(e:Int)(σ:ub)
theorem r0:Ua (He s) (.int 0) σ=.ok (.int s.b) σ:=by unfold He;simp
theorem aV:∀ (F:D) (_:∀ v,s.x=some v->xl F (.int 7) σ=.ok .Jb σ),Cg [.lst [He s],gD s.x,F,.int e] σ=.ok (.int s.b) σ:=λF h=>by
 have m:=λσ=>r0 s σ;have l:=yu (src:=Vi (ga 0)) (ρ:=[some (.lst [He s]),some (gD s.x),some F,some (.int e),none,none,none]) (σ:=σ) (s:=.seq [He s]) (ix:=[]) (ds:=[He s]) (fe:=Ha Ua (ga 0) (eC (.int 0))) (λ_=>.int s.b) (by simp) (λ_ _=>rfl) (by simp) (λd hd j=>by
  have e:d=He s:=by simpa using hd
  subst e;generalize He s=R at *;simp[m]) (λ_ _=>by simp)
 rw[show [He s].map (λ_=>D.int s.b)=[.int s.b]from rfl]at l;have s1:Op [.lst [.int s.b]] σ=.ok (.int s.b) σ:=by simp[Op,oq]
 have a:∃ c f,nq (Ls (ga 1)) (Xp 2 (Fk (yf 5) (Fk (yf 6) Cq))) mE [some (.lst [He s]),some (gD s.x),some F,some (.int e),some (.int s.b),none,none] σ=.ok (.nx [some (.lst [He s]),some (gD s.x),some F,some (.int e),some (.int s.b),c,f]) σ:=by
  generalize He s=R at *;cases i:s.x with
  |none=>exact⟨_,_,NG rfl⟩
  |some v=>
   have g:=h v i;have n:=λσ=>uH v e σ;refine⟨some (.int 7),some (.lst [wf v]),cG (k:=.inl 7) (v:=.lst [wf v]) rfl (ρ1:=[some (.lst [R]),some (gD (some v)),some F,some (.int e),some (.int s.b),some (.int 7),some (.lst [wf v])]) rfl ?_⟩;unfold mE;rw[U1 (x:=.int s.b) rfl];generalize gD (some v)=G at *;generalize wf v=L at *;simp[g,n]
 obtain⟨c,f,a⟩:=a;unfold Cg EH;generalize He s=R at *;generalize gD s.x=G at *;simp[l,s1,a,-dt,-Ju]
noncomputable def vj(i:Int)(s:Sn):D:=.tup [.int s.b,.lst [.int i],fD s.x]
theorem JB(i:Int)(s:Sn):cl (vj i s)=true:=by unfold vj;cases s.x<;>simp[fD,cl]
noncomputable def Up:Option Int->Kv
 |none=>[]
 |some _=>[(.inl 7,.Jb)]
theorem NU(i:Int):Td [.lst [He s],.lst [.int i],.int e] σ=.ok (vj i s) σ:=by
 have l:=λσ=>zP s σ;have o:∀ v,s.x=some v->xl (.ref σ.length) (.int 7) (σ++[.Lb (Up s.x)])=.ok .Jb (σ++[.Lb (Up s.x)]):=λv hv=>by
  unfold xl rl;rw[hv];simp[Gn,Up,jq]
 have a:∃ f g,nq (Ls (ga 3)) (Xp 2 (Fk (yf 5) (Fk (yf 6) Cq))) oE [some (.lst [He s]),some (.lst [.int i]),some (.int e),some (gD s.x),some (.ref σ.length),none,none] (σ++[.Lb []])=.ok (.nx [some (.lst [He s]),some (.lst [.int i]),some (.int e),some (gD s.x),some (.ref σ.length),f,g]) (σ++[.Lb (Up s.x)]):=by
  generalize He s=R at *;cases c:s.x with
  |none=>exact⟨_,_,NG rfl⟩
  |some v=>
   have p:=λσ=>sR v e σ;have st:=λρ=>zu (ρ:=ρ) (σ:=σ++[.Lb []]) (d:=.Jb) (n:=σ.length) (w:=7) (kvs:=[]) (by simp) (by simp);rw[EA,show Xr [] (.inl 7) .Jb=Up (some v)from rfl]at st;refine⟨some (.int 7),some (.lst [wf v]),cG (k:=.inl 7) (v:=.lst [wf v]) rfl (ρ1:=[some (.lst [R]),some (.lst [.int i]),some (.int e),some (gD (some v)),some (.ref σ.length),some (.int 7),some (.lst [wf v])]) rfl ?_⟩;unfold oE;generalize gD (some v)=G at *;generalize wf v=L at *;generalize σ++[.Lb (Up (some v))]=Z at *;generalize σ++[.Lb []]=Y at *;simp[p,st]
 obtain⟨f,g,a⟩:=a;have q:Cg [.lst [He s],gD s.x,.ref σ.length,.int e] (σ++[.Lb (Up s.x)])=.ok (.int s.b) (σ++[.Lb (Up s.x)]):=aV s e _ _ o;have fz:eh σ (.ok (.tup [.int s.b,.lst [.int i],.ref σ.length]) (σ++[.Lb (Up s.x)]))=.ok (vj i s) σ:=by
  unfold eh;dsimp only;rw[da (by simp)];have h:=RD (σ:=σ) (kvs:=Up s.x) (j:=[]) (m:=4) (by cases s.x<;>simp[Up]);have:fz σ.length (σ++[.Lb (Up s.x)]) 6 (.tup [.int s.b,.lst [.int i],.ref σ.length])=some (vj i s):=by
   unfold fz;rw[ka (by simp[cl,af])];dsimp only;unfold ql;rw[Zv (by simp[cl])];unfold ql;rw[Zv (by simp[cl])];unfold ql;rw[h];cases c:s.x<;>simp[vj,fD,Up,ql,c]
  rw[this]
 unfold Td BN;generalize He s=R at *;generalize gD s.x=G at *;generalize σ++[.Lb (Up s.x)]=Z at *;simp[l,a,q,fz,-Ju]
end
noncomputable def vx:List Sn->D
 |[]=>.Jb
 |[s]=>vj 0 s
 |s::t::_=>if t.b<s.b then vj 1 t else vj 0 s
noncomputable def No:List Sn->Int
 |[]=>0
 |[s]=>s.b
 |s::t::_=>if t.b<s.b then t.b else s.b
noncomputable def gy(ss:List Sn):D->D
 | .lst [.int i]=>vj i (ss.getD i.toNat ⟨0,0,0,none⟩)
 |_=>.Jb
theorem jB(i:Int)(s:Sn)(σ:ub):Ua (vj i s) (.int 0) σ=.ok (.int s.b) σ:=by unfold vj;simp
noncomputable abbrev Az(ss:List Sn):Prop:=(∃ s,ss=[s])\/∃ s t,ss=[s,t]
theorem Az.le{ss:List Sn}(h:Az ss):ss.length<=2:=by rcases h with⟨s,rfl⟩|⟨s,t,rfl⟩<;>simp
theorem E2(e:Int){ss:List Sn}(h:Az ss)(σ:ub):li [Jh e ss] σ=.ok (vx ss) σ:=by
 have r:=λσ=>UW e h.le σ;have c:=λσ=>BP h.le σ;have k:∀ σ,Zc [8,9] "every" (Jh e ss) σ=.ok (.int e) σ:=λσ=>wm (zo rfl) rfl rfl;have m:si (Im (toN (Vi (Yc 1 Sd [] (ua (ga 1) Ma)))) [1,0] (yf 0) Xm (Yc 3 Td [] (ua (Yc 2 Kc [] (ua (ga 2) (ua (ga 0) Ma))) (ua (ga 0) (ua (Fd (Zc [8,9] "every") (ga 3)) Ma))))) [some (Jh e ss),some (RL ss),none] σ=.ok (.lst ((Cn ss.length).map (gy ss))) σ:=by
  refine yu (s:=.seq (Cn ss.length)) (ix:=[1,0]) (gy ss) ?_ (λ_ _=>rfl) (by unfold Cn;simp;have:=h.le;omega) (λd hd j=>?_) (λd hd=>?_)
  ·generalize RL ss=R at *;generalize Cn ss.length=C at *;generalize Jh e ss=V at *;simp[c]
  ·obtain⟨i,a,rfl⟩:=Gb.mp hd;have a:=Yu.mp a;have g:=λσ=>JY (Kb a) σ;have n:=λσ=>NU ss[i] e σ i;have q:gy ss (.lst [.int i])=vj i ss[i]:=by
    show vj i (ss.getD (i:Int).toNat _)=_;rw[Int.toNat_natCast,Dd,Kb a];rfl
   rw[q];generalize vj i ss[i]=P at *;generalize He ss[i]=o at *;generalize RL ss=R at *;generalize Jh e ss=V at *;generalize σ++j=Y at *;simp[g,n,k]
  ·obtain⟨i,a,rfl⟩:=Gb.mp hd;exact JB _ _
 have f:Nr (Ha Ua (ga 0) (eC (.int 0))) [] [.lst ((Cn ss.length).map (gy ss))] σ=.ok (vx ss) σ/\cl (vx ss)=true:=by
  have p:∀ i s σ,Ha Ua (ga 0) (eC (.int 0)) [some (vj i s)] σ=.ok (.int s.b) σ:=λi s σ=>by
   have:=jB i s σ;generalize vj i s=P at *;simp[this]
  rcases h with⟨s,rfl⟩|⟨s,t,rfl⟩
  ·refine⟨?_,JB _ _⟩;show Nr _ [] [.lst [vj 0 s]] σ=.ok (vj 0 s) σ;exact VH (p 0 s σ)
  ·constructor
   ·show Nr _ [] [.lst [vj 0 s,vj 1 t]] σ=.ok (if t.b<s.b then vj 1 t else vj 0 s) σ;unfold Nr;dsimp only;rw[En,Vv (p 0 s σ),Tf];show ot _ [] [vj 1 t] (vj 0 s) s.b σ=_;unfold ot;rw[En,Vv (p 1 t σ),Tf];dsimp only;by_cases hb:t.b<s.b
    ·rw[da hb,da hb];rfl
    ·rw[ka hb,ka hb];rfl
   ·show cl (if t.b<s.b then vj 1 t else vj 0 s)=true;by_cases hb:t.b<s.b
    ·rw[da hb];exact JB _ _
    ·rw[ka hb];exact JB _ _
 obtain⟨f,l⟩:=f;unfold li wH;generalize Jh e ss=V at *;generalize RL ss=R at *;generalize (Cn ss.length).map (gy ss)=P at *;generalize vx ss=B at *;simp[r,m,f,l,-dt]
theorem JJ(e:Int){ss:List Sn}(h:Az ss)(σ:ub):Bh [Jh e ss] σ=.ok (.int (No ss)) σ:=by
 have p:=λσ=>E2 e h σ;have a:∀ σ,Ua (vx ss) (.int 0) σ=.ok (.int (No ss)) σ:=λσ=>by
  rcases h with⟨s,rfl⟩|⟨s,t,rfl⟩
  ·exact jB 0 s σ
  ·show Ua (if t.b<s.b then vj 1 t else vj 0 s) _ σ=.ok (.int (if t.b<s.b then t.b else s.b)) σ;by_cases hb:t.b<s.b
   ·rw[da hb,da hb];exact jB 1 t σ
   ·rw[ka hb,ka hb];exact jB 0 s σ
 unfold Bh LH;generalize Jh e ss=V at *;generalize vx ss=B at *;simp[p,a]
structure Ac where
 c:Nat
 m:Sn
 G:D
 y:List Sn
 L:List D
noncomputable def Ac.D(a:Ac):L4.D:=.obj a.c ["pot", "side", "mine", "grant", "may", "strikes"] [.int 0,.int 1,a.m.D,a.G,.lst (a.y.map Sn.D),.lst a.L]
structure Ac.Ok(a:Ac):Prop where
 c:[4,5,6,7].contains a.c=true
 g:cl a.G=true
 l:af a.L=true
 y:Az a.y
theorem JP(c:Nat)(fn:List D->M D)(a b d e f g:D)(σ:ub):Qo c 7 fn [a,b,d,e,f,g] σ=Uw σ.length (fn [.ref σ.length,a,b,d,e,f,g] (σ++[.ins c []])):=qJ rfl
section
variable{a:Ac}(h:a.Ok)(σ:ub)
include h
theorem Au:jm σ a.D=some (a.c,([("pot",.int 0),("side",.int 1),("mine",a.m.D),("grant",a.G),("may",.lst (a.y.map Sn.D)),("strikes",.lst a.L)]:List (ma × D))):=zo rfl
theorem Rv:Zc [4,5,6,7] "pot" a.D σ=.ok (.int 0) σ:=wm (Au h σ) h.c rfl
theorem wx:Zc [4,5,6,7] "side" a.D σ=.ok (.int 1) σ:=wm (Au h σ) h.c rfl
theorem Ww:Zc [4,5,6,7] "mine" a.D σ=.ok a.m.D σ:=wm (Au h σ) h.c rfl
theorem i1:Zc [4,5,6,7] "grant" a.D σ=.ok a.G σ:=wm (Au h σ) h.c rfl
theorem JG:Zc [4,5,6,7] "may" a.D σ=.ok (.lst (a.y.map Sn.D)) σ:=wm (Au h σ) h.c rfl
theorem mL:Zc [4,5,6,7] "strikes" a.D σ=.ok (.lst a.L) σ:=wm (Au h σ) h.c rfl
theorem Us:cl a.D=true:=by unfold Ac.D;simp[cl,Kl,Nz,h.g,h.l]
theorem fG:eh σ (Qo a.c 7 al [.int 0,.int 1,a.m.D,a.G,.lst (a.y.map Sn.D),.lst a.L] σ)=.ok a.D σ:=by
 have b:=Nz a.y;have hm:=Kl a.m;have o:=h.g;have j:=h.l;have n:=h.c;unfold Ac.D;generalize a.y.map Sn.D=y at *;generalize a.L=z at *;generalize a.G=g at *;generalize a.m.D=m at *;generalize a.c=c at *;have e:=λ(f:ma) (v:D) (fs:List (ma × D)) (q:fs.length<1000)=>uI (ρ:=[some (.ref σ.length),some (.int 0),some (.int 1),some m,some g,some (.lst y),some (.lst z)]) (σ:=σ) (cs:=[4,5,6,7]) (f:=f) (d:=v) (c:=c) (fs:=fs) n q;have r:∀ p:D,Sl "pot" p []=([("pot",p)]:List (ma × D)):=λ_=>rfl;have t:∀ p s:D,Sl "side" s [("pot",p)]=([("pot",p),("side",s)]:List (ma × D)):=λ_ _=>rfl;have u:∀ p s:D,Sl "mine" m [("pot",p),("side",s)]=([("pot",p),("side",s),("mine",m)]:List (ma × D)):=λ_ _=>rfl;have w:∀ p s:D,Sl "grant" g [("pot",p),("side",s),("mine",m)]=([("pot",p),("side",s),("mine",m),("grant",g)]:List (ma × D)):=λ_ _=>rfl;have p4:∀ p s:D,Sl "may" (.lst y) [("pot",p),("side",s),("mine",m),("grant",g)]=([("pot",p),("side",s),("mine",m),("grant",g),("may",.lst y)]:List (ma × D)):=λ_ _=>rfl;have x:∀ p s:D,Sl "strikes" (.lst z) [("pot",p),("side",s),("mine",m),("grant",g),("may",.lst y)]=([("pot",p),("side",s),("mine",m),("grant",g),("may",.lst y),("strikes",.lst z)]:List (ma × D)):=λ_ _=>rfl;have k:=λσ=>gB b σ;have fz:=λσ=>gB j σ;have i:al [.ref σ.length,.int 0,.int 1,m,g,.lst y,.lst z] (σ++[.ins c []])=.ok .Jb (σ++[.ins c [("pot",.int 0),("side",.int 1),("mine",m),("grant",g),("may",.lst y),("strikes",.lst z)]]):=by
  unfold al FL;simp[e,r,t,u,w,p4,x,k,fz]
 rw[JP,i,AD,hH (by simp[hm,o,b,j])];rfl
end
noncomputable def calm(m:Sn)(G:D)(L:List D):Ac:=⟨5,m,G,[m],L⟩
noncomputable def Ff(o m:Sn)(G:D)(L:List D):Ac:=⟨7,m,G,[o,m],L⟩
noncomputable def du(e g:Int):List (ma × D):=[("hand",.int 2),("every",.int e),("last_look",.int 0),("gave",.int g),("known",.ref 1),("accounts",.ref 2),("claims",.ref 3),("seen",.ref 4),("asked",.ref 5),("finishing",.ref 6)]
noncomputable def OI:Kv:=[(.inl 0,.gt ["held"])]
noncomputable def SM:Kv:=[(.inl 0,.Lb [] [])]
noncomputable def S(e g:Int)(A Q:Kv)(J:ub):ub:=.ins 9 (du e g)::.Lb []::.Lb A::.Lb OI::.Lb SM::.Lb Q::.Lb []::J
structure Vs(e g:Int)(σ:ub):Prop where
 h0:σ[0]?=some (.ins 9 (du e g))
 h1:σ[1]?=some (.Lb [])
 h3:σ[3]?=some (.Lb OI)
 h4:σ[4]?=some (.Lb SM)
theorem Qi(e g:Int)(A Q:Kv)(J:ub):Vs e g (S e g A Q J):=⟨rfl,rfl,rfl,rfl⟩
theorem lw{σ j:ub}{k:Nat}{o:Ob}(h:σ[k]?=some o):(σ++j)[k]?=some o:=by
 rw[gb (ja.mp h).1,h]
theorem Vs.app{e g:Int}{σ:ub}(h:Vs e g σ)(j:ub):Vs e g (σ++j):=⟨lw h.h0,lw h.h1,lw h.h3,lw h.h4⟩
theorem lB{σ:ub}{k r:Nat}{o x:Ob}(n:r≠k)(h:σ[k]?=some o):(σ.set r x)[k]?=some o:=by
 rw[Hi n,h]
theorem Vs.set{e g:Int}{σ:ub}(h:Vs e g σ){r:Nat}(a:r=2\/6<r)(x:Ob):Vs e g (σ.set r x):=⟨lB (by omega) h.h0,lB (by omega) h.h1,lB (by omega) h.h3,lB (by omega) h.h4⟩
section
variable{e g:Int}{σ:ub}(h:Vs e g σ)
include h
theorem ut:jm σ (.ref 0)=some (9,du e g):=by unfold jm;simp[h.h0]
theorem DY:Zc [8,9] "every" (.ref 0) σ=.ok (.int e) σ:=wm (ut h) rfl rfl
theorem sO:Zc [8,9] "last_look" (.ref 0) σ=.ok (.int 0) σ:=wm (ut h) rfl rfl
theorem NM:Zc [8,9] "known" (.ref 0) σ=.ok (.ref 1) σ:=wm (ut h) rfl rfl
theorem bS:Zc [9] "gave" (.ref 0) σ=.ok (.int g) σ:=wm (ut h) rfl rfl
theorem Ws:Zc [9] "accounts" (.ref 0) σ=.ok (.ref 2) σ:=wm (ut h) rfl rfl
theorem yN:Zc [9] "claims" (.ref 0) σ=.ok (.ref 3) σ:=wm (ut h) rfl rfl
theorem gT:Zc [9] "seen" (.ref 0) σ=.ok (.ref 4) σ:=wm (ut h) rfl rfl
theorem Qz:Zc [9] "asked" (.ref 0) σ=.ok (.ref 5) σ:=wm (ut h) rfl rfl
theorem Vh{m:ma}(k:Nat)(fn:List D->M D)(fs:M (List D))(hm:(du e g).lookup m=none):xm [(9,fn)] k m fs (.ref 0) σ=(fs σ).bind (jk k fn (.ref 0)):=lp (ut h) rfl hm
theorem IM:xl (.ref 3) (.int 0) σ=.ok (.gt ["held"]) σ:=by
 unfold xl rl;simp only[Gn,h.h3];rfl
theorem wP:xl (.ref 4) (.int 0) σ=.ok (.Lb [] []) σ:=by
 unfold xl rl;simp only[Gn,h.h4];rfl
theorem zW:Xc [.ref 0] σ=.ok (.lst []) σ:=by
 have k:=NM h;have o:bx [.ref 1] σ=.ok (.ref σ.length) (σ++[.lst []]):=by
  have l:Qg σ (.ref 1)=none:=by unfold Qg gi;simp[h.h1]
  have d:rl σ (.ref 1)=some []:=by unfold rl;simp[h.h1]
  unfold bx;simp only[l];unfold eB;simp only[d,show Ov []=some []from rfl,show Mr []=[]from(Yy []).eq_nil];rfl
 have so:eh σ (bx [.ref 1] σ)=.ok (.lst []) σ:=by rw[o];exact Ez rfl
 unfold Xc XI;simp[k,so]
end
theorem UD{σ:ub}{n:Nat}{xs:List D}(h:gi σ n=some xs)(j:ub):gi (σ++j) n=some xs:=by
 have e:=TM h;unfold gi;rw[lw e]
theorem ZP{f:Ev->M D}{src:Ev->M NX}{nx:NX}{n:Nat}{ρ d:Ev}{σ c b:ub}{A A':Kv}{e:D->Ev->Option Ev}{a:Ev->M Fl}(hv:f ρ σ=.ok (.ref n) σ)(g:σ[n]?=some (.Lb A))(hs:src ρ σ=.ok nx c)(i:Ao nx e a 1001 0 ρ c=.ok (.nx d) b)(h:b[n]?=some (.Be A')):UA f (nq src e a) ρ σ=.ok (.nx d) (b.set n (.Lb A')):=by
 show SB MD (f ρ) (nq src e a ρ) σ=_;unfold SB;rw[hv];dsimp only;rw[g];dsimp only;rw[Ju,hs,xq];show qy MD _ (Ao nx e a 1001 0 ρ c)=_;rw[i];unfold qy;simp only[h];rfl
theorem xQ{f:Ev->M D}{n:Nat}{ρ:Ev}{σ:ub}{A:Kv}(hv:f ρ σ=.ok (.ref n) σ)(g:σ[n]?=some (.Lb A)):VB f ρ σ=.ok (cq A) (σ.set n (.Be A)):=by
 show Pc (f ρ) sC σ=_;rw[En,hv,Tf];unfold sC;simp only[g]
theorem zV{σ:ub}{r:Nat}{o:Ob}(h:σ[r]?=some o):σ.set r o=σ:=by
 obtain⟨h1,a⟩:=ja.mp h;rw[<-a];exact List.set_getElem_self h1
theorem IH(c:Nat)(fn:List D->M D)(a b d e:D)(σ:ub):Qo c 5 fn [a,b,d,e] σ=Uw σ.length (fn [.ref σ.length,a,b,d,e] (σ++[.ins c []])):=qJ rfl
theorem PY(σ:ub)(e:Int){n:Nat}{ss:List Sn}(h:gi σ n=some [Tg ss]):tp [.ref σ.length,.int e,.int 0,.lst [],.ref n] (σ++[.ins 8 []])=.ok .Jb (σ++[.ins 8 [("every",.int e),("last_look",.int 0),("known",.lst []),("pots",.lst [Tg ss])]]):=by
 have E:=λ(g:List Nat) (p:g.contains 8=true) (f:ma) (w:D) (fs:List (ma × D)) (q:fs.length<1000)=>uI (ρ:=[some (.ref σ.length),some (.int e),some (.int 0),some (.lst []),some (.ref n)]) (σ:=σ) (cs:=g) (f:=f) (d:=w) (c:=8) (fs:=fs) p q;have m:∀ fs,eh (σ++[.ins 8 fs]) (vp [.lst []] (σ++[.ins 8 fs]))=.ok (.lst []) (σ++[.ins 8 fs]):=λfs=>gB rfl _;have r:∀ fs,si (Im (toN (Vi (ga 4))) [] (yf 0) Xm (vf (ua (Ha Ua (ga 0) (eC (.int 0))) (ua (si (Nh vp (ua (Ha Ua (ga 0) (eC (.int 1))) Ma))) (ua (Nh Dx (ua (Ha Ua (ga 0) (eC (.int 2))) Ma)) Ma))))) [some (.ref σ.length),some (.int e),some (.int 0),some (.lst []),some (.ref n)] (σ++[.ins 8 fs])=.ok (.lst [Tg ss]) (σ++[.ins 8 fs]):=λfs=>by
  have s1:Kw (.ref n) (σ++[.ins 8 fs])=.ok (.rq n) (σ++[.ins 8 fs]):=by
   show (match gi (σ++[.ins 8 fs]) n with|some _=>_|none=>_)=_;rw[UD h]
  have:=yu (ix:=[]) (src:=Vi (ga 4)) (s:=.rq n) (ds:=[Tg ss]) (ρ:=[some (.ref σ.length),some (.int e),some (.int 0),some (.lst []),some (.ref n)]) (σ:=σ++[.ins 8 fs]) (fe:=vf (ua (Ha Ua (ga 0) (eC (.int 0))) (ua (si (Nh vp (ua (Ha Ua (ga 0) (eC (.int 1))) Ma))) (ua (Nh Dx (ua (Ha Ua (ga 0) (eC (.int 2))) Ma)) Ma)))) (λd=>d) (by simp[s1]) (λi j=>by
    show (gi (σ++[.ins 8 fs]++j) n).map _=_;rw[UD (UD h _)];rfl) (by simp)
   (λd hd j=>by
    have e:d=Tg ss:=by simpa using hd
    subst e;have l:=λσ=>gB (Nz ss) σ;have k:∀ τ,Dx [.Lb [] []] τ=.ok (.Lb [] []) τ:=λτ=>nr rfl;unfold Tg;generalize ss.map Sn.D=x at *;simp[l,k]) (λd hd=>by
    have e:d=Tg ss:=by simpa using hd
    rw[e];exact ZD ss)
  exact this
 have t:Sl "every" (.int e) ([]:List (ma × D))=([("every",.int e)]:List (ma × D)):=rfl;have u:∀ a b:D,Sl "last_look" b ([("every",a)]:List (ma × D))=([("every",a),("last_look",b)]:List (ma × D)):=λ_ _=>rfl;have v:∀ a b c:D,Sl "known" c ([("every",a),("last_look",b)]:List (ma × D))=([("every",a),("last_look",b),("known",c)]:List (ma × D)):=λ_ _ _=>rfl;have p4:∀ a b c d:D,Sl "pots" d ([("every",a),("last_look",b),("known",c)]:List (ma × D))=([("every",a),("last_look",b),("known",c),("pots",d)]:List (ma × D)):=λ_ _ _ _=>rfl;have o:∀ ρ σ,si (Nh vp (ua (ga 3) Ma)) ρ σ=eh σ (Nh vp (ua (ga 3) Ma) ρ σ):=λ_ _=>rfl;unfold tp tJ;generalize Tg ss=PS at *;simp[E,t,u,v,p4,m,r,o,-dt]
section
variable{a:Ac}(ha:a.Ok)
include ha
theorem UY(σ:ub):ze [a.D,.gt ["held"]] σ=.ok (.lst (a.y.map Sn.D)) σ:=by
 have m:=λσ=>JG ha σ;have d:∀ σ,Ua (.gt ["held"]) (.int 0) σ=.ok (.str "held") σ:=λσ=>nr rfl;have b:((("held" : ma) == ("held" : ma)))=true:=by decide
 have c:=Nz a.y;unfold ze tM;generalize a.D=A at *;generalize a.y.map Sn.D=Y at *;simp[d,b,m,c]
variable{e g:Int}{σ:ub}(h:Vs e g σ)
include h
theorem BJ{r:Nat}(i:σ[r]?=some (.Lb [(.inl 0,a.D)]))(A:r=2\/6<r):Xb [.ref 0,.ref r] σ=.ok (Jh e a.y) σ:=by
 have b:=(ja.mp i).1;have hs:=h.set A (.Be [(.inl 0,a.D)]);have l:(σ.set r (.Be [(.inl 0,a.D)])).length=σ.length:=List.length_set;have hb:∀ q s,Ao (cq [(.inl 0,a.D)]) (Xp 2 (Fk (yf 3) (Fk (yf 4) Cq))) WB 1001 0 [some (.ref 0),some (.ref r),some (.ref σ.length),q,s] ((σ++[Ob.lst []]).set r (.Be [(.inl 0,a.D)]))=.ok (.nx [some (.ref 0),some (.ref r),some (.ref σ.length),some (.int 0),some a.D]) (σ.set r (.Be [(.inl 0,a.D)])++[Ob.lst [Tg a.y]]):=λq s=>by
  rw[iq _ _ b];rw[kE (d:=.tup [.int 0,a.D]) rfl (ρ1:=[some (.ref 0),some (.ref r),some (.ref σ.length),some (.int 0),some a.D]) rfl];have o:=vB (σ:=σ.set r (.Be [(.inl 0,a.D)])) (xs:=[]) (d:=Tg a.y) (by simp);rw[l,wu]at o;have E:∀ m,ku Qm m (.ref σ.length) (σ.set r (.Be [(.inl 0,a.D)])++[Ob.lst []])=(m (σ.set r (.Be [(.inl 0,a.D)])++[Ob.lst []])).bind (Qm (.ref σ.length)):=λm=>MA (xs:=[]) (by rw[<-l];unfold Qg gi;simp);have v:=hs.app [.lst []];have t:=yN v;have u:=gT v;have w:=IM v;have x:=wP v;have st:=λσ=>UY ha σ;have H:=λσ=>wx ha σ;have I:D.tup [.int 1,.lst (a.y.map Sn.D),.Lb [] []]=Tg a.y:=rfl;have:WB [some (.ref 0),some (.ref r),some (.ref σ.length),some (.int 0),some a.D] (σ.set r (.Be [(.inl 0,a.D)])++[Ob.lst []])=.ok (.nx [some (.ref 0),some (.ref r),some (.ref σ.length),some (.int 0),some a.D]) (σ.set r (.Be [(.inl 0,a.D)])++[Ob.lst [Tg a.y]]):=by
   unfold WB;generalize σ.set r (.Be [(.inl 0,a.D)])++[Ob.lst [Tg a.y]]=Z at *;generalize σ.set r (.Be [(.inl 0,a.D)])++[Ob.lst []]=Y at *;generalize a.D=K at *;generalize D.lst (a.y.map Sn.D)=L at *;simp[t,u,w,x,st,H,E,I,o]
  rw[this,Tf,Ss];exact GC (k:=999) (FD [(.inl 0,a.D)] _)
 have c:=lw (j:=[.lst []]) i;have p:=ZP (f:=ga 1) (src:=VB (ga 1)) (ρ:=[some (.ref 0),some (.ref r),some (.ref σ.length),none,none]) (σ:=σ++[.lst []]) (n:=r) (by simp) c (xQ (by simp) c) (hb none none) (A':=[(.inl 0,a.D)]) (lw (by rw[Wh b]));rw[iq _ _ (by rw[l];exact b),List.set_set,zV i]at p;have g:=h.app [.lst [Tg a.y]];have J:=zW g;have G:=λfs=>Vh g (m:="words") 1 Xc fs rfl;have z:=DY g;have C:=sO g;have B:=QH e a.y;have F:eh (σ++[.lst [Tg a.y]]) (Qo 8 5 tp [.int e,.int 0,.lst [],.ref σ.length] (σ++[.lst [Tg a.y]]))=.ok (Jh e a.y) (σ++[.lst [Tg a.y]]):=by
  rw[IH,PY _ e (n:=σ.length) (ss:=a.y) (by unfold gi;simp),AD,hH (by simp[ZD])];rfl
 have fz:eh σ (.ok (Jh e a.y) (σ++[.lst [Tg a.y]]))=.ok (Jh e a.y) σ:=wJ B;unfold Xb HL;generalize Jh e a.y=V at *;generalize σ++[Ob.lst [Tg a.y]]=M at *;simp[-Ju,p,z,C,J,G,F,fz]
end
section
variable{e g:Int}{a:Ac}(ha:a.Ok){Q:Kv}{J:ub}
include ha
noncomputable abbrev SA(e g:Int)(a:Ac)(Q:Kv)(J:ub):ub:=S e g [(.inl 0,a.D)] Q J
theorem BB:ib [.ref 0] (SA e g a Q J)=.ok (.int (No a.y)) (SA e g a Q J):=by
 have b:=Qi e g [(.inl 0,a.D)] Q J;have v:=BJ ha b (r:=2) rfl (.inl rfl);have c:=Ws b;have w:=λh=>JJ e ha.y h;have m1:=λfs=>Vh b (m:="view_by") 2 Xb fs rfl;have m2:=λfs=>Vh b (m:="view") 1 qd fs rfl;have d:=QH e a.y;have f:qd [.ref 0] (SA e g a Q J)=.ok (Jh e a.y) (SA e g a Q J):=by
  unfold qd iH;unfold SA at *;generalize Jh e a.y=V at *;generalize S e g [(.inl 0,a.D)] Q J=Y at *;simp[m1,c,v,d]
 unfold ib ZM;unfold SA at *;generalize Jh e a.y=V at *;generalize S e g [(.inl 0,a.D)] Q J=Y at *;simp[m2,f,w]
theorem Zy{b:Ac}(hb:b.Ok)(x:Int):qb [.ref 0,b.D,.int x] (SA e g a Q [])=.ok (.bl (decide (No a.y - x<=No b.y))) (SA e g a Q []):=by
 have j:=Qi e g [(.inl 0,a.D)] Q [];have f:=Ws j;have h:dB [.ref 2] (SA e g a Q [])=.ok (.ref 7) (SA e g a Q [.Lb [(.inl 0,a.D)]]):=rfl;have st:∀ d,Kr d b.D (.ref 7) (.int 0) (SA e g a Q [.Lb [(.inl 0,a.D)]])=.ok (.nx d) (SA e g a Q [.Lb [(.inl 0,b.D)]]):=λd=>by
  rw[zu (kvs:=[(.inl 0,a.D)]) rfl (by simp)];rfl
 have pt:=λσ=>Rv hb σ;have c:=Qi e g [(.inl 0,a.D)] Q [.Lb [(.inl 0,b.D)]];have v:=BJ hb c (r:=7) rfl (.inr (by omega));have w:=λσ=>JJ e hb.y σ;have i:=BB (e:=e) (g:=g) ha (Q:=Q) (J:=[.Lb [(.inl 0,b.D)]]);have m1:=λfs=>Vh c (m:="view_by") 2 Xb fs rfl;have m2:=λfs=>Vh c (m:="worth") 1 ib fs rfl;have fz:∀ t,eh (SA e g a Q []) (.ok (.bl t) (SA e g a Q [.Lb [(.inl 0,b.D)]]))=.ok (.bl t) (SA e g a Q []):=λt=>wJ (σ:=SA e g a Q []) (by simp);unfold qb SH;unfold SA at *;generalize S e g [(.inl 0,a.D)] Q [.Lb [(.inl 0,b.D)]]=l at *;generalize S e g [(.inl 0,a.D)] Q [.Lb [(.inl 0,a.D)]]=k at *;generalize S e g [(.inl 0,a.D)] Q []=Y at *;generalize Jh e b.y=V at *;generalize b.D=BD at *;simp[f,h,st,pt,v,w,i,m1,m2,fz]
end
noncomputable def Qd(s:Int)(X:D):D:=.tup [.str "agree",.int 0,.int s,X]
noncomputable def Po(s n:Int):D:=.tup [.str "strike",.int 0,.int s,.int n]
theorem WU(n a b:Int)(ts:List Ti):pl 8 (Sh n a b ts)=true:=by simp[pl,Sh,Ti.D]
structure Sn.Ok(W:Int)(s:Sn):Prop where
 st:bw s.n s.a s.b (mh s.x)
 w:s.a+s.b+Hu (mh s.x)=W
noncomputable def gf(s:Sn):D:=.tup [.str "offer",.int 0,Qd 0 s.D]
noncomputable def Yi(n:Int):D:=.tup [.str "struck",.int 0,Po 0 n]
noncomputable def jp(m s:Sn):D:=.tup [.str "accept",.int 0,Qd 1 s.D,Po 1 m.n]
theorem DV(s:Sn):pl 8 (gf s)=true:=by simp[pl,gf,Qd,Sn.D,Sh,Ti.D]
theorem BZ(n:Int):pl 8 (Yi n)=true:=by simp[pl,Yi,Po]
theorem ap{s:Int}{X:D}(h:cl X=true):cl (Qd s X)=true:=by unfold Qd;simp[cl,h]
theorem GV(m s:Sn):cl (jp m s)=true:=by unfold jp Po;simp[cl,af,ap (Kl s)]
section
variable{W:Int}{s:Sn}(h:s.Ok W)
include h
theorem yJ(σ:ub):Wc [gf s] σ=.ok (.bl true) σ:=by
 have h1:=kB h.st σ;have e:=xB (.inl (rfl:(0:Int)=0)) σ;have h3:=wL σ;have h4:∀ X,Ic [.tup [.str "agree",.int 0,.int 0,X]] σ=.ok (.bl true) σ:=λX=>by
  unfold Ic GF;simp[e,h3]
 have c:(("agree" : ma) == "word")=false:=by decide
 have d:(("agree" : ma) == "strike")=false:=by decide
 have t:je [Qd 0 s.D] σ=.ok (.bl true) σ:=by
  unfold Sn.D Qd je CG;generalize Sh s.n s.a s.b (mh s.x)=X at *;simp[h1,h4,c,d]
 have l:Of [Qd 0 s.D] σ=.ok (.bl true) σ:=by
  have i:Ua (Qd 0 s.D) (.int 0) σ=.ok (.str "agree") σ:=by unfold Qd;simp
  unfold Of yI;generalize Qd 0 s.D=X at *;simp[t,i]
 have m:Oc [gf s] σ=.ok (.bl true) σ:=by
  unfold gf Oc OE;generalize Qd 0 s.D=X at *;simp[l]
 have f:Ua (gf s) (.int 0) σ=.ok (.str "offer") σ:=by unfold gf;simp
 have g:Ua (gf s) (.int 1) σ=.ok (.int 0) σ:=by unfold gf;simp
 have k:Dl [gf s] σ=.ok (.int 3) σ:=by unfold gf;simp
 have j:Ym .tuple (gf s) σ=.ok (.bl true) σ:=by unfold gf;simp
 unfold Wc RF;generalize gf s=X at *;simp[m,h3,f,g,k,j]
theorem lT{m:Sn}(hm:m.Ok W)(hn:s.n=m.n+1)(σ:ub):ce [s.D,m.D] σ=.ok (.bl true) σ:=by
 have h1:=cR h.st σ;have c:=lH m.n m.a m.b (ts:=mh m.x) hm.st.l σ;rw[h.w]at h1;rw[hm.w]at c;have d:∀ (s:Sn) σ,Ua s.D (.int 0) σ=.ok (.int s.n) σ:=λs σ=>by unfold Sn.D Sh;simp
 have e:=d s σ;have f:=d m σ;have hb:(s.n == m.n+1)=true:=by simp[hn]
 unfold ce DL;unfold Sn.D at *;generalize Sh s.n s.a s.b (mh s.x)=X at *;generalize Sh m.n m.a m.b (mh m.x)=Y at *;simp[h1,c,e,f,hb]
end
theorem iI{n:Int}(h:0<=n/\n<=1000000)(σ:ub):Wc [Yi n] σ=.ok (.bl true) σ:=by
 have h1:=NK h σ;have d:=xB (.inl (rfl:(0:Int)=0)) σ;have h3:=wL σ;have h4:∀ X,Ic [.tup [.str "strike",.int 0,.int 0,X]] σ=.ok (.bl true) σ:=λX=>by
  unfold Ic GF;simp[d,h3]
 have a:(("strike" : ma) == "word")=false:=by decide
 have b:(("struck" : ma) == "offer")=false:=by decide
 have c:(("struck" : ma) == "accept")=false:=by decide
 have t:je [Po 0 n] σ=.ok (.bl true) σ:=by
  unfold Po je CG;simp[h1,h4,a]
 have k:jf [Po 0 n] σ=.ok (.bl true) σ:=by
  have i:Ua (Po 0 n) (.int 0) σ=.ok (.str "strike") σ:=by unfold Po;simp
  unfold jf zH;generalize Po 0 n=X at *;simp[t,i]
 have l:Oc [Yi n] σ=.ok (.bl true) σ:=by
  unfold Yi Oc OE;generalize Po 0 n=X at *;simp[k,b,c]
 have e:Ua (Yi n) (.int 0) σ=.ok (.str "struck") σ:=by unfold Yi;simp
 have f:Ua (Yi n) (.int 1) σ=.ok (.int 0) σ:=by unfold Yi;simp
 have j:Dl [Yi n] σ=.ok (.int 3) σ:=by unfold Yi;simp
 have g:Ym .tuple (Yi n) σ=.ok (.bl true) σ:=by unfold Yi;simp
 unfold Wc RF;generalize Yi n=X at *;simp[l,h3,e,f,j,g]
section
variable{a:Ac}(ha:a.Ok)
include ha
theorem ZC(s:Int){X:D}(b:cl X=true)(σ:ub):Aa [a.D,.int s,X] σ=.ok (Qd s X) σ:=by
 have p:=λσ=>Rv ha σ;unfold Aa QM Qd;generalize a.D=A at *;simp[p,b]
theorem bI(s:Int)(m:Sn)(σ:ub):Wa [a.D,.int s,m.D] σ=.ok (Po s m.n) σ:=by
 have p:=λσ=>Rv ha σ;have b:∀ σ,Ua m.D (.int 0) σ=.ok (.int m.n) σ:=λσ=>by unfold Sn.D Sh;simp
 unfold Wa DN Po;generalize a.D=A at *;generalize m.D=M at *;simp[p,b]
end
theorem xo(m:Sn){G:D}{L:List D}(a:cl G=true)(b:af L=true):(calm m G L).Ok:=⟨rfl,a,b,.inl ⟨m,rfl⟩⟩
theorem Lu(o m:Sn){G:D}{L:List D}(a:cl G=true)(b:af L=true):(Ff o m G L).Ok:=⟨rfl,a,b,.inr ⟨o,m,rfl⟩⟩
section
variable{m s:Sn}{W:Int}(hm:m.Ok W)(hs:s.Ok W)(hn:s.n=m.n+1){G:D}{L:List D}(hg:cl G=true)(hl:af L=true)(hLk:L.length<=100)
include hm hs hn hg hl
theorem AC(σ:ub):Cb [(calm m G L).D,gf s] σ=.ok (.tup [(Ff m s (Qd 0 s.D) L).D,jp m s]) σ:=by
 have a:=xo m hg hl;have e:=Lu m s (ap (s:=0) (Kl s)) hl;have le:=λσ=>yJ hs σ;have j:=λσ=>wx a σ;have k:=λσ=>Rv a σ;have c:=λσ=>Ww a σ;have d:=λσ=>mL a σ;have o:∀ σ,Ua (gf s) (.int 0) σ=.ok (.str "offer") σ:=λσ=>by unfold gf;simp
 have p:∀ σ,Ua (gf s) (.int 2) σ=.ok (Qd 0 s.D) σ:=λσ=>by unfold gf;simp
 have q:∀ σ,Ua (Qd 0 s.D) (.int 3) σ=.ok s.D σ:=λσ=>by unfold Qd;simp
 have i:=λσ=>ZC a 0 (Kl s) σ;have b:=λσ=>ZC a 1 (Kl s) σ;have u:=λσ=>bI a 1 m σ;have ns:∀ σ,di (.str "offer") (.str "offer") σ=.ok (.bl false) σ:=λσ=>Rs (by simp[pl]);have t:∀ fs σ,xm [(5,Aa)] 3 "agree_of" fs (calm m G L).D σ=(fs σ).bind (jk 3 Aa (calm m G L).D):=λfs σ=>lp (zo rfl) rfl rfl;have r:∀ fs σ,xm [(5,Wa)] 3 "strike_of" fs (calm m G L).D σ=(fs σ).bind (jk 3 Wa (calm m G L).D):=λfs σ=>lp (zo rfl) rfl rfl;have ne:∀ σ,di (gf s) (.tup [.str "offer",.int 0,Qd 0 s.D]) σ=.ok (.bl false) σ:=λσ=>Rs (x:=gf s) (DV s);have l:=λσ=>lT hs hm hn σ;have f:=λσ=>fG e σ;have f:∀ σ,eh σ (Qo 7 7 al [.int 0,.int 1,s.D,Qd 0 s.D,.lst [m.D,s.D],.lst L] σ)=.ok (Ff m s (Qd 0 s.D) L).D σ:=f;have c:∀ σ,Zc [4,5,6,7] "mine" (calm m G L).D σ=.ok m.D σ:=c;have d:∀ σ,Zc [4,5,6,7] "strikes" (calm m G L).D σ=.ok (.lst L) σ:=d;have g:cl (.tup [(Ff m s (Qd 0 s.D) L).D,jp m s])=true:=by simp[cl,af,Us e,GV]
 have B:=Us e;unfold jp at g ⊢;unfold Cb eM;generalize (Ff m s (Qd 0 s.D) L).D=A at *;generalize (calm m G L).D=CD at *;generalize gf s=O at *;generalize Qd 0 s.D=v at *;generalize Qd 1 s.D=h at *;generalize Po 1 m.n=z at *;generalize m.D=w at *;generalize s.D=y at *;simp[le,j,k,c,d,o,p,q,i,b,u,t,r,ne,ns,l,f,g]
omit hs hn
include hLk
theorem lV(σ:ub):xb [(Ff m s G L).D,Yi m.n] σ=.ok (.tup [(calm s G (L++[.int m.n])).D,.Jb]) σ:=by
 have a:=Lu m s hg hl;have b:af (L++[.int m.n])=true:=by rw[RG,hl];rfl
 have c:=xo s hg b;have le:=λσ=>iI hm.st.n σ;have e:=λσ=>wx a σ;have f:=λσ=>Rv a σ;have g:∀ σ,Zc [4,5,6,7] "mine" (Ff m s G L).D σ=.ok s.D σ:=λσ=>Ww a σ;have h:∀ σ,Zc [4,5,6,7] "strikes" (Ff m s G L).D σ=.ok (.lst L) σ:=λσ=>mL a σ;have i:∀ σ,Zc [4,5,6,7] "may" (Ff m s G L).D σ=.ok (.lst [m.D,s.D]) σ:=λσ=>JG a σ;have j:∀ σ,Zc [4,5,6,7] "grant" (Ff m s G L).D σ=.ok G σ:=λσ=>i1 a σ;have l:∀ σ,Ua m.D (.int 0) σ=.ok (.int m.n) σ:=λσ=>by unfold Sn.D Sh;simp
 have q:=λσ=>bI a 0 m σ;have p:∀ fs σ,xm [(7,Wa)] 3 "strike_of" fs (Ff m s G L).D σ=(fs σ).bind (jk 3 Wa (Ff m s G L).D):=λfs σ=>lp (zo rfl) rfl rfl;have ne:∀ σ,di (Yi m.n) (.tup [.str "struck",.int 0,Po 0 m.n]) σ=.ok (.bl false) σ:=λσ=>Rs (x:=Yi m.n) (BZ _);have d:∀ σ,gj (.lst L) (.lst [.int m.n]) σ=.ok (.lst (L++[.int m.n])) σ:=λσ=>qD (by unfold Oh;simp;omega);have o:∀ σ,eh σ (Qo 5 7 al [.int 0,.int 1,s.D,G,.lst [s.D],.lst (L++[.int m.n])] σ)=.ok (calm s G (L++[.int m.n])).D σ:=λσ=>fG c σ;have k:cl (.tup [(calm s G (L++[.int m.n])).D,.Jb])=true:=by simp[cl,af,Us c]
 unfold xb zL;generalize (calm s G (L++[.int m.n])).D=w at *;generalize (Ff m s G L).D=CD at *;generalize Yi m.n=O at *;generalize Po 0 m.n=v at *;generalize m.D=t at *;generalize s.D=u at *;generalize L++[.int m.n]=r at *;simp[le,e,f,g,h,i,j,l,q,p,ne,d,o,k]
end
noncomputable def Ys(s:Sn):D:=.tup [.str "ask",.int 0,.tup [.int s.a,.int s.b],.tup ((mh s.x).map Ti.D)]
noncomputable def Uf(v:Int)(s:Sn):D:=.tup [.int v,.tup [.int s.a,.int s.b],.tup ((mh s.x).map Ti.D)]
noncomputable def Bj(v:Int):D:=.tup [.str "give",.int 0,.int v]
noncomputable def Qs:Option D->Kv
 |none=>[]
 |some d=>[(.inl 0,d)]
theorem TY(x:Option Int):af ((mh x).map Ti.D)=true:=Uv λd hd=>by obtain⟨t,_,rfl⟩:=Gb.mp hd;exact zK t
theorem wO(s:Sn):cl (Ys s)=true:=by unfold Ys;simp[cl,af,TY]
theorem qO(q:Option D)(d:D):Xr (Qs q) (.inl 0) d=Qs (some d):=by cases q<;>rfl
theorem s0(s:Sn)(σ:ub):Ua s.D (.int 0) σ=.ok (.int s.n) σ:=by unfold Sn.D Sh;simp
theorem s1(s:Sn)(σ:ub):Ua s.D (.int 1) σ=.ok (.tup [.int s.a,.int s.b]) σ:=by unfold Sn.D Sh;simp
theorem s2(s:Sn)(σ:ub):Ua s.D (.int 2) σ=.ok (.tup ((mh s.x).map Ti.D)) σ:=by unfold Sn.D Sh;simp
theorem LZ(σ:ub):Yz (.gt ["held"]) (.gt ["held"]) σ=.ok (.bl true) σ:=by
 unfold Yz;simp[Bm,Wi,kd,zn,Lj]
section
variable{e g:Int}{A:D}{Q:Kv}
theorem bZ:kx (.int 0) (.ref 2) (S e g [(.inl 0,A)] Q [])=.ok (.bl true) (S e g [(.inl 0,A)] Q []):=nr rfl
theorem zZ:Vw (.int 0) (.ref 2) (S e g [(.inl 0,A)] Q [])=.ok (.bl false) (S e g [(.inl 0,A)] Q []):=nr rfl
theorem Yv:xl (.ref 2) (.int 0) (S e g [(.inl 0,A)] Q [])=.ok A (S e g [(.inl 0,A)] Q []):=nr rfl
theorem PH:wc [.ref 0,.int 0] (S e g [(.inl 0,A)] Q [])=.ok (.bl true) (S e g [(.inl 0,A)] Q []):=by
 have b:=Qi e g [(.inl 0,A)] Q [];have a:=Ws b;have c:=yN b;have h:=IM b;have i:=bZ (e:=e) (g:=g) (A:=A) (Q:=Q);have q:=λd=>LZ d;unfold wc ZJ;generalize S e g [(.inl 0,A)] Q []=Y at *;simp[a,c,h,i,q]
theorem Uz(b:cl A=true):Va [.ref 0,.int 0] (S e g [(.inl 0,A)] Q [])=.ok A (S e g [(.inl 0,A)] Q []):=by
 have c:=Qi e g [(.inl 0,A)] Q [];have a:=Ws c;have i:=zZ (e:=e) (g:=g) (A:=A) (Q:=Q);have h:=Yv (e:=e) (g:=g) (A:=A) (Q:=Q);unfold Va zM;generalize S e g [(.inl 0,A)] Q []=Y at *;simp[a,i,h,b]
theorem wy:lb [.ref 0] (S e g [(.inl 0,A)] Q [])=.ok (.int g) (S e g [(.inl 0,A)] Q []):=by
 have a:=bS (Qi e g [(.inl 0,A)] Q []);unfold lb yH;generalize S e g [(.inl 0,A)] Q []=Y at *;simp[a]
theorem pV(q:Option D)(d:D)(ρ:Ev):Kr ρ d (.ref 5) (.int 0) (S e g [(.inl 0,A)] (Qs q) [])=.ok (.nx ρ) (S e g [(.inl 0,A)] (Qs (some d)) []):=by
 rw[zu (kvs:=Qs q) rfl (by cases q<;>simp[Qs]),qO];rfl
end
noncomputable def gv(m:Sn)(v:Int):Sn:=⟨m.n+1,m.a+v,m.b - v,m.x⟩
section
variable{W v:Int}{m:Sn}(hs:(gv m v).Ok W)(hv:1<=v/\v<=1000000000000)
include hs hv
theorem kU(σ:ub):Rj [m.D,.int 1,.int v] σ=.ok (gv m v).D σ:=by
 have h1:=λσ=>xB (.inr (rfl:(1:Int)=1)) σ;have h:∀ σ,Pd [.int v] σ=.ok (.bl true) σ:=λσ=>by
  have b:=bt hv σ;unfold Pd zF;simp[b]
 have q:∀ (a b x:Int) σ,Nd [.tup [.int a,.int b],.int 1,.int x] σ=.ok (.tup [.int a,.int (b+x)]) σ:=λa b x σ=>by
  unfold Nd dF;simp
 have p:∀ (a b x:Int) σ,Nd [.tup [.int a,.int b],.int 0,.int x] σ=.ok (.tup [.int (a+x),.int b]) σ:=λa b x σ=>by
  unfold Nd dF;simp
 have o:∀ σ,me [.int 1] σ=.ok (.int 0) σ:=λσ=>VT 1 σ;have i:=λσ=>s0 m σ;have j:=λσ=>s1 m σ;have k:=λσ=>s2 m σ;have st:=λσ=>kB hs.st σ;have c:=Kl (gv m v);have fs:∀ σ,og [.int (m.n+1),.tup [.int (m.a+v),.int (m.b+-v)],.tup ((mh m.x).map Ti.D)] σ=.ok (gv m v).D σ:=λσ=>by
  have e:D.tup [.int (m.n+1),.tup [.int (m.a+v),.int (m.b+-v)],.tup ((mh m.x).map Ti.D)]=(gv m v).D:=by
   rw[<-Int.sub_eq_add_neg];rfl
  have st:∀ σ,qe [(gv m v).D] σ=.ok (.bl true) σ:=st;have l:∀ σ,Os (.tup ((mh m.x).map Ti.D)) .Jb σ=.ok (.bl false) σ:=λσ=>rfl;unfold og DF;generalize D.tup ((mh m.x).map Ti.D)=TT at *;generalize (gv m v).D=d at *;simp[e,st,c,l]
 have g:∀ σ,kf [m.D,.tup [.int (m.a+v),.int (m.b+-v)],.tup ((mh m.x).map Ti.D)] σ=.ok (gv m v).D σ:=λσ=>by
  unfold kf oN;generalize D.tup ((mh m.x).map Ti.D)=TT at *;generalize (gv m v).D=d at *;generalize m.D=f at *;simp[i,fs,c]
 unfold Rj NL;generalize D.tup ((mh m.x).map Ti.D)=TT at *;generalize (gv m v).D=d at *;generalize m.D=f at *;simp[h1,h,q,p,o,j,k,g,c]
end
section
variable{W v:Int}{m:Sn}(hm:m.Ok W)(hs:(gv m v).Ok W)(hv:1<=v/\v<=1000000000000){G:D}{L:List D}(hg:cl G=true)(hl:af L=true)
include hm hs hg hl
theorem wU(σ:ub):vg [(calm m G L).D,(gv m v).D] σ=.ok (.tup [(Ff m (gv m v) (Qd 0 (gv m v).D) L).D,Ys (gv m v)]) σ:=by
 have c:=xo m hg hl;have i:=Lu m (gv m v) (ap (s:=0) (Kl (gv m v))) hl;have f:=λσ=>wx c σ;have g:=λσ=>Rv c σ;have d:=λσ=>ZC c 0 (Kl (gv m v)) σ;have n:∀ fs σ,xm [(4,Aa),(5,Aa),(6,Aa),(7,Aa)] 3 "agree_of" fs (calm m G L).D σ=(fs σ).bind (jk 3 Aa (calm m G L).D):=λfs σ=>lp (zo rfl) rfl rfl;have l:∀ fs σ,xm [(5,Cb),(6,Vb),(7,xb)] 2 "taken" fs (calm m G L).D σ=(fs σ).bind (jk 2 Cb (calm m G L).D):=λfs σ=>lp (zo rfl) rfl rfl;have o:=λσ=>AC hm hs rfl hg hl σ;have j:=λσ=>s1 (gv m v) σ;have k:=λσ=>s2 (gv m v) σ;have h:cl (.tup [(Ff m (gv m v) (Qd 0 (gv m v).D) L).D,Ys (gv m v)])=true:=by simp[cl,af,Us i,wO]
 have of:D.tup [.str "offer",.int 0,Qd 0 (gv m v).D]=gf (gv m v):=rfl;have e:D.tup [.str "ask",.int 0,.tup [.int (gv m v).a,.int (gv m v).b],.tup ((mh (gv m v).x).map Ti.D)]=Ys (gv m v):=rfl;unfold vg OJ;generalize (Ff m (gv m v) (Qd 0 (gv m v).D) L).D=y at *;generalize (calm m G L).D=CD at *;generalize Qd 0 (gv m v).D=r at *;generalize Ys (gv m v)=t at *;generalize D.tup ((mh (gv m v).x).map Ti.D)=TT at *;generalize D.tup [.int (gv m v).a,.int (gv m v).b]=p at *;generalize gf (gv m v)=w at *;generalize jp m (gv m v)=q at *;generalize (gv m v).D=u at *;simp[f,g,d,n,l,o,j,k,of,e,h]
include hv
theorem N0(K:D)(σ:ub):Zd [(calm m G L).D,Bj v,K] σ=.ok (gv m v).D σ:=by
 have a:=xo m hg hl;have b:=λσ=>wx a σ;have c:∀ σ,Zc [4,5,6,7] "mine" (calm m G L).D σ=.ok m.D σ:=λσ=>Ww a σ;have d:=λσ=>kU hs hv σ;have e:=Kl (gv m v);have f:∀ σ,Ua (Bj v) (.int 0) σ=.ok (.str "give") σ:=λσ=>by unfold Bj;simp
 have g:∀ σ,Ua (Bj v) (.int 2) σ=.ok (.int v) σ:=λσ=>by unfold Bj;simp
 unfold Zd wI;generalize (calm m G L).D=CD at *;generalize (gv m v).D=h at *;generalize m.D=i at *;generalize Bj v=j at *;simp[b,c,d,e,f,g]
theorem qW(e g:Int)(q:Option D):qc [.ref 0,(gv m v).D,Bj v] (SA e g (calm m G L) (Qs q) [])=.ok (.tup [.bl true,.lst [Ys (gv m v)]]) (SA e g (calm m G L) (Qs (some (Uf v (gv m v)))) []):=by
 have f:=xo m hg hl;have p:=Lu m (gv m v) (ap (s:=0) (Kl (gv m v))) hl;have c:=Qi e g [(.inl 0,(calm m G L).D)] (Qs q) [];have u:=Ws c;have w:=Qz c;have n:=Yv (e:=e) (g:=g) (A:=(calm m G L).D) (Q:=Qs q);have l:=λσ=>wx f σ;have sp:=λσ=>wU hm hs hg hl σ;have d:=Zy (e:=e) (g:=g) f (Q:=Qs q) p v;have mg:=λfs=>Vh c (m:="is_good") 3 qb fs rfl;have o:decide (No (calm m G L).y - v<=No (Ff m (gv m v) (Qd 0 (gv m v).D) L).y)=true:=by
  have:No (Ff m (gv m v) (Qd 0 (gv m v).D) L).y=m.b - v:=by
   show (if m.b - v<m.b then m.b - v else m.b)=_;rw[da (by omega)]
  rw[this];exact Ge (Mq _)
 rw[o]at d;have h:∀ σ,Ua (Bj v) (.int 0) σ=.ok (.str "give") σ:=λσ=>by unfold Bj;simp
 have z:∀ σ,Ua (Bj v) (.int 1) σ=.ok (.int 0) σ:=λσ=>by unfold Bj;simp
 have B:∀ σ,Ua (Bj v) (.int 2) σ=.ok (.int v) σ:=λσ=>by unfold Bj;simp
 have j:∀ σ,be [Bj v] σ=.ok (.int v) σ:=λσ=>by
  unfold be YI;generalize Bj v=i at *;simp[h,B]
 have r:=λσ=>s1 (gv m v) σ;have t:=λσ=>s2 (gv m v) σ;have sa:=λC=>pV (e:=e) (g:=g) (A:=(calm m G L).D) q (Uf v (gv m v)) C;have k:D.tup [.int v,.tup [.int (gv m v).a,.int (gv m v).b],.tup ((mh (gv m v).x).map Ti.D)]=Uf v (gv m v):=rfl;have ns:(("give" : ma) == "settle")=false:=by decide
 unfold qc DM gJ vM HM jN sN WL ON NH;unfold SA at *;generalize (Ff m (gv m v) (Qd 0 (gv m v).D) L).D=J at *;generalize S e g [(.inl 0,(calm m G L).D)] (Qs (some (Uf v (gv m v)))) []=K at *;generalize S e g [(.inl 0,(calm m G L).D)] (Qs q) []=Y at *;generalize (calm m G L).D=CD at *;generalize Ys (gv m v)=H at *;generalize Uf v (gv m v)=F at *;generalize D.tup ((mh (gv m v).x).map Ti.D)=TT at *;generalize D.tup [.int (gv m v).a,.int (gv m v).b]=E at *;generalize (gv m v).D=I at *;generalize Bj v=i at *;simp[u,w,n,l,sp,d,mg,h,z,j,r,t,sa,k,ns]
theorem uK(e g:Int)(q:Option D):cc [.ref 0,Bj v] (SA e g (calm m G L) (Qs q) [])=.ok (.tup [.bl true,.lst [Ys (gv m v)]]) (SA e g (calm m G L) (Qs (some (Uf v (gv m v)))) []):=by
 have y:=xo m hg hl;have a:=Qi e g [(.inl 0,(calm m G L).D)] (Qs q) [];have f:=Ws a;have h:=NM a;have c:=Yv (e:=e) (g:=g) (A:=(calm m G L).D) (Q:=Qs q);have d:=PH (e:=e) (g:=g) (A:=(calm m G L).D) (Q:=Qs q);have j:=λfs=>Vh a (m:="holds") 2 wc fs rfl;have k:=λfs=>Vh a (m:="wish_for") 3 qc fs rfl;have p:=qW hm hs hv hg hl e g q;have r:=λK σ=>N0 hm hs hv hg hl K σ;have n:∀ σ,Ua (Bj v) (.int 0) σ=.ok (.str "give") σ:=λσ=>by unfold Bj;simp
 have o:∀ σ,Ua (Bj v) (.int 1) σ=.ok (.int 0) σ:=λσ=>by unfold Bj;simp
 have ns:(("give" : ma) == "finish")=false:=by decide
 have l:∀ σ,di (.str "calm") (.str "calm") σ=.ok (.bl false) σ:=λσ=>Rs (by simp[pl]);have b:∀ x σ,Bb [x] σ=.ok (.str "calm") σ:=λx σ=>by unfold Bb GA;simp
 have i:∀ fs σ,xm [(5,Bb),(6,yc),(7,Bc)] 1 "word" fs (calm m G L).D σ=(fs σ).bind (jk 1 Bb (calm m G L).D):=λfs σ=>lp (zo rfl) rfl rfl;unfold cc QL YL qN qI HI MJ BM;unfold SA at *;generalize S e g [(.inl 0,(calm m G L).D)] (Qs (some (Uf v (gv m v)))) []=w at *;generalize S e g [(.inl 0,(calm m G L).D)] (Qs q) []=Y at *;generalize (calm m G L).D=CD at *;generalize Ys (gv m v)=s at *;generalize (gv m v).D=t at *;generalize Bj v=u at *;simp[f,h,c,d,j,k,p,r,n,o,ns,l,b,i]
end
noncomputable def qq(s:Sn):D:=.tup [.tup [.int s.a,.int s.b],.tup ((mh s.x).map Ti.D)]
theorem JZ(s:Sn)(σ:ub):mx s.D (some 1) none σ=.ok (qq s) σ:=nr rfl
theorem bY(v:Int)(s:Sn)(σ:ub):mx (Uf v s) (some 1) none σ=.ok (qq s) σ:=nr rfl
theorem BS(s:Sn):pl 8 (qq s)=true:=by simp[pl,qq,Ti.D]
theorem KO{s t:Sn}(h:s.a≠t.a)(hs:s.x=none)(b:t.x=none)(σ:ub):oEq (qq s) (qq t) σ=.ok (.bl false) σ:=by
 unfold qq;rw[hs,b];refine Qy ?_;have:(s.a == t.a)=false:=by simp[h]
 simp[Wi,kd,zn,Bm,Lj,mh,this]
section
variable{e g:Int}{A:D}
theorem fH(d:D):xl (.ref 5) (.int 0) (S e g [(.inl 0,A)] (Qs (some d)) [])=.ok d (S e g [(.inl 0,A)] (Qs (some d)) []):=nr rfl
theorem jL(q:Option D):Vw (.int 0) (.ref 5) (S e g [(.inl 0,A)] (Qs q) [])=.ok (.bl q.isNone) (S e g [(.inl 0,A)] (Qs q) []):=by cases q<;>exact nr rfl
theorem NJ(s:Sn):Fa [.ref 0,gf s] (S e g [(.inl 0,A)] (Qs none) [])=.ok (.bl false) (S e g [(.inl 0,A)] (Qs none) []):=by
 have k:=Qz (Qi e g [(.inl 0,A)] (Qs none) []);have n:=jL (e:=e) (g:=g) (A:=A) none;have a:∀ σ,Ua (gf s) (.int 0) σ=.ok (.str "offer") σ:=λσ=>by unfold gf;simp
 have b:∀ σ,Ua (gf s) (.int 1) σ=.ok (.int 0) σ:=λσ=>by unfold gf;simp
 have ns:∀ σ,di (.str "offer") (.str "offer") σ=.ok (.bl false) σ:=λσ=>Rs (by simp[pl]);unfold Fa WA;generalize S e g [(.inl 0,A)] (Qs none) []=Y at *;generalize gf s=O at *;simp[k,n,a,b,ns]
theorem rN(s t:Sn)(v:Int){b:Bool}(hb:∀ σ,oEq (qq s) (qq t) σ=.ok (.bl b) σ):Fa [.ref 0,gf s] (S e g [(.inl 0,A)] (Qs (some (Uf v t))) [])=.ok (.bl b) (S e g [(.inl 0,A)] (Qs (some (Uf v t))) []):=by
 have k:=Qz (Qi e g [(.inl 0,A)] (Qs (some (Uf v t))) []);have n:=jL (e:=e) (g:=g) (A:=A) (some (Uf v t));have a:=fH (e:=e) (g:=g) (A:=A) (Uf v t);have c:∀ σ,Ua (gf s) (.int 0) σ=.ok (.str "offer") σ:=λσ=>by unfold gf;simp
 have d:∀ σ,Ua (gf s) (.int 1) σ=.ok (.int 0) σ:=λσ=>by unfold gf;simp
 have f:∀ σ,Ua (gf s) (.int 2) σ=.ok (Qd 0 s.D) σ:=λσ=>by unfold gf;simp
 have h:∀ σ,Ua (Qd 0 s.D) (.int 3) σ=.ok s.D σ:=λσ=>by unfold Qd;simp
 have ns:∀ σ,di (.str "offer") (.str "offer") σ=.ok (.bl false) σ:=λσ=>Rs (by simp[pl]);have l1:=λσ=>JZ s σ;have i:=λσ=>bY v t σ;unfold Fa WA;generalize S e g [(.inl 0,A)] (Qs (some (Uf v t))) []=Y at *;generalize gf s=O at *;generalize Qd 0 s.D=j at *;generalize qq s=TS at *;generalize qq t=TT at *;generalize Uf v t=l at *;generalize s.D=m at *;simp[k,n,a,c,d,f,h,ns,l1,i,hb]
theorem WW(n:Int)(q:Option D):Fa [.ref 0,Yi n] (S e g [(.inl 0,A)] (Qs q) [])=.ok (.bl false) (S e g [(.inl 0,A)] (Qs q) []):=by
 have a:∀ σ,Ua (Yi n) (.int 0) σ=.ok (.str "struck") σ:=λσ=>by unfold Yi;simp
 have c:¬ ("struck" : ma) = "offer":=by decide
 have ns:∀ σ,di (.str "struck") (.str "offer") σ=.ok (.bl true) σ:=λσ=>eD (b:=false) (by simp[Wi,kd,zn,Lj,c]);unfold Fa WA;generalize S e g [(.inl 0,A)] (Qs q) []=Y at *;generalize Yi n=O at *;simp[a,ns]
theorem dG(q:Option D)(B:D)(ρ:Ev):Kr ρ B (.ref 2) (.int 0) (S e g [(.inl 0,A)] (Qs q) [])=.ok (.nx ρ) (S e g [(.inl 0,B)] (Qs q) []):=by
 rw[zu (kvs:=[(.inl 0,A)]) rfl (by simp)];rfl
theorem cQ(d:D):Jx (.ref 5) [.int 0] (S e g [(.inl 0,A)] (Qs (some d)) [])=.ok d (S e g [(.inl 0,A)] (Qs none) []):=nr rfl
theorem MZ(q:Option D)(fs:M (List D)):Aw Jx fs (.ref 5) (S e g [(.inl 0,A)] (Qs q) [])=(fs (S e g [(.inl 0,A)] (Qs q) [])).bind (Jx (.ref 5)):=nr rfl
@[simp] theorem U6(cs:List Nat)(f:ma)(b a:Ev->M D)(ρ:Ev)(σ:ub):yA cs f b a ρ σ=Oo ρ (Fw ρ cs f b) (a ρ σ):=Vp ..
theorem jW(q:Option D)(v:Int){ρ:Ev}{f:Ev->M D}(a:∀ σ,f ρ σ=.ok (.int v) σ):Fw ρ [9] "gave" f (.ref 0) (S e g [(.inl 0,A)] (Qs q) [])=.ok (.nx ρ) (S e (g+v) [(.inl 0,A)] (Qs q) []):=by
 have h:=ut (Qi e g [(.inl 0,A)] (Qs q) []);unfold Fw;rw[h];show xs ρ (f ρ) (mG ρ 9 "gave" (.ref 0) g) _=_;rw[Vp,a,xq];rfl
end
theorem BA{a b:Ac}(d:a.Ok)(hb:b.Ok)(h:(a.c,b.c)∈[(7,5),(5,7)])(σ:ub):cy [(7,5),(5,7)] a.D b.D σ=.ok (.bl false) σ:=by
 unfold cy;rw[Au d,Au hb];dsimp only;rw[da h]
section
variable{W:Int}{m s:Sn}(hm:m.Ok W)(hs:s.Ok W)(hn:s.n=m.n+1){G:D}{L:List D}(hg:cl G=true)(hl:af L=true)(e g:Int)(q:Option D)
include hm hs hn hg hl
theorem BK(k:Fa [.ref 0,gf s] (SA e g (calm m G L) (Qs q) [])=.ok (.bl false) (SA e g (calm m G L) (Qs q) []))(hb:s.b<m.b):Ia [.ref 0,gf s] (SA e g (calm m G L) (Qs q) [])=.ok (.lst []) (SA e g (calm m G L) (Qs q) []):=by
 have d:=xo m hg hl;have f:=Lu m s (ap (s:=0) (Kl s)) hl;have a:=Qi e g [(.inl 0,(calm m G L).D)] (Qs q) [];have n:=Ws a;have i:=Yv (e:=e) (g:=g) (A:=(calm m G L).D) (Q:=Qs q);have l:∀ σ,Ua (gf s) (.int 1) σ=.ok (.int 0) σ:=λσ=>by unfold gf;simp
 have o:∀ fs σ,xm [(5,Cb),(6,Vb),(7,xb)] 2 "taken" fs (calm m G L).D σ=(fs σ).bind (jk 2 Cb (calm m G L).D):=λfs σ=>lp (zo rfl) rfl rfl;have r:=λσ=>AC hm hs hn hg hl σ;have h:=λσ=>BA f d (by simp[Ff,calm]) σ;have c:=Zy (e:=e) (g:=g) d (Q:=Qs q) f 0;have j:decide (No (calm m G L).y - 0<=No (Ff m s (Qd 0 s.D) L).y)=false:=by
  refine Mc λz=>?_;have z:m.b - 0<=(if s.b<m.b then s.b else m.b):=z;rw[da hb]at z;omega
 rw[j]at c;have mg:=λfs=>Vh a (m:="is_good") 3 qb fs rfl;have p:=λfs=>Vh a (m:="is_as_asked") 2 Fa fs rfl;unfold Ia nz Py Ey Mz By fy pz kz Dy Oy;unfold SA at *;generalize S e g [(.inl 0,(calm m G L).D)] (Qs q) []=Y at *;generalize (Ff m s (Qd 0 s.D) L).D=u at *;generalize (calm m G L).D=CD at *;generalize jp m s=t at *;generalize gf s=O at *;simp[n,i,l,o,r,h,c,mg,p,k]
theorem AY(k:Fa [.ref 0,gf s] (SA e g (calm m G L) (Qs q) [])=.ok (.bl false) (SA e g (calm m G L) (Qs q) []))(hb:m.b<=s.b):Ia [.ref 0,gf s] (SA e g (calm m G L) (Qs q) [])=.ok (.lst [jp m s]) (SA e g (Ff m s (Qd 0 s.D) L) (Qs q) []):=by
 have d:=xo m hg hl;have f:=Lu m s (ap (s:=0) (Kl s)) hl;have a:=Qi e g [(.inl 0,(calm m G L).D)] (Qs q) [];have n:=Ws a;have i:=Yv (e:=e) (g:=g) (A:=(calm m G L).D) (Q:=Qs q);have l:∀ σ,Ua (gf s) (.int 1) σ=.ok (.int 0) σ:=λσ=>by unfold gf;simp
 have o:∀ fs σ,xm [(5,Cb),(6,Vb),(7,xb)] 2 "taken" fs (calm m G L).D σ=(fs σ).bind (jk 2 Cb (calm m G L).D):=λfs σ=>lp (zo rfl) rfl rfl;have t:=λσ=>AC hm hs hn hg hl σ;have h:=λσ=>BA f d (by simp[Ff,calm]) σ;have c:=Zy (e:=e) (g:=g) d (Q:=Qs q) f 0;have j:decide (No (calm m G L).y - 0<=No (Ff m s (Qd 0 s.D) L).y)=true:=by
  refine Ge ?_;show m.b - 0<=(if s.b<m.b then s.b else m.b);rw[ka (by omega)];omega
 rw[j]at c;have mg:=λfs=>Vh a (m:="is_good") 3 qb fs rfl;have p:=λfs=>Vh a (m:="is_as_asked") 2 Fa fs rfl;have sa:=λu=>dG (e:=e) (g:=g) (A:=(calm m G L).D) q (Ff m s (Qd 0 s.D) L).D u;have r:∀ σ,Os (jp m s) .Jb σ=.ok (.bl false) σ:=λσ=>rfl;unfold Ia nz Py Ey Mz By fy pz kz Dy Oy;unfold SA at *;generalize S e g [(.inl 0,(Ff m s (Qd 0 s.D) L).D)] (Qs q) []=x at *;generalize S e g [(.inl 0,(calm m G L).D)] (Qs q) []=Y at *;generalize (Ff m s (Qd 0 s.D) L).D=w at *;generalize (calm m G L).D=CD at *;generalize jp m s=v at *;generalize gf s=O at *;simp[n,i,l,o,t,h,c,mg,p,k,sa,r]
theorem UV{t:Sn}{v:Int}(hv:0<=v)(x:qq s=qq t)(hb:s.b=m.b - v):Ia [.ref 0,gf s] (SA e g (calm m G L) (Qs (some (Uf v t))) [])=.ok (.lst [jp m s]) (SA e (g+v) (Ff m s (Qd 0 s.D) L) (Qs none) []):=by
 have l:=xo m hg hl;have n:=Lu m s (ap (s:=0) (Kl s)) hl;have a:=Qi e g [(.inl 0,(calm m G L).D)] (Qs (some (Uf v t))) [];have M:=Qi e g [(.inl 0,(Ff m s (Qd 0 s.D) L).D)] (Qs (some (Uf v t))) [];have X:=Qi e g [(.inl 0,(Ff m s (Qd 0 s.D) L).D)] (Qs none) [];have B:=Ws a;have C:=Qz a;have c:=Qz M;have w:=rN (e:=e) (g:=g) (A:=(calm m G L).D) s t v (b:=true) (λσ=>by rw[x];exact EG (BS t));have u:=fH (e:=e) (g:=g) (A:=(calm m G L).D) (Uf v t);have q:=Yv (e:=e) (g:=g) (A:=(calm m G L).D) (Q:=Qs (some (Uf v t)));have z:∀ σ,Ua (gf s) (.int 1) σ=.ok (.int 0) σ:=λσ=>by unfold gf;simp
 have a0:∀ σ,Ua (Uf v t) (.int 0) σ=.ok (.int v) σ:=λσ=>by unfold Uf;simp
 have E:∀ fs σ,xm [(5,Cb),(6,Vb),(7,xb)] 2 "taken" fs (calm m G L).D σ=(fs σ).bind (jk 2 Cb (calm m G L).D):=λfs σ=>lp (zo rfl) rfl rfl;have K:=λσ=>AC hm hs hn hg hl σ;have p:=λσ=>BA n l (by simp[Ff,calm]) σ;have k:=Zy (e:=e) (g:=g) l (Q:=Qs (some (Uf v t))) n v;have r:decide (No (calm m G L).y - v<=No (Ff m s (Qd 0 s.D) L).y)=true:=by
  refine Ge ?_;show m.b - v<=(if s.b<m.b then s.b else m.b);split<;>omega
 rw[r]at k;have mg:=λfs=>Vh a (m:="is_good") 3 qb fs rfl;have H:=λfs=>Vh a (m:="is_as_asked") 2 Fa fs rfl;have sa:=λN=>dG (e:=e) (g:=g) (A:=(calm m G L).D) (some (Uf v t)) (Ff m s (Qd 0 s.D) L).D N;have J:=cQ (e:=e) (g:=g) (A:=(Ff m s (Qd 0 s.D) L).D) (Uf v t);have F:=MZ (e:=e) (g:=g) (A:=(Ff m s (Qd 0 s.D) L).D) (some (Uf v t));have o:∀ (d f h i j:Option D),Fw [d,f,h,i,j,some (.int v)] [9] "gave" (ga 5) (.ref 0) (S e g [(.inl 0,(Ff m s (Qd 0 s.D) L).D)] (Qs none) [])=.ok (.nx [d,f,h,i,j,some (.int v)]) (S e (g+v) [(.inl 0,(Ff m s (Qd 0 s.D) L).D)] (Qs none) []):=λd f h i j=>jW none v (λσ=>rfl);have I:∀ σ,Os (jp m s) .Jb σ=.ok (.bl false) σ:=λσ=>rfl;unfold Ia nz Py Ey Mz By fy pz kz Dy Oy;unfold SA at *;generalize S e (g+v) [(.inl 0,(Ff m s (Qd 0 s.D) L).D)] (Qs none) []=W at *;generalize S e g [(.inl 0,(Ff m s (Qd 0 s.D) L).D)] (Qs none) []=V at *;generalize S e g [(.inl 0,(Ff m s (Qd 0 s.D) L).D)] (Qs (some (Uf v t))) []=U at *;generalize S e g [(.inl 0,(calm m G L).D)] (Qs (some (Uf v t))) []=Y at *;generalize (Ff m s (Qd 0 s.D) L).D=T at *;generalize (calm m G L).D=CD at *;generalize jp m s=P at *;generalize gf s=O at *;generalize Uf v t=R at *;simp[B,C,c,u,q,z,a0,E,K,p,k,mg,H,w,sa,J,F,o,I]
end
section
variable{W:Int}{m s:Sn}(hm:m.Ok W)(hs:s.Ok W){G:D}{L:List D}(hg:cl G=true)(hl:af L=true)(hLk:L.length<=100)(e g:Int)(q:Option D)
include hm hg hl hLk
theorem XP:Ia [.ref 0,Yi m.n] (SA e g (Ff m s G L) (Qs q) [])=.ok (.lst []) (SA e g (calm s G (L++[.int m.n])) (Qs q) []):=by
 have a:af (L++[.int m.n])=true:=by rw[RG,hl];rfl
 have f:=Lu m s hg hl;have h:=xo s hg a;have c:=Qi e g [(.inl 0,(Ff m s G L).D)] (Qs q) [];have p:=Ws c;have j:=Yv (e:=e) (g:=g) (A:=(Ff m s G L).D) (Q:=Qs q);have o:∀ σ,Ua (Yi m.n) (.int 1) σ=.ok (.int 0) σ:=λσ=>by unfold Yi;simp
 have r:∀ fs σ,xm [(5,Cb),(6,Vb),(7,xb)] 2 "taken" fs (Ff m s G L).D σ=(fs σ).bind (jk 2 xb (Ff m s G L).D):=λfs σ=>lp (zo rfl) rfl rfl;have u:=λσ=>lV (s:=s) hm hg hl hLk σ;have i:=λσ=>BA h f (by simp[Ff,calm]) σ;have d:=Zy (e:=e) (g:=g) f (Q:=Qs q) h 0;have k:decide (No (Ff m s G L).y - 0<=No (calm s G (L++[.int m.n])).y)=true:=by
  refine Ge ?_;show (if s.b<m.b then s.b else m.b) - 0<=s.b;split<;>omega
 rw[k]at d;have l:=WW (e:=e) (g:=g) (A:=(Ff m s G L).D) m.n q;have mg:=λfs=>Vh c (m:="is_good") 3 qb fs rfl;have t:=λfs=>Vh c (m:="is_as_asked") 2 Fa fs rfl;have sa:=λv=>dG (e:=e) (g:=g) (A:=(Ff m s G L).D) q (calm s G (L++[.int m.n])).D v;unfold Ia nz Py Ey Mz By fy pz kz Dy Oy;unfold SA at *;generalize S e g [(.inl 0,(calm s G (L++[.int m.n])).D)] (Qs q) []=x at *;generalize S e g [(.inl 0,(Ff m s G L).D)] (Qs q) []=Y at *;generalize (Ff m s G L).D=w at *;generalize (calm s G (L++[.int m.n])).D=CD at *;generalize Yi m.n=O at *;simp[p,j,o,r,u,i,d,mg,t,l,sa]
end
theorem BH{e g:Int}{A X d:D}{q:Option D}{k:ma}{σ':ub}(b:∀ σ,Wc [X] σ=.ok (.bl true) σ)(f:∀ σ,Ua X (.int 0) σ=.ok (.str k) σ)(h:∀ σ,Ua X (.int 1) σ=.ok (.int 0) σ)(j:(k == ("word" : ma))=false)(i:(k == ("ask" : ma))=false)
  (st:Ia [.ref 0,X] (S e g [(.inl 0,A)] (Qs q) [])=.ok d σ'):dc [.ref 0,X] (S e g [(.inl 0,A)] (Qs q) [])=.ok d σ':=by
 have a:=Qi e g [(.inl 0,A)] (Qs q) [];have c:=PH (e:=e) (g:=g) (A:=A) (Q:=Qs q);have l:=λfs=>Vh a (m:="holds") 2 wc fs rfl;have n:=λfs=>Vh a (m:="take_step") 2 Ia fs rfl;unfold dc kI;generalize S e g [(.inl 0,A)] (Qs q) []=Y at *;simp[b,f,h,j,i,c,l,n,st]
theorem OM{e g:Int}{A d:D}{q:Option D}{σ':ub}{W:Int}{s:Sn}(hs:s.Ok W)(st:Ia [.ref 0,gf s] (S e g [(.inl 0,A)] (Qs q) [])=.ok d σ'):dc [.ref 0,gf s] (S e g [(.inl 0,A)] (Qs q) [])=.ok d σ':=
 BH (k:="offer") (λa=>yJ hs a) (λa=>by unfold gf;simp) (λa=>by unfold gf;simp) (by decide) (by decide) st
noncomputable def ew(s:Sn):D:=.tup [.int s.a,.int s.b]
noncomputable def sv(s:Sn):D:=.tup ((mh s.x).map Ti.D)
section
variable{W:Int}{m s:Sn}(hm:m.Ok W)(hs:s.Ok W)(hn:s.n=m.n+1){G:D}{L:List D}(hg:cl G=true)(hl:af L=true)(e g:Int)(q:Option D)
include hs hn hg hl
theorem wK(st:Ia [.ref 0,gf s] (SA e g (calm m G L) (Qs q) [])=.ok (.lst []) (SA e g (calm m G L) (Qs q) [])):db [.ref 0,ew s,sv s] (SA e g (calm m G L) (Qs q) [])=.ok (.bl false) (SA e g (calm m G L) (Qs q) []):=by
 have a:=xo m hg hl;have b:=Qi e g [(.inl 0,(calm m G L).D)] (Qs q) [];have c:=Uz (e:=e) (g:=g) (A:=(calm m G L).D) (Q:=Qs q) (Us a);have j:=λfs=>Vh b (m:="account") 2 Va fs rfl;have k:=λfs=>Vh b (m:="take") 2 dc fs rfl;have h:∀ σ,Zc [4,5,6,7] "mine" (calm m G L).D σ=.ok m.D σ:=λσ=>Ww a σ;have i:=λσ=>s0 m σ;have l:D.tup [.int (m.n+1),ew s,sv s]=s.D:=by rw[<-hn];rfl
 have d:D.tup [.str "agree",.int 0,.int 0,s.D]=Qd 0 s.D:=rfl;have of:D.tup [.str "offer",.int 0,Qd 0 s.D]=gf s:=rfl;have o:=OM hs st;have f:∀ σ,oEq (.lst []) (.lst []) σ=.ok (.bl true) σ:=λσ=>EG (by simp[pl]);unfold db LD WE HG qE aF vG;unfold SA at *;generalize S e g [(.inl 0,(calm m G L).D)] (Qs q) []=Y at *;generalize (calm m G L).D=CD at *;generalize gf s=O at *;generalize Qd 0 s.D=r at *;generalize s.D=u at *;generalize m.D=t at *;generalize ew s=p at *;generalize sv s=TT at *;simp[c,j,k,h,i,l,d,of,o,f]
include hm
theorem QJ(d:L.length<=100){g2:Int}{a:Option D}(st:Ia [.ref 0,gf s] (SA e g (calm m G L) (Qs q) [])=.ok (.lst [jp m s]) (SA e g2 (Ff m s (Qd 0 s.D) L) (Qs a) [])):db [.ref 0,ew s,sv s] (SA e g (calm m G L) (Qs q) [])=.ok (.bl true) (SA e g2 (calm s (Qd 0 s.D) (L++[.int m.n])) (Qs a) []):=by
 have l:=xo m hg hl;have f:af (L++[.int m.n])=true:=by rw[RG,hl];rfl
 have b:=ap (s:=0) (Kl s);have j:=xo s b f;have o:=Qi e g [(.inl 0,(calm m G L).D)] (Qs q) [];have M:=Qi e g2 [(.inl 0,(Ff m s (Qd 0 s.D) L).D)] (Qs a) [];have N:=Qi e g2 [(.inl 0,(calm s (Qd 0 s.D) (L++[.int m.n])).D)] (Qs a) [];have r:=Uz (e:=e) (g:=g) (A:=(calm m G L).D) (Q:=Qs q) (Us l);have c:=Uz (e:=e) (g:=g2) (A:=(calm s (Qd 0 s.D) (L++[.int m.n])).D) (Q:=Qs a) (Us j);have C:=λfs=>Vh o (m:="account") 2 Va fs rfl;have h:=λfs=>Vh N (m:="account") 2 Va fs rfl;have F:=λfs=>Vh o (m:="take") 2 dc fs rfl;have i:=λfs=>Vh M (m:="take") 2 dc fs rfl;have y:∀ σ,Zc [4,5,6,7] "mine" (calm m G L).D σ=.ok m.D σ:=λσ=>Ww l σ;have z:∀ σ,Zc [4,5,6,7] "mine" (calm s (Qd 0 s.D) (L++[.int m.n])).D σ=.ok s.D σ:=λσ=>Ww j σ;have B:=λσ=>s0 m σ;have H:D.tup [.int (m.n+1),ew s,sv s]=s.D:=by rw[<-hn];rfl
 have t:D.tup [.str "agree",.int 0,.int 0,s.D]=Qd 0 s.D:=rfl;have of:D.tup [.str "offer",.int 0,Qd 0 s.D]=gf s:=rfl;have I:D.tup [.str "struck",.int 0,.tup [.str "strike",.int 0,.int 0,.int m.n]]=Yi m.n:=rfl;have K:=OM hs st;have J:=BH (k:="struck") (λσ=>iI hm.st.n σ) (λσ=>by unfold Yi;simp) (λσ=>by unfold Yi;simp) (by decide) (by decide) (XP (s:=s) hm b hl d e g2 a);have v:∀ x σ,oEq (.lst [x]) (.lst []) σ=.ok (.bl false) σ:=λx σ=>Qy (by simp[Wi,kd,zn,Bm]);have w:∀ σ,oEq s.D s.D σ=.ok (.bl true) σ:=λσ=>EG (WU ..);have u:∀ x σ,Bb [x] σ=.ok (.str "calm") σ:=λx σ=>by unfold Bb GA;simp
 have E:∀ fs σ,xm [(5,Bb),(6,yc),(7,Bc)] 1 "word" fs (calm s (Qd 0 s.D) (L++[.int m.n])).D σ=(fs σ).bind (jk 1 Bb (calm s (Qd 0 s.D) (L++[.int m.n])).D):=λfs σ=>lp (zo rfl) rfl rfl;unfold db LD WE HG qE aF vG;unfold SA at *;generalize S e g2 [(.inl 0,(calm s (Qd 0 s.D) (L++[.int m.n])).D)] (Qs a) []=Z at *;generalize S e g2 [(.inl 0,(Ff m s (Qd 0 s.D) L).D)] (Qs a) []=X at *;generalize S e g [(.inl 0,(calm m G L).D)] (Qs q) []=Y at *;generalize (calm s (Qd 0 s.D) (L++[.int m.n])).D=p at *;generalize (calm m G L).D=CD at *;generalize gf s=O at *;generalize Yi m.n=V at *;generalize Qd 0 s.D=T at *;generalize jp m s=R at *;generalize s.D=W at *;generalize m.D=U at *;generalize ew s=P at *;generalize sv s=TT at *;simp[r,c,C,h,F,i,y,z,B,H,t,of,I,K,J,v,w,u,E]
end
noncomputable def pD(u v:Int):D:=.tup [.int 1,.int 2,.int u,.int v,.int 20]
noncomputable def P3(e:Int)(A C Z:Kv):ub:=[.ins 9 (du e 0),.Lb [],.Lb A,.Lb C,.Lb Z,.Lb [],.Lb []]
theorem PN{ρ:Ev}{r:ub}{cs:List Nat}{f:ma}{d:D}{fs:List (ma × D)}(h:cs.contains 9=true)(a:Nat.ble (fs.length+1) 1000=true):Lv ρ cs f d (.ref 0) (.ins 9 fs::r)=.ok (.nx ρ) (.ins 9 (Sl f d fs)::r):=by
 have e:cx cs f d (.ref 0) (.ins 9 fs::r)=.ok () (.ins 9 (Sl f d fs)::r):=by
  have:(Ob.ins 9 fs::r)[0]?=some (.ins 9 fs):=rfl;unfold cx;simp only[this];rw[da (by rw[h];simpa using (show fs.length<1000 from Nat.le_of_ble_eq_true a))];simp
 unfold Lv;rw[e]
theorem px{cs:List Nat}{f:ma}{fs:List (ma × D)}{r:Ev}{ds:ub}(a:cs.contains 9=true)(b:Nat.ble (fs.length+1) 1000=true):yl cs f Pq (ga 0) (some (.ref 0)::r) (.ins 9 fs::ds)=.ok (.nx (some (.ref 0)::r)) (.ins 9 (Sl f (.ref (ds.length+1)) fs)::(ds++[.Lb []])):=by
 rw[wN,zY,xq,XH,dy,xq];exact PN a b
theorem YA{cs:List Nat}{f:ma}{fs:List (ma × D)}{a:Ev->M D}{d:D}{ds:ub}{r:Ev}(b:cs.contains 9=true)(c:Nat.ble (fs.length+1) 1000=true)(hv:a (some (.ref 0)::r) (.ins 9 fs::ds)=.ok d (.ins 9 fs::ds)):yl cs f a (ga 0) (some (.ref 0)::r) (.ins 9 fs::ds)=.ok (.nx (some (.ref 0)::r)) (.ins 9 (Sl f d fs)::ds):=by
 rw[wN,hv,xq,XH,dy,xq,PN b c]
@[simp] theorem Z4{σ:ub}(fn:List D->M D)(x a b c:D):jk 4 fn x [a,b,c] σ=fn [x,a,b,c] σ:=wA rfl
theorem VX{e:Int}(he:1<=e/\e<=9)(u v:Int)(σ:ub):Re [.int 2,.int e,.lst [pD u v]] σ=.ok .Jb σ:=by
 have b:=bt (i:=e) (a:=1) (b:=50) (by omega) σ;have p4:Ua (pD u v) (.int 4) σ=.ok (.int 20) σ:=LY ..;have d:mx (pD u v) none (some 2) σ=.ok (.tup [.int 1,.int 2]) σ:=nr rfl;have i:aC false (.int 2) (.tup [.int 1,.int 2]) σ=.ok (.bl true) σ:=nr rfl;have lt:decide ((20:Int)<e+1)=false:=Mc (by omega);have c:km (yf 3) xD [pD u v] [some (.int 2),some (.int e),some (.lst [pD u v]),none] σ=.ok (.nx [some (.int 2),some (.int e),some (.lst [pD u v]),some (pD u v)]) σ:=by
  rw[Zs];simp only[ic,jc];unfold xD;generalize pD u v=P at *;simp[p4,d,i,lt]
 unfold Re nJ;generalize pD u v=P at *;simp[b,c]
section
variable{u v:Int}(hu:0<=u/\u<=1000000000000)(hv:0<=v/\v<=1000000000000)
noncomputable def m0(u v:Int):Sn:=⟨0,u,v,none⟩
noncomputable def a0(u v:Int):Ac:=calm (m0 u v) .Jb []
theorem Ry(u v:Int):(a0 u v).Ok:=xo _ rfl rfl
theorem fU(e:Int)(a:Ac)(g:a.Ok):Uc [.ref 0,a.D,.gt ["held"],.Lb [] []] (P3 e [] [] [])=.ok .Jb (S e 0 [(.inl 0,a.D)] [] []):=by
 have f:=λn=>Rv g n;have h:Zc [9] "accounts" (.ref 0) (P3 e [] [] [])=.ok (.ref 2) (P3 e [] [] []):=wm (fs:=du e 0) (c:=9) rfl rfl rfl;have i:∀ b d,Kr b d (.ref 2) (.int 0) (P3 e [] [] [])=.ok (.nx b) (P3 e [(.inl 0,d)] [] []):=λb d=>by rw[zu (kvs:=[]) rfl (by simp)];rfl
 have j:∀ A,Zc [9] "claims" (.ref 0) (P3 e A [] [])=.ok (.ref 3) (P3 e A [] []):=λA=>wm (fs:=du e 0) (c:=9) rfl rfl rfl;have k:∀ A b d,Kr b d (.ref 3) (.int 0) (P3 e A [] [])=.ok (.nx b) (P3 e A [(.inl 0,d)] []):=λA b d=>by rw[zu (kvs:=[]) rfl (by simp)];rfl
 have l:∀ A C,Zc [9] "seen" (.ref 0) (P3 e A C [])=.ok (.ref 4) (P3 e A C []):=λA C=>wm (fs:=du e 0) (c:=9) rfl rfl rfl;have m:∀ A C b d,Kr b d (.ref 4) (.int 0) (P3 e A C [])=.ok (.nx b) (P3 e A C [(.inl 0,d)]):=λA C b d=>by rw[zu (kvs:=[]) rfl (by simp)];rfl
 show _=Out.ok _ (P3 e [(.inl 0,a.D)] [(.inl 0,.gt ["held"])] [(.inl 0,.Lb [] [])]);unfold Uc FM;generalize a.D=o at *;simp[f,h,i,j,k,l,m]
include hu hv
theorem CU(σ:ub):Gd [.int 0,.int 1,.int u,.int v] σ=.ok (a0 u v).D σ:=by
 have f:=λσ=>QR hu hv σ;have b:∀ σ,eh σ (Qo 5 7 al [.int 0,.int 1,Sh 0 u v [],.Jb,.lst [Sh 0 u v []],.lst []] σ)=.ok (a0 u v).D σ:=λσ=>fG (Ry u v) σ;have a:=Us (Ry u v);unfold Gd KL;generalize (a0 u v).D=c at *;generalize Sh 0 u v []=d at *;simp[f,b,a]
theorem QP{e:Int}(he:1<=e/\e<=9):Qo 9 5 Eo [.int 2,.int e,.lst [pD u v],.Jb] []=.ok (.ref 0) (SA e 0 (a0 u v) (Qs none) []):=by
 have sp:=λσ=>VX he u v σ;have b:∀ A C,jm (P3 e A C []) (.ref 0)=some (9,du e 0):=λ_ _=>rfl;have r:∀ fs,xm [(9,Jc)] 2 "learn" fs (.ref 0) (P3 e [] [] [])=(fs (P3 e [] [] [])).bind (jk 2 Jc (.ref 0)):=λfs=>lp (b [] []) rfl rfl;have q:∀ fs,xm [(9,Uc)] 4 "hold" fs (.ref 0) (P3 e [] [] [])=(fs (P3 e [] [] [])).bind (jk 4 Uc (.ref 0)):=λfs=>lp (b [] []) rfl rfl;have j:=fU e (a0 u v) (Ry u v);have g:=λσ=>CU hu hv σ;have le:Jc [.ref 0,.lst []] (P3 e [] [] [])=.ok .Jb (P3 e [] [] []):=by
  unfold Jc AJ;generalize P3 e [] [] []=Y at *;simp
 have l:∀ σ,Ua (pD u v) (.int 0) σ=.ok (.int 1) σ:=λσ=>by unfold pD;simp
 have m:∀ σ,Ua (pD u v) (.int 1) σ=.ok (.int 2) σ:=λσ=>by unfold pD;simp
 have n:∀ σ,Ua (pD u v) (.int 2) σ=.ok (.int u) σ:=λσ=>by unfold pD;simp
 have o:∀ σ,Ua (pD u v) (.int 3) σ=.ok (.int v) σ:=λσ=>by unfold pD;simp
 have pt:jC [some (.ref 0),some (.int 2),some (.int e),some (.lst [pD u v]),some .Jb,some (.int 0),some (pD u v),none] (P3 e [] [] [])=.ok (.nx [some (.ref 0),some (.int 2),some (.int e),some (.lst [pD u v]),some .Jb,some (.int 0),some (pD u v),some (.int 1)]) (S e 0 [(.inl 0,(a0 u v).D)] [] []):=by
  unfold jC;rw[lJ];simp only[gX,yT,MF,vV,Tf,DG,bG,ZF,hU,MR,xq,RM];rw[Zs];simp only[ic,jc];have s0:zy [some (.ref 0),some (.int 2),some (.int e),some (.lst [pD u v]),some .Jb,some (.int 0),some (pD u v),some (.int 0)] (P3 e [] [] [])=.ok (.nx [some (.ref 0),some (.int 2),some (.int e),some (.lst [pD u v]),some .Jb,some (.int 0),some (pD u v),some (.int 0)]) (P3 e [] [] []):=by
   unfold zy;generalize P3 e [] [] []=Y at *;generalize pD u v=P at *;simp[l]
  have s1:zy [some (.ref 0),some (.int 2),some (.int e),some (.lst [pD u v]),some .Jb,some (.int 0),some (pD u v),some (.int 1)] (P3 e [] [] [])=.ok (.nx [some (.ref 0),some (.int 2),some (.int e),some (.lst [pD u v]),some .Jb,some (.int 0),some (pD u v),some (.int 1)]) (S e 0 [(.inl 0,(a0 u v).D)] [] []):=by
   unfold zy;generalize S e 0 [(.inl 0,(a0 u v).D)] [] []=Z at *;generalize P3 e [] [] []=Y at *;generalize pD u v=P at *;generalize (a0 u v).D=t at *;simp[m,n,o,g,q,j]
  rw[s0,Tf,Ss,Zs];simp only[ic,jc];rw[s1,Tf,Ss,Sz]
 have f:Ix (.lst [pD u v]) (P3 e [] [] [])=.ok (Ot (.lst [pD u v])) (P3 e [] [] []):=fY (xs:=[pD u v]) rfl;have p:Ao (Ot (.lst [pD u v])) (Xp 2 (Fk (yf 5) (Fk (yf 6) Cq))) jC 1001 0 [some (.ref 0),some (.int 2),some (.int e),some (.lst [pD u v]),some .Jb,none,none,none] (P3 e [] [] [])=.ok (.nx [some (.ref 0),some (.int 2),some (.int e),some (.lst [pD u v]),some .Jb,some (.int 0),some (pD u v),some (.int 1)]) (S e 0 [(.inl 0,(a0 u v).D)] [] []):=by
  rw[kE (k:=1000) (tY (xs:=[pD u v]) (i:=0) rfl rfl) (ρ1:=[some (.ref 0),some (.int 2),some (.int e),some (.lst [pD u v]),some .Jb,some (.int 0),some (pD u v),none]) rfl,pt,Tf,Ss];exact GC (k:=999) (nS (x:=.lst [pD u v]) (xs:=[pD u v]) rfl)
 have h:∀ (c:D->Ev->Option Ev) (body:Ev->M Fl) (ρ:Ev) (nx:NX),XC c body ρ nx=Ao nx c body 1001 0 ρ:=λ_ _ _ _=>rfl;have a:Eo [.ref 0,.int 2,.int e,.lst [pD u v],.Jb] [.ins 9 []]=.ok .Jb (S e 0 [(.inl 0,(a0 u v).D)] [] []):=by
  unfold Eo oM;rw[sq,EM];show Pv (kc _ _ [some (.ref 0),some (.int 2),some (.int e),some (.lst [pD u v]),some .Jb,none,none,none] [.ins 9 []])=_;rw[sk];simp only[LI,LV,MF,jH,dy,Tf,DG,bG,ZF,OT,sp,xq,WK,Hk];rw[sk,YA (d:=.int 2) rfl rfl (by simp),Tf,Hk];rw[sk,YA (d:=.int e) rfl rfl (by simp),Tf,Hk];rw[sk,YA (d:=.int 0) rfl rfl (by simp),Tf,Hk];rw[sk,YA (d:=.int 0) rfl rfl (by simp),Tf,Hk];rw[sk,px rfl rfl,Tf,Hk];rw[sk,px rfl rfl,Tf,Hk];rw[sk,px rfl rfl,Tf,Hk];rw[sk,px rfl rfl,Tf,Hk];rw[sk,px rfl rfl,Tf,Hk];rw[sk,px rfl rfl,Tf,Hk];show Pv (kc _ _ [some (.ref 0),some (.int 2),some (.int e),some (.lst [pD u v]),some .Jb,none,none,none] (P3 e [] [] []))=_;rw[sk];have s:Ku (eT (Ha Os (ga 4) (eC .Jb))) (Zi Ma) (ga 4) [some (.ref 0),some (.int 2),some (.int e),some (.lst [pD u v]),some .Jb,none,none,none] (P3 e [] [] [])=.ok (.lst []) (P3 e [] [] []):=by simp
  simp only[LI,oW,dy,Tf,r,MF,s,DG,bG,ZF,O0,le,xq,WK,Hk];rw[Ju];simp only[XO,jH,dy,Tf,f,xq,h];rw[p,bP]
 rw[IH];show Uw 0 (Eo [.ref 0,.int 2,.int e,.lst [pD u v],.Jb] [.ins 9 []])=_;rw[a,AD];rfl
end
noncomputable def CD(u v:Int):D:=.tup [.int u,.int v]
theorem ux(u v a:Int)(σ:ub):Hc [CD u v,.int a] σ=.ok (CD (u+a) (v - a)) σ:=by
 unfold Hc JM CD;simp
structure Hy(u v e p s:Int):Prop where
 hu:0<=u/\u<=1000000000000
 hv:3<=v/\v<=1000000000000
 he:1<=e/\e<=9
 hp:1<=p/\p<=v
 hs:1<=s/\s<=v
theorem tK{W n a b:Int}(hn:0<=n/\n<=100)(c:0<=a/\a<=2000000000000)(hb:0<=b/\b<=2000000000000)(d:a+b=W):(⟨n,a,b,none⟩:Sn).Ok W:=
 ⟨⟨by show 0<=n/\n<=_;omega,c,hb,by simp[mh],by simp[mh],by simp[mh]⟩,by show a+b+Hu (mh none)=W;simp[mh,Hu,d]⟩
theorem fW{W n a b t:Int}(hn:0<=n/\n<=100)(c:0<=a/\a<=2000000000000)(hb:0<=b/\b<=2000000000000)(d:1<=t/\t<=1000000000000)(f:a+b+t=W):(⟨n,a,b,some t⟩:Sn).Ok W:=
 ⟨⟨by show 0<=n/\n<=_;omega,c,hb,λz g=>by
   have e:z=⟨0,t,7,5⟩:=by simpa [mh]using g
   subst e;exact⟨.inl rfl,d,by show (0:Int)<=7/\(7:Int)<=9;omega,by show (0:Int)<=5/\(5:Int)<=59;omega⟩,by simp[mh],by simp[mh]⟩,by show a+b+Hu (mh (some t))=W;simp[mh,Hu,f]⟩
section
variable{u v e p s:Int}(H:Hy u v e p s)
include H
theorem Nt{n:Int}(hn:0<=n/\n<=100):(⟨n,u,v,none⟩:Sn).Ok (u+v):=tK hn (by have:=H.hu;omega) (by have:=H.hv;omega) rfl
theorem cu{n a:Int}(hn:0<=n/\n<=99)(c:1<=a/\a<=v):(gv ⟨n,u,v,none⟩ a).Ok (u+v):=
 tK (n:=n+1) (a:=u+a) (b:=v - a) (by omega) (by have:=H.hu;have:=H.hv;omega) (by have:=H.hv;omega) (by omega)
theorem bL{a:Int}(i:1<=a/\a<=v)(q:Option D)(b c d r f:Option D):iD [b,some (CD u v),some (.ref 0),c,d,some (.int a),r,f] (SA e 0 (a0 u v) (Qs q) [])=.ok (.nx [b,some (CD u v),some (.ref 0),c,d,some (.int a),some (.tup [.bl true,.lst [.tup [.str "ask",.int 0,CD (u+a) (v - a),.tup []]]]),f]) (SA e 0 (a0 u v) (Qs (some (Uf a (gv (m0 u v) a)))) []):=by
 have j:=λσ=>ux u v a σ;have w:=uK (Nt H (n:=0) (by omega)) (cu H (n:=0) (by omega) i) (by have:=H.hv;omega) (G:=.Jb) (L:=[]) rfl rfl e 0 q;have w:cc [.ref 0,Bj a] (SA e 0 (a0 u v) (Qs q) [])=.ok (.tup [.bl true,.lst [.tup [.str "ask",.int 0,CD (u+a) (v - a),.tup []]]]) (SA e 0 (a0 u v) (Qs (some (Uf a (gv (m0 u v) a)))) []):=w;have o:=Qi e 0 [(.inl 0,(a0 u v).D)] (Qs q) [];have l:=Qi e 0 [(.inl 0,(a0 u v).D)] (Qs (some (Uf a (gv (m0 u v) a)))) [];have k:=λfs=>Vh o (m:="wish") 2 cc fs rfl;have mg:=λfs=>Vh l (m:="given") 1 lb fs rfl;have h:=wy (e:=e) (g:=0) (A:=(a0 u v).D) (Q:=Qs (some (Uf a (gv (m0 u v) a))));have ne:∀ σ,di (.tup [.bl true,.lst [.tup [.str "ask",.int 0,CD (u+a) (v - a),.tup []]]]) (.tup [.bl true,.lst [.tup [.str "ask",.int 0,CD (u+a) (v - a),.tup []]]]) σ=.ok (.bl false) σ:=λσ=>Rs (by simp[pl,CD]);have p:D.tup [.str "give",.int 0,.int a]=Bj a:=rfl;unfold iD;unfold SA at *;generalize S e 0 [(.inl 0,(a0 u v).D)] (Qs (some (Uf a (gv (m0 u v) a)))) []=x at *;generalize S e 0 [(.inl 0,(a0 u v).D)] (Qs q) []=Y at *;generalize CD (u+a) (v - a)=s at *;generalize CD u v=C at *;generalize Bj a=t at *;simp[j,w,k,mg,h,ne,p]
theorem RP(a d b c:Option D):∃ i j,u6 [a,some (CD u v),some (.ref 0),some (.int p),some (.int s),d,b,c] (SA e 0 (a0 u v) (Qs none) [])=.ok (.nx [a,some (CD u v),some (.ref 0),some (.int p),some (.int s),i,j,c]) (SA e 0 (a0 u v) (Qs (some (Uf s (gv (m0 u v) s)))) []):=by
 have f:=bL H H.hp none a (some (.int p)) (some (.int s)) b c;have g:=λb=>bL H H.hs (some (Uf p (gv (m0 u v) p))) a (some (.int p)) (some (.int s)) b c;refine⟨some (.int s),some (.tup [.bl true,.lst [.tup [.str "ask",.int 0,CD (u+s) (v - s),.tup []]]]),?_⟩;unfold u6;rw[lJ];have h:∀ σ,Vi (Zi (ua (ga 3) (ua (ga 4) Ma))) [a,some (CD u v),some (.ref 0),some (.int p),some (.int s),d,b,c] σ=.ok (.seq [.int p,.int s]) σ:=λσ=>by simp
 rw[h,xq,RM,Zs];simp only[ic,jc];rw[f,Tf,Ss,Zs];simp only[ic,jc];rw[g,Tf,Ss,Sz]
theorem R0(c d f i:Option D):u7 [c,some (CD u v),some (.ref 0),some (.int p),some (.int s),d,f,i] (SA e 0 (a0 u v) (Qs (some (Uf s (gv (m0 u v) s)))) [])=.ok (.nx [c,some (CD u v),some (.ref 0),some (.int p),some (.int s),d,f,i]) (SA e 0 (a0 u v) (Qs (some (Uf s (gv (m0 u v) s)))) []):=by
 unfold u7;by_cases h:p=s
 ·have:(p == s)=true:=by simp[h]
  generalize CD u v=C at *;simp[this]
 ·have hb:(p == s)=false:=by simp[h]
  have o:=λσ=>ux u v p σ;have no:=wK (cu H (n:=0) (a:=p) (by omega) H.hp) rfl (G:=.Jb) (L:=[]) rfl rfl e 0 (some (Uf s (gv (m0 u v) s))) (m:=m0 u v) (BK (Nt H (n:=0) (by omega)) (cu H (n:=0) (a:=p) (by omega) H.hp) rfl rfl rfl e 0 _ (rN _ _ _ (λσ=>KO (by show u+p≠u+s;omega) rfl rfl σ)) (by show v - p<v;have:=H.hp;omega));have no:db [.ref 0,CD (u+p) (v - p),.tup []] (SA e 0 (a0 u v) (Qs (some (Uf s (gv (m0 u v) s)))) [])=.ok (.bl false) (SA e 0 (a0 u v) (Qs (some (Uf s (gv (m0 u v) s)))) []):=no;have b:=Qi e 0 [(.inl 0,(a0 u v).D)] (Qs (some (Uf s (gv (m0 u v) s)))) [];have mg:=λfs=>Vh b (m:="given") 1 lb fs rfl;have l:=λfs=>Vh b (m:="account") 2 Va fs rfl;have k:=wy (e:=e) (g:=0) (A:=(a0 u v).D) (Q:=Qs (some (Uf s (gv (m0 u v) s))));have j:=Uz (e:=e) (g:=0) (A:=(a0 u v).D) (Q:=Qs (some (Uf s (gv (m0 u v) s)))) (Us (Ry u v));have q:∀ σ,Zc [4,5,6,7] "may" (a0 u v).D σ=.ok (.lst [.tup [.int 0,CD u v,.tup []]]) σ:=λσ=>JG (Ry u v) σ;have ne:∀ σ,di (.lst [.tup [.int 0,CD u v,.tup []]]) (.lst [.tup [.int 0,CD u v,.tup []]]) σ=.ok (.bl false) σ:=λσ=>Rs (by simp[pl,CD]);unfold SA at *;generalize S e 0 [(.inl 0,(a0 u v).D)] (Qs (some (Uf s (gv (m0 u v) s)))) []=Y at *;generalize CD (u+p) (v - p)=t at *;generalize CD u v=C at *;generalize (a0 u v).D=r at *;simp[hb,o,no,mg,l,k,j,q,ne]
end
section
variable{u v e p s:Int}(H:Hy u v e p s){G:D}{L:List D}(hg:cl G=true)(hl:af L=true)(hLk:L.length<=50)
include hg hl hLk
theorem nD{W g:Int}{m t:Sn}(hm:m.Ok W)(a:t.Ok W)(hn:t.n=m.n+1)(hb:m.b<=t.b):db [.ref 0,ew t,sv t] (SA e g (calm m G L) (Qs none) [])=.ok (.bl true) (SA e g (calm t (Qd 0 t.D) (L++[.int m.n])) (Qs none) []):=
 QJ hm a hn hg hl e g none (by omega) (AY hm a hn hg hl e g none (NJ t) hb)
include H
theorem oH{n g:Int}(hn:0<=n/\n<=50):db [.ref 0,CD (u+s) (v - s),.tup []] (SA e g (calm ⟨n,u,v,none⟩ G L) (Qs (some (Uf s (gv ⟨n,u,v,none⟩ s)))) [])=.ok (.bl true) (SA e (g+s) (calm (gv ⟨n,u,v,none⟩ s) (Qd 0 (gv ⟨n,u,v,none⟩ s).D) (L++[.int n])) (Qs none) []):=
 QJ (Nt H (by omega)) (cu H (by omega) H.hs) rfl hg hl e g _ (by omega) (UV (Nt H (by omega)) (cu H (by omega) H.hs) rfl hg hl e g (t:=gv ⟨n,u,v,none⟩ s) (by have:=H.hs;omega) rfl rfl)
theorem BW{n g:Int}(hn:0<=n/\n<=50):db [.ref 0,CD (u+s) (v - s),.tup []] (SA e g (calm ⟨n,u,v,none⟩ G L) (Qs none) [])=.ok (.bl false) (SA e g (calm ⟨n,u,v,none⟩ G L) (Qs none) []):=
 wK (cu H (by omega) H.hs) rfl hg hl e g none (m:=⟨n,u,v,none⟩) (BK (Nt H (by omega)) (cu H (by omega) H.hs) rfl hg hl e g none (NJ _) (by show v - s<v;have:=H.hs;omega))
end
section
variable{u v e p s:Int}(H:Hy u v e p s)
noncomputable abbrev m1(u v s:Int):Sn:=gv (m0 u v) s
noncomputable abbrev a1(u v s:Int):Ac:=calm (m1 u v s) (Qd 0 (m1 u v s).D) ([]++[.int 0])
noncomputable abbrev m2(u v:Int):Sn:=⟨2,u,v,none⟩
noncomputable abbrev a2(u v:Int):Ac:=calm (m2 u v) (Qd 0 (m2 u v).D) ([]++[.int 0]++[.int (0+1)])
include H
theorem YT(a b c d:Option D):u8 [a,some (CD u v),some (.ref 0),some (.int p),some (.int s),b,c,d] (SA e 0 (a0 u v) (Qs (some (Uf s (gv (m0 u v) s)))) [])=.ok (.nx [a,some (CD u v),some (.ref 0),some (.int p),some (.int s),b,c,d]) (SA e (0+s) (a1 u v s) (Qs none) []):=by
 have h:=λj=>ux u v s j;have of:db [.ref 0,CD (u+s) (v - s),.tup []] (SA e 0 (a0 u v) (Qs (some (Uf s (gv (m0 u v) s)))) [])=.ok (.bl true) (SA e (0+s) (a1 u v s) (Qs none) []):=oH H (G:=.Jb) (L:=[]) rfl rfl (by simp) (n:=0) (g:=0) (by omega);have i:=Qi e (0+s) [(.inl 0,(a1 u v s).D)] (Qs none) [];have mg:=λfs=>Vh i (m:="given") 1 lb fs rfl;have f:=wy (e:=e) (g:=0+s) (A:=(a1 u v s).D) (Q:=Qs none);have hb:(0+s == s)=true:=by simp
 unfold u8;unfold SA at *;generalize S e (0+s) [(.inl 0,(a1 u v s).D)] (Qs none) []=l at *;generalize S e 0 [(.inl 0,(a0 u v).D)] (Qs (some (Uf s (gv (m0 u v) s)))) []=Y at *;generalize CD (u+s) (v - s)=k at *;generalize CD u v=C at *;generalize 0+s=o at *;simp[h,of,mg,f,hb]
theorem KR(g:Int)(b c d f:Option D):u9 [b,some (CD u v),some (.ref 0),some (.int p),some (.int s),c,d,f] (SA e g (a1 u v s) (Qs none) [])=.ok (.nx [b,some (CD u v),some (.ref 0),some (.int p),some (.int s),c,d,f]) (SA e g (a2 u v) (Qs none) []):=by
 have j:(a1 u v s).Ok:=xo _ (ap (Kl _)) rfl;have k:(a2 u v).Ok:=xo _ (ap (Kl _)) rfl;have q:ib [.ref 0] (SA e g (a1 u v s) (Qs none) [])=.ok (.int (v - s)) (SA e g (a1 u v s) (Qs none) []):=BB j;have r:ib [.ref 0] (SA e g (a2 u v) (Qs none) [])=.ok (.int v) (SA e g (a2 u v) (Qs none) []):=BB k;have of:db [.ref 0,CD u v,.tup []] (SA e g (a1 u v s) (Qs none) [])=.ok (.bl true) (SA e g (a2 u v) (Qs none) []):=nD (e:=e) (ap (Kl _)) rfl (by simp) (cu H (n:=0) (by omega) H.hs) (Nt H (n:=2) (by omega)) (by show (2:Int)=0+1+1;omega) (by show v - s<=v;have:=H.hs;omega);have o:=Qi e g [(.inl 0,(a1 u v s).D)] (Qs none) [];have l:=Qi e g [(.inl 0,(a2 u v).D)] (Qs none) [];have i:=λfs=>Vh o (m:="worth") 1 ib fs rfl;have a:=λfs=>Vh l (m:="worth") 1 ib fs rfl;have h:∀ σ,Ua (CD u v) (.int 1) σ=.ok (.int v) σ:=λσ=>by unfold CD;simp
 unfold u9;unfold SA at *;generalize S e g [(.inl 0,(a2 u v).D)] (Qs none) []=t at *;generalize S e g [(.inl 0,(a1 u v s).D)] (Qs none) []=Y at *;generalize CD u v=C at *;simp[q,r,of,i,a,h]
noncomputable def Bk(u v e s:Int)(σ:ub):Prop:=∃ n G L,(0<=n/\n<=50)/\cl G=true/\af L=true/\L.length<=50/\σ=SA e s (calm ⟨n,u,v,none⟩ G L) (Qs none) []
theorem jQ(ns:List Int)(q r:Option D)(l:∀ k:Nat,∀ σ,Na [.Lf ns,.int k] σ=.ok (.int (ns.getD k 0)) σ):∃ K σ',WD [some (.Lf ns),some (CD u v),some (.ref 0),some (.int p),some (.int s),q,r,none] (SA e s (a2 u v) (Qs none) [])=.ok (.nx [some (.Lf ns),some (CD u v),some (.ref 0),some (.int p),some (.int s),q,r,K]) σ'/\Bk u v e s σ':=by
 have d:∀ σ,Na [.Lf ns,.int 5] σ=.ok (.int (ns.getD 5 0)) σ:=l 5;have w:∀ σ,Na [.Lf ns,.int 6] σ=.ok (.int (ns.getD 6 0)) σ:=l 6;have m:∀ σ,Ua (CD u v) (.int 0) σ=.ok (.int u) σ:=λσ=>by unfold CD;simp
 have A:∀ σ,Ua (CD u v) (.int 1) σ=.ok (.int v) σ:=λσ=>by unfold CD;simp
 have j:Bk u v e s (SA e s (a2 u v) (Qs none) []):=⟨2,_,_,by omega,ap (Kl _),rfl,by simp,rfl⟩
 have i:∀ σ,wq (.int (ns.getD 5 0 / 4)) (.int 2) σ=.ok (.int (ns.getD 5 0 / 4 % 2)) σ:=λσ=>by simp
 have f:∀ σ,cB (.int (ns.getD 5 0)) (.int 4) σ=.ok (.int (ns.getD 5 0 / 4)) σ:=λσ=>by simp
 unfold WD;generalize ns.getD 5 0=c at *;generalize ns.getD 6 0=a at *;by_cases h:c / 4 % 2=1
 ·by_cases hu:0<u
  ·have hb:(c / 4 % 2 == 1)=true:=by simp[h]
   have g:decide (0<u)=true:=Ge hu;have z:=H.hu;have I:∀ σ,Yr (.int 10) (.int 12) σ=.ok (.int 1000000000000) σ:=λσ=>yx (by simp[qu]);have E:∀ σ,Wz [.int u,.int 1000000000000] σ=.ok (.int u) σ:=λσ=>by rw[AW,Int.min_eq_left z.2]
   have F:∀ σ,wq (.int a) (.int u) σ=.ok (.int (a % u)) σ:=λσ=>gK _ _ hu;have P:=jv a (b:=u) (by omega);have Q:=Gs a hu;obtain⟨t,y⟩:∃ t,t=1+a % u:=⟨_,rfl⟩
   have R:1<=t/\t<=u:=by omega
   have o:(⟨3,u - t,v,some t⟩:Sn).Ok (u+v):=fW (by omega) (by omega) (by have:=H.hv;omega) (by omega) (by omega);have B:=Nt H (n:=4) (by omega);have of:db [.ref 0,CD (u - t) v,.tup [Qj t]] (SA e s (a2 u v) (Qs none) [])=.ok (.bl true) (SA e s (calm ⟨3,u - t,v,some t⟩ (Qd 0 (Sn.D ⟨3,u - t,v,some t⟩)) ([]++[.int 0]++[.int (0+1)]++[.int 2])) (Qs none) []):=nD (e:=e) (t:=⟨3,u - t,v,some t⟩) (ap (Kl _)) rfl (by simp) (Nt H (n:=2) (by omega)) o (by show (3:Int)=2+1;omega) (Mq v);have G:db [.ref 0,CD u v,.tup []] (SA e s (calm ⟨3,u - t,v,some t⟩ (Qd 0 (Sn.D ⟨3,u - t,v,some t⟩)) ([]++[.int 0]++[.int (0+1)]++[.int 2])) (Qs none) [])=.ok (.bl true) (SA e s (calm ⟨4,u,v,none⟩ (Qd 0 (Sn.D ⟨4,u,v,none⟩)) ([]++[.int 0]++[.int (0+1)]++[.int 2]++[.int 3])) (Qs none) []):=nD (e:=e) (t:=⟨4,u,v,none⟩) (ap (Kl _)) rfl (by simp) o B (by show (4:Int)=3+1;omega) (Mq v);refine⟨some (Qj t),_,?_,⟨4,Qd 0 (Sn.D ⟨4,u,v,none⟩),[]++[.int 0]++[.int (0+1)]++[.int 2]++[.int 3],by omega,ap (Kl _),rfl,by simp,rfl⟩⟩;have ty:D.tup [.int 0,.int t,.int 7,.int 5]=Qj t:=rfl;have J:∀ σ,Ua (Qj t) (.int 1) σ=.ok (.int t) σ:=λσ=>by unfold Qj Ti.D;simp
   have x:D.tup [.int (u - t),.int v]=CD (u - t) v:=rfl;generalize SA e s (calm ⟨4,u,v,none⟩ (Qd 0 (Sn.D ⟨4,u,v,none⟩)) ([]++[.int 0]++[.int (0+1)]++[.int 2]++[.int 3])) (Qs none) []=O at *;generalize SA e s (calm ⟨3,u - t,v,some t⟩ (Qd 0 (Sn.D ⟨3,u - t,v,some t⟩)) ([]++[.int 0]++[.int (0+1)]++[.int 2])) (Qs none) []=N at *;generalize SA e s (a2 u v) (Qs none) []=Y at *;generalize CD (u - t) v=L at *;generalize CD u v=C at *;generalize Qj t=M at *;simp[d,w,m,A,i,f,hb,g,I,E,F,<-y,ty,J,x,of,G]
  ·have g:decide (0<u)=false:=Mc hu;have hb:(c / 4 % 2 == 1)=true:=by simp[h]
   refine⟨none,_,?_,j⟩;generalize SA e s (a2 u v) (Qs none) []=Y at *;generalize CD u v=C at *;simp[d,m,i,f,hb,g]
 ·have hb:(c / 4 % 2 == 1)=false:=by simp[h]
  refine⟨none,_,?_,j⟩;generalize SA e s (a2 u v) (Qs none) []=Y at *;generalize CD u v=C at *;simp[d,i,f,hb]
end
@[simp] theorem t6(dds:List D)(fs:Ev->M (List D))(ρ:Ev)(σ:ub):qx dds fs ρ σ=(fs ρ σ).bind (mC dds):=nr rfl
@[simp] theorem R6(dds ds:List D)(σ:ub):mC dds ds σ=.ok (ds++dds) σ:=nr rfl
noncomputable def ym(ns:List Int)(k:Nat):Int:=ns.getD k 0
theorem kX(ns:List Int)(k:Int)(a:0<=k)(σ:ub):Na [.Lf ns,.int k] σ=.ok (.int (ym ns k.toNat)) σ:=by
 unfold Na PJ ym;by_cases h:k<ns.length
 ·simp[h,FQ a h]
 ·have e:ns.length<=k.toNat:=by omega
  simp[h,List.getElem?_eq_none e]
section
variable{u v e p s:Int}(H:Hy u v e p s){n:Int}{G:D}{L:List D}(hn:0<=n/\n<=50)(hg:cl G=true)(hl:af L=true)(hLk:L.length<=50)
include H hn hg hl hLk
theorem HX(a b c d f:Option D):tG [a,some (CD u v),some (.ref 0),b,some (.int s),c,d,f] (SA e s (calm ⟨n,u,v,none⟩ G L) (Qs none) [])=.ok (.nx [a,some (CD u v),some (.ref 0),b,some (.int s),c,d,f]) (SA e s (calm ⟨n,u,v,none⟩ G L) (Qs none) []):=by
 have h:=λi=>ux u v s i;have of:=BW H hg hl hLk (g:=s) hn;unfold tG;generalize SA e s (calm ⟨n,u,v,none⟩ G L) (Qs none) []=Y at *;generalize CD (u+s) (v - s)=j at *;generalize CD u v=C at *;simp[h,of]
theorem y1(b c d f h:Option D):BF [b,some (CD u v),some (.ref 0),c,some (.int s),d,f,h] (SA e s (calm ⟨n,u,v,none⟩ G L) (Qs none) [])=.ok (.nx [b,some (CD u v),some (.ref 0),c,some (.int s),d,f,h]) (SA e s (calm ⟨n,u,v,none⟩ G L) (Qs none) []):=by
 have ok:=xo ⟨n,u,v,none⟩ hg hl;have t:ib [.ref 0] (SA e s (calm ⟨n,u,v,none⟩ G L) (Qs none) [])=.ok (.int v) (SA e s (calm ⟨n,u,v,none⟩ G L) (Qs none) []):=BB ok;have a:=Qi e s [(.inl 0,(calm ⟨n,u,v,none⟩ G L).D)] (Qs none) [];have q:=λfs=>Vh a (m:="worth") 1 ib fs rfl;have mg:=λfs=>Vh a (m:="given") 1 lb fs rfl;have o:=λfs=>Vh a (m:="account") 2 Va fs rfl;have l:=wy (e:=e) (g:=s) (A:=(calm ⟨n,u,v,none⟩ G L).D) (Q:=Qs none);have i:=Uz (e:=e) (g:=s) (A:=(calm ⟨n,u,v,none⟩ G L).D) (Q:=Qs none) (Us ok);have j:∀ σ,Ua (CD u v) (.int 1) σ=.ok (.int v) σ:=λσ=>by unfold CD;simp
 have r:∀ σ,di (.str "calm") (.str "calm") σ=.ok (.bl false) σ:=λσ=>Rs (by simp[pl]);have k:∀ x σ,Bb [x] σ=.ok (.str "calm") σ:=λx σ=>by unfold Bb GA;simp
 have p:∀ fs σ,xm [(5,Bb),(6,yc),(7,Bc)] 1 "word" fs (calm ⟨n,u,v,none⟩ G L).D σ=(fs σ).bind (jk 1 Bb (calm ⟨n,u,v,none⟩ G L).D):=λfs σ=>lp (zo rfl) rfl rfl;unfold BF;unfold SA at *;generalize S e s [(.inl 0,(calm ⟨n,u,v,none⟩ G L).D)] (Qs none) []=Y at *;generalize (calm ⟨n,u,v,none⟩ G L).D=w at *;generalize CD u v=C at *;simp[t,q,mg,o,l,i,j,r,k,p]
theorem TW(a b c d f:Option D):VF [a,some (CD u v),some (.ref 0),b,some (.int s),c,d,f] (SA e s (calm ⟨n,u,v,none⟩ G L) (Qs none) [])=.ok (.nx [a,some (CD u v),some (.ref 0),b,some (.int s),c,d,f]) (SA e s (calm ⟨n,u,v,none⟩ G L) (Qs (some (Uf s (gv ⟨n,u,v,none⟩ s)))) []):=by
 have g:=λσ=>ux u v s σ;have w:=uK (Nt H (n:=n) (by omega)) (cu H (n:=n) (by omega) H.hs) (by have:=H.hv;have:=H.hs;omega) hg hl e s none;have w:cc [.ref 0,Bj s] (SA e s (calm ⟨n,u,v,none⟩ G L) (Qs none) [])=.ok (.tup [.bl true,.lst [.tup [.str "ask",.int 0,CD (u+s) (v - s),.tup []]]]) (SA e s (calm ⟨n,u,v,none⟩ G L) (Qs (some (Uf s (gv ⟨n,u,v,none⟩ s)))) []):=w;have i:=Qi e s [(.inl 0,(calm ⟨n,u,v,none⟩ G L).D)] (Qs none) [];have h:=λfs=>Vh i (m:="wish") 2 cc fs rfl;have ne:∀ σ,di (.tup [.bl true,.lst [.tup [.str "ask",.int 0,CD (u+s) (v - s),.tup []]]]) (.tup [.bl true,.lst [.tup [.str "ask",.int 0,CD (u+s) (v - s),.tup []]]]) σ=.ok (.bl false) σ:=λσ=>Rs (by simp[pl,CD]);have j:D.tup [.str "give",.int 0,.int s]=Bj s:=rfl;unfold VF;unfold SA at *;generalize S e s [(.inl 0,(calm ⟨n,u,v,none⟩ G L).D)] (Qs (some (Uf s (gv ⟨n,u,v,none⟩ s)))) []=o at *;generalize S e s [(.inl 0,(calm ⟨n,u,v,none⟩ G L).D)] (Qs none) []=Y at *;generalize CD (u+s) (v - s)=k at *;generalize CD u v=C at *;generalize Bj s=l at *;simp[g,w,h,ne,j]
theorem yU(f h i j k:Option D):∃ σ',pF [f,some (CD u v),some (.ref 0),h,some (.int s),i,j,k] (SA e s (calm ⟨n,u,v,none⟩ G L) (Qs (some (Uf s (gv ⟨n,u,v,none⟩ s)))) [])=.ok (.rt (.bl true)) σ':=by
 have c:=λσ=>ux u v s σ;have of:=oH H hg hl hLk (g:=s) hn;have d:=Qi e (s+s) [(.inl 0,(calm (gv ⟨n,u,v,none⟩ s) (Qd 0 (gv ⟨n,u,v,none⟩ s).D) (L++[.int n])).D)] (Qs none) [];have mg:=λfs=>Vh d (m:="given") 1 lb fs rfl;have a:=wy (e:=e) (g:=s+s) (A:=(calm (gv ⟨n,u,v,none⟩ s) (Qd 0 (gv ⟨n,u,v,none⟩ s).D) (L++[.int n])).D) (Q:=Qs none);have hb:(s+s == 2 * s)=true:=by simp;omega
 have b:∀ σ,XA (.int 2) (.int s) σ=.ok (.int (2 * s)) σ:=λσ=>xX (by omega) (by omega);refine⟨SA e (s+s) (calm (gv ⟨n,u,v,none⟩ s) (Qd 0 (gv ⟨n,u,v,none⟩ s).D) (L++[.int n])) (Qs none) [],?_⟩;unfold pF;unfold SA at *;generalize S e (s+s) [(.inl 0,(calm (gv ⟨n,u,v,none⟩ s) (Qd 0 (gv ⟨n,u,v,none⟩ s).D) (L++[.int n])).D)] (Qs none) []=o at *;generalize S e s [(.inl 0,(calm ⟨n,u,v,none⟩ G L).D)] (Qs (some (Uf s (gv ⟨n,u,v,none⟩ s)))) []=Y at *;generalize CD (u+s) (v - s)=l at *;generalize CD u v=C at *;simp[c,of,mg,a,hb,b]
end
theorem Hr(ns:List Int)(V:ns.length<=63):∃ σ,Vm [.Lf ns] []=.ok (.bl true) σ:=by
 have c:=λ(k:Nat) (σ:ub)=>kX ns k (by omega) σ;have X:∀ σ,Yr (.int 10) (.int 12) σ=.ok (.int 1000000000000) σ:=λσ=>yx (by simp[qu]);obtain⟨u,T⟩:∃ u,u=ym ns 0 % 1000000000001:=⟨_,rfl⟩
 obtain⟨v,U⟩:∃ v,v=3+ym ns 1 % 999999999998:=⟨_,rfl⟩
 obtain⟨e,S⟩:∃ e,e=1+ym ns 2 % 9:=⟨_,rfl⟩
 obtain⟨p,A⟩:∃ p,p=1+ym ns 3 % v:=⟨_,rfl⟩
 obtain⟨z,B⟩:∃ z,z=1+ym ns 4 % v:=⟨_,rfl⟩
 have hu:0<=u/\u<=1000000000000:=by omega
 have hv:3<=v/\v<=1000000000000:=by omega
 have he:1<=e/\e<=9:=by omega
 have hm:∀ x:Int,1<=1+x % v/\1+x % v<=v:=λx=>by
  have:=jv x (b:=v) (by omega);have:=Gs x (b:=v) (by omega);omega
 have hp:=hm (ym ns 3);have D:=hm (ym ns 4);rw[<-A]at hp;rw[<-B]at D;have s1:u1 [some (.Lf ns),none,none,none,none,none,none,none] []=.ok (.nx [some (.Lf ns),some (CD u v),none,none,none,none,none,none]) []:=by
  have M:∀ σ,Na [.Lf ns,.int 0] σ=.ok (.int (ym ns 0)) σ:=c 0;have N:∀ σ,Na [.Lf ns,.int 1] σ=.ok (.int (ym ns 1)) σ:=c 1;unfold u1 CD;rw[T,U];generalize ym ns 0=C0 at *;generalize ym ns 1=C1 at *;simp[M,N,X]
 have W:∀ σ,Ua (CD u v) (.int 0) σ=.ok (.int u) σ:=λσ=>by unfold CD;simp
 have j:∀ σ,Ua (CD u v) (.int 1) σ=.ok (.int v) σ:=λσ=>by unfold CD;simp
 have s2:u2 [some (.Lf ns),some (CD u v),none,none,none,none,none,none] []=.ok (.nx [some (.Lf ns),some (CD u v),some (.ref 0),none,none,none,none,none]) (SA e 0 (a0 u v) (Qs none) []):=by
  have O:∀ σ,Na [.Lf ns,.int 2] σ=.ok (.int (ym ns 2)) σ:=c 2;have E:=QP hu (by omega:0<=v/\v<=1000000000000) he;have t5:∀ σ,ju [.int 1,.int 2,.int u,.int v,.int 20] σ=.ok (pD u v) σ:=λσ=>rfl;unfold u2;generalize SA e 0 (a0 u v) (Qs none) []=Y at *;rw[S]at E;generalize ym ns 2=C2 at *;generalize CD u v=C at *;generalize pD u v=P at *;simp[O,W,j,t5,E]
 have F:∀ x σ,wq (.int x) (.int v) σ=.ok (.int (x % v)) σ:=λx σ=>gK _ _ (by omega);have Z:∀ Y,u3 [some (.Lf ns),some (CD u v),some (.ref 0),none,none,none,none,none] Y=.ok (.nx [some (.Lf ns),some (CD u v),some (.ref 0),some (.int p),none,none,none,none]) Y:=λY=>by
  have Q:∀ σ,Na [.Lf ns,.int 3] σ=.ok (.int (ym ns 3)) σ:=c 3;unfold u3;rw[A];generalize ym ns 3=C3 at *;generalize CD u v=C at *;simp[Q,j,F]
 have s4:∀ Y,u4 [some (.Lf ns),some (CD u v),some (.ref 0),some (.int p),none,none,none,none] Y=.ok (.nx [some (.Lf ns),some (CD u v),some (.ref 0),some (.int p),some (.int z),none,none,none]) Y:=λY=>by
  have R:∀ σ,Na [.Lf ns,.int 4] σ=.ok (.int (ym ns 4)) σ:=c 4;unfold u4;rw[B];generalize ym ns 4=C4 at *;generalize CD u v=C at *;simp[R,j,F]
 have t:∃ s,(1<=s/\s<=v)/\∀ Y,u5 [some (.Lf ns),some (CD u v),some (.ref 0),some (.int p),some (.int z),none,none,none] Y=.ok (.nx [some (.Lf ns),some (CD u v),some (.ref 0),some (.int p),some (.int s),none,none,none]) Y:=by
  have y:∀ σ,Na [.Lf ns,.int 5] σ=.ok (.int (ym ns 5)) σ:=c 5;unfold u5;generalize ym ns 5=K at *;generalize CD u v=C at *;cases hb:(K % 4 == 1)
  ·exact⟨z,D,λY=>by simp[y,hb]⟩
  ·exact⟨p,hp,λY=>by simp[y,hb]⟩
 obtain⟨s,hs,t⟩:=t;have H:Hy u v e p s:=⟨hu,hv,he,hp,hs⟩
 obtain⟨d,f,s6⟩:=RP H (some (.Lf ns)) none none none;have s7:=R0 H (some (.Lf ns)) d f none;have I:=YT H (some (.Lf ns)) d f none;have J:=KR H (0+s) (some (.Lf ns)) d f none;rw[bA]at I J;obtain⟨i,a1,l,n,G,L,hn,g,h,a,rfl⟩:=jQ H ns d f c;have m:=HX H hn g h a (some (.Lf ns)) (some (.int p)) d f i;have o:=y1 H hn g h a (some (.Lf ns)) (some (.int p)) d f i;have q:=TW H hn g h a (some (.Lf ns)) (some (.int p)) d f i;obtain⟨w,r⟩:=yU H hn g h a (some (.Lf ns)) (some (.int p)) d f i;refine⟨w,?_⟩;unfold Vm mM;rw[EM];show Pv (kc u1 _ [some (.Lf ns),none,none,none,none,none,none,none] [])=_;rw[sk,s1,Tf,Hk,sk,s2,Tf,Hk,sk,Z,Tf,Hk,sk,s4,Tf,Hk,sk,t,Tf,Hk,sk,s6,Tf,Hk,sk,s7,Tf,Hk,sk,I,Tf,Hk,sk,J,Tf,Hk,sk,l,Tf,Hk,sk,m,Tf,Hk,sk,o,Tf,Hk,sk,q,Tf,Hk,r,uO]
end K48
open PySem PySem.W PyProof.Rows
set_option maxRecDepth 100000 in
set_option maxHeartbeats 0 in
theorem PySem.Challenge.cw_sidebook_k48_asks_holds : PySem.Challenge.rw_sidebook_k48_asks.Holds := by
 w_on;refine hd ?_
 k_fill
 refine L4.pU (l:=PySem.Challenge.rw_sidebook_k48_asks) (k:=15) (x:="_law_script") (fn:=K48.Vm) ["least_fate", "paper"] rfl rfl ⟨rfl,by decide,by decide⟩ (λw h Y=>km_in_of Y) ?hK ?hrec ?F K48.Hr;case hK=>intro w;kernel_rfl
 case hrec=>kernel_rfl
 case F=>
  intro w mg h KX G TT
  refine' (have q0:nsIn (L2.Ch KX) mainGlobals "NoStand" = some (some (.ref ?C1)):=?p0;have q3:nsIn (L2.Ch KX) mainGlobals "Account" = some (some (.ref ?C4)):=?p3;have q4:nsIn (L2.Ch KX) mainGlobals "Calm" = some (some (.ref ?C5)):=?p4;have q5:nsIn (L2.Ch KX) mainGlobals "Offered" = some (some (.ref ?C6)):=?p5;have q6:nsIn (L2.Ch KX) mainGlobals "Waiting" = some (some (.ref ?C7)):=?p6;have q7:nsIn (L2.Ch KX) mainGlobals "View" = some (some (.ref ?C8)):=?p7;have q8:nsIn (L2.Ch KX) mainGlobals "Keeper" = some (some (.ref ?C9)):=?p8;have q9:findIn (L2.Ch KX) (.ref ?C9) "learn" = some (some (.ref ?C22)):=?p9;have q11:findIn (L2.Ch KX) (.ref ?C9) "hold" = some (some (.ref ?C21)):=?p11;have q13:findIn (L2.Ch KX) (.ref ?C4) "__init__" = some (some (.ref ?C10)):=?p13;?_);(case p0|p3|p4|p5|p6|p7|p8|p9|p11|p13=>dsimp only[L2.Ch];first|k_is|k_exc|rfl)
  refine' (have q15:findIn (L2.Ch KX) (.ref ?C9) "__init__" = some (some (.ref ?C20)):=?p15;have q17:findIn (L2.Ch KX) (.ref ?C9) "holds" = some (some (.ref ?C32)):=?p17;have q19:findIn (L2.Ch KX) (.ref ?C5) "word" = some (some (.ref ?C13)):=?p19;have q21:findIn (L2.Ch KX) (.ref ?C6) "word" = some (some (.ref ?C15)):=?p21;have q23:findIn (L2.Ch KX) (.ref ?C7) "word" = some (some (.ref ?C17)):=?p23;have q25:findIn (L2.Ch KX) (.ref ?C4) "agree_of" = some (some (.ref ?C11)):=?p25;have q27:findIn (L2.Ch KX) (.ref ?C4) "strike_of" = some (some (.ref ?C12)):=?p27;have q29:findIn (L2.Ch KX) (.ref ?C5) "taken" = some (some (.ref ?C14)):=?p29;have q31:findIn (L2.Ch KX) (.ref ?C6) "taken" = some (some (.ref ?C16)):=?p31;have q33:findIn (L2.Ch KX) (.ref ?C7) "taken" = some (some (.ref ?C18)):=?p33;?_);(case p15|p17|p19|p21|p23|p25|p27|p29|p31|p33=>dsimp only[L2.Ch];first|k_is|k_exc|rfl)
  refine' (have q35:findIn (L2.Ch KX) (.ref ?C8) "__init__" = some (some (.ref ?C19)):=?p35;have q37:findIn (L2.Ch KX) (.ref ?C9) "words" = some (some (.ref ?C23)):=?p37;have q39:findIn (L2.Ch KX) (.ref ?C9) "view_by" = some (some (.ref ?C27)):=?p39;have q41:findIn (L2.Ch KX) (.ref ?C9) "view" = some (some (.ref ?C28)):=?p41;have q43:findIn (L2.Ch KX) (.ref ?C9) "worth" = some (some (.ref ?C29)):=?p43;have q45:findIn (L2.Ch KX) (.ref ?C9) "is_good" = some (some (.ref ?C31)):=?p45;have q47:findIn (L2.Ch KX) (.ref ?C9) "wish_for" = some (some (.ref ?C34)):=?p47;have q49:findIn (L2.Ch KX) (.ref ?C9) "wish" = some (some (.ref ?C33)):=?p49;have q51:findIn (L2.Ch KX) (.ref ?C9) "given" = some (some (.ref ?C25)):=?p51;have q53:findIn (L2.Ch KX) (.ref ?C9) "account" = some (some (.ref ?C26)):=?p53;?_);(case p35|p37|p39|p41|p43|p45|p47|p49|p51|p53=>dsimp only[L2.Ch];first|k_is|k_exc|rfl)
  refine' (have q55:findIn (L2.Ch KX) (.ref ?C9) "is_as_asked" = some (some (.ref ?C37)):=?p55;have q57:findIn (L2.Ch KX) (.ref ?C9) "take_step" = some (some (.ref ?C38)):=?p57;have q59:findIn (L2.Ch KX) (.ref ?C9) "take" = some (some (.ref ?C35)):=?p59;?_);(case p55|p57|p59=>dsimp only[L2.Ch];first|k_is|k_exc|rfl);refine⟨λn=>([0,?C1,0,0,?C4,?C5,?C6,?C7,?C8,?C9,?C10,?C11,?C12,?C13,?C14,?C15,?C16,?C17,?C18,?C19,?C20,?C21,?C22,?C23,0,?C25,?C26,?C27,?C28,?C29,0,?C31,?C32,?C33,?C34,?C35,0,?C37,?C38]:List Addr).getD n 0,(K48.tx (L2.Ch KX)).ul,K48.FZ _,K48.HZ ?_⟩;constructor;all_goals (try dsimp only[L2.Ch,List.getD_cons_succ,List.getD_cons_zero]);all_goals (first
   |(refine' L4.gH KX G (λ_ _ _ _ _ _ us hl=>?z) ?a ?l ?c ?k;(case z=>first|exact(match us,hl with|[_],_=>rfl)|exact(match us,hl with|[_,_],_=>rfl)|exact(match us,hl with|[_,_,_],_=>rfl)|exact(match us,hl with|[_,_,_,_],_=>rfl)|exact(match us,hl with|[_,_,_,_,_],_=>rfl)|exact(match us,hl with|[_,_,_,_,_,_],_=>rfl)|exact(match us,hl with|[_,_,_,_,_,_,_],_=>rfl));(case a|l|c|k=>k_is))
   |(refine' L4.IW (λ_ _ _ _ _ _ us hl=>?z) ?l ?c ?k;(case z=>first|exact(match us,hl with|[_],_=>rfl)|exact(match us,hl with|[_,_],_=>rfl)|exact(match us,hl with|[_,_,_],_=>rfl)|exact(match us,hl with|[_,_,_,_],_=>rfl)|exact(match us,hl with|[_,_,_,_,_],_=>rfl)|exact(match us,hl with|[_,_,_,_,_,_],_=>rfl)|exact(match us,hl with|[_,_,_,_,_,_,_],_=>rfl));(case l|c|k=>k_is))
   |(refine' L4.mV KX G K48.M3 ?a ?l ?c ?k ?d;(case a|l|c|k|d=>k_is))
   |(refine' L4.MX K48.SS ?l ?c ?d;(case l|c|d=>k_is))
   |(refine' L4.TU KX G ?a ?b;(case a=>k_is);(case b=>kernel_rfl))
   |(refine' L4.CP KX G ?a;(case a=>k_is))
   |(refine' K7 KX G ?a;(case a=>k_is))
   |(refine' mg_none_of KX G ?a;(case a=>k_is))
   |(refine' ⟨⟨?a,?b,?c,?d⟩,?e,?f,?g,?h⟩;(case a|b|c|d|e|f|g|h=>k_is))
   |(refine' ⟨?a,?b,?c,?d⟩;(case a|b|c|d=>k_is))
   |(refine' ⟨?a,?b,?c⟩;(case a|b|c=>k_is))
   |(refine' ⟨?a,?b⟩;(case a|b=>k_is))
   |(refine' L4.AQ KX G (L4.gH KX G (λ_ _ _ _ _ _ us hl=>?z) ?a ?l ?c ?k) TT ?d;(case z=>first|exact(match us,hl with|[_],_=>rfl)|exact(match us,hl with|[_,_],_=>rfl)|exact(match us,hl with|[_,_,_],_=>rfl)|exact(match us,hl with|[_,_,_,_],_=>rfl)|exact(match us,hl with|[_,_,_,_,_],_=>rfl)|exact(match us,hl with|[_,_,_,_,_,_],_=>rfl)|exact(match us,hl with|[_,_,_,_,_,_,_],_=>rfl));(case a|l|c|k=>k_is);(case d=>decide))
   |(refine' (K7 KX G ?a).trans (K7 KX G ?b).symm;(case a|b=>k_is))
   |exact TT
   |exact K7 KX G TT.bm
   |(refine' L4.HY ?a;(case a=>kernel_rfl))
   |decide
   |k_is
   |k_exc
   |rfl)
