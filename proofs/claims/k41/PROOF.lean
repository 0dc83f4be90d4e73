import PyProof.Rows.All
import Wide.All
import OpenK.AllK
import Wide.FinOn
import Lean
import PyProof.EqAt
import PyProof.EqKinds
import PyProof.TupleCall
import PyProof.NeKinds
import PyProof.NsDelKeeps
import KE.KTryMore
import PyProof.WalksMore
import PyProof.Rows.SetFrom
import KE.KEqDict
import PyProof.ToksMono
import PyProof.StrCalls6
import PyProof.StrBlock2
import PyProof.SliceStr2
import PyProof.StrLawsTight
import PyProof.InstStoreFacts
import PyProof.Rows.FStr
import PyProof.FactsAll.set
import KE.KDictLaws
import KE.KIntText
import PyProof.Rows.StrWeight2
import PyProof.StrWalks
import PyProof.StrBlockH
import PyProof.WalksEnum
import PyProof.ZipIter
import PyProof.EnumMake
import PyProof.FitsReplace
import PyProof.StrLawsIn
import PyProof.Rows.SortWalk
import PyProof.DictUpdate
import KE.KDictList
import KE.KDictSum
import KE.KPairComp
import PyProof.FactsAll.dict
import KE.KMinKey
import KE.KLam
import PyProof.DictWalks
import PyProof.DictValues
import PySem.Challenge.RW_sidebook_k41_a_keeping_hand_begins
set_option Elab.async false
set_option linter.all false
set_option maxRecDepth 100000
def PySem.W.Fast.tw2447624048477626526:Nat:=0
def PySem.W.Fast.tw7284635932349711089:Nat:=0
def PySem.W.Fast.tw2885690892925829340:Nat:=0
def PySem.W.Fast.tw17902025427691342239:Nat:=0
def PySem.W.Fast.tw2338438804184984878:Nat:=0
def PySem.W.Fast.tw10092494136458128665:Nat:=0
def PySem.W.Fast.tw15066112065713757101:Nat:=0
def PySem.W.Fast.tw861502493610598483:Nat:=0
def PySem.W.Fast.tw10255847979540503498:Nat:=0
def PySem.W.Fast.tw17437978225849329918:Nat:=0
def PySem.W.Fast.tw9107843584040042292:Nat:=0
def PySem.W.Fast.tw1179633367757178035:Nat:=0
def PySem.W.Fast.tw9615284947313788211:Nat:=0
def PySem.W.Fast.tw6495368838606455238:Nat:=0
def PySem.W.Fast.tw7774113678449685934:Nat:=0
def PySem.W.Fast.tw4035509970636608267:Nat:=0
def PySem.W.Fast.tw4738809144493168741:Nat:=0
def PySem.W.Fast.tw8037477494494637487:Nat:=0
def PySem.W.Fast.tw8371023844593182472:Nat:=0
def PySem.W.Fast.tw17590196521536335332:Nat:=0
def PySem.W.Fast.tw1287781588520737546:Nat:=0
def PySem.W.Fast.tw5320619654261168702:Nat:=0
def PySem.W.Fast.tw12764602324212635181:Nat:=0
def PySem.W.Fast.tw2087409540819079288:Nat:=0
def PySem.W.Fast.tw640624198105042115:Nat:=0
def PySem.W.Fast.tw10052031235695348791:Nat:=0
def PySem.W.Fast.tw10234662083747824336:Nat:=0
def PySem.W.Fast.tw13578020157988156910:Nat:=0
def PySem.W.Fast.tw16902085369446701243:Nat:=0
def PySem.W.Fast.tw13851971633180934007:Nat:=0
def PySem.W.Fast.tw786537726763496527:Nat:=0
def PySem.W.Fast.tw18004296560267143027:Nat:=0
def PySem.W.Fast.tw14782954611325821827:Nat:=0
def PySem.W.Fast.tw6408400580700104982:Nat:=0
def PySem.W.Fast.tw3099597729799864441:Nat:=0
def PySem.W.Fast.tw4139333405863992284:Nat:=0
def PySem.W.Fast.tw8722757702447974192:Nat:=0
def PySem.W.Fast.tw7370394436535831451:Nat:=0
def PySem.W.Fast.tw13758190518337804936:Nat:=0
def PySem.W.Fast.tw12393862125047025020:Nat:=0
def PySem.W.Fast.tw15359611588545569252:Nat:=0
def PySem.W.Fast.tw14321067358777074657:Nat:=0
def PySem.W.Fast.tw16203965252921439515:Nat:=0
def PySem.W.Fast.tw8535803893964050539:Nat:=0
def PySem.W.Fast.tw12670982853097334264:Nat:=0
def PySem.W.Fast.tw772564365185477556:Nat:=0
def PySem.W.Fast.tw3308634892276815127:Nat:=0
def PySem.W.Fast.tw6344153461787385748:Nat:=0
def PySem.W.Fast.tw5576432317899297355:Nat:=0
def PySem.W.Fast.tw8514659027417952518:Nat:=0
def PySem.W.Fast.tw10876078143196172821:Nat:=0
def PySem.W.Fast.tw15433796024959077876:Nat:=0
def PySem.W.Fast.tw8997383693586321770:Nat:=0
def PySem.W.Fast.tw18115114710476104648:Nat:=0
def PySem.W.Fast.tw15142666989864626641:Nat:=0
def PySem.W.Fast.tw18248855084332350957:Nat:=0
def PySem.W.Fast.tw4899019208322075834:Nat:=0
def PySem.W.Fast.tw18400553757987027518:Nat:=0
def PySem.W.Fast.tw4772062507164038959:Nat:=0
def PySem.W.Fast.tw13394580363473044415:Nat:=0
def PySem.W.Fast.tw8760152093665844161:Nat:=0
def PySem.W.Fast.tw10470340158578859262:Nat:=0
def PySem.W.Fast.tw11161164713144168021:Nat:=0
def PySem.W.Fast.tw7701650113140490549:Nat:=0
def PySem.W.Fast.tw16086907953836968628:Nat:=0
def PySem.W.Fast.tw7424060955962978353:Nat:=0
def PySem.W.Fast.tw2167315655227761912:Nat:=0
def PySem.W.Fast.tw2781441929908095834:Nat:=0
def PySem.W.Fast.tw3374319085511977134:Nat:=0
def PySem.W.Fast.tw13307065042914920193:Nat:=0
def PySem.W.Fast.tw14569604634059749682:Nat:=0
def PySem.W.Fast.tw3456351732281881909:Nat:=0
def PySem.W.Fast.tw2228412568605170491:Nat:=0
def PySem.W.Fast.tw10295913840692754127:Nat:=0
def PySem.W.Fast.tw7189051449281439038:Nat:=0
def PySem.W.Fast.tw11095110211248682772:Nat:=0
def PySem.W.Fast.tw4860023922305330110:Nat:=0
def PySem.W.Fast.tw12715800853834201459:Nat:=0
def PySem.W.Fast.tw2983127059725616120:Nat:=0
def PySem.W.Fast.tw11215744418292656035:Nat:=0
def PySem.W.Fast.tw8487446325307603647:Nat:=0
def PySem.W.Fast.tw16615150188913437886:Nat:=0
def PySem.W.Fast.tw5522115075389312692:Nat:=0
def PySem.W.Fast.tw2694234056635809718:Nat:=0
def PySem.W.Fast.tw4946147512530127568:Nat:=0
def PySem.W.Fast.tw1932759071263863916:Nat:=0
def PySem.W.Fast.tw3851428956369438258:Nat:=0
def PySem.W.Fast.tw431221854992830470:Nat:=0
def PySem.W.Fast.tw14819390147424179368:Nat:=0
def PySem.W.Fast.tw154272780991502253:Nat:=0
def PySem.W.Fast.tw11384182702204212275:Nat:=0
def PySem.W.Fast.tw2216542800690825051:Nat:=0
def PySem.W.Fast.tw4436474186459923750:Nat:=0
def PySem.W.Fast.tw2358075552688931204:Nat:=0
def PySem.W.Fast.tw2046362190076281809:Nat:=0
def PySem.W.Fast.tw5960047855520388891:Nat:=0
def PySem.W.Fast.tw12314708539913122752:Nat:=0
def PySem.W.Fast.tw2528511596961503537:Nat:=0
def PySem.W.Fast.tw6338894885288841830:Nat:=0
def PySem.W.Fast.tw7766106395892283477:Nat:=0
def PySem.W.Fast.tw6880980288501444468:Nat:=0
def PySem.W.Fast.tw6044648929357246223:Nat:=0
def PySem.W.Fast.tw15932183184989994656:Nat:=0
def PySem.W.Fast.tw17435391645217708394:Nat:=0
def PySem.W.Fast.tw8432719020341155521:Nat:=0
def PySem.W.Fast.tw4333590680753393835:Nat:=0
def PySem.W.Fast.tw7485256538410118956:Nat:=0
def PySem.W.Fast.tw2080317491765294665:Nat:=0
def PySem.W.Fast.tw6829468419937405859:Nat:=0
section
open PySem PySem.W PyProof.Rows
set_option maxHeartbeats 0
open_top hd for PySem.Challenge.rw_sidebook_k41_a_keeping_hand_begins
end
def pd:=@beq_eq_false_iff_ne
def xf:=@beq_iff_eq
def Sq:=@beq_self_eq_true
def we:=@congrArg
def Cb:=@decide_eq_false
def Nd:=@decide_eq_true
def Mb:=@decide_eq_true_eq
def ag:=@if_false
def ja:=@if_neg
def ia:=@if_pos
def ie:=@if_true
def Qh:=@or_false
open Array renaming append_assoc->Ak,getElem?_eq_getElem->pb,getElem?_eq_none->Bq,getElem?_eq_none_iff->io,getElem?_eq_some_iff->Pc,getElem?_extract->Aq,getElem?_push->Hs,getElem?_toList->Xc,length_toList->Bb,toArray_toList->vj
open Bool renaming and_eq_true->va,and_false->Sx,false_eq_true->Cc,false_ne_true->Va,false_or->Kg,not_true->di,or_eq_true->af
open Classical renaming choose_spec->y9
open Int renaming toNat_natCast->xg
open List renaming all_cons->Pf,all_eq_true->Zb,all_map->rA,any_cons->Oc,any_eq_true->Hg,any_map->uA,append_assoc->Dl,append_nil->Vf,cons_append->Ie,drop_eq_getElem_cons->Ef,drop_eq_nil_of_le->Li,eraseIdx_cons_succ->zq,ext_getElem?->Wh,filterMap_cons->Gf,filter_cons->jc,filter_eq_self->Dt,find?_cons->Dd,foldl_append->qv,foldl_cons->Cd,getD_eq_getElem?_getD->zf,getElem?_append_left->Xa,getElem?_append_right->yf,getElem?_cons_succ->Cq,getElem?_cons_zero->Ci,getElem?_eq_getElem->yb,getElem?_eq_none->kj,getElem?_eq_none_iff->Wa,getElem?_eq_some_iff->ka,getElem?_map->Ja,getElem?_of_mem->Fs,getElem?_replicate->ig,getElem?_set->cc,getElem?_set_ne->Ds,getElem?_set_self->Qq,getElem?_take_of_lt->Tp,getElem?_toArray->df,getElem_mem->Cf,length_append->ib,length_cons->Za,length_drop->Xv,length_eq_zero_iff->Bi,length_eraseIdx_of_lt->Go,length_filter_le->Pr,length_map->xa,length_nil->Fn,length_range->Xh,length_replicate->Dr,length_singleton->jj,length_take->Cm,lookup_cons->Sa,map_append->Tc,map_congr_left->Wj,map_cons->Ia,map_id'->AA,map_map->We,map_nil->Af,mem_append->Uf,mem_append_left->Ka,mem_append_right->Ma,mem_cons->Fa,mem_cons_of_mem->Ha,mem_cons_self->Qa,mem_filter->Dn,mem_filterMap->Gk,mem_map->Ra,mem_of_getElem?->La,mem_range->Aj,mem_singleton->bg,nil_append->Ti,nodup_append->iv,nodup_cons->fh,nodup_nil->Vx,not_mem_nil->Dc,of_mem_zip->En,pairwise_iff_getElem->Cp,range_succ->Uw,range_succ_eq_map->Ji,replicate_succ'->Ks,set_append_right->Jr,set_cons_succ->Ib,set_cons_zero->Jb,size_toArray->na,sum_append->Rw,take_length->Dm
open List.Perm renaming cons_inv->D9,refl->Et
open List.cons renaming injEq->Gs
open Nat renaming add_zero->nC,le_of_ble_eq_true->Ig,le_of_eq->Cr,le_of_lt->Td,le_refl->pa,le_succ->gi,le_trans->Ya,lt_irrefl->De,lt_of_le_of_lt->fv,lt_of_lt_of_le->Aa,lt_succ_of_lt->Ab,lt_succ_self->zb,lt_trans->Kr,lt_trichotomy->Yv,mod_lt->QJ,ne_of_gt->Ud,ne_of_lt->ra,not_lt->jv,one_ne_zero->Wx,zero_add->Vi,zero_le->ci
open Ne renaming symm->Me
open Option renaming bind_eq_some_iff->Wf,bind_some->ii,getD_none->bu,isSome_iff_exists->ue,isSome_map->At,map_eq_some_iff->Db,map_some->Ve
open Option.some renaming inj->ub,injEq->gh
open Prod renaming ext->qS
open PyProof.Rows renaming AllBare->Pg,IntsAre->wh,IsTup->eu,callWith_builtin1->xF,callWith_type1->Oe,iadd_int->wF,slot_tuple_getitem->bc,Subscript_->jz,args_list_sort->NJ,args_sorted1->G9,args_tuple_getitem->iz,boot_int->RJ,boot_isinstance->zF,boot_list->wj,boot_tuple->Nr,entry_list_iadd'->lC,entry_list_sort->EF,entry_proto_collect'->Sw,entry_sorted->F9,entry_tuple_getitem->Rx,envOfC->Rg,firstMet->ng,firstMet_length_le->nz,firstMet_succ->KS,firstMet_zero->LS,get?_update_seq->IF,list_sort_tree->MJ,plain_sorted->E9,seqObj->Wi,size_push'->mz,slicePart_none->JJ,slot_list_sort->LJ,sortedHeap_at->JS,sortedHeap_old->OJ,step_dedup->qz,subscriptTail->Ft,subscriptTail_builtinR->bv,tupleItemsOf_->rS
open PyProof.Rows.F renaming entry_set_update_loop->Js,plain_set_update_loop->Ui
open PyProof.Rows.IsTup renaming new->yF
open PySem renaming Around->Da,BindsTo->Zf,Builtin->Xe,CmpOp->Yp,DictEntry->ju,Drawn->Vw,ElemsOf->Vq,Env->Og,ExceptHandler->xh,Expr->Ga,FuncData->Yd,GenState->jo,IsPair->WJ,IsPart->nl,ItemsOf->oo,Keyword->Oj,Model->Yj,NameKind->Ye,Operator->Ww,Params->TJ,PassesOwn->Fp,PlainAttrs->ti,Pos->Se,Program->ua,boot_len->sd,evalArgs_none->Es,mem_of_lookup->Fe,Result->wn,Sem->Xp,SetTable->Zd,Slot->pz,Str->qa,World->Ea,argsOk->YJ,assign->ml,assignEach->pf,atKey->Rr,attributeBase->Uc,backTo->kc,backToKw->ko,behindInMarks->Pe,behindIsImport->UJ,binaryOp->He,bindC->iu,bindL->gu,builtinLookup_eq_fast->aw,call_list_seq->IS,call_meets->Er,call_meetsIn->pv,callerA->Tg,cellsFrom->qC,checkBuiltinCall->wC,codeAny_builtin->nc,codeAny_call_builtin->jl,codeAny_handlers_test->Zv,codeAny_mono->kf,codeAny_of_tree->GF,collect->JA,compareOp->Qc,concat_meets->av,entryFor->XJ,entryFor_alias->PJ,entryPlaceOf->N9,eval->Nb,evalPart_none->sS,firstArgMember->ZJ,fits_of_scanBound->Lg,foldedSetIterable->Qg,getAttr->K9,getAttrByItsOwn->LF,getItem->Mi,getMethod->fu,handleBy->VJ,holding->Yf,intBits_le_64->mS,intKind->mf,isInstance->rz,isSubtype_type->Mr,isTrue->oz,keywordEach->Ni,leaving->GA,newFields->uC,newList->O9,noFill_tuple_add->Bp,noteFrame->Cg,operate->L9,pickOrder->Ip,plainId_quiet->de,relayAll->ro,seqIndex_neg->w9,seqItems?->xC,seq_tuple_add->xt,setAddHashed->P9,setFlight->ji,setItem->EA,setNext->uo,sliceBounds->yh,slot_list_getitem->qA,standAt->Tq,starEach->ma,subscripted->aq,swappedStores->NS,swapsWith->xj,swapsWithSole->MS,sysModules->yg,tupleKind->Ep,tupleKind_room_in1->vn,typeLookup_type->HF,typeOf->ql,updateSeq->mu,valueAt->mo,wpAny_Call_Name_kw->jf,wpAny_Call_method0_late->cu,wpAny_Call_method_late->ev,wpAny_Name->ez,wpAny_askSetting->Dp,wpAny_assign_Name->nA,wpAny_attempt->Si,wpAny_bind->aa,wpAny_call->Gr,wpAny_callSpecial?_slot->Md,wpAny_call_entry->Nc,wpAny_comprehension_free->Ct,wpAny_execs_cons->jC,wpAny_execs_nil->Vj,wpAny_field->il,wpAny_fieldsOf->kl,wpAny_handleBy_cons->Ux,wpAny_holding->Rb,wpAny_isInstance->mC,wpAny_isTrue_Compare1->Wv,wpAny_ite_split->qg,wpAny_letGo->Wp,wpAny_load->mn,wpAny_loadPart->IJ,wpAny_mono->Eb,wpAny_newFunctionEnv->ll,wpAny_newList->Bt,wpAny_newObj_type->Sb,wpAny_of_eq->Tw,wpAny_passesOwn->Jh,wpAny_pure->da,wpAny_pyIter_enum->wA,wpAny_pyIter_list->Ki,wpAny_pyIter_slot->yA,wpAny_pyIter_tuple->kz,wpAny_pyIter_zip->kC,wpAny_rule->Ir,wpAny_runValue->Lr,wpAny_seqItems->ri,wpAny_sequenceKey->oA,wpAny_setEntries_of->jg,wpAny_setEpoch_of->zA,wpAny_setField->Mg,wpAny_setState_of->Bf,wpAny_specialOf->DF,wpAny_standAt->wt,wpAny_storeSet_of->xA,wpAny_truthy_bool->Wc,wpAny_tryCatch->Ng,wpAny_typeOf->Nj,wpAny_updateSeq->Lh,wp_field_iff->nv,wp_setField_iff->AF
open PySem.Around renaming frames_deeper->Rq,under->Zp,under_plainId->Qb
open PySem.BindsTo renaming of_defaults->Wg
open PySem.Builtin.Builtins renaming bindParams->yj
open PySem.Builtin.Frozenset renaming newClass->Xw,sizeOf->Zw,updateFrom->Yw
open PySem.Builtin.List renaming listExtendWith->Qe,listLengthHint->Dg,listSameRef->El,listTooLong->jh,listTouch->MF
open PySem.Builtin.Range renaming rangeSize->oC
open PySem.Builtin.Slice renaming sliceAdjust->Sg,sliceApplied->Dk,sliceFields->sC,slicePartIndex->rC,slicePlaces->bf
open PySem.Builtin.Tuple renaming tupleExact->qf,tupleIsExact->vC,tupleItemsOf->Ek
open PySem.Calls renaming Name_function_global->eo,callWith_builtin->lg,call_function_entry->Fo,evalArgs_plain->uj
open PySem.CmpOp renaming In->SJ,NotIn->DA
open PySem.Code renaming frames->pC,isFrame->Uq,quiet_builtin->du
open PySem.DictEntry renaming refKey->J9
open PySem.EntryCells renaming newEntry->Gp
open PySem.F renaming args_tuple_add_2->Kh,called_set->Yc,entry_min_loop->si,entry_tuple_add->Vh,excAttr_ValueError->rn,excBase_ValueError->Lc,plainAttrs_dict->Zh,plainAttrs_list->Bc,plain_extend_loop->Gn,plain_list_iadd->Qf,plain_min_loop->Kc,plain_proto_collect->Em,plain_set_new->Up,slot_dict_items->Yh,slot_dict_update->fo,slot_list_append->qe,slot_set_iter->Vp,slot_tuple_add->qi,type_dict_items->Ho,type_list_append->re
open PySem.Heap renaming ExtBut->xn,FlyingW->IA,HeldW->Io,SameBut->Rc,get?_eq_some->mv,get?_push_of_some->ba,get?_push_size->ya,get?_update_other->og,get?_update_self->Zc,lt_size->la,size_push->rc
open PySem.Heap.DictOf renaming new->KJ
open PySem.Heap.IsSliceOf renaming new->pA
open PySem.Heap.IsTuple renaming push->BF
open PySem.Heap.SameBut renaming refl->FF,update->Gb
open PySem.IsL renaming update->x9
open PySem.NameKind renaming cell->pc,free->db
open PySem.Obj renaming cls_mapFields->qm,data_mapFields->Wb,isFreed_of_fields->lf,mapFields->Ee,mapSeq->Ze,putSet->sv
open PySem.PassesOwn renaming leaving->z9,looking->A9
open PySem.Sem renaming wp_bind'->om,wp_mono->yt
open PySem.SeqAt renaming EqAt->ve,RcAt->Gi,RcNeAt->ph
open PySem.SeqAt.EqAt renaming bool_bool->yS,bool_int->zS,bool_none->xS,bool_str->AS,int_bool->CS,int_int->DS,int_none->BS,int_str->Qp,none_bool->uS,none_int->vS,none_str->wS,same->Hk,str_bool->GS,str_int->Rp,str_none->ES,str_str->HS
open PySem.SetTable renaming below->ye,fresh->ku,grown->ff,has->bw,insertAt->Zj
open PySem.SetTable.below renaming go->qo
open PySem.SetTable.probe renaming go->Ug
open PySem.Shared renaming TypeIs->Jo
open PySem.Str renaming ofString->Vd
open PySem.Value renaming bool->wf,bytes->CA,float->Qr,int->Bd,isInt->BA,isInt_shape->au,isStrOf->Xx,none->eb,ref->nb,str->rm,type->Xf
open PySem.Value.ref renaming inj->B9
open PySem.W renaming OpenLaw->M9,any_some->Qw,callWith_K->on,cellsFrom_some->gz,hideAll_get->uF,kia_one->Re,kitx_dict->Zu,kitx_list->nS,looks_findIn->Bk,looks_mroIn->CF,methodCall_KW->sA,mg_of->zt,of_hideAll->vt,plainGet_of->Br,mg_none_of->zd,mg_of->Xj
open PySem.W.KF renaming slot_gs->vA
open PySem.W.Looks renaming ld->Hr
open PySem.W.WData renaming int->JF
open PySem.W.WShape renaming has->HA
open PySem.Walks renaming list->Ck
open PySem.WalksT renaming zip2->lz
open PySem.Within renaming cons->vF
open PySem.pickOrder renaming go->wo
open Sum.inl renaming inj->Qx
namespace L2
open PySem PySem.Spec PyProof.Rows
noncomputable abbrev Key:=Sum Int qa
noncomputable def bz:Key->Value->Bool
 | .inl k,v=>BA k v
 | .inr x,v=>Xx x v
noncomputable def xW(w:Ea):Key->Int
 | .inl k=>hashInt k
 | .inr x=>hashStr w x
theorem uu:∀ {k:Key} {v:Value},bz k v=true->(∃ i t,k=Sum.inl i/\v=Bd i t)\/(∃ x t,k=Sum.inr x/\v=rm x t)
 | .inl i,v,h=>by
  obtain⟨t,e⟩:=au (k:=i) (v:=v) h;exact .inl ⟨i,t,rfl,e⟩
 | .inr x,v,h=>by
  obtain⟨t,e⟩:=Value.isStrOf_shape (x:=x) (v:=v) h;exact .inr ⟨x,t,rfl,e⟩
theorem Z4(i:Int)(t:Tok):bz (.inl i) (.int i t)=true:=by simp[bz,BA]
theorem eZ(x:qa)(t:Tok):bz (.inr x) (.str x t)=true:=by simp[bz,Xx]
theorem k9(a b:Int):decide ((Sum.inl a:Key)=Sum.inl b)=(a == b):=by
 by_cases e:a=b
 ·subst e;simp
 ·have h:¬ (Sum.inl a:Key)=Sum.inl b:=λq=>e (Qx q);rw[Cb h];exact(pd.mpr e).symm
theorem BZ(a b:qa):decide ((Sum.inr a:Key)=Sum.inr b)=decide (a=b):=by
 by_cases e:a=b
 ·subst e;simp
 ·have h:¬ (Sum.inr a:Key)=Sum.inr b:=λq=>e (Sum.inr.inj q);rw[Cb h,Cb e]
theorem IW(a:Int)(b:qa):decide ((Sum.inl a:Key)=Sum.inr b)=false:=Cb (λq=>nomatch q)
theorem n5(a:qa)(b:Int):decide ((Sum.inr a:Key)=Sum.inl b)=false:=Cb (λq=>nomatch q)
noncomputable def Nn(prog:ua)(w:Ea):PySem.KeyKind prog w Key where
 is:=bz
 hash:=xW w
 inj:=λv a b d hb=>by
  rcases uu d with⟨i,t,rfl,rfl⟩|⟨x,t,rfl,rfl⟩
  ·rcases uu hb with⟨j,u,rfl,e⟩|⟨y,u,rfl,e⟩
   ·injection e with e1 _;rw[e1]
   ·exact nomatch e
  ·rcases uu hb with⟨j,u,rfl,e⟩|⟨y,u,rfl,e⟩
   ·exact nomatch e
   ·injection e with e1 _;rw[e1]
 byValue:=λk v h=>by
  rcases uu h with⟨i,t,rfl,rfl⟩|⟨x,t,rfl,rfl⟩<;>rfl
 pyHash:=λc h=>by
  rcases uu c with⟨i,t,rfl,rfl⟩|⟨x,t,rfl,rfl⟩
  ·exact wpAny_pyHash_int h
  ·exact wpAny_pyHash_str h
 eqBool:=λf c h=>by
  rcases uu f with⟨i,t,rfl,rfl⟩|⟨x,t,rfl,rfl⟩
  ·rcases uu c with⟨j,u,rfl,rfl⟩|⟨y,u,rfl,rfl⟩
   ·rw[k9]at h;exact wpAny_eqBool_int h
   ·rw[IW]at h;exact Qp i t y u _ _ _ _ h
  ·rcases uu c with⟨j,u,rfl,rfl⟩|⟨y,u,rfl,rfl⟩
   ·rw[n5]at h;exact Rp x t j u _ _ _ _ h
   ·rw[BZ]at h;exact wpAny_eqBool_str h
 «strs»:=λk x t v h=>by
  rcases uu h with⟨i,u,rfl,e⟩|⟨y,u,rfl,e⟩
  ·exact nomatch e
  ·injection e with e1 _;subst e1;cases v<;>rfl
theorem aU(prog:ua)(w:Ea)(k:Key)(v:Value):(Nn prog w).is k v=bz k v:=rfl
theorem z7(prog:ua)(w:Ea)(i:Int)(t:Tok):(Nn prog w).is (.inl i) (.int i t)=true:=Z4 i t
theorem ZU(prog:ua)(w:Ea)(x:qa)(t:Tok):(Nn prog w).is (.inr x) (.str x t)=true:=eZ x t
inductive V where
 |Yb|bl (b:Bool)|int (i:Int)|str (x:qa)|ZC (b:Array UInt8)|Ky (b:UInt64)|ref (a:Addr)|ty (n:String)
 deriving DecidableEq
noncomputable def vd:V->Value->Prop
 | .Yb,u=>u=eb
 | .bl b,u=>u=wf b
 | .int i,u=>∃ t,u=Bd i t
 | .str x,u=>∃ t,u=rm x t
 | .ZC b,u=>∃ t,u=CA b t
 | .Ky b,u=>∃ t,u=Qr b t
 | .ref a,u=>u=nb a
 | .ty n,u=>u=Xf n
noncomputable abbrev Pd:List V->List Value->Prop:=Paired vd
theorem Pd.length{xs:List V}{us:List Value}(r:Pd xs us):xs.length=us.length:=Paired.length r
theorem Pd.get:∀ {xs:List V} {us:List Value} {i:Nat} {x:V},Pd xs us->xs[i]?=some x->∃ u,us[i]?=some u/\vd x u
 |_,_,_,_,.nil,e=>by simp at e
 |_,_,0,_,.cons r _,e=>by simp at e;subst e;exact⟨_,rfl,r⟩
 |_,_,i+1,x,.cons _ t,e=>by
  obtain⟨u,a,b⟩:=Pd.get (i:=i) (x:=x) t (by simpa using e);exact⟨u,by simpa using a,b⟩
theorem Pd.set{x:V}{u:Value}(r:vd x u):∀ {xs:List V} {us:List Value} (i:Nat),Pd xs us->Pd (xs.set i x) (us.set i u)
 |_,_,_,.nil=>.nil
 |_,_,0,.cons _ t=>.cons r t
 |_,_,i+1,.cons q t=>.cons q (Pd.set r i t)
theorem Pd.append:∀ {xs ys:List V} {us ws:List Value},Pd xs us->Pd ys ws->Pd (xs++ys) (us++ws)
 |_,_,_,_,.nil,s=>s
 |_,_,_,_,.cons r t,s=>.cons r (Pd.append t s)
theorem Pd.take:∀ {xs:List V} {us:List Value} (n:Nat),Pd xs us->Pd (xs.take n) (us.take n)
 |_,_,0,_=>.nil
 |_,_,_+1,.nil=>.nil
 |_,_,n+1,.cons r t=>.cons r (Pd.take n t)
theorem Pd.drop:∀ {xs:List V} {us:List Value} (n:Nat),Pd xs us->Pd (xs.drop n) (us.drop n)
 |_,_,0,r=>r
 |_,_,_+1,.nil=>.nil
 |_,_,n+1,.cons _ t=>Pd.drop n t
theorem Pd.none_of:∀ {xs:List V} {us:List Value} {i:Nat},Pd xs us->xs[i]?=none->us[i]?=none:=fun {xs us i} r e=>by
 have a:=r.length;have b:xs.length<=i:=Wa.mp e;exact Wa.mpr (by omega)
noncomputable def Np:Option V->Option Value->Prop
 |some v,some u=>vd v u
 |none,none=>True
 |_,_=>False
noncomputable def KV{a:Type}:List (a × V)->List (a × Value)->Prop:=Paired λ(p:a × V) (q:a × Value)=>p.1=q.1/\vd p.2 q.2
noncomputable def kV:Key->V
 | .inl i=>.int i
 | .inr x=>.str x
inductive HO where
 |lst (xs:List V)
 |tup (xs:List V)
 |dK (kvs:List (Key × V))|dT (kvs:List (List Key × V))
 |set (S:Int->Bool) (n:Nat)
 |ins (C dx:Addr) (fs:List (qa × V))
 |own (x:Addr)
 |xd (fs:List (qa × V))
 |met (f x:Addr)
 |bE (lo hi:Int)
 |qb (o:Obj) (u:HO)
 |mm (ps:Array Value)
 |ext (φ:Heap->Prop)
noncomputable abbrev Hp:=Addr->Option HO
noncomputable def upd(H:Hp)(a:Addr)(o:HO):Hp:=λb=>if b=a then some o else H b
theorem Jg{H:Hp}{a:Addr}{o:HO}:upd H a o a=some o:=by unfold upd;rw[ia rfl]
theorem Ad{H:Hp}{a b:Addr}{o:HO}(h:b≠a):upd H a o b=H b:=by unfold upd;rw[ja h]
theorem GG{H:Hp}{a b:Addr}{o u:HO}(h:H a=some o)(h':H b=some u)(d:o≠u):a≠b:=by
 intro e;subst e;rw[h]at h';exact d (ub h')
theorem Ko{H:Hp}{a b:Addr}{o:HO}(h:H a=some o)(h':H b=none):a≠b:=by
 intro e;subst e;rw[h]at h';cases h'
section
variable(P:ua)(w:Ea)
noncomputable def lj(H:Hp)(h:Heap)(a:Addr):HO->Prop
 | .lst xs=>xs.length<=sizeLine/\∃ (b:List Value) (n:Nat),Pd xs b/\h.get? a=some { cls:=.type "list",data:=.seq b.toArray n }
 | .tup xs=>xs.length<=sizeLine/\∃ b:List Value,Pd xs b/\eu h a b.toArray
 | .dK c=>c.length<=sizeLine/\(a == yg)=false/\∃ k,KV c k/\h.DictOf (Nn P w) a k
 | .dT c=>c.length<=sizeLine/\(a == yg)=false/\∃ xs:List (List Key × Addr × Value),
   Paired (λ(p:List Key × V) (q:List Key × Addr × Value)=>p.1=q.1/\H q.2.1=some (.tup (p.1.map kV))/\vd p.2 q.2.2) c xs/\
   ∃ o g l,h.get? a=some o/\o.ExactDict/\o.data=.dict g l/\g.toList=xs.map (entryOfKey (Ep (Nn P w)))/\(xs.map (·.1)).Nodup
 | .set S n=>h.SetOf (mf P w) a S n
 | .ins C e fs=>H e=some (.own a)/\fs.length<=1000/\e≠a/\h.get? a=some (W.instObj C e)/\
   ∃ d,h.Ns1 e d/\(∀ f,Np (fs.lookup f) (d f))/\PySem.Within d (fs.map (·.1))
 | .own _=>∃ o,h.get? a=some o
 | .xd fs=>∃ d,h.Ns1 a d/\∀ f,Np (fs.lookup f) (d f)
 | .bE lo m=>∃ t u v,h.get? a=some { cls:=.type "range",data:=.fields #[.int lo t,.int m u,.int 1 v] }
 | .qb o u=>h.get? a=some o/\lj H h a u
 | .mm r=>h.get? a=some { cls:=.none,data:=.fields r }
 | .met f x=>h.get? a=some (W.methodObj (.ref f) (.ref x))
 | .ext φ=>φ h/\(∃ o,h.get? a=some o)/\∀ i j:Heap,φ i->(∀ o,i.get? a=some o->j.get? a=some o)->φ j
noncomputable def yi(H:Hp)(h:Heap):Prop:=∀ a o,H a=some o->lj P w H h a o
end
section
variable{P:ua}{w:Ea}{H H':Hp}{h h':Heap}{a:Addr}{o:HO}
theorem lj.lt(x:lj P w H h a o):a<h.objs.size:=by
 cases o with
 |lst xs=>obtain⟨_,_,_,_,e⟩:=x;exact la e
 |tup xs=>obtain⟨_,_,_,p⟩:=x;exact p.lt
 |dK b=>obtain⟨_,_,_,_,o,_,_,e,_⟩:=x;exact la e
 |dT b=>obtain⟨_,_,_,_,o,_,_,e,_⟩:=x;exact la e
 |set S n=>obtain⟨o,_,_,_,e,_⟩:=x;exact la e
 |ins C c fs=>obtain⟨_,_,_,e,_⟩:=x;exact la e
 |own y=>obtain⟨_,e⟩:=x;exact la e
 |xd fs=>obtain⟨_,⟨_,_,_,e,_⟩,_⟩:=x;exact la e
 |bE lo d=>obtain⟨_,_,_,e⟩:=x;exact la e
 |qb g u=>obtain⟨e,_⟩:=x;exact la e
 |mm i=>exact la (show h.get? a=some _ from x)
 |met f y=>exact la (show h.get? a=some _ from x)
 |ext j=>obtain⟨_,⟨_,e⟩,_⟩:=x;exact la e
theorem Paired.jr{e g:Type}{F G:e->g->Prop}:∀ {c:List e} {d:List g},Paired F c d->(∀ a b,F a b->G a b)->Paired G c d
 |_,_,.nil,_=>.nil
 |_,_,.cons r t,f=>.cons (f _ _ r) (Paired.jr t f)
theorem lj.xk(x:lj P w H h a o)(k:∀ b u,(b=a\/H b=some (.own a))->h.get? b=some u->h'.get? b=some u)
  (F:∀ b,H b=some (.own a)->H' b=some (.own a)) (G:∀ b xs,H b=some (.tup xs)->H' b=some (.tup xs)):lj P w H' h' a o:=by
 induction o with
 |lst xs=>obtain⟨z,l,n,r,e⟩:=x;exact⟨z,l,n,r,k _ _ (.inl rfl) e⟩
 |tup xs=>obtain⟨z,l,r,g,e,c⟩:=x;exact⟨z,l,r,g,k _ _ (.inl rfl) e,c⟩
 |dK m=>obtain⟨z,y,J,r,g,j,i,e,c⟩:=x;exact⟨z,y,J,r,g,j,i,k _ _ (.inl rfl) e,c⟩
 |dT m=>
  obtain⟨z,y,xs,r,g,j,i,e,c⟩:=x;exact⟨z,y,xs,Paired.jr r λp q z=>⟨z.1,G _ _ z.2.1,z.2.2⟩,g,j,i,k _ _ (.inl rfl) e,c⟩
 |set S n=>obtain⟨g,j,i,t,e,c⟩:=x;exact⟨g,j,i,t,k _ _ (.inl rfl) e,c⟩
 |ins C K fs=>
  obtain⟨d,z,ne,e,s,⟨A,j,i,E,c⟩,r⟩:=x;exact⟨F _ d,z,ne,k _ _ (.inl rfl) e,s,⟨A,j,i,k _ _ (.inr d) E,c⟩,r⟩
 |own y=>obtain⟨g,e⟩:=x;exact⟨g,k _ _ (.inl rfl) e⟩
 |xd fs=>obtain⟨s,⟨A,j,i,e,c⟩,r⟩:=x;exact⟨s,⟨A,j,i,k _ _ (.inl rfl) e,c⟩,r⟩
 |bE lo L=>obtain⟨t,u,v,e⟩:=x;exact⟨t,u,v,k _ _ (.inl rfl) e⟩
 |qb g u I=>obtain⟨e,q⟩:=x;exact⟨k _ _ (.inl rfl) e,I q⟩
 |mm B=>
  have e:h.get? a=some { cls:=.none,data:=.fields B }:=x;show h'.get? a=some { cls:=.none,data:=.fields B };exact k a _ (.inl rfl) e
 |met f y=>
  have e:h.get? a=some (W.methodObj (.ref f) (.ref y)):=x;show h'.get? a=some (W.methodObj (.ref f) (.ref y));exact k a _ (.inl rfl) e
 |ext M=>obtain⟨p,⟨o,e⟩,D⟩:=x;exact⟨D _ _ p λo q=>k _ _ (.inl rfl) q,⟨o,k _ _ (.inl rfl) e⟩,D⟩
theorem yi.lt(x:yi P w H h)(e:H a=some o):a<h.objs.size:=(x a o e).lt
theorem yi.fresh(x:yi P w H h)(e:h.objs.size<=a):H a=none:=by
 cases q:H a with
 |none=>rfl
 |some u=>exact absurd (Aa (x.lt q) e) (De _)
theorem yi.kept(x:yi P w H h)(k:∀ b u,h.get? b=some u->h'.get? b=some u):yi P w H h':=λa o e=>
 (x a o e).xk (λb u _ q=>k b u q) (λ_ q=>q) λ_ _ q=>q
theorem yi.laid(x:yi P w H h)(k:∀ b u,h.get? b=some u->h'.get? b=some u)(f:h.objs.size<=a)(d:lj P w (upd H a o) h' a o):yi P w (upd H a o) h':=λb u e=>by
 have hn:=x.fresh f;by_cases hb:b=a
 ·subst hb;rw[Jg]at e;cases e;exact d
 ·rw[Ad hb]at e;exact(x b u e).xk (λc v _ q=>k c v q) (λc q=>by rw[Ad (Ko q hn)];exact q) λc xs q=>by rw[Ad (Ko q hn)];exact q
end
noncomputable def Rd(H:Hp)(a:Addr)(u:HO):Prop:=H a=some u\/∃ o,H a=some (.qb o u)
theorem Rd.of{H:Hp}{a:Addr}{u:HO}(h:H a=some u):Rd H a u:=.inl h
theorem Rd.ok{P:ua}{w:Ea}{H:Hp}{h:Heap}{a:Addr}{u:HO}(r:Rd H a u)(x:yi P w H h):lj P w H h a u:=by
 rcases r with r|⟨o,r⟩
 ·exact x a u r
 ·obtain⟨_,q⟩:=x a _ r;exact q
noncomputable def bC:Option HO->Prop
 |some (.lst _)=>True
 |some (.dK _)=>True
 |some (.dT _)=>True
 |some (.set _ _)=>True
 |some (.ins _ _ _)=>True
 |some (.ext _)=>True
 |_=>False
section
variable{P:ua}{w:Ea}{H:Hp}{h h':Heap}{x e:Addr}{o':HO}
theorem yi.write(ok:yi P w H h)(i:bC (H x))(m:e=x\/H e=some (.own x))(k:∀ b u,b≠e->h.get? b=some u->h'.get? b=some u)(j:∃ u,h'.get? e=some u)
  (l:lj P w (upd H x o') h' x o'):yi P w (upd H x o') h':=λb u q=>by
 have d:∀ c y,H c=some (.own y)->c≠x:=λc y r z=>by subst z;rw[r]at i;exact i
 have f:∀ c xs,H c=some (.tup xs)->c≠x:=λc xs r z=>by subst z;rw[r]at i;exact i
 by_cases hb:b=x
 ·subst hb;rw[Jg]at q;cases q;exact l
 ·rw[Ad hb]at q;by_cases a:b=e
  ·have n:H b=some (.own x):=by
    rcases m with z|z
    ·exact absurd (a.trans z) hb
    ·rw[a];exact z
   rw[q]at n;cases n;obtain⟨v,o⟩:=j;exact⟨v,by rw[a];exact o⟩
  ·refine(ok b u q).xk (λc v g r=>k c v ?_ r) (λc r=>by rw[Ad (d c b r)];exact r) λc xs r=>by rw[Ad (f c xs r)];exact r
   rcases g with rfl|g
   ·exact a
   ·rintro rfl;rcases m with z|z
    ·exact d c b g z
    ·rw[g]at z;cases z;exact hb rfl
end
structure Un(fs ex:List Addr)(H H':Hp)(h h':Heap):Prop where
 keep:∀ b o,h.get? b=some o->H b=none->b ∉ fs->b ∉ ex->h'.get? b=some o
 slot:∀ b o,h.get? b=some o->H b=none->b∈fs->b ∉ ex->∃ sl,h'.get? b=some { o with slots:=sl }
 free:∀ b o,h.get? b=some o->H b=none->b ∉ ex->H' b=none
 there:∀ b o,h.get? b=some o->b ∉ ex->∃ o',h'.get? b=some o'
 pi:∀ b xs,H b=some (.tup xs)->H' b=some (.tup xs)
 nh:∀ b o u,H b=some (.qb o u)->H' b=some (.qb o u)
 Uh:∀ b ps,H b=some (.mm ps)->∃ more,H' b=some (.mm (ps++more))
section
variable{fs fs' ex ex':List Addr}{H H1 H2:Hp}{h h1 h2 h':Heap}{a x e:Addr}{o:HO}
theorem Un.any(u:Un fs ex H H1 h h1){b:Addr}{ob:Obj}(q:h.get? b=some ob)(n:H b=none)(a:b ∉ ex):∃ c,h1.get? b=some { ob with slots:=c }:=by
 by_cases hb:b∈fs
 ·exact u.slot b ob q n hb a
 ·exact⟨ob.slots,u.keep b ob q n hb a⟩
theorem Un.trans(a:Un fs ex H H1 h h1)(b:Un fs ex H1 H2 h1 h2):Un fs ex H H2 h h2 where
 keep:=λc e q n g d=>b.keep c e (a.keep c e q n g d) (a.free c e q n d) g d
 slot:=λc e q n g d=>by
  obtain⟨p,f⟩:=a.slot c e q n g d;obtain⟨k,i⟩:=b.slot c _ f (a.free c e q n d) g d;exact⟨k,i⟩
 free:=λc e q n d=>by
  obtain⟨j,f⟩:=a.there c e q d;exact b.free c j f (a.free c e q n d) d
 there:=λc e q d=>by
  obtain⟨j,f⟩:=a.there c e q d;exact b.there c j f d
 pi:=λc xs q=>b.pi c xs (a.pi c xs q)
 nh:=λc e xs q=>b.nh c e xs (a.nh c e xs q)
 Uh:=λc o q=>by
  obtain⟨l,f⟩:=a.Uh c o q;obtain⟨m,i⟩:=b.Uh c _ f;exact⟨l++m,by rw[i,Ak]⟩
theorem Un.kept(k:∀ b u,h.get? b=some u->h'.get? b=some u):Un fs ex H H h h':=
 ⟨λb a q _ _ _=>k b a q,λb a q _ _ _=>⟨a.slots,k b a q⟩,λ_ _ _ n _=>n,λb a q _=>⟨a,k b a q⟩,λ_ _ q=>q,λ_ _ _ q=>q,λ_ c q=>⟨#[],by rw[q];simp⟩⟩
theorem Un.refl:Un fs ex H H h h:=Un.kept λ_ _ q=>q
theorem Un.laid(k:∀ b u,h.get? b=some u->h'.get? b=some u)(c:h.objs.size<=a)(hn:H a=none):Un fs ex H (upd H a o) h h' where
 keep:=λb u q _ _ _=>k b u q
 slot:=λb u q _ _ _=>⟨u.slots,k b u q⟩
 free:=λb u q n _=>by rw[Ad (ra (Aa (la q) c))];exact n
 there:=λb u q _=>⟨u,k b u q⟩
 pi:=λb xs q=>by rw[Ad (Ko q hn)];exact q
 nh:=λb u xs q=>by rw[Ad (Ko q hn)];exact q
 Uh:=λb d q=>⟨#[],by rw[Ad (Ko q hn),q];simp⟩
theorem Un.write(c:bC (H x))(g:e=x\/H e=some (.own x))(k:∀ b u,b≠e->h.get? b=some u->h'.get? b=some u)(d:∃ u,h'.get? e=some u):Un fs ex H (upd H x o) h h':=by
 have f:∀ b,H b=none->b≠x:=λb n z=>by subst z;rw[n]at c;exact c
 have hb:∀ b,H b=none->b≠e:=λb n z=>by
  subst z;rcases g with r|r
  ·exact f b n r
  ·rw[n]at r;cases r
 have hm:∀ b u,H b=some u->¬ bC (some u)->b≠x:=λb u q nm z=>by subst z;rw[q]at c;exact nm c
 refine⟨λb u q n _ _=>k b u (hb b n) q,λb u q n _ _=>⟨u.slots,k b u (hb b n) q⟩,λb u q n _=>by rw[Ad (f b n)];exact n,λb u q _=>?_,
  λb xs q=>by rw[Ad (hm b _ q λz=>z)];exact q,λb u xs q=>by rw[Ad (hm b _ q λz=>z)];exact q,λb i q=>⟨#[],by rw[Ad (hm b _ q λz=>z),q];simp⟩⟩
 by_cases a:b=e
 ·subst a;exact d
 ·exact⟨u,k b u a q⟩
theorem Un.mono(u:Un fs ex H H1 h h1)(e:∀ b∈fs,b∈fs')(d:∀ b∈ex,b∈ex'):Un fs' ex' H H1 h h1:=
 ⟨λb c q n hb a=>u.keep b c q n (λz=>hb (e b z)) λz=>a (d b z),λ_ _ q n _ a=>u.any q n λz=>a (d _ z),λb c q n a=>u.free b c q n λz=>a (d b z),λb c q a=>u.there b c q λz=>a (d b z),u.pi,u.nh,u.Uh⟩
end
noncomputable def ZD(h:Heap)(H:Hp):List Addr:=(List.range h.objs.size).filter λa=>(H a).isSome
noncomputable def Xr(h:Heap)(H:Hp):Heap:=W.hideAll h (ZD h H)
theorem oP(h:Heap)(H:Hp):(Xr h H).objs.size=h.objs.size:=W.hideAll_size _ _
theorem CP{h:Heap}{H:Hp}{b:Addr}{o:Obj}(e:h.get? b=some o)(n:H b=none):(Xr h H).get? b=some o:=
 uF _ e λhm=>by
  have q:(H b).isSome=true:=(Dn.mp hm).2;rw[n]at q;simp at q
theorem aL{h:Heap}{H:Hp}{b:Addr}{o:Obj}(e:(Xr h H).get? b=some o):h.get? b=some o/\H b=none:=by
 have a:h.get? b=some o:=vt (ZD h H) e;refine⟨a,?_⟩;cases q:H b with
 |none=>rfl
 |some x=>
  have hm:b∈ZD h H:=Dn.mpr ⟨Aj.mpr (la a),by simp[q]⟩;have z:(Xr h H).get? b=none:=W.hideAll_none (ZD h H) hm;rw[z]at e;cases e
noncomputable def qV(g h:Heap)(L:Addr):List (Addr × Obj):=(List.range h.objs.size).filterMap λa=>if a=L\/(g.get? a).isSome=true then none else (h.get? a).map λo=>(a,o)
noncomputable def Eg(g h:Heap)(L d:Addr):List (Addr × Obj):=(qV g h L).filter λp=>decide (p.1≠d)
structure Mod(K:W.Frag)(mg:qa->Option Value)(base:Heap):Prop where
 Dx:K.In base
 glob:base.Ns mainGlobals mg
 blt:∃ mb,base.Ns builtinsNs mb/\∀ x:qa,x ≠ "__name__"->mb x=bootBuiltins x
 nolimit:base.NoLimit
structure Cx where
 prog:ua
 w:Ea
 K:W.Frag
 mg:qa->Option Value
 base:Heap
 A:Da
 N:List qa
 s₀:Shared
 H₀:Hp
 env:Og
 outer:List Og
 stack:List Og
 ex:List Addr
 fn:qa->Bool
 calm:Bool
 pn:List (Addr × Obj)
 xe:Value->Shared->Prop
noncomputable def qj(l:List Og):List Addr:=l.filterMap (·.frame)
noncomputable abbrev Cx.fs(X:Cx):List Addr:=qj X.outer
noncomputable def wH(sc:Scope)(x:qa):Prop:=sc.names.lookup x=some .local\/sc.names.lookup x=some .cell\/sc.names.lookup x=some .free
noncomputable def Loc(sc:Scope)(x:qa):Prop:=sc.names.lookup x=some .local\/sc.names.lookup x=some .cell
noncomputable def XY(env:Og)(h:Heap)(m:qa->Option Value)(x:qa)(u:Value):Prop:=
 (env.kindOf x=some .local/\m x=some u)\/((env.kindOf x=some .cell\/env.kindOf x=some .free)/\∃ c,env.cells.lookup x=some c/\h.IsCell c (some u))
structure Cx.Ok(X:Cx):Prop where
 mod:Mod X.K X.mg X.base
 kind:X.env.scope.kind=.function
 glob:X.env.globals=mainGlobals
 blt:X.env.builtins=builtinsNs
 above:X.s₀.heap.objs.size<=X.env.locals
 inj:∀ x y c,X.env.cells.lookup x=some c->X.env.cells.lookup y=some c->x=y
 has:∀ x,(X.env.kindOf x=some .cell\/X.env.kindOf x=some .free)->∃ c,X.env.cells.lookup x=some c
 qx:∀ x c,X.fn x=true->X.env.cells.lookup x=some c->X.s₀.heap.objs.size<=c
 hd:X.calm=true->X.A.handled=none
 frames:X.A.frames=some X.stack
 Uo:X.stack=X.outer\/(X.stack=X.env::X.outer/\X.env.frame=some X.env.locals)
 ly:∀ b∈X.ex,b≠X.env.locals/\∀ x c,X.env.cells.lookup x=some c->c≠b
 bs:∀ b o,X.base.get? b=some o->X.s₀.heap.get? b=some o/\X.H₀ b=none
 ir:X.base.objs.size<=X.s₀.heap.objs.size
 iq:∀ b o,X.base.get? b=some o->b ∉ X.ex
 oq:∀ b∈X.ex,b ∉ X.fs
 nj:X.s₀.heap.FunFrames X.base X.outer
 Xu:∀ b∈X.fs,X.H₀ b=none
structure Inv(X:Cx)(pins:List (Addr × Obj))(σ:List (Option V))(H:Hp)(s:Shared):Prop where
 ok:X.Ok
 os:s.os=X.s₀.os
 bare:Pg s.gens
 base:Un X.fs X.ex X.H₀ H X.s₀.heap s.heap
 loc:∃ m,s.heap.Ns X.env.locals m/\∀ (i:Nat) (x:qa) (v:V),X.N[i]?=some x->σ[i]?=some (some v)->wH X.env.scope x->∃ u,vd v u/\XY X.env s.heap m x u
 cell:∀ x c,X.env.cells.lookup x=some c->∃ v,s.heap.IsCell c v
 free:H X.env.locals=none
 eg:∀ x c,X.env.cells.lookup x=some c->H c=none
 pin:∀ p∈X.pn++pins,s.heap.get? p.1=some p.2/\H p.1=none/\p.1≠X.env.locals/\p.1 ∉ X.fs/\∀ v,p.2.data≠.cell v
 Pb:yi X.prog X.w H s.heap
 len:σ.length=X.N.length
section
variable{X:Cx}{pins:List (Addr × Obj)}{σ:List (Option V)}{H H':Hp}{s:Shared}{h':Heap}
theorem Cx.Ok.eH(ok:X.Ok){b:Addr}{o:Obj}(e:X.base.get? b=some o):b ∉ X.fs:=λhb=>by
 have:=(ok.nj.mem hb).1;rw[e]at this;cases this
theorem Inv.bs(I:Inv X pins σ H s):∀ b o,X.base.get? b=some o->s.heap.get? b=some o/\H b=none:=λb o e=>
 ⟨I.base.keep b o (I.ok.bs b o e).1 (I.ok.bs b o e).2 (I.ok.eH e) (I.ok.iq b o e),I.base.free b o (I.ok.bs b o e).1 (I.ok.bs b o e).2 (I.ok.iq b o e)⟩
theorem Inv.bk(I:Inv X pins σ H s):∀ b o,X.base.get? b=some o->s.heap.get? b=some o:=λb o e=>(I.bs b o e).1
theorem Inv.mod(I:Inv X pins σ H s):Mod X.K X.mg X.base:=I.ok.mod
theorem Inv.Uj(I:Inv X pins σ H s):X.K.In s.heap:=I.ok.mod.Dx.keeps I.bk
theorem Inv.nolimit(I:Inv X pins σ H s):s.heap.NoLimit:=I.ok.mod.nolimit.keeps I.bk
theorem Inv.fr(I:Inv X pins σ H s):∃ m,Fr X.base X.env.locals s.heap m:=
 let ⟨m,hn,_⟩:=I.loc
 ⟨m,hn,I.bk,Ya I.ok.ir I.ok.above⟩
theorem Inv.lt(I:Inv X pins σ H s):X.env.locals<s.heap.objs.size:=let ⟨_,hn,_⟩:=I.loc;hn.lt
theorem Inv.sz(I:Inv X pins σ H s):X.s₀.heap.objs.size<=s.heap.objs.size:=Ya I.ok.above (Td I.lt)
theorem Inv.WB(I:Inv X pins σ H s){a:Addr}(h:s.heap.objs.size<=a):a ∉ X.fs:=λhb=>by
 obtain⟨_,o,b,_⟩:=I.ok.nj.mem hb;exact absurd (Aa (la b) (Ya I.sz h)) (De _)
theorem Inv.kw(I:Inv X pins σ H s):∀ x c,X.env.cells.lookup x=some c->c≠X.env.locals:=λx c e z=>by
 obtain⟨v,o,d,hd⟩:=I.cell x c e;obtain⟨m,⟨h,g,f,b,a,_⟩,_⟩:=I.loc;rw[z,b]at d;cases d;rw[a]at hd;cases hd
theorem Inv.nj(I:Inv X pins σ H s):s.heap.FunFrames X.base X.outer:=by
 have all:∀ (l:List Og),(∀ b∈qj l,b∈X.fs)->X.s₀.heap.FunFrames X.base l->s.heap.FunFrames X.base l:=by
  intro l;induction l with
  |nil=>intro _ _;trivial
  |cons env r j=>
   intro d g;obtain⟨f,⟨L,o,c,hn,h,hd⟩,i⟩:=g;have a:L∈X.fs:=d L (by unfold qj;rw[Gf,c];exact Qa);obtain⟨k,e⟩:=I.base.slot L o h (I.ok.Xu L a) a λz=>I.ok.oq L z a;exact⟨f,⟨L,_,c,hn,e,hd⟩,j (λb hb=>d b (by unfold qj;rw[Gf,c];exact Ha _ hb)) i⟩
 exact all X.outer (λ_ hb=>hb) I.ok.nj
theorem Inv.stack(I:Inv X pins σ H s):s.heap.FunFrames X.base X.stack:=by
 rcases I.ok.Uo with e|⟨e,a⟩
 ·rw[e];exact I.nj
 ·rw[e];obtain⟨m,hn,_⟩:=I.loc;refine .cons (by rw[I.ok.kind];decide) a hn ?_ I.nj;exact Heap.get?_none_of_le (Ya I.ok.ir I.ok.above)
theorem Inv.dr(I:Inv X pins σ H s):∀ b∈qj X.stack,b∈X.env.locals::X.fs:=λb hb=>by
 rcases I.ok.Uo with e|⟨e,a⟩
 ·rw[e]at hb;exact Ha _ hb
 ·rw[e]at hb;unfold qj at hb;rw[Gf,a]at hb;exact hb
theorem Inv.ik(I:Inv X pins σ H s):∀ b∈qj X.stack,H b=none:=λb hb=>by
 rcases Fa.mp (I.dr b hb)with e|hb
 ·rw[e];exact I.free
 ·obtain⟨_,o,a,_⟩:=I.ok.nj.mem hb;exact I.base.free b o a (I.ok.Xu b hb) λz=>I.ok.oq b z hb
theorem Inv.step{g':Array jo}{t':Nat}{d':Vw}{ch:List Addr}(I:Inv X pins σ H s)
  (g:∀ b∈ch,(b∈X.ex\/X.s₀.heap.objs.size<=b)/\b≠X.env.locals/\(∀ x c,X.env.cells.lookup x=some c->c≠b)/\∀ p∈X.pn++pins,p.1≠b)
  (keep:∀ b o,b≠X.env.locals->b ∉ X.fs->b ∉ ch->s.heap.get? b=some o->H b=none->h'.get? b=some o)
  (slot:∀ b o,b≠X.env.locals->b∈X.fs->b ∉ ch->s.heap.get? b=some o->H b=none->∃ D,h'.get? b=some { o with slots:=D }) (free:∀ b o,b ∉ ch->s.heap.get? b=some o->H b=none->H' b=none)
  (there:∀ b o,b ∉ ch->s.heap.get? b=some o->∃ C,h'.get? b=some C)
  (pi:∀ b xs,H b=some (.tup xs)->H' b=some (.tup xs)) (nh:∀ b o u,H b=some (.qb o u)->H' b=some (.qb o u)) (Uh:∀ b ps,H b=some (.mm ps)->∃ more,H' b=some (.mm (ps++more)))
  (ns:∀ m,s.heap.Ns X.env.locals m->h'.Ns X.env.locals m) (Pb:yi X.prog X.w H' h') (L:Pg g') :
  Inv X pins σ H' { s with heap:=h',gens:=g',drawn:=d',toks:=t' }:=by
 have B:∀ b o,X.s₀.heap.get? b=some o->b≠X.env.locals:=λb o e=>ra (Aa (la e) I.ok.above);have t:∀ b o,X.s₀.heap.get? b=some o->b ∉ X.ex->b ∉ ch:=λb o e a hb=>by
  rcases(g b hb).1 with z|z
  ·exact a z
  ·exact absurd (Aa (la e) z) (De _)
 have f:∀ x c,X.env.cells.lookup x=some c->∀ v,s.heap.IsCell c v->h'.IsCell c v:=λx c e v ⟨o,y,hd⟩=>by
  have h:c ∉ ch:=λz=>(g c z).2.2.1 x c e rfl;by_cases F:c∈X.fs
  ·obtain⟨D,q⟩:=slot c o (I.kw x c e) F h y (I.eg x c e);exact⟨_,q,hd⟩
  ·exact⟨o,keep c o (I.kw x c e) F h y (I.eg x c e),hd⟩
 refine⟨I.ok,I.os,L,⟨λb o e n hb a=>?_,λb o e n hb a=>?_,λb o e n a=>?_,λb o e a=>?_,λb xs e=>pi b xs (I.base.pi b xs e),λb o xs e=>nh b o xs (I.base.nh b o xs e),λb ps e=>?_⟩,?_,λx c e=>?_,?_,λx c e=>?_,λp G=>?_,Pb,I.len⟩
 ·exact keep b o (B b o e) hb (t b o e a) (I.base.keep b o e n hb a) (I.base.free b o e n a)
 ·obtain⟨D,j⟩:=I.base.slot b o e n hb a;obtain⟨E,A⟩:=slot b _ (B b o e) hb (t b o e a) j (I.base.free b o e n a);exact⟨E,A⟩
 ·obtain⟨C,j⟩:=I.base.there b o e a;exact free b C (t b o e a) j (I.base.free b o e n a)
 ·obtain⟨C,j⟩:=I.base.there b o e a;exact there b C (t b o e a) j
 ·obtain⟨N,j⟩:=I.base.Uh b ps e;obtain⟨O,A⟩:=Uh b _ j;exact⟨N++O,by rw[A,Ak]⟩
 ·obtain⟨m,hn,M⟩:=I.loc;refine⟨m,ns m hn,λi x v j A K=>?_⟩;obtain⟨u,r,l⟩:=M i x v j A K;refine⟨u,r,?_⟩;rcases l with l|⟨k,c,e,z⟩
  ·exact .inl l
  ·exact .inr ⟨k,c,e,f x c e _ z⟩
 ·obtain⟨v,z⟩:=I.cell x c e;exact⟨v,f x c e v z⟩
 ·obtain⟨m,⟨o,_,_,y,_⟩,_⟩:=I.loc;exact free _ o (λz=>(g _ z).2.1 rfl) y I.free
 ·obtain⟨v,o,y,hd⟩:=I.cell x c e;exact free c o (λz=>(g c z).2.2.1 x c e rfl) y (I.eg x c e)
 ·obtain⟨e,n,ne,J,d⟩:=I.pin p G;have h:p.1 ∉ ch:=λz=>(g p.1 z).2.2.2 p G rfl;exact⟨keep p.1 p.2 ne J h e n,free p.1 p.2 h e n,ne,J,d⟩
theorem Inv.un{t':Nat}(I:Inv X pins σ H s)(u:Un X.fs [] H H' s.heap h')(Pb:yi X.prog X.w H' h'):Inv X pins σ H' { s with heap:=h',toks:=t' }:=by
 obtain⟨m,⟨o,j,i,f,r⟩,_⟩:=id I.loc;obtain⟨p,g⟩:=u.any f I.free (by simp);exact I.step (g':=s.gens) (d':=s.drawn) (ch:=[]) (λ_ z=>nomatch z) (λb o _ hb _ e n=>u.keep b o e n hb (by simp)) (λb o _ hb _ e n=>u.slot b o e n hb (by simp)) (λb o _ e n=>u.free b o e n (by simp)) (λb o _ e=>u.there b o e (by simp)) u.pi u.nh u.Uh (λk hm=>by
  obtain⟨l,d,c,a,h⟩:=hm;rw[f]at a;cases a;exact⟨_,d,c,g,h⟩) Pb I.bare
theorem Inv.call{g':Array jo}{t':Nat}{d':Vw}{ch:List Addr}(I:Inv X pins σ H s)(u:Un (qj X.stack) ch H H' s.heap h')(Pb:yi X.prog X.w H' h')(k:Pg g')
  (d:∀ b∈ch,(b∈X.ex\/X.s₀.heap.objs.size<=b)/\b≠X.env.locals/\(∀ x c,X.env.cells.lookup x=some c->c≠b)/\∀ p∈X.pn++pins,p.1≠b) :
  Inv X pins σ H' { s with heap:=h',gens:=g',drawn:=d',toks:=t' }:=by
 obtain⟨m,⟨o,t,q,j,r⟩,_⟩:=id I.loc;obtain⟨A,i⟩:=u.any j I.free λz=>(d _ z).2.1 rfl;exact I.step (ch:=ch) d (λb o i hb a e n=>u.keep b o e n (λz=>(Fa.mp (I.dr b z)).elim i hb) a) (λb o _ _ a e n=>u.any e n a) (λb o a e n=>u.free b o e n a) (λb o a e=>u.there b o e a) u.pi u.nh u.Uh (λv hm=>by
  obtain⟨y,h,g,f,l⟩:=hm;rw[j]at f;cases f;exact⟨_,h,g,i,l⟩) Pb k
theorem Inv.turned{t':Nat}{it:Addr}(I:Inv X pins σ H s)(k:∀ b o,b≠it->s.heap.get? b=some o->h'.get? b=some o)(hn:H it=none)(f:it≠X.env.locals)
  (i:it∈X.ex\/X.s₀.heap.objs.size<=it) (j:∀ x c,X.env.cells.lookup x=some c->c≠it) (l:∀ p∈X.pn++pins,p.1≠it):Inv X pins σ H { s with heap:=h',toks:=t' }:=by
 have d:∀ b u,H b=some u->b≠it:=λb u e z=>by rw[z,hn]at e;cases e
 refine I.step (g':=s.gens) (d':=s.drawn) (ch:=[it]) (λb hb=>?_) (λb o _ _ a e _=>k b o (λz=>a (by simp[z])) e) (λb o _ _ a e _=>⟨o.slots,k b o (λz=>a (by simp[z])) e⟩) (λ_ _ _ _ n=>n)
  (λb o a e=>⟨o,k b o (λz=>a (by simp[z])) e⟩) (λ_ _ e=>e) (λ_ _ _ e=>e) (λb w e=>⟨#[],by rw[e];simp⟩) (λm hm=>?_) (λb u e=>?_) I.bare
 ·have e:b=it:=by simpa using hb
  subst e;exact⟨i,f,j,l⟩
 ·obtain⟨o,h,g,t,r⟩:=hm;exact⟨o,h,g,k _ o (Me f) t,r⟩
 ·refine(I.Pb b u e).xk (λc v a q=>k c v ?_ q) (λ_ q=>q) λ_ _ q=>q;rcases a with z|z
  ·rw[z];exact d b u e
  ·exact d c _ z
theorem Inv.tok(I:Inv X pins σ H s)(t:Nat):Inv X pins σ H { s with toks:=t }:=I.un (h':=s.heap) (t':=t) Un.refl I.Pb
theorem Inv.kept{t':Nat}(I:Inv X pins σ H s)(k:∀ b u,s.heap.get? b=some u->h'.get? b=some u):Inv X pins σ H { s with heap:=h',toks:=t' }:=I.un (Un.kept k) (I.Pb.kept k)
theorem Inv.laid{a:Addr}{o:HO}{t':Nat}(I:Inv X pins σ H s)(k:∀ b u,s.heap.get? b=some u->h'.get? b=some u)(c:s.heap.objs.size<=a)(d:lj X.prog X.w (upd H a o) h' a o) :
  Inv X pins σ (upd H a o) { s with heap:=h',toks:=t' }:=I.un (Un.laid k c (I.Pb.fresh c)) (I.Pb.laid k c d)
theorem Inv.write{x e:Addr}{o:HO}{t':Nat}(I:Inv X pins σ H s)(f:bC (H x))(d:e=x\/H e=some (.own x))(k:∀ b u,b≠e->s.heap.get? b=some u->h'.get? b=some u)(a:∃ u,h'.get? e=some u)
  (c:lj X.prog X.w (upd H x o) h' x o):Inv X pins σ (upd H x o) { s with heap:=h',toks:=t' }:=I.un (Un.write f d k a) (I.Pb.write f d k a c)
theorem Inv.ej{a:List (Addr × Obj)}(I:Inv X pins σ H s)(h:∀ p∈a,s.heap.get? p.1=some p.2/\H p.1=none/\p.1≠X.env.locals/\p.1 ∉ X.fs/\∀ v,p.2.data≠.cell v):Inv X a σ H s:=
 ⟨I.ok,I.os,I.bare,I.base,I.loc,I.cell,I.free,I.eg,λp b=>(Uf.mp b).elim (λz=>I.pin p (Ka _ z)) (h p),I.Pb,I.len⟩
theorem BJ{N:List qa}(hN:N.Nodup){i j:Nat}{x:qa}(a:N[i]?=some x)(b:N[j]?=some x):i=j:=by
 obtain⟨e,c⟩:=ka.mp a;obtain⟨f,d⟩:=ka.mp b;exact(List.getElem_inj hN).mp (c.trans d.symm)
theorem PK{M:Yj}{A:Da}{E:Value->Shared->Prop}{i:Nat}{x:qa}{v:V}{u:Value}{Q:Unit->Shared->Prop}(I:Inv X pins σ H s)(hN:X.N.Nodup)(R:X.N[i]?=some x)(B:Loc X.env.scope x)(r:vd v u)
  (h:∀ s',Inv X pins (σ.set i (some v)) H s'->(∃ a,Rc a s.heap s'.heap/\(a=X.env.locals\/X.env.cells.lookup x=some a))->Q () s') (hf:X.fn x=true\/X.env.scope.names.lookup x=some .local:=by first|exact .inl rfl|exact .inr rfl|assumption):wpAny M A (storeName X.env x u) Q E s:=by
 obtain⟨m,hn,hl⟩:=id I.loc;have P:(X.env.scope.kind == .class || (X.env.scope.kind == .module && X.env.locals != X.env.globals))=false:=by rw[I.ok.kind];rfl
 have F:i<σ.length:=by rw[I.len];exact(ka.mp R).1
 have kw:=I.kw;have l:∀ {a:Addr} {h':Heap},(∃ o,s.heap.get? a=some o/\H a=none)->Rc a s.heap h'->yi X.prog X.w H h':=fun {a h'} ha f b ob e=>by
  obtain⟨_,_,C⟩:=ha;refine(I.Pb b ob e).xk (λc W t q=>(f.2 c ?_).trans q) (λ_ q=>q) λ_ _ q=>q;rintro rfl;rcases t with rfl|t
  ·rw[C]at e;cases e
  ·rw[C]at t;cases t
 rcases B with G|G
 ·refine wpAny_storeName_local G hn (λh' Z f=>?_) P;obtain⟨oL,_,_,a0,_⟩:=id hn;refine h _ ⟨I.ok,I.os,I.bare,⟨λb o e n hb B=>?_,λb o e n hb B=>?_,I.base.free,λb o e B=>?_,I.base.pi,I.base.nh,I.base.Uh⟩,⟨_,Z,λj y v' g D Y=>?_⟩,λy c e=>?_,I.free,I.eg,λp hp=>?_,l ⟨oL,a0,I.free⟩ f,by simpa using I.len⟩ ⟨_,f,.inl rfl⟩
  ·exact(f.2 b (ra (Aa (la e) I.ok.above))).trans (I.base.keep b o e n hb B)
  ·obtain⟨sl,g⟩:=I.base.slot b o e n hb B;exact⟨sl,(f.2 b (ra (Aa (la e) I.ok.above))).trans g⟩
  ·obtain⟨o',g⟩:=I.base.there b o e B;exact⟨o',(f.2 b (ra (Aa (la e) I.ok.above))).trans g⟩
  ·by_cases K:j=i
   ·subst K;rw[R]at g;cases g;rw[Qq F]at D;cases D;exact⟨u,r,.inl ⟨G,by simp⟩⟩
   ·rw[Ds (Me K)]at D;obtain⟨u',r',q⟩:=hl j y v' g D Y;refine⟨u',r',?_⟩;rcases q with⟨k,e⟩|⟨k,c,e,z⟩
    ·refine .inl ⟨k,?_⟩;have:y≠x:=λe=>K (BJ hN g (e ▸ R));simp[this,e]
    ·exact .inr ⟨k,c,e,z.sameBut f (kw y c e)⟩
  ·obtain⟨W,z⟩:=I.cell y c e;exact⟨W,z.sameBut f (kw y c e)⟩
  ·obtain⟨e,n,ne,nf,d⟩:=I.pin p hp;exact⟨(f.2 p.1 ne).trans e,n,ne,nf,d⟩
 ·have J:X.fn x=true:=by
   rcases hf with z|z
   ·exact z
   ·rw[z]at G;cases G
  obtain⟨c,t⟩:=I.ok.has x (.inl G);obtain⟨W,z⟩:=I.cell x c t;refine wpAny_storeName_cell I.ok.kind G t z (λh' L f=>?_);obtain⟨oc,S,T⟩:=id z;refine h { s with heap:=h' } ⟨I.ok,I.os,I.bare,⟨λb o e n hb B=>?_,λb o e n hb B=>?_,I.base.free,λb o e B=>?_,I.base.pi,I.base.nh,I.base.Uh⟩,⟨m,hn.sameBut f (Me (kw x c t)),λj y v' g D Y=>?_⟩,λy U e=>?_,I.free,I.eg,λp hp=>?_,l ⟨oc,S,I.eg x c t⟩ f,by simpa using I.len⟩ ⟨c,f,.inr t⟩
  ·exact(f.2 b (ra (Aa (la e) (I.ok.qx x c J t)))).trans (I.base.keep b o e n hb B)
  ·obtain⟨sl,g⟩:=I.base.slot b o e n hb B;exact⟨sl,(f.2 b (ra (Aa (la e) (I.ok.qx x c J t)))).trans g⟩
  ·obtain⟨o',g⟩:=I.base.there b o e B;exact⟨o',(f.2 b (ra (Aa (la e) (I.ok.qx x c J t)))).trans g⟩
  ·by_cases K:j=i
   ·subst K;rw[R]at g;cases g;rw[Qq F]at D;cases D;exact⟨u,r,.inr ⟨.inl G,c,t,L⟩⟩
   ·rw[Ds (Me K)]at D;obtain⟨u',r',q⟩:=hl j y v' g D Y;refine⟨u',r',?_⟩;rcases q with q|⟨k,U,e,z'⟩
    ·exact .inl q
    ·refine .inr ⟨k,U,e,z'.sameBut f ?_⟩;rintro rfl;exact K (BJ hN g (I.ok.inj _ _ _ e t ▸ R))
  ·by_cases O:U=c
   ·subst O;exact⟨_,L⟩
   ·obtain⟨w2,z2⟩:=I.cell y U e;exact⟨w2,z2.sameBut f O⟩
  ·obtain⟨e,n,ne,nf,d⟩:=I.pin p hp;refine⟨(f.2 p.1 ?_).trans e,n,ne,nf,d⟩;intro q;rw[q,S]at e;have q':oc=p.2:=ub e;exact d W (by rw[<-q'];exact T)
theorem nH{M:Yj}{A:Da}{E:Value->Shared->Prop}{i:Nat}{x:qa}{v:V}{u:Value}{Q:Unit->Shared->Prop}(I:Inv X pins σ H s)(hN:X.N.Nodup)(c:X.N[i]?=some x)(d:Loc X.env.scope x)(r:vd v u)
  (h:∀ s',Inv X pins (σ.set i (some v)) H s'->Q () s') (b:X.fn x=true\/X.env.scope.names.lookup x=some .local:=by first|exact .inl rfl|exact .inr rfl|assumption):wpAny M A (storeName X.env x u) Q E s:=
 PK I hN c d r (λs' a _=>h s' a) b
theorem Inv.Du{s':Shared}{ch:List Addr}(I:Inv X pins σ H s)(f:s'.os=s.os)(u:Un (qj X.stack) ch H H' s.heap s'.heap)(Pb:yi X.prog X.w H' s'.heap)(d:Pg s'.gens)
  (a:∀ b∈ch,(b∈X.ex\/X.s₀.heap.objs.size<=b)/\b≠X.env.locals/\(∀ x c,X.env.cells.lookup x=some c->c≠b)/\∀ p∈X.pn++pins,p.1≠b):Inv X pins σ H' s':=by
 obtain⟨h',g',d',t',g⟩:=s';have e:g=s.os:=f;subst e;exact I.call (g':=g') (t':=t') (d':=d') u Pb d a
end
noncomputable abbrev XK:=Value->Option Addr->Hp->Prop
noncomputable abbrev St:=List (Option V)
noncomputable abbrev VK:=V->Hp->Prop
noncomputable abbrev TE:=St->Hp->VK->Prop
noncomputable abbrev TT:=St->Hp->(Bool->Hp->Prop)->Prop
noncomputable abbrev TA:=St->Hp->(List V->Hp->Prop)->Prop
structure Ends where
 nx:St->Hp->Prop
 rt:VK
 bk:St->Hp->Prop:=λ_ _=>False
 ct:St->Hp->Prop:=λ_ _=>False
noncomputable abbrev TS:=Ends->St->Hp->Prop
noncomputable def EP(X:Cx)(a:List (Addr × Obj))(σ:St)(Q:VK)(u:Value)(s':Shared):Prop:=∃ v b,Inv X a σ b s'/\vd v u/\Q v b
noncomputable def TP(X:Cx)(a:List (Addr × Obj))(σ:St)(Q:Bool->Hp->Prop)(b:Bool)(s':Shared):Prop:=∃ c,Inv X a σ c s'/\Q b c
noncomputable def AP(X:Cx)(a:List (Addr × Obj))(σ:St)(Q:List V->Hp->Prop)(us:List Value)(s':Shared):Prop:=∃ c b,Inv X a σ b s'/\Pd c us/\Q c b
noncomputable def SP(X:Cx)(b:List (Addr × Obj))(D:Ends)(f:Flow)(s':Shared):Prop:=
 match f with
 | .next=>∃ a c,Inv X b a c s'/\D.nx a c
 | .brk=>∃ a c,Inv X b a c s'/\D.bk a c
 | .cont=>∃ a c,Inv X b a c s'/\D.ct a c
 | .ret u=>∃ v a c,Inv X b a c s'/\vd v u/\D.rt v c
noncomputable def PE(X:Cx)(e:Ga)(t:TE):Prop:=
 ∀ (a:List (Addr × Obj)) (s:Shared) (σ:St) (H:Hp) (Q:VK),Inv X a σ H s->t σ H Q->wpAny (model X.prog X.w) X.A (Nb e X.env) (EP X a σ Q) X.xe s
noncomputable def PT(X:Cx)(e:Ga)(t:TT):Prop:=
 ∀ (a:List (Addr × Obj)) (s:Shared) (σ:St) (H:Hp) (Q:Bool->Hp->Prop),Inv X a σ H s->t σ H Q->wpAny (model X.prog X.w) X.A (oz e X.env (Nb e X.env)) (TP X a σ Q) X.xe s
noncomputable def PW(X:Cx)(e:Ga)(t:TT):Prop:=
 ∀ (a:Xp Value) (pins:List (Addr × Obj)) (s:Shared) (σ:St) (H:Hp) (Q:Bool->Hp->Prop),Inv X pins σ H s->t σ H Q->wpAny (model X.prog X.w) X.A (oz e X.env a) (TP X pins σ Q) X.xe s
theorem PW.pt{X:Cx}{e:Ga}{t:TT}(h:PW X e t):PT X e t:=h _
noncomputable def PA(X:Cx)(b:List Ga)(t:TA):Prop:=
 ∀ (a:Se) (pins:List (Addr × Obj)) (s:Shared) (σ:St) (H:Hp) (Q:List V->Hp->Prop),Inv X pins σ H s->t σ H Q->wpAny (model X.prog X.w) X.A (spliced (kc a (ma b X.env))) (AP X pins σ Q) X.xe s
noncomputable def PS(X:Cx)(b:Stmt)(t:TS):Prop:=
 ∀ (a:List (Addr × Obj)) (s:Shared) (σ:St) (H:Hp) (D:Ends),Inv X a σ H s->t D σ H->wpAny (model X.prog X.w) X.A (exec b X.env) (SP X a D) X.xe s
noncomputable def ts(X:Cx)(b:List Stmt)(t:TS):Prop:=
 ∀ (a:List (Addr × Obj)) (s:Shared) (σ:St) (H:Hp) (D:Ends),Inv X a σ H s->t D σ H->wpAny (model X.prog X.w) X.A (execs b X.env) (SP X a D) X.xe s
theorem ae{c:Type}{t:Xp c}{Q b:c->Shared->Prop}{M:Yj}{A:Da}{E:Value->Shared->Prop}{s:Shared}(h:wpAny M A t Q E s)(d:∀ a s,Q a s->b a s):wpAny M A t b E s:=Eb h d λ_ _ x=>x
section
variable{X:Cx}
theorem bin{a b:Ga}{k tb:TE}(o:PE X a k)(hb:PE X b tb){c:List (Addr × Obj)}{s:Shared}{σ:St}{H:Hp}{R:V->V->Hp->Prop}(I:Inv X c σ H s)(h:k σ H λx j=>tb σ j λy d=>R x y d)
  {l:Type} {Q:l->Shared->Prop} {f:Value->Value->Xp l}
  (p:∀ v u i x y d,Inv X c σ d i->vd x v->vd y u->R x y d->wpAny (model X.prog X.w) X.A (f v u) Q X.xe i) :
  wpAny (model X.prog X.w) X.A (Nb a X.env) (λv e=>wpAny (model X.prog X.w) X.A (Nb b X.env) (λu g=>wpAny (model X.prog X.w) X.A (f v u) Q X.xe g) X.xe e) X.xe s:=by
 refine ae (o c s σ H _ I h) λv s1 ⟨x,j,m,t,q⟩=>?_;refine ae (hb c s1 σ j _ m q) λu i ⟨y,d,n,z,r⟩=>?_;exact p v u i x y d n t z r
noncomputable def A4(i:Nat):TE:=λa H Q=>∃ v,a[i]?=some (some v)/\Q v H
noncomputable def tC(v:V):TE:=λ_ H Q=>Q v H
theorem v7{i:Nat}{x:qa}{j:Se}(hN:X.N[i]?=some x)(o:wH X.env.scope x)(hd:(x == ("__debug__" : qa))=false:=by decide)(g:(x == ("__classdict__" : qa))=false:=by decide):PE X (.Name x j) (A4 i):=by
 intro f s p H Q I h;obtain⟨v,e,h⟩:=h;obtain⟨m,hn,n⟩:=I.loc;obtain⟨u,r,l⟩:=n i x v hN e o;have b:EP X f p Q u s:=⟨v,H,I,r,h⟩
 rcases l with⟨d,hm⟩|⟨d,c,k,a⟩
 ·exact ez (wpAny_loadName_local I.ok.kind d hn hm b) hd
 ·rcases d with d|d
  ·exact ez (wpAny_loadName_cell I.ok.kind d k a b) hd
  ·exact ez (wpAny_loadName_free I.ok.kind d k a b g) hd
theorem BX{i j pos}:PE X (.Constant (.int i) j pos) (tC (.int i)):=λ_ _ _ H _ I h=>wpAny_Constant_int ⟨.int i,H,I.tok _,⟨_,rfl⟩,h⟩
theorem GV{b j pos}:PE X (.Constant (.bool b) j pos) (tC (.bl b)):=λ_ _ _ H _ I h=>Constant_bool ⟨.bl b,H,I,rfl,h⟩
theorem L5{j pos}:PE X (.Constant .none j pos) (tC .Yb):=λ_ _ _ H _ I h=>Constant_none ⟨.Yb,H,I,rfl,h⟩
theorem DT{x j pos}:PE X (.Constant (.str x) j pos) (tC (.str x)):=λ_ _ _ H _ I h=>Calls.Constant_str ⟨.str x,H,I.tok _,⟨_,rfl⟩,h⟩
noncomputable def Gl(X:Cx)(x:qa):Prop:=X.env.kindOf x=some .globalImplicit
theorem Kz{E:Value->Shared->Prop}{a:List (Addr × Obj)}{s:Shared}{σ:St}{H:Hp}{x:qa}{u:Value}{b:Se}{Q:Value->Shared->Prop}(I:Inv X a σ H s)(c:Gl X x)(hm:X.mg x=some u)(h:Q u s)
  (hd:(x == ("__debug__" : qa))=false:=by decide):wpAny (model X.prog X.w) X.A (Nb (.Name x b) X.env) Q E s:=
 eo I.ok.kind c (Calls.loadGlobal_global (by rw[I.ok.glob];exact I.mod.glob.keeps I.bk) hm h) hd
theorem bx{E:Value->Shared->Prop}{a:List (Addr × Obj)}{s:Shared}{σ:St}{H:Hp}{x:qa}{u:Value}{b:Se}{Q:Value->Shared->Prop}(I:Inv X a σ H s)(e:Gl X x)(hm:X.mg x=none)(f:bootBuiltins x=some u)(h:Q u s)
  (hn:x ≠ "__name__":=by decide) (hd:(x == ("__debug__" : qa))=false:=by decide):wpAny (model X.prog X.w) X.A (Nb (.Name x b) X.env) Q E s:=by
 obtain⟨mb,c,d⟩:=I.mod.blt;exact eo I.ok.kind e (Calls.loadGlobal_builtin (by rw[I.ok.glob];exact I.mod.glob.keeps I.bk) hm (by rw[I.ok.blt];exact c.keeps I.bk) ((d x hn).trans f) h) hd
theorem sJ{x:qa}{v:V}{u:Value}{a:Se}(b:Gl X x)(hm:X.mg x=some u)(r:vd v u)(hd:(x == ("__debug__" : qa))=false:=by decide):PE X (.Name x a) (tC v):=
 λ_ _ _ H _ I h=>Kz I b hm ⟨v,H,I,r,h⟩ hd
theorem DR{x:qa}{v:V}{u:Value}{a:Se}(b:Gl X x)(hm:X.mg x=none)(c:bootBuiltins x=some u)(r:vd v u)(hn:x ≠ "__name__":=by decide)(hd:(x == ("__debug__" : qa))=false:=by decide):PE X (.Name x a) (tC v):=
 λ_ _ _ H _ I h=>bx I b hm c ⟨v,H,I,r,h⟩ hn hd
variable{a b:Ga}{ta tb:TE}{pos:Se}
noncomputable def PC(X:Cx)(f:Yp)(a b:Ga)(t:TE):Prop:=
 ∀ (c:List (Addr × Obj)) (s:Shared) (σ:St) (H:Hp) (Q:VK),Inv X c σ H s->t σ H Q->
  wpAny (model X.prog X.w) X.A (Nb a X.env) (λv d=>wpAny (model X.prog X.w) X.A (Nb b X.env) (λu e=>wpAny (model X.prog X.w) X.A (Qc f v u) (EP X c σ Q) X.xe e) X.xe d) X.xe s
theorem F7(b:Ga){a:Yp}(h:a≠.In)(e:a≠.NotIn):Pe a b=false:=by
 have c:(a == SJ)=false:=by cases a<;>first|rfl|exact absurd rfl h
 have d:(a == DA)=false:=by cases a<;>first|rfl|exact absurd rfl e
 cases b<;>simp[Pe,c,d]
noncomputable def tB(t:TE):TT:=λb H Q=>t b H λx a=>∃ c,x=.bl c/\Q c a
theorem yjq{g:Yp}{t:TE}(h:PC X g a b t)(f:Pe g b=false:=by first|exact F7 _ (by decide) (by decide)|rfl):PT X (.Compare a [g] [b] pos) (tB t):=by
 intro e s n H Q I k;refine Wv (ae (h e s n H _ I k) λv o f=>ae f λu p j=>ae j λc s3 ⟨x,H1,i,m,l⟩=>?_) f;obtain⟨d,rfl,q⟩:=l;cases m;exact Wc ⟨H1,i,q⟩
theorem A3{e:Ga}{t:TE}(h:PE X e t)(f:∀ a,oz e X.env a=(do let v <-a;Tq e.pos;Yf [v] (truthy v)):=by intro _;rfl):PT X e (tB t):=by
 intro b s k H Q I g;refine isTrue_plain (ae (h b s k H _ I g) λv s1 ⟨x,H1,c,j,i⟩=>?_) (f _);obtain⟨d,rfl,q⟩:=i;cases j;exact Wc ⟨H1,c,q⟩
variable{tA tB':TT}{Eg:List Ga}
noncomputable def xV(t u:TT):TT:=λb H Q=>t b H λc a=>if c=true then u b a Q else Q false a
noncomputable def sW(t u:TT):TT:=λb H Q=>t b H λc a=>if c=true then Q true a else u b a Q
noncomputable def fT(t:TT):TT:=λb H Q=>t b H λc a=>Q (!c) a
theorem KW(d:PT X a tA):PW X (.BoolOp .And [a] pos) tA:=by
 intro i b s f H Q I h;refine isTrue_and (ae (d b s f H Q I h) λc g e=>?_);cases c with
 |true=>exact isTrue_and_nil e
 |false=>exact e
theorem UW(d:PT X a tA):PW X (.BoolOp .Or [a] pos) tA:=by
 intro i b s f H Q I h;refine isTrue_or (ae (d b s f H Q I h) λc g e=>?_);cases c with
 |false=>exact isTrue_or_nil e
 |true=>exact e
theorem V6(i:PT X a tA)(hb:PW X (.BoolOp .And (b::Eg) pos) tB'):PW X (.BoolOp .And (a::b::Eg) pos) (xV tA tB'):=by
 intro j d s g H Q I h;refine isTrue_and (ae (i d s g H _ I h) λc s1 ⟨H1,e,f⟩=>?_);cases c with
 |true=>exact hb j d s1 g H1 Q e f
 |false=>exact⟨H1,e,f⟩
theorem iU(i:PT X a tA)(hb:PW X (.BoolOp .Or (b::Eg) pos) tB'):PW X (.BoolOp .Or (a::b::Eg) pos) (sW tA tB'):=by
 intro j d s g H Q I h;refine isTrue_or (ae (i d s g H _ I h) λc s1 ⟨H1,e,f⟩=>?_);cases c with
 |true=>exact⟨H1,e,f⟩
 |false=>exact hb j d s1 g H1 Q e f
theorem NU(e:PT X a tA):PT X (.UnaryOp .Not a pos) (fT tA):=by
 intro b s f H Q I h;exact isTrue_not (e b s f H (λc d=>Q (!c) d) I h)
noncomputable def RZ(ta tb:TE):TE:=λb H Q=>ta b H λx a=>∃ c,x=.bl c/\if c=true then tb b a Q else Q (.bl false) a
noncomputable def Q4(ta tb:TE):TE:=λb H Q=>ta b H λx a=>∃ c,x=.bl c/\if c=true then Q (.bl true) a else tb b a Q
noncomputable def uU(ta:TE):TE:=λb H Q=>ta b H λx a=>∃ c,x=.bl c/\Q (.bl (!c)) a
theorem R0{op}{t:TE}(h:PE X a t):PE X (.BoolOp op [a] pos) t:=λb s d H Q I c=>BoolOp_one (h b s d H Q I c)
theorem y8(i:PE X a ta)(hb:PE X (.BoolOp .And (b::Eg) pos) tb):PE X (.BoolOp .And (a::b::Eg) pos) (RZ ta tb):=by
 intro d s g H Q I h;refine BoolOp_and (ae (i d s g H _ I h) λv s1 ⟨x,H1,f,j,e⟩=>?_);obtain⟨c,rfl,e⟩:=e;cases j;refine Wc ?_;cases c with
 |true=>exact hb d s1 g H1 Q f e
 |false=>exact⟨.bl false,H1,f,rfl,e⟩
theorem AZ(i:PE X a ta)(hb:PE X (.BoolOp .Or (b::Eg) pos) tb):PE X (.BoolOp .Or (a::b::Eg) pos) (Q4 ta tb):=by
 intro d s g H Q I h;refine BoolOp_or (ae (i d s g H _ I h) λv s1 ⟨x,H1,f,j,e⟩=>?_);obtain⟨c,rfl,e⟩:=e;cases j;refine Wc ?_;cases c with
 |false=>exact hb d s1 g H1 Q f e
 |true=>exact⟨.bl true,H1,f,rfl,e⟩
theorem YV(f:PE X a ta):PE X (.UnaryOp .Not a pos) (uU ta):=by
 intro b s i H Q I h;refine UnaryOp_ (ae (f b s i H _ I h) λv s1 ⟨x,H1,e,g,d⟩=>?_);obtain⟨c,rfl,d⟩:=d;cases g;exact not_of (Wc ⟨.bl (!c),H1,e,rfl,d⟩)
noncomputable def bV(t:TT)(ta tb:TE):TE:=λa H Q=>t a H λc b=>if c=true then ta a b Q else tb a b Q
theorem Y0{c:Ga}(k:PT X c tA)(j:PE X a ta)(hb:PE X b tb):PE X (.IfExp c a b pos) (bV tA ta tb):=by
 intro e s f H Q I h;refine wpAny_IfExp (ae (k e s f H _ I h) λd s1 ⟨H1,g,i⟩=>?_);cases d with
 |true=>exact j e s1 f H1 Q g i
 |false=>exact hb e s1 f H1 Q g i
end
noncomputable def cf(K:W.Frag)(H:Hp)(a:Addr)(xs:List V):Prop:=
 Rd H a (.lst xs)\/
  ∃ (o:Obj) (b:Array Value) (n:Nat),K.lookup a=some o/\o.cls=.type "list"/\o.dict=none/\o.data=.seq b n/\b.size<=sizeLine/\Pd xs b.toList
noncomputable def Th(K:W.Frag)(H:Hp)(a:Addr)(xs:List V):Prop:=
 Rd H a (.tup xs)\/
  ∃ (o:Obj) (b:Array Value) (n:Nat),K.lookup a=some o/\o.cls=.type "tuple"/\o.data=.seq b n/\b.size<=sizeLine/\Pd xs b.toList
noncomputable def n8:Value->Option V
 | .none=>some .Yb
 | .bool b=>some (.bl b)
 | .int i _=>some (.int i)
 | .str x _=>some (.str x)
 | .bytes b _=>some (.ZC b)
 | .float b _=>some (.Ky b)
 | .ref a=>some (.ref a)
 | .type n=>some (.ty n)
 |_=>none
theorem vd.abs{x:V}{u:Value}(r:vd x u):n8 u=some x:=by
 cases x with
 |Yb=>cases r;rfl
 |bl _=>cases r;rfl
 |int _=>obtain⟨t,rfl⟩:=r;rfl
 |str _=>obtain⟨t,rfl⟩:=r;rfl
 |ZC _=>obtain⟨t,rfl⟩:=r;rfl
 |Ky _=>obtain⟨t,rfl⟩:=r;rfl
 |ref _=>cases r;rfl
 |ty _=>cases r;rfl
theorem vd.inj{x y:V}{u:Value}(r:vd x u)(q:vd y u):x=y:=ub (r.abs.symm.trans q.abs)
theorem Pd.inj:∀ {xs ys:List V} {us:List Value},Pd xs us->Pd ys us->xs=ys
 |_,_,_,.nil,.nil=>rfl
 |_,_,_,.cons r t,.cons a b=>by rw[r.inj a,Pd.inj t b]
section
variable{X:Cx}{pins:List (Addr × Obj)}{σ:St}{H:Hp}{s:Shared}{a:Addr}{xs ys:List V}
theorem cf.of{K:W.Frag}(h:H a=some (.lst xs)):cf K H a xs:=.inl (.inl h)
theorem Th.of{K:W.Frag}(h:H a=some (.tup xs)):Th K H a xs:=.inl (.inl h)
theorem Inv.list(I:Inv X pins σ H s)(h:cf X.K H a xs):∃ its:List Value,Pd xs its/\PlainL s.heap a its.toArray/\xs.length<=sizeLine:=by
 rcases h with h|⟨o,its,n,c,b,hd,d,f,r⟩
 ·obtain⟨z,its,n,r,e⟩:=h.ok I.Pb;exact⟨its,r,⟨_,n,e,rfl,rfl,rfl⟩,z⟩
 ·refine⟨its.toList,r,⟨o,n,I.Uj a o c,b,hd,by simpa using d⟩,?_⟩;have e:=r.length;simp only[Bb]at e;omega
theorem Inv.tuple(I:Inv X pins σ H s)(h:Th X.K H a xs):∃ its:List Value,Pd xs its/\eu s.heap a its.toArray/\xs.length<=sizeLine:=by
 rcases h with h|⟨o,its,n,c,b,d,f,r⟩
 ·obtain⟨z,its,r,p⟩:=h.ok I.Pb;exact⟨its,r,p,z⟩
 ·refine⟨its.toList,r,⟨o,I.Uj a o c,b,n,by simpa using d⟩,?_⟩;have e:=r.length;simp only[Bb]at e;omega
theorem Inv.vk(I:Inv X pins σ H s)(h:cf X.K H a xs)(h':cf X.K H a ys):xs=ys:=by
 obtain⟨b,r,⟨o,n,e,_,_,d⟩,_⟩:=I.list h;obtain⟨its',g,⟨j,i,f,_,_,c⟩,_⟩:=I.list h';rw[e]at f;cases f;rw[d]at c;injection c with d1 _;have:b=its':=by simpa using we Array.toList d1
 subst this;exact r.inj g
theorem Inv.ot(I:Inv X pins σ H s)(h:Th X.K H a xs)(h':Th X.K H a ys):xs=ys:=by
 obtain⟨b,r,⟨o,e,_,n,d⟩,_⟩:=I.tuple h;obtain⟨its',g,⟨j,f,_,i,c⟩,_⟩:=I.tuple h';rw[e]at f;cases f;rw[d]at c;injection c with d1 _;have:b=its':=by simpa using we Array.toList d1
 subst this;exact r.inj g
end
noncomputable abbrev Cx.Ql(X:Cx)(E:Value->Shared->Prop):Cx:={ X with xe:=E }
noncomputable abbrev Cx.Wn(X:Cx):Cx:=X.Ql λ_ _=>False
theorem Cx.Ok.Ql{X:Cx}(ok:X.Ok)(E:Value->Shared->Prop):(X.Ql E).Ok:=
 ⟨ok.mod,ok.kind,ok.glob,ok.blt,ok.above,ok.inj,ok.has,ok.qx,ok.hd,ok.frames,ok.Uo,ok.ly,ok.bs,ok.ir,ok.iq,ok.oq,ok.nj,ok.Xu⟩
theorem Cx.Ok.Ih{X:Cx}{E:Value->Shared->Prop}(ok:(X.Ql E).Ok):X.Ok:=
 ⟨ok.mod,ok.kind,ok.glob,ok.blt,ok.above,ok.inj,ok.has,ok.qx,ok.hd,ok.frames,ok.Uo,ok.ly,ok.bs,ok.ir,ok.iq,ok.oq,ok.nj,ok.Xu⟩
section
variable{X:Cx}{pins:List (Addr × Obj)}{σ:St}{H:Hp}{s:Shared}{E:Value->Shared->Prop}
theorem Inv.Ql(I:Inv X pins σ H s)(E:Value->Shared->Prop):Inv (X.Ql E) pins σ H s:=⟨I.ok.Ql E,I.os,I.bare,I.base,I.loc,I.cell,I.free,I.eg,I.pin,I.Pb,I.len⟩
theorem Inv.Ih(I:Inv (X.Ql E) pins σ H s):Inv X pins σ H s:=⟨I.ok.Ih,I.os,I.bare,I.base,I.loc,I.cell,I.free,I.eg,I.pin,I.Pb,I.len⟩
theorem SP.Ih{D:Ends}{f:Flow}{s':Shared}(h:SP (X.Ql E) pins D f s'):SP X pins D f s':=by
 cases f with
 |next=>obtain⟨a,b,I,q⟩:=h;exact⟨a,b,I.Ih,q⟩
 |brk=>obtain⟨a,b,I,q⟩:=h;exact⟨a,b,I.Ih,q⟩
 |cont=>obtain⟨a,b,I,q⟩:=h;exact⟨a,b,I.Ih,q⟩
 |ret u=>obtain⟨v,a,b,I,r,q⟩:=h;exact⟨v,a,b,I.Ih,r,q⟩
theorem PE.Wn{e:Ga}{t:TE}(h:PE X.Wn e t):PE X e t:=λpins s σ H Q I c=>
 Eb (h pins s σ H Q (I.Ql _) c) (λ_ _ ⟨v,a,b,r,q⟩=>⟨v,a,b.Ih,r,q⟩) λ_ _ z=>False.elim z
theorem PT.Wn{e:Ga}{t:TT}(h:PT X.Wn e t):PT X e t:=λpins s σ H Q I c=>
 Eb (h pins s σ H Q (I.Ql _) c) (λ_ _ ⟨a,b,q⟩=>⟨a,b.Ih,q⟩) λ_ _ z=>False.elim z
theorem ts.Wn{a:List Stmt}{t:TS}(h:ts X.Wn a t):ts X a t:=λpins s σ H D I b=>
 Eb (h pins s σ H D (I.Ql _) b) (λ_ _ q=>q.Ih) λ_ _ z=>False.elim z
end
section
variable{X:Cx}{st:Stmt}{Eg:List Stmt}{t u:TS}{e:Ga}{te:TE}{pos:Se}
noncomputable def CV:TS:=λD a H=>D.nx a H
noncomputable def h9(t u:TS):TS:=λD a H=>t { D with nx:=u D } a H
theorem Y4:ts X [] CV:=λ_ _ a H _ I h=>Vj ⟨a,H,I,h⟩
theorem k8(e:PS X st t)(g:ts X Eg u):ts X (st::Eg) (h9 t u):=by
 intro a s j H D I h;refine jC (ae (e a s j H { D with nx:=u D } I h) λf i q=>?_);cases f with
 |next=>
  obtain⟨b,c,d,q⟩:=q;exact g a i b c D d q
 |ret v=>exact q
 |brk=>exact q
 |cont=>exact q
theorem S5(b:PS X st t):ts X [st] t:=by
 intro a s c H D I h;refine jC (ae (b a s c H D I h) λf d q=>?_);cases f with
 |next=>exact Vj q
 |ret v=>exact q
 |brk=>exact q
 |cont=>exact q
theorem Inv.quiet{a:List (Addr × Obj)}{σ:St}{H:Hp}{s:Shared}(I:Inv X a σ H s):interactive X.env=false:=by simp[interactive,I.ok.kind]
noncomputable def tX(te:TE):TS:=λD a H=>te a H λ_ b=>D.nx a b
theorem MU(d:PE X e te)(f:xj e none pos.line X.env=pure false:=by rfl):PS X (.Expr e pos) (tX te):=by
 intro a s b H D I h;exact wpAny_Expr_any (ae (d a s b H _ I h) λv s1 ⟨x,H1,c,i,g⟩=>⟨b,H1,c,g⟩) I.quiet f
noncomputable def WY(te:TE):TS:=λD a H=>te a H D.rt
theorem VU(d:PE X e te):PS X (.Return (some e) pos) (WY te):=by
 intro a s b H D I h;exact wpAny_Return_some (ae (d a s b H _ I h) λv s1 ⟨x,H1,c,g,f⟩=>⟨x,b,H1,c,g,f⟩)
noncomputable def CU(c:TT)(t u:TS):TS:=λD a H=>c a H λb d=>if b=true then t D a d else u D a d
theorem jV{c:Ga}{a b:List Stmt}{j:TT}(l:PT X c j)(k:ts X a t)(hb:ts X b u):PS X (.If c a b pos) (CU j t u):=by
 intro e s f H D I h;refine wpAny_If (ae (l e s f H _ I h) λd s1 ⟨H1,g,i⟩=>?_);cases d with
 |true=>exact k e s1 f H1 D g i
 |false=>exact hb e s1 f H1 D g i
end
noncomputable abbrev TG:=V->St->Hp->(St->Hp->Prop)->Prop
noncomputable abbrev Ex:=List V->St->Hp->(St->Hp->Prop)->Prop
noncomputable def PG(X:Cx)(a:Ga)(t:TG):Prop:=
 ∀ (b:List (Addr × Obj)) (s:Shared) (σ:St) (H:Hp) (v:V) (u:Value) (Q:St->Hp->Prop),Inv X b σ H s->vd v u->t v σ H Q->
  wpAny (model X.prog X.w) X.A (ml a X.env u) (λ_ e=>∃ c d,Inv X b c d e/\Q c d) X.xe s
noncomputable def XB(X:Cx)(f:List Ga)(t:Ex):Prop:=
 ∀ (a:List (Addr × Obj)) (s:Shared) (σ:St) (H:Hp) (d:List V) (us:List Value) (Q:St->Hp->Prop),Inv X a σ H s->Pd d us->t d σ H Q->
  wpAny (model X.prog X.w) X.A (assignInOrder ((pf f X.env).map (·.2)) us) (λ_ e=>∃ b c,Inv X a b c e/\Q b c) X.xe s
noncomputable abbrev LC:=V->V->V->Hp->(Hp->Prop)->Prop
noncomputable def dS(X:Cx)(t:LC):Prop:=
 ∀ (a:List (Addr × Obj)) (s:Shared) (σ:St) (H:Hp) (o i v:V) (d c u:Value) (Q:Hp->Prop),Inv X a σ H s->vd o d->vd i c->vd v u->t o i v H Q->
  wpAny (model X.prog X.w) X.A (EA d c u) (λ_ e=>∃ b,Inv X a σ b e/\Q b) X.xe s
section
variable{X:Cx}{pos:Se}
noncomputable def lR(i:Nat):TG:=λv a H Q=>Q (a.set i (some v)) H
theorem zU{i:Nat}{x:qa}(hN:X.N.Nodup)(d:X.N[i]?=some x)(e:Loc X.env.scope x)(c:X.fn x=true\/X.env.scope.names.lookup x=some .local:=by first|exact .inl rfl|exact .inr rfl|assumption):PG X (.Name x pos) (lR i):=by
 intro a s g H v u Q I r h;exact nA (nH I hN d e r (λf b=>⟨_,H,b,h⟩) c)
noncomputable def y6:Ex:=λa b H Q=>a=[]/\Q b H
noncomputable def aW(t:TG)(u:Ex):Ex:=λc d H Q=>∃ v r,c=v::r/\t v d H λa b=>u r a b Q
theorem O5:XB X [] y6:=by
 intro a s b H d c Q I r h;obtain⟨e,h⟩:=h;subst e;cases r;exact assignInOrder_nil ⟨b,H,I,h⟩
theorem fV{e:Ga}{b:List Ga}{t:TG}{u:Ex}(g:PG X e t)(i:XB X b u)
  (j:(pf (e::b) X.env).map (·.2)=ml e X.env::(pf b X.env).map (·.2):=by rfl):XB X (e::b) (aW t u):=by
 intro a s m H p n Q I r h;obtain⟨v,o,f,h⟩:=h;subst f;cases r with
 |cons r l=>
  rw[j];refine assignInOrder_cons (ae (g a s m H _ _ _ I r h) λ_ s1 ⟨c,H1,d,k⟩=>?_);exact i a s1 c H1 _ _ Q d l k
noncomputable def t0(K:W.Frag)(n:Nat)(t:Ex):TG:=λv b H Q=>∃ a xs,v=.ref a/\Th K H a xs/\xs.length=n/\t xs b H Q
theorem bZ{d:List Ga}{k:Nat}{t:Ex}{n:Nat}(q:X.calm=true)(h:XB X d t)
  (hn:(pf d X.env).length=n:=by rfl) (f:(pf d X.env).findIdx? (·.1)=none:=by rfl):PG X (.Tuple d k pos) (t0 X.K n t):=by
 intro c s j H v u Q I r g;obtain⟨a,xs,m,x,w,g⟩:=g;subst m;cases r;obtain⟨A,i,y,B⟩:=I.tuple x;refine assign_Tuple_tuple (I.ok.hd q) y (by simp[hn,<-w,i.length]) f λp z=>?_;have l:Inv X c j H { s with heap:=p }:=I.kept (t':=s.toks) λb o e=>z b o (ra (la e)) e;exact h c _ j H xs _ Q l (by simpa using i) g
noncomputable def j2(to e:TE)(t:LC):TG:=λv a H Q=>to a H λo b=>e a b λi c=>t o i v c λd=>Q a d
theorem kZ{o i:Ga}{to e:TE}{t:LC}(p:PE X o to)(n:PE X i e)(q:dS X t)
  (m:∀ v,ml (.Subscript o i pos) X.env v=(do
   let b <-Yf [v] (Nb o X.env);let c <-Yf [v,b] (Nb i X.env)
   Tq pos
   Yf [v,b,c] (EA b c v)
   release [v,b,c] []):=by intro _;rfl):PG X (.Subscript o i pos) (j2 to e t):=by
 intro a s d H v u Q I r h;rw[m];refine aa (Rb (ae (p a s d H _ I h) λb s1 ⟨x,H1,j,B,w⟩=>?_));refine aa (Rb (ae (n a s1 d H1 _ j w) λc s2 ⟨y,f,k,C,z⟩=>?_));refine aa (wt (aa (Rb (ae (q a s2 d f x y v b c u _ k B C r z) λ_ s3 ⟨g,l,A⟩=>?_))));exact wpAny_release ⟨d,g,l,A⟩
noncomputable def xR(c:TE)(g:TG):TS:=λD a H=>c a H λx b=>g x a b D.nx
theorem pX{tg e:Ga}{b:TE}{g:TG}(i:PE X e b)(j:PG X tg g)(k:MS [tg] e pos.line X.env=pure false:=by rfl)(l:NS [tg] e X.env=pure none:=by rfl)
  (f:(pf [tg] X.env).map (·.2)=[ml tg X.env]:=by rfl):PS X (.Assign [tg] e pos) (xR b g):=by
 intro a s c H D I h;refine wpAny_Assign_stores (ae (i a s c H _ I h) λv s1 ⟨x,H1,d,n,m⟩=>?_) k l;rw[f];exact ae (j a s1 c H1 x v _ d n m) λ_ o q=>q
theorem xU{i:Nat}{x:qa}{e:Ga}{c:TE}{a:Se}(hN:X.N.Nodup)(k:X.N[i]?=some x)(m:Loc X.env.scope x)(g:PE X e c)(l:xj e (some (.Name x a)) pos.line X.env=pure false:=by rfl)(j:X.fn x=true\/X.env.scope.names.lookup x=some .local:=by first|exact .inl rfl|exact .inr rfl|assumption) :
  PS X (.Assign [.Name x a] e pos) (xR c (lR i)):=by
 intro b s p H D I h;refine wpAny_Assign_Name (ae (g b s p H _ I h) λv s1 ⟨y,H1,d,o,n⟩=>?_) l;exact nH d hN k m o (λq f=>⟨_,H1,f,n⟩) j
end
section
variable{X:Cx}{pos:Se}
end
structure It where
 go:Nat->Hp->Prop
 eA:Nat->Hp->V->Hp->Prop
 stop:Nat->Hp->Prop
noncomputable def Yl(X:Cx)(a:List (Addr × Obj))(H:Hp)(b:Addr):Prop:=
 H b=none/\b≠X.env.locals/\b ∉ X.fs/\(b∈X.ex\/X.s₀.heap.objs.size<=b)/\(∀ x c,X.env.cells.lookup x=some c->c≠b)/\∀ p∈X.pn++a,p.1≠b
theorem Inv.Xo{X:Cx}{a:List (Addr × Obj)}{σ:St}{H d:Hp}{s:Shared}{b:Addr}(I:Inv X a σ H s)(hb:s.heap.objs.size<=b)(hn:d b=none):Yl X a d b:=by
 refine⟨hn,Ud (Aa I.lt hb),I.WB hb,.inr (Ya I.sz hb),λx c e z=>?_,λp f z=>?_⟩
 ·obtain⟨v,q⟩:=I.cell x c e;exact absurd (Aa q.lt (by rw[z];exact hb)) (De _)
 ·exact absurd (Aa (la (I.pin p f).1) (by rw[z];exact hb)) (De _)
structure Turn(P:ua)(w:Ea)(K:W.Frag)(tg:Ga)(J:It)(fp:List Addr)(it:Addr)(tn:Nat->Heap->Prop):Prop where
 mem:it∈fp
 obj:∀ i h,tn i h->∀ b∈fp,∃ o,h.get? b=some o/\∀ v,o.data≠.cell v
 keep:∀ i h h',tn i h->(∀ b∈fp,∀ o,h.get? b=some o->h'.get? b=some o)->tn i h'
 item:∀ (X:Cx),X.prog=P->X.w=w->X.K=K->X.calm=true->∀ (i:Nat) (pins:List (Addr × Obj)) (s:Shared) (σ:St) (H:Hp) (E:Value->Shared->Prop),Inv X pins σ H s->(∀ b∈fp,Yl X pins H b)->tn i s.heap->J.go i H->
  wpAny (model P w) X.A (pyNext (.ref it)) (λr s1=>∃ u,r=some u/\
   wpAny (model P w) X.A (letOwnedTupleGo tg (.ref it) u) (λ_ s2=>∃ x H',Inv X pins σ H' s2/\vd x u/\J.eA i H x H'/\tn (i+1) s2.heap/\∀ b∈fp,H' b=none) E s1) E s
 done:∀ (X:Cx),X.prog=P->X.w=w->X.K=K->X.calm=true->∀ (i:Nat) (pins:List (Addr × Obj)) (s:Shared) (σ:St) (H:Hp) (E:Value->Shared->Prop),Inv X pins σ H s->(∀ b∈fp,Yl X pins H b)->tn i s.heap->J.stop i H->
  wpAny (model P w) X.A (pyNext (.ref it)) (λr s1=>r=none/\Inv X pins σ H s1) E s
 self:∀ (A:Da) (i:Nat) (s:Shared) (Q:Value->Shared->Prop) (E:Value->Shared->Prop),tn i s.heap->Q (.ref it) s->wpAny (model P w) A (pyIter (.ref it)) Q E s
noncomputable abbrev TI:=St->Hp->(It->Hp->Prop)->Prop
noncomputable def EQ(X:Cx)(a:List (Addr × Obj))(σ:St)(tg:Ga)(R:It->Hp->Prop)(d:Value)(g:Shared):Prop:=
 ∃ (f:Addr) (e:List Addr) (h:Nat->Heap->Prop) (J:It) (c:Hp),d=.ref f/\Inv X a σ c g/\Turn X.prog X.w X.K tg J e f h/\h 0 g.heap/\(∀ b∈e,Yl X a c b)/\R J c
noncomputable def PI(X:Cx)(tg b:Ga)(d:TI):Prop:=
 ∀ (a:List (Addr × Obj)) (s:Shared) (σ:St) (H:Hp) (R:It->Hp->Prop),Inv X a σ H s->d σ H R->
  wpAny (model X.prog X.w) X.A (Nb b X.env) (λv c=>wpAny (model X.prog X.w) X.A (pyIter v) (EQ X a σ tg R) X.xe c) X.xe s
theorem eE {M : Yj} {A : Da} {E : Value -> Shared -> Prop} {s : Shared} {tg : Ga} {it : Addr} {u : Value} {o : Obj} {n : String} {vs : Array Value} {Q : Unit -> Shared -> Prop} (c : s.heap.get? it = some o) (b : o.cls = .type n) (hd : o.data = .fields vs)
    (hn : ["enumerate", "zip", "dict_itemiterator", "dict_reverseitemiterator", "odict_iterator", "itertools.zip_longest", "itertools.pairwise"].contains n = false) (a : Q () s) : wpAny M A (letOwnedTupleGo tg (.ref it) u) Q E s := by
  unfold letOwnedTupleGo;cases tg <;> first
    | exact da a
    | (cases u <;> first
        | exact da a
        | (refine aa (mn c ?_)
           rw [b, hd];show wpAny M A (if (["enumerate", "zip", "dict_itemiterator", "dict_reverseitemiterator", "odict_iterator", "itertools.zip_longest", "itertools.pairwise"].contains n && vs[0]? == some (rawInt _)) = true then _ else _) Q E s;rw [ja (by intro h; rw [hn, Bool.false_and] at h; cases h)];exact da a))
noncomputable def KI(K:W.Frag)(a:Addr):It:=
 ⟨λi H=>∃ xs x,cf K H a xs/\xs[i]?=some x,λi H x b=>b=H/\∀ xs,cf K H a xs->xs[i]?=some x,λi H=>∃ xs,cf K H a xs/\xs.length<=i⟩
noncomputable def NF(K:W.Frag)(a:Addr):It:=
 ⟨λi H=>∃ xs x,Th K H a xs/\xs[i]?=some x,λi H x b=>b=H/\∀ xs,Th K H a xs->xs[i]?=some x,λi H=>∃ xs,Th K H a xs/\xs.length<=i⟩
noncomputable def MH(b:Int)(n:Nat):It:=⟨λi _=>i<n,λi H x a=>a=H/\x=.int (b+i),λi _=>n<=i⟩
theorem K3{P:ua}{w:Ea}{K:W.Frag}{tg:Ga}(a it:Addr):Turn P w K tg (KI K a) [it] it (λi h=>h.IsListIter it a i) where
 mem:=by simp
 obj:=λi h f b hb=>by
  have e:b=it:=by simpa using hb
  subst e;obtain⟨o,e,c,d⟩:=f;exact⟨o,e,λv z=>by rw[d]at z;cases z⟩
 keep:=λi h l f k=>f.at λo e=>k it (by simp) o e
 item:=by
  intro X C F B M i g s N H E I m f D;subst C F B;obtain⟨xs,x,n,G⟩:=D;obtain⟨J,L,p,U⟩:=I.list n;obtain⟨u,S,V⟩:=L.get G;obtain⟨q,r,R,t,y,A⟩:=m it (by simp);refine wpAny_pyNext_list_item f p.isList (x:=u) (by simpa using S) λl j Y=>?_;have O:Inv X g N H { s with heap:=l }:=I.turned (t':=s.toks) (λb o hb e=>(Y.2 b hb).trans e) q r t y A;obtain⟨o,e,c,d⟩:=id j;exact⟨u,rfl,eE (s:={ s with heap:=l }) e c d (by decide) ⟨x,H,O,V,⟨rfl,λys T=>by rw[I.vk T n];exact G⟩,j,λb hb=>(m b hb).1⟩⟩
 done:=by
  intro X C F B M i g s N H E I m f D;subst C F B;obtain⟨xs,n,G⟩:=D;obtain⟨J,L,p,U⟩:=I.list n;obtain⟨q,r,R,t,y,A⟩:=m it (by simp);have Z:=L.length;exact wpAny_pyNext_list_end (I.ok.hd M) f p.isList (by simp;omega) λl Q=>⟨rfl,I.turned (t':=s.toks) (λb o hb e=>Q b o hb e) q r t y A⟩
 self:=λ_ _ _ _ _ f h=>wpAny_pyIter_listiter f h
theorem W3{P:ua}{w:Ea}{K:W.Frag}{tg:Ga}(a it:Addr):Turn P w K tg (NF K a) [it] it (λi h=>h.IsTupleIter it a i) where
 mem:=by simp
 obj:=λi h f b hb=>by
  have e:b=it:=by simpa using hb
  subst e;obtain⟨o,e,c,d⟩:=f;exact⟨o,e,λv z=>by rw[d]at z;cases z⟩
 keep:=λi h m f k=>f.at λo e=>k it (by simp) o e
 item:=by
  intro X D G C M i g s N H E I n f F;subst D G C;obtain⟨xs,x,q,J⟩:=F;obtain⟨j,L,p,U⟩:=I.tuple q;obtain⟨u,S,V⟩:=L.get J;obtain⟨r,t,R,y,A,B⟩:=n it (by simp);refine wpAny_pyNext_tuple_item f (show s.heap.IsTuple a j.toArray from p) (x:=u) (by simpa using S) λm l Y=>?_;have O:Inv X g N H { s with heap:=m }:=I.turned (t':=s.toks) (λb o hb e=>(Y.2 b hb).trans e) r t y A B;obtain⟨o,e,c,d⟩:=id l;exact⟨u,rfl,eE (s:={ s with heap:=m }) e c d (by decide) ⟨x,H,O,V,⟨rfl,λys T=>by rw[I.ot T q];exact J⟩,l,λb hb=>(n b hb).1⟩⟩
 done:=by
  intro X D G C M i g s N H E I n f F;subst D G C;obtain⟨xs,q,J⟩:=F;obtain⟨j,L,p,U⟩:=I.tuple q;obtain⟨r,t,R,y,A,B⟩:=n it (by simp);have Z:=L.length;exact wpAny_pyNext_tuple_end (I.ok.hd M) f (show s.heap.IsTuple a j.toArray from p) (by simp;omega) λm Q=>⟨rfl,I.turned (t':=s.toks) (λb o hb e=>Q b o hb e) r t y A B⟩
 self:=λ_ _ _ _ _ f h=>wpAny_pyIter_tupleiter f h
theorem oU{P:ua}{w:Ea}{K:PySem.W.Frag}{tg:Ga}(it:Addr)(j:Int)(n:Nat):Turn P w K tg (MH j n) [it] it (λi h=>IsRangeIter h it (j+(i:Nat) * 1) ((n:Int) - (i:Nat)) 1) where
 mem:=by simp
 obj:=λi h a b hb=>by
  have e:b=it:=by simpa using hb
  subst e;exact⟨_,a,λv z=>by
   have N:Data.fields _=Data.cell v:=z;cases N⟩
 keep:=λi h f a k=>k it (by simp) _ a
 item:=by
  intro X x B u y i c s D H E I g a A;subst x B u;obtain⟨l,m,J,p,q,r⟩:=g it (by simp);have W:=Walks.range (prog:=X.prog) (w:=X.w) (I.ok.hd y) it j 1 n;refine W.item i s _ _ A a λv f C L d M=>?_;obtain⟨t,rfl⟩:=L;have F:Inv X c D H { s with heap:=f,toks:=C }:=I.turned (λb o hb e=>M b o (by simpa using hb) e) l m p q r;refine⟨_,rfl,eE (s:={ s with heap:=f,toks:=C }) (n:="range_iterator") d rfl rfl (by decide) ⟨.int (j+i),H,F,⟨t,?_⟩,⟨rfl,rfl⟩,d,λb hb=>(g b hb).1⟩⟩;rw[Int.mul_one]
 done:=by
  intro X x B u y i c s D H E I g a A;subst x B u;obtain⟨l,m,J,p,q,r⟩:=g it (by simp);exact wpAny_pyNext_range_end (I.ok.hd y) a (by have:n<=i:=A;omega) λf G=>⟨rfl,I.turned (t':=s.toks) (λb o hb e=>G b o hb e) l m p q r⟩
 self:=λ_ _ _ _ _ a h=>wpAny_pyIter_rangeiter a h
section
variable{X:Cx}{tg:Ga}
theorem eY{c:List (Addr × Obj)}{σ:St}{H:Hp}{s:Shared}{R:It->Hp->Prop}{E:Value->Shared->Prop}{lo a:Int}{t u v:Tok}{tk:Nat}(I:Inv X c σ H s)(h:-(2 ^ 62)<=lo)(i:lo<2 ^ 62)(j:-(2 ^ 62)<=a)(k:a<2 ^ 62)
  (q:R (MH lo (a - lo).toNat) H):wpAny (model X.prog X.w) X.A (pyIter (.ref s.heap.objs.size)) (EQ X c σ tg R) E { s with heap:=s.heap.push { cls:=.type "range",data:=.fields #[.int lo t,.int a u,.int 1 v] },toks:=tk }:=by
 refine wpAny_pyIter_range (IsRange.new ..) (small_one h i j k) ?_;have d:Inv X c σ H { s with heap:=s.heap.push { cls:=.type "range",data:=.fields #[.int lo t,.int a u,.int 1 v] },toks:=tk }:=I.kept λb o e=>ba _ e;refine⟨(s.heap.push { cls:=.type "range",data:=.fields #[.int lo t,.int a u,.int 1 v] }).objs.size,[(s.heap.push { cls:=.type "range",data:=.fields #[.int lo t,.int a u,.int 1 v] }).objs.size],_,_,H,rfl,
  d.kept (t':=tk) λb o e=>ba _ e,oU _ lo (a - lo).toNat,?_,λb hb=>?_,q⟩
 ·have f:lo+((0:Nat):Int) * 1=lo:=by simp
  have g:(((a - lo).toNat:Nat):Int) - ((0:Nat):Int)=oC lo a 1:=by rw[rangeSize_one];split<;>omega
  show IsRangeIter _ _ (lo+((0:Nat):Int) * 1) ((((a - lo).toNat:Nat):Int) - ((0:Nat):Int)) 1;rw[f,g];exact ya _ rfl
 ·have e:b=(s.heap.push { cls:=.type "range",data:=.fields #[.int lo t,.int a u,.int 1 v] }).objs.size:=by simpa using hb
  subst e;exact d.Xo (pa _) (d.Pb.fresh (pa _))
noncomputable def Q6(b:TA):TI:=λd H R=>b d H λc a=>∃ j:Int,c=[.int j]/\-(2 ^ 62)<=j/\j<2 ^ 62/\R (MH 0 j.toNat) a
theorem YT{a:Ga}{f:TA}{p c:Se}(k:Gl X "range")(hm:X.mg "range" = none)(i:PA X [a] f)(l:ma [a] X.env=[(false,Nb a X.env)]:=by rfl):PI X tg (.Call (.Name "range" p) [a] [] c) (Q6 f):=by
 intro b s u H R I h;refine Call_ (bx I k hm boot_range (Oe (ae (i c b s u H _ I h) λus s1 ⟨v,H1,g,n,d⟩=>?_) l rfl));obtain⟨j,e,d,m,q⟩:=d;subst e;cases n with
 |cons r o=>
  cases o;obtain⟨t,rfl⟩:=r;exact call_range_1 (eY g (by omega) (by omega) d m (by simpa using q))
noncomputable def cV(j:TI)(g:TG)(tb:TS):TS:=λD a H=>j a H λJ f=>∃ W:Nat->Nat->St->Hp->Prop,(∃ m,W 0 m a f)/\∀ i m a H,W i m a H->
 (J.stop i H/\D.nx a H)\/(J.go i H/\∃ N:St->Hp->Prop,(∀ c b,N c b->∃ e,e<m/\W (i+1) e c b)/\∀ x b,J.eA i H x b->g x a b λd h=>tb { D with nx:=N,ct:=N,bk:=D.nx } d h)
noncomputable def dB(a:List Addr)(h:Heap):List (Addr × Obj):=a.filterMap λb=>(h.get? b).map λo=>(b,o)
theorem mE{a:List Addr}{h:Heap}{b:Addr}{o:Obj}(hb:b∈a)(e:h.get? b=some o):(b,o)∈dB a h:=Gk.mpr ⟨b,hb,by rw[e];rfl⟩
theorem Y2{a:List Addr}{h:Heap}{p:Addr × Obj}(d:p∈dB a h):p.1∈a/\h.get? p.1=some p.2:=by
 obtain⟨b,hb,e⟩:=Gk.mp d;cases q:h.get? b with
 |none=>rw[q]at e;cases e
 |some o=>
  rw[q]at e;have c:(b,o)=p:=ub e;subst c;exact⟨hb,q⟩
theorem Inv.pinned{a:List (Addr × Obj)}{σ:St}{H:Hp}{s:Shared}{c:List Addr}(I:Inv X a σ H s)(j:∀ b∈c,Yl X a H b)(k:∀ b∈c,∃ o,s.heap.get? b=some o/\∀ v,o.data≠.cell v):Inv X (a++dB c s.heap) σ H s:=
 I.ej λp l=>(Uf.mp l).elim (λz=>I.pin p (Ma _ z)) λz=>by
  obtain⟨hb,e⟩:=Y2 z;obtain⟨g,h,i,_⟩:=j p.1 hb;obtain⟨o,f,d⟩:=k p.1 hb;rw[e]at f;cases f;exact⟨e,g,h,i,d⟩
theorem Inv.uk{a pl:List (Addr × Obj)}{σ:St}{H:Hp}{s:Shared}(I:Inv X (a++pl) σ H s):Inv X a σ H s:=I.ej λp b=>I.pin p (Ma _ (Ka _ b))
theorem kP{p:Ga}{body:List Stmt}{wi:TI}{g:TG}{tb:TS}{R:Se}(F:Fp (model X.prog X.w) X.A X.env X.xe)(hc:X.calm=true)(hi:PI X tg p wi)(hg:PG X tg g)(hb:ts X body tb)
  (hs:∀ x,Qg p X.env x=pure x:=by intro _;rfl):PS X (.For tg p body [] R) (cV wi g tb):=by
 intro a s σ H D I h;refine wpAny_For (ae (hi a s σ H _ I h) λv s1 h1=>ae h1 λa0 s2 h2=>?_) hs;obtain⟨it,C,tn,J,H2,e,I2,T,U,f2,W,⟨m0,w0⟩,L⟩:=h2;subst e;have q:∀ {H':Hp},(∀ b∈C,H' b=none)->∀ b∈C,Yl X a H' b:=λhn b hb=>⟨hn b hb,(f2 b hb).2⟩
 refine codeAny_forLoop_any (λn s'=>∃ i t H',Inv X a t H' s'/\tn i s'.heap/\(∀ b∈C,H' b=none)/\W i n t H') ?_ m0 ⟨0,σ,H2,I2,U,λb hb=>(f2 b hb).1,w0⟩;rintro n s3 ⟨i,y,M,Z,K,E,w3⟩;rcases L i n y M w3 with⟨stop,qn⟩|⟨go,N,hN,step⟩
 ·refine Jh F (ae (T.done X rfl rfl rfl hc i a s3 y M X.xe Z (q E) K stop) λr s4 ⟨Q,I4⟩=>?_);subst Q;exact Vj ⟨y,M,I4,qn⟩
 ·refine Jh F (ae (T.item X rfl rfl rfl hc i a s3 y M X.xe Z (q E) K go) λr s4 ⟨u,Q,h4⟩=>?_);subst Q;refine Jh F (ae h4 λ_ s5 ⟨x,Y,I5,r5,y5,B,P⟩=>?_);have O:=I5.pinned (q P) (T.obj _ _ B);refine Jh F (ae (hg _ s5 y Y x u _ O r5 (step x Y y5)) λ_ s6 ⟨V,H6,I6,q6⟩=>?_);refine Jh F (ae (hb _ s6 V H6 _ I6 q6) λf S z=>?_);have l:∀ {c:St} {j:Hp},Inv X (a++dB C s5.heap) c j S->N c j->∃ m,m<n/\∃ i t H',Inv X a t H' S/\tn i S.heap/\(∀ b∈C,H' b=none)/\W i m t H':=fun {c j} k G=>by
   obtain⟨m',hm,w7⟩:=hN c j G;refine⟨m',hm,i+1,c,j,k.uk,T.keep _ _ _ B λb hb o e=>(k.pin (b,o) (Ma _ (Ma _ (mE hb e)))).1,λb hb=>?_,w7⟩;obtain⟨o,e,d⟩:=T.obj _ _ B b hb;exact(k.pin (b,o) (Ma _ (Ma _ (mE hb e)))).2.1
  cases f with
  |next=>obtain⟨c,j,k,G⟩:=z;exact l k G
  |cont=>obtain⟨c,j,k,G⟩:=z;exact l k G
  |brk=>obtain⟨c,j,k,z⟩:=z;exact⟨c,j,k.uk,z⟩
  |ret v=>obtain⟨x7,c,j,k,r7,z⟩:=z;exact⟨x7,c,j,k.uk,r7,z⟩
end
noncomputable abbrev R2:=V->V->Hp->VK->Prop
noncomputable def Ei(X:Cx)(f:Value->Value->Xp Value)(r:R2):Prop:=
 ∀ (a:List (Addr × Obj)) (s:Shared) (σ:St) (H:Hp) (x y:V) (v u:Value) (Q:VK),Inv X a σ H s->vd x v->vd y u->r x y H Q->
  wpAny (model X.prog X.w) X.A (f v u) (EP X a σ Q) X.xe s
noncomputable def Wm(X:Cx)(f:Value)(r:List V->Hp->VK->Prop):Prop:=
 ∀ (a:List (Addr × Obj)) (s:Shared) (σ:St) (H:Hp) (xs:List V) (us:List Value) (Q:VK),Inv X a σ H s->Pd xs us->r xs H Q->
  wpAny (model X.prog X.w) X.A (call f us) (EP X a σ Q) X.xe s
noncomputable def lB(r:R2)(d tb:TE):TE:=λa H Q=>d a H λx b=>tb a b λy c=>r x y c Q
noncomputable def rI(C:Int->Int->Prop)(g:Int->Int->V):R2:=λx y H Q=>∃ i j,x=.int i/\y=.int j/\C i j/\Q (g i j) H
noncomputable def qr(g:Int->Int->V):R2:=λx y H Q=>∃ i j,x=.int i/\y=.int j/\Q (g i j) H
section
variable{X:Cx}{a b c:Ga}{ta tb tc:TE}{pos:Se}
theorem tG(m:PE X a ta)(hb:PE X b tb){c:List (Addr × Obj)}{s:Shared}{σ:St}{H:Hp}{R:V->V->Hp->Prop}(I:Inv X c σ H s)
  (h:ta σ H λx j=>tb σ j λy d=>R x y d) {Q:Value->Shared->Prop} {f:Value->Value->Xp Value}
  (n:∀ v u i x y d,Inv X c σ d i->vd x v->vd y u->R x y d->wpAny (model X.prog X.w) X.A (f v u) Q X.xe i) :
  wpAny (model X.prog X.w) X.A (Nb a X.env) (λv e=>wpAny (model X.prog X.w) X.A (Nb b X.env) (λu g=>wpAny (model X.prog X.w) X.A (f v u) Q X.xe g) X.xe e) X.xe s:=by
 refine ae (m c s σ H _ I h) λv s1 ⟨x,j,k,q,o⟩=>?_;refine ae (hb c s1 σ j _ k o) λu i ⟨y,d,l,r,p⟩=>?_;exact n v u i x y d l q r p
theorem y3{d:Ww}{r:R2}(i:Ei X (He d) r)(g:PE X a ta)(hb:PE X b tb):PE X (.BinOp a d b pos) (lB r ta tb):=by
 intro c s m H Q I h;exact wpAny_BinOp (tG g hb I h λv u l x y e f j k q=>i c l m e x y v u Q f j k q)
theorem vE{f:Value->Value->Xp Value}{C:Int->Int->Prop}{g:Int->Int->Int}
  (a:∀ (i j:Int) (t u:Tok) (s:Shared) (Q:Value->Shared->Prop) (E:Value->Shared->Prop),C i j->Q (.int (g i j) s.toks) { s with toks:=s.toks+1 }->wpAny (model X.prog X.w) X.A (f (.int i t) (.int j u)) Q E s) :
  Ei X f (rI C λi j=>.int (g i j)):=by
 intro b s l H x y v u Q I d e h;obtain⟨i,j,rfl,rfl,c,q⟩:=h;obtain⟨t,rfl⟩:=d;obtain⟨k,rfl⟩:=e;exact a i j t k s _ _ c ⟨.int (g i j),H,I.tok _,⟨_,rfl⟩,q⟩
theorem SK{f:Value->Value->Xp Value}{g:Int->Int->Int}
  (a:∀ (i j:Int) (t u:Tok) (s:Shared) (Q:Value->Shared->Prop) (E:Value->Shared->Prop),Q (.int (g i j) s.toks) { s with toks:=s.toks+1 }->wpAny (model X.prog X.w) X.A (f (.int i t) (.int j u)) Q E s) :
  Ei X f (qr λi j=>.int (g i j)):=by
 intro b s k H x y v u Q I c d h;obtain⟨i,j,rfl,rfl,q⟩:=h;obtain⟨t,rfl⟩:=c;obtain⟨e,rfl⟩:=d;exact a i j t e s _ _ ⟨.int (g i j),H,I.tok _,⟨_,rfl⟩,q⟩
theorem rF{f:Value->Value->Xp Value}{g:Int->Int->Bool}
  (a:∀ (i j:Int) (t u:Tok) (s:Shared) (Q:Value->Shared->Prop) (E:Value->Shared->Prop),Q (.bool (g i j)) s->wpAny (model X.prog X.w) X.A (f (.int i t) (.int j u)) Q E s) :
  Ei X f (qr λi j=>.bl (g i j)):=by
 intro b s k H x y v u Q I c d h;obtain⟨i,j,rfl,rfl,q⟩:=h;obtain⟨t,rfl⟩:=c;obtain⟨e,rfl⟩:=d;exact a i j t e s _ _ ⟨.bl (g i j),H,I,rfl,q⟩
noncomputable def OO(i j:Int):Prop:=0<j/\j<1073741824
noncomputable def aR(i j:Int):Prop:=0<=j/\j<=1000000/\i.natAbs<2 ^ 64
noncomputable def yC(i j:Int):Prop:=(-(2 ^ 64)<i/\i<2 ^ 64)\/(-(2 ^ 64)<j/\j<2 ^ 64)
theorem yC.ok{i j:Int}(h:yC i j):IntMulOk i j:=by
 rcases h with⟨a,b⟩|⟨a,b⟩
 ·exact .of_left (mS a b)
 ·exact .of_right (mS a b)
theorem nX:Ei X (He .Add) (qr λi j=>.int (i+j)):=SK λ_ _ _ _ _ _ _ q=>add_int q
theorem eS:Ei X (He .Sub) (qr λi j=>.int (i - j)):=SK λ_ _ _ _ _ _ _ q=>sub_int q
theorem OI:Ei X (He .Mult) (rI yC λi j=>.int (i * j)):=vE λ_ _ _ _ _ _ _ a q=>mul_int q a.ok
theorem xQ:Ei X (He .FloorDiv) (rI OO λi j=>.int (i / j)):=vE λi j _ _ _ _ _ a q=>by
 have b:(0:Int)<j:=a.1;have c:j<1073741824:=a.2;exact floordiv_int (by omega) (by rw[Int.fdiv_eq_ediv_of_nonneg i (by omega)];exact q) (.inl (PyProof.noPylong_small (by omega)))
theorem Au:Ei X (He .Mod) (rI (λ_ j=>0<j) λi j=>.int (i % j)):=vE λi j _ _ _ _ _ a q=>by
 have b:(0:Int)<j:=a;exact mod_int' (by omega) (by rw[Int.fmod_eq_emod_of_nonneg i (by omega)];exact q)
theorem CM:Ei X (He .Pow) (rI aR λi j=>.int (i ^ j.toNat)):=vE λ_ _ _ _ _ _ _ a q=>pow_int_small a.1 a.2.1 a.2.2 q
end
section
variable{X:Cx}{a b c:Ga}{ta tb tc:TE}{pos:Se}
theorem DU{a:List (Addr × Obj)}{σ:St}{H:Hp}{s:Shared}{Q:VK}{k b:Bool}(I:Inv X a σ H s)(q:Q (.bl k) H)(e:k=b):EP X a σ Q (.bool b) s:=by
 subst e;exact⟨.bl k,H,I,rfl,q⟩
theorem qF:Ei X (Qc .Lt) (qr λi j=>.bl (decide (i<j))):=rF λ_ _ _ _ _ _ _ q=>lt_int q
theorem sO:Ei X (Qc .LtE) (qr λi j=>.bl (decide (i<=j))):=rF λ_ _ _ _ _ _ _ q=>le_int q
theorem mG:Ei X (Qc .Gt) (qr λi j=>.bl (decide (j<i))):=rF λ_ _ _ _ _ _ _ q=>gt_int q
theorem k6:Ei X (Qc .GtE) (qr λi j=>.bl (decide (j<=i))):=rF λ_ _ _ _ _ _ _ q=>ge_int q
theorem TH:Ei X (Qc .Is) (λx y H Q=>y=.Yb/\Q (.bl (decide (x=.Yb))) H):=by
 intro a s d H x y v u Q I b c h;obtain⟨rfl,q⟩:=h;cases c;refine is_none_gen (DU I q ?_);cases x<;>first
  |(cases b;rfl)
  |(obtain⟨t,rfl⟩:=b;rfl)
theorem Ei.or{f:Value->Value->Xp Value}{r b:R2}(h:Ei X f r)(h':Ei X f b):Ei X f (λx y H Q=>r x y H Q\/b x y H Q):=by
 intro a s e H x y v u Q I c d q;rcases q with q|q
 ·exact h a s e H x y v u Q I c d q
 ·exact h' a s e H x y v u Q I c d q
theorem Hh(b:Ga){a:Yp}(h:a≠.In:=by decide)(e:a≠.NotIn:=by decide):Pe a b=false:=by
 have c:(a == SJ)=false:=by cases a<;>first|rfl|exact absurd rfl h
 have d:(a == DA)=false:=by cases a<;>first|rfl|exact absurd rfl e
 cases b<;>simp[Pe,c,d]
theorem pZ{d:Yp}{r:R2}(i:Ei X (Qc d) r)(g:PE X a ta)(hb:PE X b tb)(hm:Pe d b=false):PE X (.Compare a [d] [b] pos) (lB r ta tb):=by
 intro c s m H Q I h;exact wpAny_Compare1 (tG g hb I h λv u l x y e f j k q=>i c l m e x y v u Q f j k q) hm
noncomputable def K4(t:TE):TT:=λb H Q=>t b H λx a=>∃ k,x=.bl k/\Q k a
theorem B2{f:Yp}{r:R2}(p:Ei X (Qc f) r)(o:PE X a ta)(hb:PE X b tb)(hm:Pe f b=false):PT X (.Compare a [f] [b] pos) (K4 (lB r ta tb)):=by
 intro d s g H Q I h;refine Wv (ae (o d s g H _ I h) λv s1 ⟨x,H1,l,A,q⟩=>ae (hb d s1 g H1 _ l q) λu s2 ⟨y,i,m,B,t⟩=>
  ae (p d s2 g i x y v u _ m A B t) λc s3 ⟨z,j,n,C,k,e,w⟩=>?_) hm
 subst e;cases C;exact Wc ⟨j,n,w⟩
noncomputable def n6(r f:R2)(ta tb tc:TE):TE:=λa H Q=>ta a H λx c=>tb a c λy d=>r x y d λz b=>∃ k,z=.bl k/\
 (if k=true then tc a b λg e=>f y g e Q else Q (.bl false) b)
theorem X4{l g:Yp}{r p:R2}(F:Ei X (Qc l) r)(j:Ei X (Qc g) p)(D:PE X a ta)(hb:PE X b tb)(E:PE X c tc)
  (hm:lastMarks [l,g] [b,c]=false:=by with_unfolding_all rfl):PE X (.Compare a [l,g] [b,c] pos) (n6 r p ta tb tc):=by
 intro f s i H Q I h;refine Compare_chain (ae (D f s i H _ I h) λv s1 ⟨x,H1,A,L,G⟩=>chain_link (ae (hb f s1 i H1 _ A G) λu s2 ⟨y,t,B,q,J⟩=>
  ae (F f s2 i t x y v u _ B L q J) λd s3 ⟨z,m,n,M,k,e,o⟩=>?_)) hm
 subst e;cases M;refine Wc ?_;cases k with
 |false=>exact ite_ff ⟨.bl false,m,n,rfl,o⟩
 |true=>exact ite_tt (chain_last (ae (E f s3 i m _ n o) λO s4 ⟨P,w,C,N,K⟩=>j f s4 i w y P u O Q C q N K))
theorem HH:(sizeLine:Nat)<2 ^ 63:=by rw[sizeLine_eq];decide
theorem SW:Ei X (He .Add) (λx y H Q=>∃ i j,x=.str i/\y=.str j/\i.length+j.length<=sizeLine/\Q (.str (i++j)) H):=by
 intro a s g H x y v u Q I c d h;obtain⟨i,j,rfl,rfl,b,q⟩:=h;obtain⟨t,rfl⟩:=c;obtain⟨e,rfl⟩:=d;exact add_str (λe f=>⟨.str (i++j),H,I.tok _,⟨_,rfl⟩,q⟩) b
theorem Bs{x:V}{us:List Value}(r:Pd [x] us):∃ u,us=[u]/\vd x u:=by
 cases r with
 |cons a b=>cases b;exact⟨_,rfl,a⟩
theorem EM{x y:V}{us:List Value}(r:Pd [x,y] us):∃ u w',us=[u,w']/\vd x u/\vd y w':=by
 cases r with
 |cons a b=>
  cases b with
  |cons c d=>cases d;exact⟨_,_,rfl,a,c⟩
theorem DL:Wm X (.type "int") (λxs H Q=>(∃ i,xs=[.int i]/\Q (.int i) H)\/∃ k,xs=[.bl k]/\Q (.int (if k then 1 else 0)) H):=by
 intro a s d H xs c Q I r h;rcases h with⟨i,rfl,q⟩|⟨k,rfl,q⟩
 ·obtain⟨u,rfl,t,rfl⟩:=Bs r;exact call_int_int ⟨.int i,H,I,⟨_,rfl⟩,q⟩
 ·obtain⟨u,rfl,b⟩:=Bs r;cases b;exact call_int_bool ⟨.int (if k then 1 else 0),H,I.tok _,⟨_,rfl⟩,q⟩
end
structure gr(h:Heap)(x dx C:Addr)(mA:qa->Option Value):Prop where
 obj:h.get? x=some (W.instObj C dx)
 ns:h.Ns1 dx mA
 ne:dx≠x
theorem i7{h:Heap}{c:Addr}{f:qa->Option Value}(n:h.Ns1 c f):∃ od,h.get? c=some od/\∀ name,W.lookIn name od=some (f name):=by
 obtain⟨o,d,l,j,hd,i,_,hm⟩:=n;refine⟨o,j,λname=>?_⟩;have e:=hm name;unfold nsFind findBy at e;rw[<-Array.find?_toList]at e;unfold W.lookIn;rw[hd];dsimp only;split
 ·rename_i y q
  rw[q]at e;exact we some e
 ·rename_i q
  rw[q]at e;have a:d.toList.any (·.refKey)=false:=by
   rw[List.any_eq_false];intro y k;obtain⟨z,t,b⟩:=i y (Array.mem_toList_iff.mp k);simp[J9,b]
  have g:¬ d.toList.any (·.refKey)=true:=by rw[a];exact Va
  rw[ja g];exact we some e
theorem gr.look{h:Heap}{x a C:Addr}{b:qa->Option Value}(I:gr h x a C b):∃ od,W.InstAt h x (W.instObj C a) C (some od)/\∀ name,W.lookIn name od=some (b name):=
 let ⟨od,d,c⟩:=i7 I.ns
 ⟨od,⟨I.obj,rfl,rfl,d⟩,c⟩
section
variable{prog:ua}{w:Ea}{A:Da}{E:Value->Shared->Prop}{s:Shared}{K:W.Frag}{x dx C f:Addr}{mA:qa->Option Value}{name:qa}{v:Value}
theorem l6{a:Bool}{Q:Value->Shared->Prop}(X:K.In s.heap)(I:gr s.heap x dx C mA)(d:W.plainGet K C name=true)(e:W.hasDictIn K C=true)
  (c:W.findIn K (.ref C) name=some none) (g:mA name=some v) (b:W.handedIn v=true) (h:Q v { s with toks:=s.toks+1 }) :
  wpAny (model prog w) A (K9 (.ref x) name a) Q E s:=by
 obtain⟨i,J,f⟩:=I.look;exact W.get_value X J (Br d).1 (W.findObj_own e c rfl (by rw[f,g])) b h
theorem v6{pl:Xp Bool}{Q:Value × List Value->Shared->Prop}(X:K.In s.heap)(I:gr s.heap x dx C mA)(a:W.plainGet K C name=true)
  (b:W.findIn K (.ref C) name=some (some (.ref f))) (d:W.isFn K (.ref f)=true) (e:mA name=none) (h:Q (.ref f,[.ref x]) s) :
  wpAny (model prog w) A (fu (.ref x) name pl) Q E s:=by
 obtain⟨g,J,c⟩:=I.look;exact W.method_fn X J (Br a).1 (Br a).2 b (xf.mp d) (by show (W.lookIn name g).map (·.isSome)=some false;rw[c,e];rfl) h
theorem S1{ns:List qa}{Q:Unit->Shared->Prop}(X:K.In s.heap)(I:gr s.heap x dx C mA)
  (n:W.findIn K (.ref C) "__setattr__" = some (some (.builtin "object.__setattr__"))) (m:W.plainOver K C=true) (o:W.takerIn K C name=some none) (l:W.hasDictIn K C=true)
  (p:PySem.Within mA ns) (hsz:ns.length<=sizeLine)
  (h:∀ h',gr h' x dx C (λy=>if y=name then some v else mA y)->Rc dx s.heap h'->Q () { s with heap:=h',toks:=s.toks+2 }) :
  wpAny (model prog w) A (setAttr (.ref x) name v) Q E s:=by
 obtain⟨B,J,u⟩:=I.look;refine W.set_plain X J n (W.osa_open (s:={ s with toks:=s.toks+1 }) (r:=none) X J m o λb=>?_);obtain⟨t,k,f⟩:=Qw l;have q:s.heap.get? x=some ⟨.ref C,some dx,.plain,#[]⟩:=I.obj;refine aa (da (aa (aa (IJ q (aa (W.Looks.here (s:={ s with toks:=s.toks+1 }) (W.looks_clsIn X k) ?_))))));rw[f];refine da (a:=some dx) (aa (da (aa ?_)));refine wpAny_nsSet1 (s:={ s with toks:=s.toks+1 }) I.ns λh' c d=>?_;obtain⟨z,j,i,g,Bv,e⟩:=c.count (vF name v p);refine aa (wpAny_lookBehind g (by rw[Bv];exact pastItsLine_dict (Ya e (by rw[Za];omega))) ?_);exact da (h _ ⟨(d.2 _ (Me I.ne)).trans I.obj,c,I.ne⟩ d)
theorem A1{R:wn->Shared->Prop}{vs:List Value}{a:List (qa × Value)}(X:K.In s.heap)(hm:W.makesIn K C=true)
  (c:W.findIn K (.ref C) "__init__" = some (some (.ref f))) (b:W.typeIn K (.ref f)=some (.type "function"))
  (h:codeAny (model prog w) (A.under (.builtin "type.__call__" ⟨.ref C::vs,a⟩)) (.call (.ref f) ⟨.ref (s.heap.objs.size+1)::vs,a⟩) (W.InitBack (s.heap.objs.size+1) R)
   { s with heap:=(s.heap.push W.emptyDict).push (W.instObj C s.heap.objs.size) }) :
  codeAny (model prog w) A (.call (.ref C) ⟨vs,a⟩) R s:=by
 obtain⟨e,g,d,t,os⟩:=s;exact W.make_core (W.makes_of X hm) (Bk X c) (λself=>W.bind_fn X self b) (.inl rfl) h
end
noncomputable def kn(f:qa)(v:V):List (qa × V)->List (qa × V)
 |[]=>[(f,v)]
 |(g,x)::r=>if g=f then (g,v)::r else (g,x)::kn f v r
theorem oQ(f g:qa)(v:V):∀ fs:List (qa × V),(kn f v fs).lookup g=if g=f then some v else fs.lookup g
 |[]=>by
  show List.lookup g [(f,v)]=_;by_cases h:g=f
  ·have hb:(g == f)=true:=xf.mpr h;simp only[List.lookup,hb,ia h]
  ·have hb:(g == f)=false:=pd.mpr h;simp only[List.lookup,hb,ja h]
 |(k,x)::r=>by
  have b:=oQ f g v r;rw[show kn f v ((k,x)::r)=(if k=f then (k,v)::r else (k,x)::kn f v r)from rfl];by_cases a:k=f
  ·rw[ia a];by_cases h:g=k
   ·have hb:(g == k)=true:=xf.mpr h;simp only[List.lookup,hb,ia (h.trans a)]
   ·have hb:(g == k)=false:=pd.mpr h;simp only[List.lookup,hb,ja (λe:g=f=>h (e.trans a.symm))]
  ·rw[ja a];by_cases h:g=k
   ·have hb:(g == k)=true:=xf.mpr h;simp only[List.lookup,hb,ja (λe:g=f=>a (h.symm.trans e))]
   ·have hb:(g == k)=false:=pd.mpr h;simp only[List.lookup,hb];exact b
theorem nI(f:qa)(v:V):∀ fs:List (qa × V),f∈(kn f v fs).map (·.1)/\∀ g,g∈fs.map (·.1)->g∈(kn f v fs).map (·.1)
 |[]=>⟨by simp[kn],λg h=>by simp at h⟩
 |(k,x)::r=>by
  obtain⟨b,c⟩:=nI f v r;rw[show kn f v ((k,x)::r)=(if k=f then (k,v)::r else (k,x)::kn f v r)from rfl];by_cases a:k=f
  ·rw[ia a];subst a;exact⟨by simp,λg h=>by simpa using h⟩
  ·rw[ja a];refine⟨?_,λg h=>?_⟩
   ·rw[Ia];exact Ha _ b
   ·rw[Ia]at h ⊢;rcases Fa.mp h with e|e
    ·exact Fa.mpr (.inl e)
    ·exact Ha _ (c g e)
theorem JQ(f:qa)(v:V):∀ fs:List (qa × V),(kn f v fs).length<=fs.length+1
 |[]=>by simp[kn]
 |(k,x)::r=>by
  have b:=JQ f v r;rw[show kn f v ((k,x)::r)=(if k=f then (k,v)::r else (k,x)::kn f v r)from rfl];by_cases a:k=f
  ·rw[ia a,Za,Za];omega
  ·rw[ja a,Za,Za];omega
theorem Np.some_of{v:V}{o:Option Value}(r:Np (some v) o):∃ u,o=some u/\vd v u:=by
 cases o with
 |none=>exact(show False from r).elim
 |some u=>exact⟨u,rfl,r⟩
theorem Np.none_of{o:Option Value}(r:Np none o):o=none:=by
 cases o with
 |none=>rfl
 |some u=>exact(show False from r).elim
theorem UT{v:V}{u:Value}(r:vd v u):W.handedIn u=true:=by
 cases v with
 |Yb=>cases (show u=eb from r);rfl
 |bl b=>cases (show u=wf b from r);rfl
 |int i=>obtain⟨t,e⟩:=(show ∃ t,u=Bd i t from r);cases e;rfl
 |str x=>obtain⟨t,e⟩:=(show ∃ t,u=rm x t from r);cases e;rfl
 |ZC b=>obtain⟨t,e⟩:=(show ∃ t,u=CA b t from r);cases e;rfl
 |Ky b=>obtain⟨t,e⟩:=(show ∃ t,u=Qr b t from r);cases e;rfl
 |ref a=>cases (show u=nb a from r);rfl
 |ty n=>cases (show u=Xf n from r);rfl
section
variable{P:ua}{w:Ea}{H H':Hp}{h h':Heap}{a C dx:Addr}{fs fs':List (qa × V)}
theorem EE(Pb:yi P w H h)(e:H a=some (.ins C dx fs)):∃ b,gr h a dx C b/\(∀ f,Np (fs.lookup f) (b f))/\PySem.Within b (fs.map (·.1))/\fs.length<=1000/\H dx=some (.own a):=by
 obtain⟨d,z,ne,c,b,n,r,q⟩:=(show lj P w H h a (.ins C dx fs)from Pb a _ e)
 exact⟨b,⟨c,n,ne⟩,r,q,z,d⟩
end
structure Zi(K:W.Frag)(C:Addr):Prop where
 pg:W.plainGet K C Str.empty=true
 hd:W.hasDictIn K C=true
 po:W.plainOver K C=true
 sa:W.findIn K (.ref C) "__setattr__" = some (some (.builtin "object.__setattr__"))
theorem Zi.get{K:W.Frag}{C:Addr}(c:Zi K C)(f:qa):W.plainGet K C f=true:=c.pg
noncomputable def Qd(K:W.Frag)(C:Addr)(f:qa):Prop:=W.findIn K (.ref C) f=some none
theorem Qd.JB{K:W.Frag}{C:Addr}{f:qa}(n:Qd K C f):W.takerIn K C f=some none:=by
 unfold W.takerIn;rw[show W.findIn K (.ref C) f=some none from n];rfl
structure V9(K:W.Frag)(C:Addr)(f:qa)(v:V)(u:Value):Prop where
 at_:W.findIn K (.ref C) f=some (some u)
 rel:vd v u
 get:W.specialIn K u "__get__" = some none
 cp:W.copiedNames.contains f=false
structure Od(K:W.Frag)(C:Addr)(m:qa)(f:Addr):Prop where
 at_:W.findIn K (.ref C) m=some (some (.ref f))
 fn:W.isFn K (.ref f)=true
 kp:W.keepIn K (.ref f)=true
section
variable{X:Cx}{pins:List (Addr × Obj)}{σ:St}{H:Hp}{s:Shared}{a C dx:Addr}{fs:List (qa × V)}{f:qa}{v:V}{A:Da}{E:Value->Shared->Prop}
theorem FP{b:Bool}{Q:Value->Shared->Prop}(I:Inv X pins σ H s)(e:H a=some (.ins C dx fs))(c:Zi X.K C)(n:Qd X.K C f)(l:fs.lookup f=some v)
  (h:∀ u s',Inv X pins σ H s'->vd v u->Q u s'):wpAny (model X.prog X.w) A (K9 (.ref a) f b) Q E s:=by
 obtain⟨i,O,r,_,_,_⟩:=EE I.Pb e;obtain⟨u,g,d⟩:=Np.some_of (v:=v) (o:=i f) (by rw[<-l];exact r f);exact l6 I.Uj O (c.get f) c.hd n g (UT d) (h u _ (I.tok _) d)
theorem RQ{m:qa}{g:Addr}{pl:Xp Bool}{Q:Value × List Value->Shared->Prop}(I:Inv X pins σ H s)(e:H a=some (.ins C dx fs))(c:Zi X.K C)(k:Od X.K C m g)(l:fs.lookup m=none)
  (h:Q (.ref g,[.ref a]) s):wpAny (model X.prog X.w) A (fu (.ref a) m pl) Q E s:=by
 obtain⟨b,O,r,_,_,_⟩:=EE I.Pb e;have hn:b m=none:=Np.none_of (by rw[<-l];exact r m);exact v6 I.Uj O (c.get m) k.at_ k.fn hn h
theorem yL{y:V}{u:Value}{Q:Unit->Shared->Prop}(I:Inv X pins σ H s)(e:H a=some (.ins C dx fs))(c:Zi X.K C)(n:Qd X.K C f)(D:fs.length<1000)(v:vd y u)
  (h:∀ s',Inv X pins σ (upd H a (.ins C dx (kn f y fs))) s'->Q () s'):wpAny (model X.prog X.w) A (setAttr (.ref a) f u) Q E s:=by
 obtain⟨j,O,r,k,_,i⟩:=EE I.Pb e;have t:(fs.map (·.1)).length<=sizeLine:=by rw[xa,sizeLine_eq];omega
 refine S1 I.Uj O c.sa c.po n.JB c.hd k t λm d B=>h _ ?_;have hd:∃ o,m.get? dx=some o:=let ⟨o,_,_,l,_⟩:=d.ns;⟨o,l⟩;refine I.write (x:=a) (e:=dx) (by rw[e];exact True.intro) (.inr i) (λb q hb z=>(B.2 b hb).trans z) hd ?_;refine⟨by rw[Ad O.ne];exact i,?_,O.ne,d.obj,_,d.ns,λg=>?_,λg p=>?_⟩
 ·have:=JQ f y fs;omega
 ·show Np ((kn f y fs).lookup g) (if g=f then some u else j g);rw[oQ];by_cases q:g=f
  ·rw[ia q,ia q];exact v
  ·rw[ja q,ja q];exact r g
 ·by_cases q:g=f
  ·rw[q];exact(nI f y fs).1
  ·refine(nI f y fs).2 g (k g λz=>p ?_);show (if g=f then some u else j g)=none;rw[ja q];exact z
theorem Inv.made(I:Inv X pins σ H s):Inv X pins σ (upd (upd H s.heap.objs.size (.own (s.heap.objs.size+1))) (s.heap.objs.size+1) (.ins C s.heap.objs.size []))
  { s with heap:=(s.heap.push W.emptyDict).push (W.instObj C s.heap.objs.size) }:=by
 have c:(s.heap.push W.emptyDict).get? s.heap.objs.size=some W.emptyDict:=ya s.heap rfl;have f:((s.heap.push W.emptyDict).push (W.instObj C s.heap.objs.size)).get? (s.heap.objs.size+1)=some (W.instObj C s.heap.objs.size):=by
  have:=ya (s.heap.push W.emptyDict) (o:=W.instObj C s.heap.objs.size) rfl
  rwa [rc]at this
 have g:(s.heap.push W.emptyDict).Ns s.heap.objs.size (λ_=>none):=⟨W.emptyDict,#[],_,c,rfl,(λe h=>absurd h (by simp)),λ_=>rfl⟩
 have d:=I.laid (a:=s.heap.objs.size) (o:=.own (s.heap.objs.size+1)) (h':=s.heap.push W.emptyDict) (t':=s.toks) (λb u q=>ba _ q) (pa _) ⟨_,c⟩;refine d.laid (a:=s.heap.objs.size+1) (o:=.ins C s.heap.objs.size []) (t':=s.toks) (λb u q=>ba _ q) (Cr (rc _ _)) ?_;have ne:s.heap.objs.size≠s.heap.objs.size+1:=ra (zb _);refine⟨by rw[Ad ne,Jg],ci _,ne,f,λ_=>none,(Heap.Ns1.of_empty g).at λo q=>ba _ q,λ_=>True.intro,λy i=>absurd rfl i⟩
theorem PZ{prog:ua}{w:Ea}{env:Og}{e:Ga}{f:qa}{b:Se}{s:Shared}{Q:Value->Shared->Prop}(hb:Uc e f env (Nb e env)=Nb e env)
  (h:wpAny (model prog w) A (Nb e env) (λo a=>wpAny (model prog w) A (K9 o f true) Q E a) E s):wpAny (model prog w) A (Nb (.Attribute e f b) env) Q E s:=
 Attribute_any_ h (by rw[arm_eval_Attribute,hb])
end
noncomputable def t4(K:W.Frag)(d:TE)(f:qa):TE:=λe H Q=>d e H λx b=>∃ a C c fs v,x=.ref a/\b a=some (.ins C c fs)/\Zi K C/\Qd K C f/\fs.lookup f=some v/\Q v b
noncomputable def FZ(K:W.Frag)(g h:TE)(f:qa):TS:=λD b H=>h b H λy e=>g b e λx c=>∃ a C d fs,x=.ref a/\c a=some (.ins C d fs)/\Zi K C/\Qd K C f/\fs.length<1000/\
 D.nx b (upd c a (.ins C d (kn f y fs)))
noncomputable def KN(X:Cx)(b:Ww)(rd:V->V->Hp->VK->Prop):Prop:=
 ∀ (a:List (Addr × Obj)) (s:Shared) (σ:St) (H:Hp) (x y:V) (u v:Value) (Q:VK),Inv X a σ H s->vd x u->vd y v->rd x y H Q->wpAny (model X.prog X.w) X.A (inplaceOp b u v) (EP X a σ Q) X.xe s
noncomputable def E1(K:W.Frag)(j k:TE)(rd:V->V->Hp->VK->Prop)(f:qa):TS:=λD d H=>j d H λx e=>∃ a C i fs v,x=.ref a/\e a=some (.ins C i fs)/\Zi K C/\Qd K C f/\fs.lookup f=some v/\
 k d e λy h=>rd v y h λz g=>∃ c b,g a=some (.ins C c b)/\b.length<1000/\D.nx d (upd g a (.ins C c (kn f z b)))
section
variable{X:Cx}{o e value:Ga}{f:qa}{pos pos' tpos:Se}{ta tv:TE}
theorem uT(j:PE X e ta)(hb:Uc e f X.env (Nb e X.env)=Nb e X.env):PE X (.Attribute e f pos) (t4 X.K ta f):=by
 intro b s o H Q I h;refine PZ hb (ae (j b s o H _ I h) λu s1 ⟨x,H1,d,m,a,C,p,fs,v,ex,i,c,n,l,q⟩=>?_);subst ex;obtain rfl:u=nb a:=m;exact FP d i c n l λt r g k=>⟨v,H1,g,k,q⟩
theorem YW(k:PE X o ta)(p:PE X value tv)(m:xj value (some (.Attribute o f pos')) pos.line X.env=pure false):PS X (.Assign [.Attribute o f pos'] value pos) (FZ X.K ta tv f):=by
 intro b s d H D I h;refine plainObj_wpAny_Assign_Attribute (ae (p b s d H _ I h) λu s1 ⟨y,H1,e,w,q⟩=>ae (k b s1 d H1 _ e q) λr s2 ⟨x,z,g,v,a,C,A,fs,ex,j,c,n,l,t⟩=>?_) m;subst ex;obtain rfl:r=nb a:=v;exact yL g j c n l w λB i=>⟨d,_,i,t⟩
theorem bU{i:Ww}{rd:V->V->Hp->VK->Prop}(E:PE X o ta)(F:PE X value tv)(g:KN X i rd):PS X (.AugAssign (.Attribute o f tpos) i value pos) (E1 X.K ta tv rd f):=by
 intro b s d H D I h;refine wpAny_AugAssign_AttributeAny (ae (E b s d H _ I h) λJ s1 ⟨x,H1,k,O,a,C,U,fs,v,ex,A,c,n,l,q⟩=>?_);subst ex;obtain rfl:J=nb a:=O;refine FP k A c n l λu R m N=>ae (F b R d H1 _ m q) λS s3 ⟨y,j,p,P,L⟩=>ae (g b s3 d j v y u S _ p N P L) λY s4 ⟨z,T,r,Q,w,B,e,G,M⟩=>?_;exact yL r e c n G Q λW t=>⟨d,_,t,M⟩
noncomputable def cW:V->V->Hp->VK->Prop:=λx y H Q=>∃ i j,x=.int i/\y=.int j/\Q (.int (i+j)) H
theorem ZZ:KN X .Add cW:=by
 rintro a s e H x y u v Q I c d ⟨i,j,rfl,rfl,q⟩;obtain⟨t,rfl⟩:=(show ∃ t,u=Bd i t from c)
 obtain⟨b,rfl⟩:=(show ∃ b,v=Bd j b from d)
 exact wF ⟨.int (i+j),H,I.tok _,⟨_,rfl⟩,q⟩
end
section
variable{X:Cx}{pins:List (Addr × Obj)}{σ:St}{H:Hp}{s:Shared}{A:Da}{E:Value->Shared->Prop}{Q:Value->Shared->Prop}{c:Value}{b:Bool}
inductive Wk(K:W.Frag)(H:Hp):V->Value->Prop where
 |Yb:Wk K H .Yb (.type "NoneType")
 |bl (x:Bool):Wk K H (.bl x) (.type "bool")
 |int (i:Int):Wk K H (.int i) (.type "int")
 |str (x:qa):Wk K H (.str x) (.type "str")
 |Ky (x:UInt64):Wk K H (.Ky x) (.type "float")
 |lst {a:Addr} {xs:List V} (e:H a=some (.lst xs)):Wk K H (.ref a) (.type "list")
 |qb {a:Addr} {o:Obj} {xs:List V} (e:H a=some (.qb o (.lst xs))):Wk K H (.ref a) (.type "list")
 |tup {a:Addr} {xs:List V} (e:H a=some (.tup xs)):Wk K H (.ref a) (.type "tuple")
 |dK {a:Addr} {kvs:List (Key × V)} (e:H a=some (.dK kvs)):Wk K H (.ref a) (.type "dict")
 |dT {a:Addr} {kvs:List (List Key × V)} (e:H a=some (.dT kvs)):Wk K H (.ref a) (.type "dict")
 |ins {a C dx:Addr} {fs:List (qa × V)} (e:H a=some (.ins C dx fs)) (cl:Zi K C) (ha:W.findIn K (.ref C) "__class__" = some (some (.builtin "object.__class__")))
   (hn:W.specialIn K (.builtin "object.__class__") "__get__" = some (some (.builtin "getset_descriptor.__get__"))) (htk:W.takesIn K (.builtin "object.__class__")=some true)
   (hm:W.mroIn K C (.type "object")=some true):Wk K H (.ref a) (.ref C)
theorem dY{x:V}{u t:Value}(I:Inv X pins σ H s)(f:vd x u)(ty:Wk X.K H x t)(e:W.kitOne X.K t c=some b)(h:∀ tk,Q (.bool b) { s with toks:=tk }) :
  wpAny (model X.prog X.w) A (call (.builtin "isinstance") [u,c]) Q E s:=by
 cases ty with
 |Yb=>cases (show u=eb from f);exact Re W.kitx_none I.Uj True.intro e (λz=>nomatch z) h
 |bl y=>cases (show u=wf y from f);exact Re W.kitx_bool I.Uj True.intro e (λz=>nomatch z) h
 |int i=>obtain⟨t,q⟩:=(show ∃ t,u=Bd i t from f);cases q;exact Re W.kitx_int I.Uj True.intro e (λz=>nomatch z) h
 |str y=>obtain⟨t,q⟩:=(show ∃ t,u=rm y t from f);cases q;exact Re W.kitx_str I.Uj True.intro e (λz=>nomatch z) h
 |Ky y=>obtain⟨t,q⟩:=(show ∃ t,u=Qr y t from f);cases q;exact Re W.kitx_float I.Uj True.intro e (λz=>nomatch z) h
 |@lst a xs d=>
  cases (show u=nb a from f);obtain⟨_,_,n,_,g⟩:=(show lj X.prog X.w H s.heap a (.lst xs)from I.Pb a _ d)
  exact Re nS I.Uj ⟨_,g,rfl⟩ e (λz=>nomatch z) h
 |@qb a B xs d=>
  cases (show u=nb a from f);obtain⟨_,_,_,n,_,g⟩:=(show lj X.prog X.w H s.heap a (.qb B (.lst xs))from I.Pb a _ d)
  exact Re nS I.Uj ⟨_,g,rfl⟩ e (λz=>nomatch z) h
 |@tup a xs d=>
  cases (show u=nb a from f);obtain⟨_,_,_,p⟩:=(show lj X.prog X.w H s.heap a (.tup xs)from I.Pb a _ d)
  obtain⟨o,g,k,_⟩:=p;exact Re W.kitx_tuple I.Uj ⟨o,g,k⟩ e (λz=>nomatch z) h
 |@dK a j d=>
  cases (show u=nb a from f);obtain⟨_,_,L,_,p⟩:=(show lj X.prog X.w H s.heap a (.dK j)from I.Pb a _ d)
  obtain⟨o,r,m,g,k,_⟩:=p;exact Re Zu I.Uj ⟨o,g,k.1⟩ e (λz=>nomatch z) h
 |@dT a j d=>
  cases (show u=nb a from f);obtain⟨_,_,xs,_,o,r,m,g,k,_⟩:=(show lj X.prog X.w H s.heap a (.dT j)from I.Pb a _ d)
  exact Re Zu I.Uj ⟨o,g,k.1⟩ e (λz=>nomatch z) h
 |@ins a C D fs d cl v hn l hm=>
  cases (show u=nb a from f);obtain⟨F,O,_⟩:=EE I.Pb d;obtain⟨G,J,_⟩:=O.look;exact Re (W.kitx_own (cl.get _) cl.hd v hn l hm) I.Uj J e (λz=>nomatch z) h
end
structure Xd(k:Nat)(A:Da):Prop where
 hd:A.handled=none
 dp:A.depth+3 * k+5<recursionLimit
 un:A.units+16 * k+200<cLine
theorem Xd.mono{j k:Nat}{A:Da}(r:Xd k A)(h:j<=k):Xd j A:=⟨r.hd,by have:=r.dp;omega,by have:=r.un;omega⟩
theorem Xd.deeper{k:Nat}{A:Da}(r:Xd (k+1) A)(env:Og):Xd k (A.deeper env):=
 ⟨r.hd,by have:=r.dp;show A.depth+1+3 * k+5<_;omega,by have:=r.un;show A.units+3+16 * k+200<_;omega⟩
theorem Xd.in1{k:Nat}{A:Da}(r:Xd (k+1) A):Xd k A.in1:=
 ⟨r.hd,by have:=r.dp;show A.depth+3 * k+5<_;omega,by have:=r.un;show A.units+1+16 * k+200<_;omega⟩
theorem X5{A:Da}{C:Addr}{us:List Value}{a:List (qa × Value)}:(A.under (.builtin "type.__call__" ⟨.ref C::us,a⟩)).depth=A.depth+1:=by
 first|rfl|simp[Zp,Code.weight,Code.isCreation,Code.isGuard,Code.isCaller,pC,Uq,guardIds]
theorem Z3{A:Da}{C:Addr}{us:List Value}{a:List (qa × Value)}:(A.under (.builtin "type.__call__" ⟨.ref C::us,a⟩)).units=A.units+1:=by
 first|rfl|simp[Zp,Code.cUnits,pC,Uq]
theorem Xd.make{k:Nat}{A:Da}(r:Xd (k+1) A)(C:Addr)(us:List Value)(a:List (qa × Value)):Xd k (A.under (.builtin "type.__call__" ⟨.ref C::us,a⟩)):=
 ⟨r.hd,by have:=r.dp;rw[X5];omega,by have:=r.un;rw[Z3];omega⟩
theorem Xd.depth{k:Nat}{A:Da}(r:Xd k A):A.depth<recursionLimit:=by have:=r.dp;omega
theorem Xd.units{k:Nat}{A:Da}(r:Xd k A):A.units+64<cLine:=by have:=r.un;omega
noncomputable def pT:TA:=λ_ H Q=>Q [] H
noncomputable def EV(d:TE)(e:TA):TA:=λa H Q=>d a H λx b=>e a b λxs c=>Q (x::xs) c
section
variable{X:Cx}{e:Ga}{es:List Ga}{te:TE}{t:TA}{pos:Se}
theorem Dv:PA X [] pT:=λ_ _ _ _ H Q I h=>Calls.spliced_nil ⟨[],H,I,.nil,h⟩
theorem Ss(g:PE X e te)(i:PA X es t)(j:ma (e::es) X.env=(false,Nb e X.env)::ma es X.env:=by rfl):PA X (e::es) (EV te t):=by
 intro pos a s b H Q I h;rw[j];show wpAny _ _ (spliced ((false,Nb e X.env)::kc pos (ma es X.env))) _ _ s;refine Calls.spliced_cons (ae (g a s b H _ I h) λu s1 ⟨x,H1,d,m,k⟩=>?_);exact ae (i pos a s1 b H1 _ d k) λus s2 ⟨xs,c,f,n,l⟩=>⟨x::xs,c,f,.cons m n,l⟩
noncomputable def sX(t:TA):TE:=λb H Q=>t b H λxs a=>xs.length<=sizeLine/\∀ p,a p=none->Q (.ref p) (upd a p (.tup xs))
noncomputable def tU(t:TA):TE:=λb H Q=>t b H λxs a=>xs.length<=sizeLine/\∀ p,a p=none->Q (.ref p) (upd a p (.lst xs))
theorem AU{x1}(h:PA X es t):PE X (.Tuple es x1 pos) (sX t):=by
 intro a s g H Q I f;refine wpAny_Tuple_spliced (ae (h pos a s g H _ I f) λus s1 ⟨xs,H1,c,r,z,q⟩=>⟨by rw[<-r.length];exact z,?_⟩);have d:H1 s1.heap.objs.size=none:=c.Pb.fresh (pa _);refine⟨.ref s1.heap.objs.size,upd H1 s1.heap.objs.size (.tup xs),c.laid (t':=s1.toks) (λb u e=>ba _ e) (pa _) ?_,rfl,q _ d⟩;exact⟨z,us,r,⟨_,ya _ rfl,rfl,_,rfl⟩⟩
theorem QL(h:PA X es t):PE X (.List es pos) (tU t):=by
 intro a s g H Q I f;refine wpAny_List_spliced (ae (h pos a s g H _ I f) λus s1 ⟨xs,H1,c,r,z,q⟩=>⟨by rw[<-r.length];exact z,?_⟩);have d:H1 s1.heap.objs.size=none:=c.Pb.fresh (pa _);refine⟨.ref s1.heap.objs.size,upd H1 s1.heap.objs.size (.lst xs),c.laid (t':=s1.toks) (λb u e=>ba _ e) (pa _) ?_,rfl,q _ d⟩;exact⟨z,us,0,r,ya _ rfl⟩
end
noncomputable abbrev Sp:=List V->Hp->VK->XK->Prop
noncomputable abbrev ft:=List Og->Hp->Shared->XK->Value->Shared->Prop
structure Nl(P:ua)(w:Ea)(K:W.Frag)(mg:qa->Option Value)(base:Heap)(A:Da)(outer:List Og)(s:Shared)(H:Hp):Prop where
 frames:A.frames=some outer
 mod:Mod K mg base
 bs:∀ b o,base.get? b=some o->s.heap.get? b=some o/\H b=none
 ir:base.objs.size<=s.heap.objs.size
 nj:s.heap.FunFrames base outer
 Xu:∀ b∈qj outer,H b=none
 Pb:yi P w H s.heap
 bare:Pg s.gens
noncomputable def CE(outer:List Og)(P:ua)(w:Ea)(H:Hp)(s:Shared)(Q:VK)(u:Value)(s':Shared):Prop:=
 ∃ v a,s'.os=s.os/\Pg s'.gens/\Un (qj outer) [] H a s.heap s'.heap/\yi P w a s'.heap/\vd v u/\Q v a
noncomputable def CR(a:ft)(outer:List Og)(P:ua)(w:Ea)(H:Hp)(s:Shared)(Q:VK)(E:XK)(r:wn)(s':Shared):Prop:=
 match r with
 | .ok (.ret u)=>CE outer P w H s Q u s'
 | .ok _=>False
 | .error e=>a outer H s E e s'
structure mh(P:ua)(w:Ea)(K:W.Frag)(mg:qa->Option Value)(base:Heap)(CX:ft)(k:Nat)(f:Addr)(fd:Yd)(ps:List qa)(sp:Sp):Prop where
 len:∀ vs H Q E,sp vs H Q E->vs.length=ps.length
 run:∀ (A:Da) (outer:List Og) (s:Shared) (H:Hp) (args:Args) (us:List Value) (vs:List V) (Q:VK) (E:XK),Xd k A->Nl P w K mg base A outer s H->Zf s fd args (ps.zip us)->Pd vs us->sp vs H Q E->
  codeAny (model P w) A (.call (.ref f) args) (CR CX outer P w H s Q E) s
theorem mh.mono{P:ua}{w:Ea}{K:W.Frag}{mg:qa->Option Value}{base:Heap}{b:ft}{j k:Nat}{f:Addr}{c:Yd}{ps:List qa}{sp:Sp}(F:mh P w K mg base b j f c ps sp)(h:j<=k) :
  mh P w K mg base b k f c ps sp:=⟨F.len,λA outer s H a e g Q E d=>F.run A outer s H a e g Q E (d.mono h)⟩
theorem mh.imp{P:ua}{w:Ea}{K:W.Frag}{mg:qa->Option Value}{base:Heap}{b:ft}{k:Nat}{f:Addr}{c:Yd}{ps:List qa}{sp sp':Sp}(F:mh P w K mg base b k f c ps sp)
  (h:∀ vs H Q E,sp' vs H Q E->sp vs H Q E):mh P w K mg base b k f c ps sp':=
 ⟨λvs H Q E q=>F.len vs H Q E (h _ _ _ _ q),λA outer s H a j vs Q E e d hb i g=>F.run A outer s H a j vs Q E e d hb i (h _ _ _ _ g)⟩
theorem Nl.make{P:ua}{w:Ea}{K:W.Frag}{mg:qa->Option Value}{base:Heap}{A:Da}{outer:List Og}{s:Shared}{H:Hp}(e:Nl P w K mg base A outer s H)(C:Addr)(us:List Value)(a:List (qa × Value)) :
  Nl P w K mg base (A.under (.builtin "type.__call__" ⟨.ref C::us,a⟩)) outer s H:=⟨by first|exact e.frames|(simpa [Zp,Code.envs,Uq,pushEnvs]using e.frames),e.mod,e.bs,e.ir,e.nj,e.Xu,e.Pb,e.bare⟩
theorem Nl.in1{P:ua}{w:Ea}{K:W.Frag}{mg:qa->Option Value}{base:Heap}{A:Da}{outer:List Og}{s:Shared}{H:Hp}(e:Nl P w K mg base A outer s H) :
  Nl P w K mg base A.in1 outer s H:=⟨e.frames,e.mod,e.bs,e.ir,e.nj,e.Xu,e.Pb,e.bare⟩
section
variable{X:Cx}{pins:List (Addr × Obj)}{σ:St}{H:Hp}{s s':Shared}
theorem Inv.aB(I:Inv X pins σ H s):Nl X.prog X.w X.K X.mg X.base X.A X.stack s H:=
 ⟨I.ok.frames,I.ok.mod,I.bs,Ya I.ok.ir I.sz,I.stack,I.ik,I.Pb,I.bare⟩
theorem Inv.after{Q:VK}{u:Value}(I:Inv X pins σ H s)(h:CE X.stack X.prog X.w H s Q u s'):EP X pins σ Q u s':=by
 obtain⟨v,c,os,bare,un,Pb,r,q⟩:=h;obtain⟨e,g,d,t,a⟩:=s';obtain rfl:a=s.os:=os;exact⟨v,c,I.call (h':=e) (g':=g) (d':=d) (t':=t) (ch:=[]) un Pb bare (λb z=>absurd z (by simp)),r,q⟩
end
noncomputable def pr(K:W.Frag)(a:Yd)(ps:List qa)(ds:List Value):Prop:=
 ∀ (s:Shared) (us:List Value),K.In s.heap->(us++ds).length=ps.length->Zf s a ⟨us,[]⟩ (ps.zip (us++ds))
theorem pr.all{K:W.Frag}{a:Yd}{ps:List qa}(h:∀ us:List Value,us.length=ps.length->bindArgs a ⟨us,[]⟩=pure (ps.zip us)):pr K a ps []:=λs us _ b=>by
 rw[Vf]at b ⊢;exact .of_eq (h us b)
section
variable{X:Cx}{CX:ft}{k:Nat}{f C:Addr}{fd:Yd}{ps:List qa}{sp:Sp}{dvs:List V}{ds:List Value}{E:XK}{x m:qa}{p pos apos:Se}{e o:Ga}{es:List Ga}{ta:TE}{t:TA}
structure Mk(K:W.Frag)(C f:Addr):Prop where
 makes:W.makesIn K C=true
 init:W.findIn K (.ref C) "__init__" = some (some (.ref f))
 fn:W.isFn K (.ref f)=true
 kp:W.keepIn K (.ref C)=true
end
section
variable{X:Cx}{CX:ft}{k:Nat}{f C:Addr}{fd:Yd}{ps ks:List qa}{sp:Sp}{E:XK}{x m:qa}{p pos apos kpos:Se}{e o:Ga}{es:List Ga}{kws:List Oj}{te ta:TE}{t tk:TA}{nm:Option qa}
structure bJ(K:W.Frag)(fd:Yd)(ps ks:List qa)(g:List Value->List Value->List Value)(gV:List V->List V->List V):Prop where
 to:∀ (s:Shared) (us ws:List Value),K.In s.heap->(g us ws).length=ps.length->Zf s fd ⟨us,ks.zip ws⟩ (ps.zip (g us ws))
 rel:∀ {vs:List V} {us:List Value} {zs:List V} {ws:List Value},Pd vs us->Pd zs ws->Pd (gV vs zs) (g us ws)
variable{g:List Value->List Value->List Value}{gV:List V->List V->List V}
end
structure Ba(N P:List qa)(sc:Scope):Prop where
 kind:sc.kind=.function
 co:sc.isCoroutine=false
 gen:sc.isGenerator=false
 nd:N.Nodup
 pre:N.take P.length=P
 par:∀ x∈P,sc.names.lookup x=some .local\/sc.names.lookup x=some .cell
 Dy:∀ y∈sc.names,y.2≠.free
theorem pR{a:qa->Option Ye}{x:qa}:∀ {binds:List (qa × Value)} {m:qa->Option Value},(∀ v,(x,v) ∉ binds)->gu a binds m x=m x
 |[],_,_=>rfl
 |(n,v)::r,m,h=>by
  unfold gu;rw[pR λw b=>h w (Ha _ b)];split
  ·have:x≠n:=by rintro rfl;exact h v Qa
   simp[this]
  ·rfl
theorem zO{a:qa->Option Ye}{x:qa}:∀ {binds:List (qa × Value)} {m:qa->Option Value},(∀ v,(x,v) ∉ binds)->iu a binds m x=m x
 |[],_,_=>rfl
 |(n,v)::r,m,h=>by
  unfold iu;rw[zO λw b=>h w (Ha _ b)];split
  ·rfl
  ·have:x≠n:=by rintro rfl;exact h v Qa
   simp[this]
theorem AR{a:qa->Option Ye}{x:qa}{v:Value}:∀ {P:List qa} {vs:List Value} {i:Nat} {m:qa->Option Value},P.Nodup->P[i]?=some x->vs[i]?=some v->a x=some .local->
  gu a (P.zip vs) m x=some v
 |[],_,_,_,_,h,_,_=>by simp at h
 |_::_,[],_,_,_,_,h,_=>by simp at h
 |p::P,w::vs,0,m,nd,b,c,d=>by
  simp at b c;subst b;subst c;show gu a ((p,w)::P.zip vs) m p=_;unfold gu;rw[pR λv e=>(fh.mp nd).1 (En e).1,ia d];simp
 |p::P,w::vs,i+1,m,nd,b,c,d=>by
  show gu a ((p,w)::P.zip vs) m x=_;unfold gu;exact AR (i:=i) (fh.mp nd).2 (by simpa using b) (by simpa using c) d
theorem HK{a:qa->Option Ye}{x:qa}{v:Value}:∀ {P:List qa} {vs:List Value} {i:Nat} {m:qa->Option Value},P.Nodup->P[i]?=some x->vs[i]?=some v->a x≠some .local->
  iu a (P.zip vs) m x=some v
 |[],_,_,_,_,h,_,_=>by simp at h
 |_::_,[],_,_,_,_,h,_=>by simp at h
 |p::P,w::vs,0,m,nd,b,c,d=>by
  simp at b c;subst b;subst c;show iu a ((p,w)::P.zip vs) m p=_;unfold iu;rw[zO λv e=>(fh.mp nd).1 (En e).1,ja d];simp
 |p::P,w::vs,i+1,m,nd,b,c,d=>by
  show iu a ((p,w)::P.zip vs) m x=_;unfold iu;exact HK (i:=i) (fh.mp nd).2 (by simpa using b) (by simpa using c) d
noncomputable def zu(N:List qa)(vs:List V):St:=vs.map some++List.replicate (N.length - vs.length) none
noncomputable def fq(b:ft)(P:ua)(w:Ea)(K:W.Frag)(mg:qa->Option Value)(base:Heap)(N:List qa)(qual:qa)(scope:Scope)(f:Addr)(cd:Value)(A:Da)(outer:List Og)(s:Shared)(H:Hp)(E:XK):Cx where
 prog:=P
 w:=w
 K:=K
 mg:=mg
 base:=base
 A:=A.deeper (Rg qual scope s.heap.objs.size f cd)
 N:=N
 s₀:=s
 H₀:=H
 env:=Rg qual scope s.heap.objs.size f cd
 outer:=outer
 stack:=Rg qual scope s.heap.objs.size f cd::outer
 ex:=[]
 calm:=true
 fn:=λ_=>true
 pn:=[]
 xe:=λe d=>wpAny (model P w) (A.deeper (Rg qual scope s.heap.objs.size f cd)) (GA (Rg qual scope s.heap.objs.size f cd) e) (λ_ a=>b outer H s E e a) (λc a=>b outer H s E c a) d
theorem yM{sc:Scope}{n:Nat}{x:qa}(h:sc.names.lookup x=some .cell):∃ c,(qC n sc.names []).lookup x=some c:=by
 have q:=gz sc.names n [] (.inl h);exact ue.mp q
theorem f7{C:ft}{P:ua}{w:Ea}{K:W.Frag}{mg:qa->Option Value}{base:Heap}{N ps:List qa}{qual:qa}{scope:Scope}{f:Addr}{cd:Value}{A:Da}{outer:List Og}{s s1:Shared}{H:Hp}{E:XK}{us:List Value}{vs:List V}
  (S:Ba N ps scope) (hd:A.handled=none) (g:Nl P w K mg base A outer s H) (M:vs.length=ps.length) (r:Pd vs us)
  (x:InCallC s s.heap.objs.size (gu (Rg qual scope s.heap.objs.size f cd).kindOf (ps.zip us) λ_=>none) (qC (s.heap.objs.size+1) scope.names []) (iu (Rg qual scope s.heap.objs.size f cd).kindOf (ps.zip us) λ_=>none) s1) :
  Inv (fq C P w K mg base N qual scope f cd A outer s H E) [] (zu N vs) H s1:=by
 have I:ps.length<=N.length:=by have:=we List.length S.pre;rw[Cm]at this;omega
 obtain⟨t,O,rfl,D⟩:=x.done;have l:∀ b:Addr,b ∉ (fq C P w K mg base N qual scope f cd A outer s H E).ex:=λb z=>absurd (show b∈([]:List Addr)from z) (by simp);refine⟨⟨g.mod,S.kind,rfl,rfl,pa _,λy z c t d=>?_,λy j=>?_,λy c _ h=>?_,λ_=>hd,Rq g.frames,.inr ⟨rfl,rfl⟩,λb z=>absurd z (l b),g.bs,g.ir,λb _ _=>l b,λb z=>absurd z (l b),g.nj,g.Xu⟩,
  rfl,g.bare,Un.kept D,⟨_,x.toInCall.ns,λi y v t d L=>?_⟩,λy c h=>⟨_,x.cell y c h⟩,g.Pb.fresh (pa _),λy c h=>?_,λp m=>absurd (show p∈([]:List (Addr × Obj))from m) (by simp),g.Pb.kept D,?_⟩
 ·exact name_of_addr x.apart (Fe t) (Fe d)
 ·have j:scope.names.lookup y=some .cell\/scope.names.lookup y=some .free:=j;rcases j with j|j
  ·exact yM j
  ·exact absurd rfl (S.Dy _ (Fe j))
 ·exact Td (x.above y c (Fe h))
 ·have B:i<vs.length:=by
   unfold zu at d;by_cases B:i<vs.length
   ·exact B
   ·rw[yf (by simpa using B)]at d;rw[ig]at d;split at d<;>cases d
  have G:vs[i]?=some v:=by
   unfold zu at d;rw[Xa (by simpa using B),Ja]at d;cases e:vs[i]? with
   |none=>rw[e]at d;cases d
   |some a=>rw[e]at d;cases d;rfl
  obtain⟨u,F,J⟩:=r.get G;have m:ps[i]?=some y:=by
   rw[<-S.pre,Tp (by omega)];exact t
  have o:ps.Nodup:=by rw[<-S.pre];exact S.nd.sublist (List.take_sublist _ _)
  refine⟨u,J,?_⟩;rcases S.par y (La m)with k|k
  ·exact .inl ⟨k,AR o m F k⟩
  ·obtain⟨c,e⟩:=yM (n:=s.heap.objs.size+1) k;refine .inr ⟨.inl k,c,e,?_⟩;have q:=x.cell y c e;rw[HK o m F (by show scope.names.lookup y≠_;rw[k];decide)]at q;exact q
 ·exact g.Pb.fresh (Td (x.above y c (Fe h)))
 ·unfold zu;show _=N.length;rw[ib,xa,Dr];omega
theorem GN{B:ft}{P:ua}{w:Ea}{K:W.Frag}{mg:qa->Option Value}{base:Heap}{k:Nat}{f:Addr}{name qual:qa}{c:Arguments}{body:List Stmt}{scope:Scope}{T kV l U a ct oc:Value}{O od:Option Addr}
  {G:Array (Option Value)} {N ps:List qa} {sp:Sp} (lk:K.lookup f=some ⟨oc,od,.func (W.fnOf name qual c body scope T kV l U O a ct),G⟩) (C:W.codeIn K a qual=true) (S:Ba N ps scope)
  (len:∀ vs H Q E,sp vs H Q E->vs.length=ps.length)
  (h:∀ (A:Da) (outer:List Og) (s:Shared) (H:Hp) (vs:List V) (Q:VK) (E:XK),Xd k (A.deeper (Rg qual scope s.heap.objs.size f a))->sp vs H Q E->
   ∃ t,ts (fq B P w K mg base N qual scope f a A outer s H E) body t/\t { nx:=λ_ g=>Q .Yb g,rt:=Q } (zu N vs) H) :
  mh P w K mg base B (k+1) f (W.fnOf name qual c body scope T kV l U O a ct) ps sp:=by
 refine⟨len,λA outer s H R us vs Q E D m hb r z=>?_⟩;have Z:=len _ _ _ _ z;have M:K.In s.heap:=m.mod.Dx.keeps λb o e=>(m.bs b o e).1;have F:s.heap.NoLimit:=m.mod.nolimit.keeps λb o e=>(m.bs b o e).1;have i:∀ y∈ps.zip us,scope.names.lookup y.1=some .local\/(scope.names.lookup y.1=some .cell/\((qC (s.heap.objs.size+1) scope.names []).lookup y.1).isSome=true):=λ⟨n,v⟩ hy=>by
  rcases S.par n (En hy).1 with q|q
  ·exact .inl q
  ·exact .inr ⟨q,gz _ _ _ (.inl q)⟩
 refine codeAny_call_function D.depth (M _ _ lk) rfl S.co S.gen rfl (W.codeRec_of M C) (hb _ _ _ _ ?_);refine wpAny_newFunctionEnv_cells S.kind i λenv Y s1 x=>?_;subst Y;refine⟨F.keeps x.toInCall.keep,codeAny_func ?_⟩;obtain⟨t,ht,hq⟩:=h A outer s H vs Q E (D.deeper _) z;have I:Inv (fq B P w K mg base N qual scope f a A outer s H E) [] (zu N vs) H s1:=f7 S D.hd m Z r x;refine Eb (ht [] s1 (zu N vs) H _ I hq) (λX s' j=>?_) λe s' j=>j;have p:∀ {d:St} {g:Hp} {v:V} {u:Value},Inv (fq B P w K mg base N qual scope f a A outer s H E) [] d g s'->vd v u->Q v g->CE outer P w H s Q u s':=
  fun {d g v u} J L q=>⟨v,g,J.os,J.bare,J.base,J.Pb,L,q⟩
 cases X with
 |ret u=>
  obtain⟨v,d,g,J,L,q⟩:=j;exact p J L q
 |next=>
  obtain⟨d,g,J,q⟩:=j;exact p (v:=V.Yb) (u:=eb) J rfl q
 |brk=>
  obtain⟨_,_,_,q⟩:=j;exact False.elim q
 |cont=>
  obtain⟨_,_,_,q⟩:=j;exact False.elim q
section
variable{X:Cx}{x:qa}{p pos:Se}{e:Ga}{es:List Ga}{t:TA}{id T:String}{r:List V->Hp->VK->Prop}
noncomputable def UI(r:List V->Hp->VK->Prop)(t:TA):TE:=λc H Q=>t c H λb a=>r b a Q
theorem mB(i:Wm X (.builtin id) r)(k:Gl X x)(hm:X.mg x=none)(l:bootBuiltins x=some (.builtin id))(g:PA X (e::es) t)(hn:x ≠ "__name__":=by decide)(b:(x == ("__debug__" : qa))=false:=by decide)
  (j:ma (e::es) X.env=(false,Nb e X.env)::ma es X.env:=by rfl) (c:(kc pos (ma es X.env)).any (·.1)=false:=by rfl):PE X (.Call (.Name x p) (e::es) [] pos) (UI r t):=by
 intro a s d H Q I h;refine jf (bx I k hm l ?_ hn b);exact xF (ae (g pos a s d H _ I h) λus s1 ⟨o,H1,f,n,m⟩=>i a s1 d H1 o us Q f n m) j c
theorem gH(i:Wm X (.type T) r)(k:Gl X x)(hm:X.mg x=none)(l:bootBuiltins x=some (.type T))(g:PA X (e::es) t)(hn:x ≠ "__name__":=by decide)(b:(x == ("__debug__" : qa))=false:=by decide)
  (j:ma (e::es) X.env=(false,Nb e X.env)::ma es X.env:=by rfl) (c:(kc pos (ma es X.env)).any (·.1)=false:=by rfl):PE X (.Call (.Name x p) (e::es) [] pos) (UI r t):=by
 intro a s d H Q I h;refine jf (bx I k hm l ?_ hn b);exact Oe (ae (g pos a s d H _ I h) λus s1 ⟨o,H1,f,n,m⟩=>i a s1 d H1 o us Q f n m) j c
end
end L2
namespace HT
open PySem PyProof.Rows
section
open PySem.SeqAt
open PySem.AutoSeq1 (wpAny_loadPart')
open PySem.MeetsSeq PySem.MeetsSeq2 PySem.MeetsSeq3
end
section
variable{prog:ua}{w:Ea}{A:Da}{E:Value->Shared->Prop}{s:Shared}
theorem Iw{t b:Addr}{vs ws:List Value}{Q:Value->Shared->Prop}(v:eu s.heap t vs.toArray)(hb:eu s.heap b ws.toArray)(o:vs≠[])
  (r:ws=[]->Q (.ref t) s) (u:ws≠[]->Q (.ref s.heap.objs.size) { s with heap:=s.heap.push { cls:=.type "tuple",data:=.seq (vs++ws).toArray } })
  (hsz:vs.length+ws.length<=sizeLine):wpAny (model prog w) A (He .Add (.ref t) (.ref b)) Q E s:=by
 obtain⟨⟨cls,l,data,q⟩,h,m,n,hd⟩:=id v;obtain⟨⟨k,c,j,g⟩,a,d,p,f⟩:=id hb;simp only at m hd d f;subst m hd d f;have e:vs.toArray++ws.toArray=(vs++ws).toArray:=by simp
 by_cases i:ws=[]
 ·exact av ⟨_,h,rfl⟩ ⟨_,a,rfl⟩ Bp xt qi Vh (Kh _ _)
   (tuple_addW1 t b vs.toArray ws.toArray n p l c q g (by simpa using o) (by simp[i])) ⟨h,a,r i⟩
 ·refine av ⟨_,h,rfl⟩ ⟨_,a,rfl⟩ Bp xt qi Vh (Kh _ _)
   (tuple_addW2 t b vs.toArray ws.toArray n p l c q g (by simpa using o) (by simpa using i) (by rw[na,na];exact hsz)) ⟨h,a,?_⟩
  rw[e];exact u i
noncomputable def sf(n d:Nat):Option Int->Nat
 |none=>d
 |some v=>if v<0 then (v+(n:Int)).toNat else min v.toNat n
theorem U6(n d:Nat)(hd:d<=n)(o:Option Int):sf n d o<=n:=by
 cases o with
 |none=>exact hd
 |some v=>
  show (if v<0 then (v+(n:Int)).toNat else min v.toNat n)<=n;by_cases a:v<0
  ·rw[ia a];omega
  ·rw[ja a];exact Nat.min_le_right _ _
theorem iS(v:Int)(n d:Nat):(if v<0 then max (v+(n:Int)) 0 else min v (n:Int))=((sf n d (some v):Nat):Int):=by
 show (if v<0 then max (v+(n:Int)) 0 else min v (n:Int))=(((if v<0 then (v+(n:Int)).toNat else min v.toNat n):Nat):Int);by_cases a:v<0
 ·simp only[ia a];omega
 ·simp only[ja a];omega
theorem NW(b a:Option Int)(n:Nat):Sg b a 1 (n:Int)=(((sf n 0 b:Nat):Int),((sf n n a:Nat):Int)):=by
 have c:¬ ((1:Int)<0):=by omega
 unfold Sg;simp only[c,ag];refine qS ?_ ?_
 ·cases b with
  |none=>rfl
  |some v=>exact iS v n 0
 ·cases a with
  |none=>rfl
  |some v=>exact iS v n n
theorem g9(i j:Nat):bf (i:Int) (j:Int) 1=j - i:=by
 unfold bf;have a:(1:Int) > 0:=by omega
 simp only[a,ie,Int.ediv_one];split<;>omega
theorem bQ{v:Value}{o:Option Int}{Q:Option Int->Shared->Prop}(p:nl v o)(h:Q o s):wpAny (model prog w) A (rC v) Q E s:=by
 cases p with
 |none=>exact JJ h
 |int i t=>exact slicePart_int h
theorem jK{g:Addr}{e f:Value}{a c:Option Int}{n:Nat}{Q:Int × Int × Nat->Shared->Prop}(j:s.heap.IsSliceOf g e f .none)(pl:nl e a)(k:nl f c)
  (h:Q (((sf n 0 a:Nat):Int),1,sf n n c - sf n 0 a) s):wpAny (model prog w) A (Dk (.ref g) (pure (n:Int))) Q E s:=by
 obtain⟨os,d,i,b⟩:=id j;unfold Dk sC;refine aa (aa (il d b (x:=e) rfl (aa (il d b (x:=f) rfl (aa (il d b (x:=.none) rfl (da ?_)))))));refine aa (JJ ?_);show wpAny _ _ (if ((1:Int) == 0)=true then _ else _) _ _ s;rw[ja (by decide)];refine aa (bQ pl (aa (bQ k (aa (da ?_)))));show wpAny _ _ (match Sg a c 1 (n:Int)with|(a,c)=>pure (a,(1:Int),bf a c 1)) _ _ s;rw[NW a c n];show wpAny _ _ (pure (((sf n 0 a:Nat):Int),(1:Int),bf ((sf n 0 a:Nat):Int) ((sf n n c:Nat):Int) 1)) _ _ s;rw[g9];exact da h
theorem OT(xs:Array Value)(i k:Nat):((List.range k).filterMap λ(m:Nat)=>xs[((i:Int)+(m:Int) * 1).toNat]?).toArray=((xs.toList.drop i).take k).toArray:=by
 have e:(λ(m:Nat)=>xs[((i:Int)+(m:Int) * 1).toNat]?)=λm=>xs[i+m]?:=by
  funext m;have:((i:Int)+(m:Int) * 1).toNat=i+m:=by omega
  rw[this]
 rw[e];have:=pick_run xs i k;rw[List.filterMap_map]at this;have a:((λx=>xs[x]?) ∘ λx=>i+x)=λm=>xs[i+m]?:=rfl;rw[a]at this;rw[this]
theorem ak{t k:Addr}{a:Array Value}{n o:Value}{c d:Option Int}{Q:Value->Shared->Prop}(e:eu s.heap t a)(l:s.heap.IsSliceOf k n o .none)(pl:nl n c)(u:nl o d)
  (r:¬ (sf a.size 0 c=0/\sf a.size a.size d=a.size))
  (h:Q (.ref s.heap.objs.size) { s with heap:=s.heap.push { cls:=.type "tuple",data:=.seq ((a.toList.drop (sf a.size 0 c)).take (sf a.size a.size d - sf a.size 0 c)).toArray } })
  (hsz:a.size<=sizeLine):wpAny (model prog w) A (Mi (.ref t) (.ref k)) Q E s:=by
 have b:sizeOk (.seq ((a.toList.drop (sf a.size 0 c)).take (sf a.size a.size d - sf a.size 0 c)).toArray):=by
  show ((a.toList.drop (sf a.size 0 c)).take (sf a.size a.size d - sf a.size 0 c)).toArray.size<=sizeLine;rw[na,Cm,Xv,Bb];omega
 have v:sf a.size a.size d<=a.size:=U6 _ _ (pa _) d;obtain⟨os,j,g,p⟩:=id l;have f:s.TypeIs (.ref k) "slice":=⟨os,j,g⟩
 unfold Mi;try with_reducible refine Rb ?_
 first|refine aa (da ?_)|skip
 refine aa (oA e.typeIs (by decide) ?_);refine aa (Md (name:=Vd "__getitem__") e.typeIs bc
  (Nc bc e.typeIs Rx ?_ (iz _ _)))
 show wpAny _ _ (Ek (.ref t) >>= _) _ _ s;refine aa (rS e ?_);refine aa (Nj f ?_);rw[ia (by decide)];refine aa (jK l pl u ?_);have i:¬ ((((sf a.size 0 c:Nat):Int) == 0 && (1:Int) == 1 && (sf a.size a.size d - sf a.size 0 c) == a.size)=true):=by
  intro q;rw[va,va]at q;have x:((sf a.size 0 c:Nat):Int)=0:=eq_of_beq q.1.1;have y:sf a.size a.size d - sf a.size 0 c=a.size:=eq_of_beq q.2;exact r ⟨by omega,by omega⟩
 show wpAny _ _ (if (((sf a.size 0 c:Nat):Int) == 0 && (1:Int) == 1 && (sf a.size a.size d - sf a.size 0 c) == a.size)=true then _ else _) _ _ s;rw[ja i,OT];first
  |exact aa (m:=qf _) (Sb (da ⟨_,rfl,da h⟩) b)
  |exact aa (m:=qf _) (Sb (aa (da (da ⟨_,rfl,da h⟩))) b)
  |exact aa (aa (m:=qf _) (Sb (da (da ⟨_,rfl,da h⟩)) b))
  |exact aa (aa (m:=qf _) (Sb (da ⟨_,rfl,da h⟩) b))
end
end HT
namespace L2
open PySem PySem.Spec PyProof.Rows
noncomputable abbrev TO:=St->Hp->(Option Int->Hp->Prop)->Prop
noncomputable def PO(X:Cx)(e:Option Ga)(t:TO):Prop:=
 ∀ (a:List (Addr × Obj)) (s:Shared) (σ:St) (H:Hp) (Q:Option Int->Hp->Prop),Inv X a σ H s->t σ H Q->
  wpAny (model X.prog X.w) X.A (evalPart e X.env) (λu c=>∃ o b,Inv X a σ b c/\nl u o/\Q o b) X.xe s
noncomputable def V7:TO:=λ_ H Q=>Q none H
noncomputable def T0(t:TE):TO:=λb H Q=>t b H λx a=>∃ i,x=.int i/\Q (some i) a
theorem hG{ns:List Int}:∀ {us:List Value},Pd (ns.map V.int) us->wh us ns:=by
 induction ns with
 |nil=>intro us r;rw[Af]at r;cases r;exact .nil
 |cons n ns a=>
  intro us r;rw[Ia]at r;cases r with
  |cons b c=>
   obtain⟨t,e⟩:=b;subst e;exact .cons n t (a c)
section
variable{X:Cx}{e:Ga}{te:TE}{lo hi:Option Ga}{tl th:TO}{pos p2:Se}
theorem x0:PO X none V7:=by
 intro a s b H Q I h;rw[sS];exact da ⟨none,H,I,.none,h⟩
theorem pU(h:PE X e te):PO X (some e) (T0 te):=by
 intro a s g H Q I c;rw[evalPart_some];refine ae (h a s g H _ I c) λu s1 ⟨x,H1,b,f,d⟩=>?_;obtain⟨i,rfl,q⟩:=d;obtain⟨t,rfl⟩:=f;exact⟨some i,H1,b,.int i t,q⟩
noncomputable def Mv(X:Cx)(r:V->Option Int->Option Int->Hp->VK->Prop):Prop:=
 ∀ (a:List (Addr × Obj)) (s:Shared) (σ:St) (H:Hp) (x:V) (v c d:Value) (lo hi:Option Int) (b:Addr) (Q:VK),Inv X a σ H s->vd x v->s.heap.IsSliceOf b c d .none->nl c lo->nl d hi->r x lo hi H Q->
  ∃ T e,typeLookup (.type T) "__getitem__" = pure (some (.builtin e))/\s.TypeIs v T/\wpAny (model X.prog X.w) X.A (Mi v (.ref b)) (EP X a σ Q) X.xe s
theorem Mv.or{r d:V->Option Int->Option Int->Hp->VK->Prop}(h:Mv X r)(h':Mv X d):Mv X (λx lo hi H Q=>r x lo hi H Q\/d x lo hi H Q):=by
 intro a s j H x v g i lo hi f Q I e b pl c q;rcases q with q|q
 ·exact h a s j H x v g i lo hi f Q I e b pl c q
 ·exact h' a s j H x v g i lo hi f Q I e b pl c q
noncomputable def l9(r:V->Option Int->Option Int->Hp->VK->Prop)(te:TE)(tl th:TO):TE:=λa H Q=>te a H λx b=>tl a b λl c=>th a c λu d=>r x l u d Q
theorem GT{r:V->Option Int->Option Int->Hp->VK->Prop}(z:Mv X r)(p:PE X e te)(y:PO X lo tl)(C:PO X hi th):PE X (.Subscript e (.Slice lo hi none p2) pos) (l9 r te tl th):=by
 intro a s c H Q I h;refine jz (ae (p a s c H _ I h) λv s1 ⟨x,H1,j,G,D⟩=>?_);refine wpAny_Slice (ae (y a s1 c H1 _ j D) λd s2 ⟨l,i,k,pl,E⟩=>ae (C a s2 c i _ k E) λf s3 ⟨u,g,m,pu,F⟩=>?_);rw[sS];refine da ?_;have n:Inv X a c g { s3 with heap:=s3.heap.push { cls:=.type "slice",data:=.fields #[d,f,.none] } }:=m.kept (t':=s3.toks) λb K q=>ba _ q;obtain⟨T,J,o,B,t⟩:=z a { s3 with heap:=s3.heap.push { cls:=.type "slice",data:=.fields #[d,f,.none] } } c g x v d f l u s3.heap.objs.size Q n G (pA ..) pl pu F;show wpAny (model X.prog X.w) X.A (Ft e (.Slice lo hi none p2) v (.ref s3.heap.objs.size)) (EP X a c Q) X.xe { s3 with heap:=s3.heap.push { cls:=.type "slice",data:=.fields #[d,f,.none] } };exact tail_any (ops:=[.ref s3.heap.objs.size,v]) B o t (by with_unfolding_all rfl)
noncomputable def ux(xs:List V)(lo hi:Option Int):List V:=(xs.drop (HT.sf xs.length 0 lo)).take (HT.sf xs.length xs.length hi - HT.sf xs.length 0 lo)
theorem YQ(xs:List V)(lo hi:Option Int):(ux xs lo hi).length<=xs.length:=by
 unfold ux;rw[Cm,Xv];omega
noncomputable def NO(K:W.Frag):V->Option Int->Option Int->Hp->VK->Prop:=λx lo hi H Q=>∃ a xs,x=.ref a/\Th K H a xs/\
 ¬ (HT.sf xs.length 0 lo=0/\HT.sf xs.length xs.length hi=xs.length)/\∀ p,H p=none->Q (.ref p) (upd H p (.tup (ux xs lo hi)))
theorem EW:Mv X (NO X.K):=by
 intro g s w H x v t u lo hi p Q I m i pl l h;obtain⟨a,xs,rfl,k,j,q⟩:=h;cases m;obtain⟨d,r,e,f⟩:=I.tuple k;have c:d.toArray.size=xs.length:=by rw[na];exact r.length.symm
 refine⟨"tuple",_,bc.lookup,e.typeIs,?_⟩;refine HT.ak e i pl l (by rw[c];exact j) ?_ (by rw[c];exact f);rw[c];refine⟨.ref s.heap.objs.size,_,I.laid (t':=s.toks) (o:=.tup (ux xs lo hi)) (λb n q=>ba _ q) (pa _) ?_,rfl,q _ (I.Pb.fresh (pa _))⟩;exact⟨Ya (YQ xs lo hi) f,_,(r.drop (HT.sf xs.length 0 lo)).take (HT.sf xs.length xs.length hi - HT.sf xs.length 0 lo),yF _ _⟩
noncomputable def vU(K:W.Frag):R2:=λx y H Q=>∃ a b xs c,x=.ref a/\y=.ref b/\Th K H a xs/\Th K H b c/\xs≠[]/\xs.length+c.length<=sizeLine/\
 (c=[]->Q (.ref a) H)/\(c≠[]->∀ p,H p=none->Q (.ref p) (upd H p (.tup (xs++c))))
theorem Pd.gp{xs:List V}{us:List Value}(r:Pd xs us):us=[] ↔ xs=[]:=by
 cases r with
 |nil=>simp
 |cons _ _=>simp
theorem rX:Ei X (He .Add) (vU X.K):=by
 intro g s B H x y v u Q I p r h;obtain⟨a,b,xs,t,rfl,rfl,i,hb,j,e,m,n⟩:=h;cases p;cases r;obtain⟨k,d,l,_⟩:=I.tuple i;obtain⟨f,c,p2,_⟩:=I.tuple hb;refine HT.Iw l p2 (λz=>j (d.gp.mp z)) (λz=>⟨.ref a,H,I,rfl,m (c.gp.mp z)⟩) (λz=>?_) (by rw[<-d.length,<-c.length];exact e);refine⟨.ref s.heap.objs.size,_,I.laid (t':=s.toks) (o:=.tup (xs++t)) (λb A q=>ba _ q) (pa _) ?_,rfl,n (λw=>z (c.gp.mpr w)) _ (I.Pb.fresh (pa _))⟩;exact⟨by rw[ib];exact e,_,d.append c,yF _ _⟩
end
noncomputable def az(n:Nat)(i:Int):Option Nat:=if 0<=i then (if i<n then some i.toNat else none)else if -(n:Int)<=i then some (i+n).toNat else none
noncomputable def Sm{α:Type}(xs:List α)(i:Int):Option α:=(az xs.length i).bind λj=>xs[j]?
theorem DY{n:Nat}{i:Int}{j:Nat}(h:az n i=some j):seqIndex? i n=some j/\j<n/\-(n:Int)<=i/\i<n:=by
 unfold az at h;by_cases b:0<=i
 ·rw[ia b]at h;by_cases a:i<n
  ·rw[ia a]at h;have e:i.toNat=j:=ub h;exact⟨by rw[seqIndex_of b a,e],by omega,by omega,a⟩
  ·rw[ja a]at h;cases h
 ·rw[ja b]at h;by_cases a:-(n:Int)<=i
  ·rw[ia a]at h;have e:(i+n).toNat=j:=ub h;exact⟨by rw[w9 (by omega) a,e],by omega,a,by omega⟩
  ·rw[ja a]at h;cases h
theorem wK{a:Type}{xs:List a}{i:Int}{v:a}(h:Sm xs i=some v):∃ j,seqIndex? i xs.length=some j/\xs[j]?=some v/\j<xs.length/\-(xs.length:Int)<=i/\i<xs.length:=by
 unfold Sm at h;cases e:az xs.length i with
 |none=>rw[e]at h;cases h
 |some j=>
  rw[e]at h;obtain⟨b,c,d,f⟩:=DY e;exact⟨j,b,h,c,d,f⟩
theorem sw{a:Type}{xs:List a}{j:Nat}{v:a}(h:xs[j]?=some v):Sm xs (j:Int)=some v:=by
 have b:j<xs.length:=(ka.mp h).1;have e:az xs.length (j:Int)=some j:=by
  unfold az;rw[ia (by omega),ia (by omega)];simp
 unfold Sm;rw[e];exact h
noncomputable def MO(b:Ga):Prop:=∀ o i,aq b false o i=L9 [o,i] (Mi o i)
noncomputable def nw(X:Cx)(r:R2):Prop:=
 ∀ (b a:Ga) (pins:List (Addr × Obj)) (s:Shared) (σ:St) (H:Hp) (x y:V) (v u:Value) (Q:VK),Inv X pins σ H s->vd x v->vd y u->r x y H Q->
  aq a false v u=L9 [v,u] (Mi v u)->wpAny (model X.prog X.w) X.A (Ft b a v u) (EP X pins σ Q) X.xe s
noncomputable def Sr(X:Cx)(b:String)(r:V->List V->Hp->VK->Prop):Prop:=
 ∀ (a:List (Addr × Obj)) (s:Shared) (σ:St) (H:Hp) (x:V) (xs:List V) (v:Value) (us:List Value) (Q:VK),Inv X a σ H s->vd x v->Pd xs us->r x xs H Q->
  wpAny (model X.prog X.w) X.A (call (.builtin b) (v::us)) (EP X a σ Q) X.xe s
section
variable{X:Cx}{a b:Ga}{ta tb:TE}{pos:Se}
theorem nw.or{r e:R2}(h:nw X r)(h':nw X e):nw X (λx y H Q=>r x y H Q\/e x y H Q):=by
 intro b a c s i H x y v u Q I f g q d;rcases q with q|q
 ·exact h b a c s i H x y v u Q I f g q d
 ·exact h' b a c s i H x y v u Q I f g q d
theorem Sr.or{b:String}{r c:V->List V->Hp->VK->Prop}(h:Sr X b r)(h':Sr X b c):Sr X b (λx xs H Q=>r x xs H Q\/c x xs H Q):=by
 intro a s g H x xs v f Q I e d q;rcases q with q|q
 ·exact h a s g H x xs v f Q I e d q
 ·exact h' a s g H x xs v f Q I e d q
theorem v8{r:R2}(g:nw X r)(f:PE X a ta)(hb:PE X b tb)(i:MO b):PE X (.Subscript a b pos) (lB r ta tb):=by
 intro c s m H Q I h;exact jz (tG f hb I h λv u l x y d e j k q=>g a b c l m d x y v u Q e j k q (i _ _))
noncomputable def wG(K:W.Frag):R2:=λx y H Q=>∃ p xs i v,x=.ref p/\y=.int i/\cf K H p xs/\Sm xs i=some v/\Q v H
noncomputable def CH(K:W.Frag):R2:=λx y H Q=>∃ p xs i v,x=.ref p/\y=.int i/\Th K H p xs/\Sm xs i=some v/\Q v H
theorem pY:nw X (wG X.K):=by
 intro k g a s o H x y v u Q I G J h n;obtain⟨p,xs,i,z,rfl,rfl,F,D,q⟩:=h;cases G;obtain⟨t,rfl⟩:=J;obtain⟨e,r,pl,N⟩:=I.list F;obtain⟨j,c,A,M,B,C⟩:=wK D;obtain⟨w,l,f⟩:=r.get A;have E:=r.length;have hn:=HH;have b:EP X a o Q w s:=⟨z,H,I,f,q⟩
 by_cases m:0<=i
 ·have d:i.toNat=j:=by
   rw[seqIndex_of m C]at c;exact ub c
  exact item_listR pl.isList m (by omega) (by rw[d];simpa using l) b n
 ·have d:(i+(e.toArray.size:Int)).toNat=j:=by
   rw[w9 (by omega) B]at c;rw[na,<-E];exact ub c
  exact bv (x:=w) pl.isList.typeIs qA.lookup
   (wpAny_getItem_list_neg (Q:=λr L=>r=w/\EP X a o Q r L) pl.isList (by omega) (by rw[na]<;>omega) (by omega) (by rw[d];simpa using l) ⟨rfl,b⟩) n
theorem ZT:nw X (CH X.K):=by
 intro e d a s f H x y v u Q I C D h A;obtain⟨p,xs,i,z,rfl,rfl,o,m,q⟩:=h;cases C;obtain⟨t,rfl⟩:=D;obtain⟨B,r,pl,L⟩:=I.tuple o;obtain⟨j,k,l,F,G,J⟩:=wK m;obtain⟨w,g,c⟩:=r.get l;have n:=r.length;have hn:=HH;have b:EP X a f Q w s:=⟨z,H,I,c,q⟩
 exact bv (x:=w) pl.typeIs slot_tuple_getitem.lookup
  (getItem_tuple (j:=j) (Q:=λr E=>r=w/\EP X a f Q r E) pl (by omega) (by omega) (by rw[na,<-n];exact k) (by simpa using g) ⟨rfl,b⟩) A
theorem Inv.lst{a:List (Addr × Obj)}{σ:St}{H:Hp}{s:Shared}{p:Addr}{xs:List V}(I:Inv X a σ H s)(h:H p=some (.lst xs)) :
  ∃ (its:List Value) (n:Nat),Pd xs its/\s.heap.get? p=some { cls:=.type "list",data:=.seq its.toArray n }/\xs.length<=sizeLine:=by
 obtain⟨z,its,n,r,e⟩:=I.Pb p _ h;exact⟨its,n,r,e,z⟩
theorem sZ(b a:Option Int)(n:Nat):(yh b a none n).1=((HT.sf n 0 b:Nat):Int)/\(yh b a none n).2.1=((HT.sf n n a:Nat):Int)/\(yh b a none n).2.2=1:=by
 refine⟨?_,?_,rfl⟩
 ·cases b with
  |none=>simp[yh,HT.sf]
  |some i=>
   simp only[yh,HT.sf,bu,show (1:Int) > 0 by decide,ie];by_cases h:i<0
   ·simp only[h,ie]<;>omega
   ·simp only[h,ag]<;>omega
 ·cases a with
  |none=>simp[yh,HT.sf]
  |some i=>
   simp only[yh,HT.sf,bu,show (1:Int) > 0 by decide,ie];by_cases h:i<0
   ·simp only[h,ie]<;>omega
   ·simp only[h,ag]<;>omega
theorem z4(its:List Value)(a b:Option Int):slicePick its.toArray a b none=((its.drop (HT.sf its.length 0 a)).take (HT.sf its.length its.length b - HT.sf its.length 0 a)).toArray:=by
 obtain⟨c,d,e⟩:=sZ a b its.toArray.size;unfold slicePick;rw[c,d,e];simp only[sliceRange_one,pick_run,na]<;>rfl
noncomputable def gN(K:W.Frag):V->Option Int->Option Int->Hp->VK->Prop:=λx c b H Q=>∃ a xs,x=.ref a/\cf K H a xs/\∀ p,H p=none->Q (.ref p) (upd H p (.lst (ux xs c b)))
theorem TU:Mv X (gN X.K):=by
 intro g s y H x v u w d e t Q I n i pl m h;obtain⟨a,xs,rfl,j,q⟩:=h;cases n;obtain⟨l,r,f,k⟩:=I.list j;have c:=r.length;refine⟨"list",_,qA.lookup,f.isList.typeIs,?_⟩;refine wpAny_getItem_list_slice f.isList i pl m .none (by simp) ?_ (by rw[na]<;>omega);rw[z4,<-c];refine⟨.ref s.heap.objs.size,_,I.laid (t':=s.toks) (o:=.lst (ux xs d e)) (λb p q=>ba _ q) (pa _) ?_,rfl,q _ (I.Pb.fresh (pa _))⟩;exact⟨Ya (YQ xs d e) k,_,0,(r.drop (HT.sf xs.length 0 d)).take (HT.sf xs.length xs.length e - HT.sf xs.length 0 d),ya _ rfl⟩
noncomputable def gj:V->Bool
 | .Yb=>true
 | .bl _=>true
 | .int _=>true
 | .str _=>true
 |_=>false
noncomputable def vl:V->V->Bool
 | .Yb,.Yb=>true
 | .bl a,.bl b=>a == b
 | .bl a,.int b=>(if a then 1 else 0) == b
 | .int a,.bl b=>a == (if b then 1 else 0)
 | .int a,.int b=>a == b
 | .str a,.str b=>a == b
 |_,_=>false
theorem eJ{A:Da}{s:Shared}{y x:V}{u v:Value}(f:vd y u)(c:vd x v)(g:gj y=true)(e:gj x=true):ve A s u v (vl y x):=by
 cases y with
 |Yb=>
  cases f;cases x with
  |Yb=>cases c;exact Hk _
  |bl b=>cases c;exact uS b
  |int b=>obtain⟨t,rfl⟩:=c;exact vS b t
  |str b=>obtain⟨t,rfl⟩:=c;exact wS b t
  |_=>exact absurd (show false=true from e) Va
 |bl a=>
  cases f;cases x with
  |Yb=>cases c;exact xS a
  |bl b=>cases c;exact yS a b
  |int b=>obtain⟨t,rfl⟩:=c;exact zS a b t
  |str b=>obtain⟨t,rfl⟩:=c;exact AS a b t
  |_=>exact absurd (show false=true from e) Va
 |int a=>
  obtain⟨d,rfl⟩:=f;cases x with
  |Yb=>cases c;exact BS a d
  |bl b=>cases c;exact CS a d b
  |int b=>obtain⟨t,rfl⟩:=c;exact DS a d b t
  |str b=>obtain⟨t,rfl⟩:=c;exact Qp a d b t
  |_=>exact absurd (show false=true from e) Va
 |str a=>
  obtain⟨d,rfl⟩:=f;cases x with
  |Yb=>cases c;exact ES a d
  |bl b=>cases c;exact GS a d b
  |int b=>obtain⟨t,rfl⟩:=c;exact Rp a d b t
  |str b=>obtain⟨t,rfl⟩:=c;exact HS a d b t
  |_=>exact absurd (show false=true from e) Va
 |_=>exact absurd (show false=true from g) Va
noncomputable def yw(x:V)(u:Value):Bool:=match u with
 | .none=>vl .Yb x
 | .bool b=>vl (.bl b) x
 | .int i _=>vl (.int i) x
 | .str z _=>vl (.str z) x
 |_=>false
theorem AO{x y:V}{u:Value}(r:vd y u)(f:gj y=true):yw x u=vl y x:=by
 cases y with
 |Yb=>cases r;rfl
 |bl b=>cases r;rfl
 |int i=>obtain⟨t,rfl⟩:=r;rfl
 |str z=>obtain⟨t,rfl⟩:=r;rfl
 |_=>exact absurd (show false=true from f) Va
theorem UG{x:V}:∀ {xs:List V} {us:List Value},Pd xs us->xs.all gj=true->us.any (yw x)=xs.any λy=>vl y x
 |_,_,.nil,_=>rfl
 |y::xs,u::us,.cons r t,f=>by
  rw[Pf,va]at f;rw[Oc,Oc,AO r f.1,UG t f.2]
theorem zH{A:Da}{s:Shared}{x:V}{v:Value}(c:vd x v)(b:gj x=true):∀ {xs:List V} {us:List Value},Pd xs us->xs.all gj=true->∀ u∈us,ve A s u v (yw x u)
 |_,_,.nil,_=>λu a=>by cases a
 |y::xs,u::us,.cons r t,f=>λd a=>by
  rw[Pf,va]at f;rcases Fa.mp a with rfl|a
  ·rw[AO r f.1];exact eJ r c f.1 b
  ·exact zH c b t f.2 d a
noncomputable def OD(x:V)(xs:List V):Bool:=xs.any λy=>vl y x
noncomputable def yK(K:W.Frag)(neg:Bool):R2:=λx y H Q=>∃ p xs,y=.ref p/\(cf K H p xs\/Th K H p xs)/\gj x=true/\xs.all gj=true/\Q (.bl (if neg then !OD x xs else OD x xs)) H
theorem lW:Ei X (Qc .In) (yK X.K false):=by
 intro e s j H x y v u Q I f i h;obtain⟨p,xs,rfl,b,d,fs,q⟩:=h;cases i;rcases b with b|b
 ·obtain⟨a,r,pl,g⟩:=I.list b;refine SeqAt.in_listAt (yw x) pl.isList (λw c=>zH f d r fs w (by simpa using c)) ⟨.bl _,H,I,rfl,?_⟩;rw[show a.toArray.any (yw x)=a.any (yw x) by simp,UG r fs];exact q
 ·obtain⟨a,r,pl,g⟩:=I.tuple b;refine SeqAt.in_tupleAt (yw x) pl (λw c=>zH f d r fs w (by simpa using c)) ⟨.bl _,H,I,rfl,?_⟩;rw[show a.toArray.any (yw x)=a.any (yw x) by simp,UG r fs];exact q
theorem Fw:Wm X (.builtin "len") (λxs H Q=>∃ p ys,xs=[.ref p]/\(cf X.K H p ys\/Th X.K H p ys)/\Q (.int ys.length) H):=by
 intro e s j H xs i Q I r h;obtain⟨p,ys,rfl,b,q⟩:=h;obtain⟨u,rfl,g⟩:=Bs r;cases g;have hn:=HH;rcases b with b|b
 ·obtain⟨c,d,pl,f⟩:=I.list b;have a:=d.length;exact Calls.call_len_list pl.isList (by simp only[na]<;>omega) ⟨.int ys.length,H,I.tok _,⟨s.toks+1,by rw[na,a]⟩,q⟩
 ·obtain⟨c,d,pl,f⟩:=I.tuple b;have a:=d.length;exact len_tuple pl (by simp only[na]<;>omega) ⟨.int ys.length,H,I.tok _,⟨s.toks+1,by rw[na,a]⟩,q⟩
theorem Wm.or{f:Value}{r b:List V->Hp->VK->Prop}(h:Wm X f r)(h':Wm X f b):Wm X f (λxs H Q=>r xs H Q\/b xs H Q):=by
 intro a s e H xs d Q I c q;rcases q with q|q
 ·exact h a s e H xs d Q I c q
 ·exact h' a s e H xs d Q I c q
theorem Sy:Wm X (.type "list") (λxs H Q=>∃ p ys,xs=[.ref p]/\(cf X.K H p ys\/Th X.K H p ys)/\∀ l,H l=none->Q (.ref l) (upd H l (.lst ys))):=by
 intro m s z H xs A Q I r h;obtain⟨p,ys,rfl,j,q⟩:=h;obtain⟨u,rfl,y⟩:=Bs r;cases y;have g:∀ (a:List Value),Pd ys a->ys.length<=sizeLine->∀ (c:Heap) (d:Nat),(∀ b x,s.heap.get? b=some x->c.get? b=some x)->
   c.get? s.heap.objs.size=some { cls:=.type "list",dict:=none,data:=.seq a.toArray d,slots:=#[] }->EP X m z Q (.ref s.heap.objs.size) { s with heap:=c }:=λa f k c d kp e=>
  ⟨.ref s.heap.objs.size,_,I.laid (t':=s.toks) kp (pa _) (show lj X.prog X.w _ c _ (.lst ys)from⟨k,a,d,f,e⟩),rfl,q _ (I.Pb.fresh (pa _))⟩
 rcases j with j|j
 ·obtain⟨a,f,pl,k⟩:=I.list j;have i:=f.length;obtain⟨o,v,t,n,hd⟩:=pl.isList;exact IS p (.inl rfl) v t hd (λc d kp e=>g a f k c d kp e) (by simp only[na]<;>omega)
 ·obtain⟨a,f,pl,k⟩:=I.tuple j;have i:=f.length;obtain⟨o,v,t,n,hd⟩:=pl;exact IS p (.inr rfl) v t hd (λc d kp e=>g a f k c d kp e) (by simp only[na]<;>omega)
noncomputable def RH(K:W.Frag)(T:String)(x:V)(H:Hp):Prop:=match x with
 | .str _=>T = "str"
 | .int _=>T = "int"
 | .ref p=>(T = "list"/\∃ xs,cf K H p xs)\/(T = "tuple"/\∃ o,K.lookup p=some o/\o.cls=.type "tuple"/\o.dict=none)\/
   (T = "dict"/\((∃ a,H p=some (.dK a))\/∃ a,H p=some (.dT a)))\/(T = "set"/\∃ S n,H p=some (.set S n))
 |_=>False
theorem zK{d:List (Addr × Obj)}{σ:St}{H:Hp}{s:Shared}{T:String}{x:V}{v:Value}(I:Inv X d σ H s)(r:vd x v)(ty:RH X.K T x H) :
  s.TypeIs v T/\∀ a,v=.ref a->∃ ob,s.heap.get? a=some ob/\ob.dict=none:=by
 cases x with
 |str z=>
  obtain⟨t,rfl⟩:=r;cases (show T = "str" from ty);exact⟨typeIs_str s z t,λ_ e=>nomatch e⟩
 |int i=>
  obtain⟨t,rfl⟩:=r;cases (show T = "int" from ty);exact⟨typeIs_int s i t,λ_ e=>nomatch e⟩
 |ref p=>
  cases r;rcases ty with⟨rfl,xs,j⟩|⟨rfl,o,b,h,hd⟩|⟨rfl,b⟩|⟨rfl,S,n,b⟩
  ·obtain⟨k,_,pl,_⟩:=I.list j;refine⟨pl.isList.typeIs,λa e=>?_⟩;cases e;obtain⟨o,n,e,c,hd,_⟩:=pl;exact⟨o,e,hd⟩
  ·refine⟨⟨o,I.Uj p o b,h⟩,λa e=>?_⟩;cases e;exact⟨o,I.Uj _ o b,hd⟩
  ·have z:∃ o,s.heap.get? p=some o/\o.ExactDict:=by
    rcases b with⟨g,b⟩|⟨g,b⟩
    ·obtain⟨_,_,_,_,o,_,_,e,ex,_⟩:=I.Pb p _ b;exact⟨o,e,ex⟩
    ·obtain⟨_,_,_,_,o,_,_,e,ex,_⟩:=I.Pb p _ b;exact⟨o,e,ex⟩
   obtain⟨o,e,ex⟩:=z;refine⟨⟨o,e,ex.1⟩,λa f=>?_⟩;cases f;exact⟨o,e,ex.2.1⟩
  ·obtain⟨o,_,_,_,e,ex,_⟩:=I.Pb p _ b;refine⟨⟨o,e,ex.1⟩,λa f=>?_⟩;cases f;exact⟨o,e,ex.2.1⟩
 |_=>exact False.elim ty
noncomputable def G8(K:W.Frag)(T:String)(r:V->List V->Hp->VK->Prop)(to:TE):TE:=λb H Q=>to b H λx a=>RH K T x a/\r x [] a Q
noncomputable def D5(K:W.Frag)(T:String)(r:V->List V->Hp->VK->Prop)(to:TE)(t:TA):TE:=λb H Q=>to b H λx a=>RH K T x a/\t b a λxs c=>r x xs c Q
variable{o e:Ga}{es:List Ga}{to:TE}{t:TA}{name:qa}{apos cpos:Se}{T id:String}{r:V->List V->Hp->VK->Prop}
theorem sT(l:ti T)(slot:pz T name id)(d:ql (.builtin id)=pure (.type "method_descriptor"))(hm:Sr X id r)(k:PE X o to)
  (b:Uc o name X.env (Nb o X.env)=Nb o X.env:=by rfl) (c:(apos.endLine == cpos.line)=true:=by rfl):PE X (.Call (.Attribute o name apos) [] [] cpos) (G8 X.K T r to):=by
 intro a s g H Q I h;refine cu b c (ae (k a s g H _ I h) λv s1 ⟨x,H1,e,f,ty,m⟩=>?_);obtain⟨i,j⟩:=zK e f ty;exact⟨T,id,l,slot,d,i,j,lg rfl (Es (hm a s1 g H1 x [] v [] Q e f .nil m))⟩
theorem V5(z:ti T)(slot:pz T name id)(g:ql (.builtin id)=pure (.type "method_descriptor"))(hm:Sr X id r)(w:PE X o to)(u:PA X (e::es) t)
  (c:Uc o name X.env (Nb o X.env)=Nb o X.env:=by rfl)
  (f:((kc cpos (ma (e::es) X.env)).all (λx=>!x.1) && (ko cpos (Ni [] X.env)).all (λx=>x.1.isSome)
   && decide ((e::es).length+([]:List Oj).length+(if ([]:List Oj).isEmpty then 0 else 1)<30))=true:=by rfl)
  (d:(apos.endLine == cpos.line)=true:=by rfl) (y:ma (e::es) X.env=(false,Nb e X.env)::ma es X.env:=by rfl) (b:(kc cpos (ma es X.env)).any (·.1)=false:=by rfl) :
  PE X (.Call (.Attribute o name apos) (e::es) [] cpos) (D5 X.K T r to t):=by
 intro a s i H Q I h;refine ev c f d rfl (ae (w a s i H _ I h) λv s1 ⟨x,H1,j,l,ty,A⟩=>?_);obtain⟨p,q⟩:=zK j l ty;refine⟨T,id,z,slot,g,p,q,?_⟩;have k:=u cpos a s1 i H1 _ j A;rw[y]at k ⊢;refine lg (by show (false || (kc cpos (ma es X.env)).any (·.1))=false;rw[b]<;>rfl) (uj ?_);exact ae k λus s2 ⟨D,m,n,C,B⟩=>hm a s2 i m x D v us Q n l C B
end
noncomputable def CC(X:Cx)(b:String)(r:V->List V->Hp->VK->Prop):Prop:=
 ∀ (a:List (Addr × Obj)) (s:Shared) (σ:St) (H:Hp) (x:V) (xs:List V) (v:Value) (us:List Value) (Q:VK),Inv X a σ H s->vd x v->Pd xs us->r x xs H Q->
  wpAny (model X.prog X.w) X.A (call (.builtin b) (v::us)) (EP X a σ Q) X.xe s
theorem Pd.one:∀ {x:V} {us:List Value},Pd [x] us->∃ u,us=[u]/\vd x u
 |_,_,.cons r .nil=>⟨_,rfl,r⟩
theorem Pd.two:∀ {x y:V} {us:List Value},Pd [x,y] us->∃ u v,us=[u,v]/\vd x u/\vd y v
 |_,_,_,.cons r (.cons q .nil)=>⟨_,_,rfl,r,q⟩
theorem Pd.zero:∀ {us:List Value},Pd [] us->us=[]
 |_,.nil=>rfl
theorem Pd.dropLast{xs:List V}{us:List Value}(h:Pd xs us):Pd xs.dropLast us.dropLast:=by
 induction h with
 |nil=>exact .nil
 |cons r t a=>
  cases t with
  |nil=>exact .nil
  |cons q b=>exact .cons r a
theorem Pd.eraseIdx:∀ {xs:List V} {us:List Value} (i:Nat),Pd xs us->Pd (xs.eraseIdx i) (us.eraseIdx i)
 |_,_,_,.nil=>.nil
 |_,_,0,.cons _ t=>t
 |_,_,i+1,.cons r t=>.cons r (Pd.eraseIdx i t)
theorem X7{d:Type}(l:List d):l.eraseIdx (l.length - 1)=l.dropLast:=by
 induction l with
 |nil=>rfl
 |cons a r c=>
  cases r with
  |nil=>rfl
  |cons b r=>
   have e:(a::b::r).length - 1=((b::r).length - 1)+1:=by
    have f:(a::b::r).length=r.length+2:=rfl;have g:(b::r).length=r.length+1:=rfl;omega
   rw[e,zq,c];all_goals rfl
section
variable{X:Cx}{pins:List (Addr × Obj)}{σ:St}{H:Hp}{s:Shared}{l b:Addr}{xs ys zs:List V}
theorem Inv.Ew{its its':List Value}{n:Nat}{f:Array Value->Array Value}{t':Nat}(I:Inv X pins σ H s)(a:H l=some (.lst xs))
  (e:s.heap.get? l=some { cls:=.type "list",data:=.seq its.toArray n }) (b:f its.toArray=its'.toArray) (d:Pd ys its') (hz:ys.length<=sizeLine) :
  Inv X pins σ (upd H l (.lst ys)) { s with heap:=s.heap.update l (Ze f),toks:=t' }:=by
 have q:=x9 e f;rw[b]at q;refine I.write (x:=l) (e:=l) (by rw[a];exact trivial) (.inl rfl) (λg u hb c=>(og s.heap (Ze f) (Me hb)).trans c) ⟨_,q⟩ ?_;exact⟨hz,its',_,d,q⟩
theorem Inv.Oy{its:List Value}{t':Nat}(I:Inv X pins σ H s)(a:Pd ys its)(hz:ys.length<=sizeLine) :
  Inv X pins σ (upd H s.heap.objs.size (.lst ys)) { s with heap:=s.heap.push { cls:=.type "list",data:=.seq its.toArray },toks:=t' }:=
 I.laid (λ_ _ q=>ba _ q) (pa _) ⟨hz,its,0,a,ya _ rfl⟩
theorem Inv.fresh(I:Inv X pins σ H s):H s.heap.objs.size=none:=I.Pb.fresh (pa _)
theorem Inv.zr(I:Inv X pins σ H s)(a:H l=some (.lst xs)):xs.length<=sizeLine/\∃ (its:List Value) (n:Nat),Pd xs its/\xs.length=its.length/\s.heap.get? l=some { cls:=.type "list",data:=.seq its.toArray n }:=by
 obtain⟨z,its,n,r,e⟩:=I.Pb l _ a;exact⟨z,its,n,r,r.length,e⟩
theorem W6{n:Nat}(h:n<=sizeLine):jh n=false:=by
 unfold jh;exact Cb (by omega)
end
section
variable{X:Cx}
noncomputable def PH:V->List V->Hp->VK->Prop:=λx a H Q=>∃ l xs y,x=.ref l/\a=[y]/\H l=some (.lst xs)/\xs.length<sizeLine/\Q .Yb (upd H l (.lst (xs++[y])))
theorem Dz:CC X "list.append" PH:=by
 intro c s o H x m v k Q I g f h;obtain⟨l,xs,y,rfl,rfl,b,j,q⟩:=h;cases g;obtain⟨u,rfl,d⟩:=f.one;obtain⟨z,a,n,r,i,e⟩:=I.zr b;refine Er F.slot_list_append ⟨_,e,rfl⟩ F.entry_list_append (F.args_list_append_2 _ _) (PySem.list_append l a.toArray n u (by rw[na];omega)) ⟨e,?_⟩;refine⟨.Yb,_,I.Ew (its':=a++[u]) b e (by simp) (r.append (.cons d .nil)) ?_,rfl,q⟩;rw[ib,jj];omega
noncomputable def cQ:V->List V->Hp->VK->Prop:=λx a H Q=>∃ l b xs zs,x=.ref l/\a=[.ref b]/\H l=some (.lst xs)/\H b=some (.lst zs)/\xs.length+zs.length<=sizeLine/\Q .Yb (upd H l (.lst (xs++zs)))
theorem X3:CC X "list.extend" cQ:=by
 intro i s G H x D v C Q I y w h;obtain⟨l,b,xs,zs,rfl,rfl,g,k,B,q⟩:=h;cases y;obtain⟨u,rfl,t⟩:=w.one;cases t;obtain⟨z,c,n,r,A,e⟩:=I.zr g;obtain⟨E,a,o,p,m,j⟩:=I.zr k;have f:c.toArray.size+a.toArray.size<=sizeLine:=by rw[na,na];omega
 have d:¬ (!c.toArray.isEmpty && jh (c.toArray.size+a.toArray.size))=true:=by
  rw[W6 f,Sx];exact Va
 refine Er F.slot_list_extend ⟨_,e,rfl⟩ F.entry_list_extend (F.args_list_extend_2 _ _)
  (AutoSeq1.list_extend_list_list_0 l c.toArray n b a.toArray o d (by rw[na];omega) (by omega)) ⟨e,j,?_⟩
 refine⟨.Yb,_,I.Ew (its':=c++a) g e (by simp) (r.append p) ?_,rfl,q⟩;rw[ib];omega
noncomputable def f9:V->List V->Hp->VK->Prop:=λx a H Q=>∃ l xs y,x=.ref l/\a=[]/\H l=some (.lst xs)/\xs[xs.length - 1]?=some y/\Q y (upd H l (.lst xs.dropLast))
theorem yia:CC X "list.pop" f9:=by
 intro f s w H x t v p Q I o m h;obtain⟨l,xs,y,rfl,rfl,d,j,q⟩:=h;cases o;have b:=m.zero;subst b;obtain⟨z,a,n,r,g,e⟩:=I.zr d;obtain⟨u,i,k⟩:=r.get j;have c:a.toArray[a.toArray.size - 1]?=some u:=by
  show a.toArray[a.length - 1]?=some u;rw[<-Xc,<-g];exact i
 refine Er F.slot_list_pop ⟨_,e,rfl⟩ F.entry_list_pop (F.args_list_pop_1 _) (MeetsSeq.list_pop_last l a.toArray n u c (by rw[na];omega)) ⟨e,?_⟩;refine⟨y,_,I.Ew (its':=a.dropLast) d e ?_ r.dropLast ?_,k,q⟩
 ·show a.toArray.eraseIdxIfInBounds (a.toArray.size - 1)=a.dropLast.toArray;rw[na,List.eraseIdxIfInBounds_toArray,X7]
 ·rw[List.length_dropLast];omega
noncomputable def Zo:V->List V->Hp->VK->Prop:=λx a H Q=>∃ l xs,x=.ref l/\a=[]/\H l=some (.lst xs)/\Q .Yb (upd H l (.lst []))
theorem rq:CC X "list.clear" Zo:=by
 intro d s m H x k v j Q I g f h;obtain⟨l,xs,rfl,rfl,c,q⟩:=h;cases g;have a:=f.zero;subst a;obtain⟨z,b,n,r,i,e⟩:=I.zr c;refine Er F.slot_list_clear ⟨_,e,rfl⟩ F.entry_list_clear (F.args_list_clear_1 _) (AutoSeq1.list_clear_list_0 l b.toArray n (by rw[na];omega)) ⟨e,?_⟩;exact⟨.Yb,_,I.Ew (its':=[]) (ys:=[]) c e rfl .nil (ci _),rfl,q⟩
noncomputable def L8:R2:=λx y H Q=>∃ l b xs zs,x=.ref l/\y=.ref b/\H l=some (.lst xs)/\H b=some (.lst zs)/\xs.length+zs.length<=sizeLine/\∀ p,H p=none->Q (.ref p) (upd H p (.lst (xs++zs)))
theorem TQ:Ei X (He .Add) L8:=by
 intro d s C H x y v u Q I o p h;obtain⟨l,b,xs,zs,rfl,rfl,j,i,w,q⟩:=h;cases o;cases p;obtain⟨z,c,n,r,t,e⟩:=I.zr j;obtain⟨B,a,A,m,k,f⟩:=I.zr i;refine PySem.P.add_list e f ?_ (by rw[na,na];omega);have g:c.toArray++a.toArray=(c++a).toArray:=by simp
 rw[g];exact⟨.ref _,_,I.Oy (t':=s.toks) (r.append m) (by rw[ib];omega),rfl,q _ I.fresh⟩
end
section
variable{prog:ua}{w:Ea}{A:Da}{E:Value->Shared->Prop}{s:Shared}
set_option maxRecDepth 100000 in
end
section
variable{X:Cx}
end
end L2
namespace Att
open PySem PySem.W PySem.Calls PyProof.Rows
theorem FU{P:TJ}{h:Heap}:∀ (ns:List Int) (vs:List Value),WellAll P h vs (ns.map JF)->wh vs ns:=by
 intro ns;induction ns with
 |nil=>
  intro vs w;rw[Af]at w;cases w;exact .nil
 |cons n ns c=>
  intro vs w;rw[Ia]at w;cases w with
  |cons a b=>
   cases a;exact .cons _ _ (c _ b)
theorem VY{l:M9}{n:Nat}(hn:l.most=some n){P:TJ}{h:Heap}{args:List WData}{c:List Value}
  (b:l.row.toRowW.claim.pre args=true) (k:WellAll P h c args) :
  ∃ a vs ns,c=[nb a]/\args=[WData.list (ns.map JF)]/\h.get? a=some { cls:=.type "list",data:=.seq vs.toArray }/\wh vs ns/\ns.length<=n:=by
 have j:WShape.hasAll [] args [.list .int]=true:=(pre_splitW b).1;have m:l.pre.holds [] { args:=args }=true:=(pre_splitW b).2;obtain⟨d,r,rfl,o,p⟩:=hasAllW_cons j;obtain rfl:=hasAllW_nil p;obtain⟨xs,rfl,s⟩:=hasW_list o;obtain⟨ns,rfl⟩:=items_int s;have f:ns.length<=n:=by
  unfold OpenLaw.pre at m;have g:(WTm.not (.lt (.lit (.int (n:Int))) (.len (.arg 0)))).holds [] { args:=[.list (ns.map .int)] }=true:=by
   have g:=(holds_andW m).1;rw[hn]at g;exact g
  have i:=condW_of g (w_not (w_lt w_lit (w_len_list (w_arg rfl))));rw[xa]at i;refine Nat.le_of_not_lt λq=>?_;have u:(n:Int)<((ns.length:Nat):Int):=by omega
  first
   |(rw[Nd u]at i;exact absurd i (by decide))
   |(simp at i;omega)
 cases k with
 |cons v w=>
  cases w;cases v with
  |list t e=>exact⟨_,_,ns,rfl,rfl,t,FU ns _ e,f⟩
theorem X6(l:M9)(args:List WData):l.row.toRowW.claim.post args (.bool true) args=true:=
 postW_of (r:=l.row.toRowW) (X:=(true == true))
  (show HA [] (.bool true) .bool=true by first|rfl|decide|simp[HA,WShape.arms,WShape.armsAll])
  (show (WTm.eq .res (.lit (.bool true))).value [] { args:=args,res:=some (.bool true),after:=args }=some (.bool (true == true))from w_eq_bool (w_res rfl) w_lit) rfl
theorem yl{l:M9}{n:Nat}{q:ua}{c:List qa}{x:(qa->Option Value)->Heap->Prop}{y:Ea->Heap->Prop}{d:DefRec}
  (hn:l.most=some n) (s:d.params.defaults=[])
  (call:∀ (w:Ea) (s₀ b:Shared) (mg mb:qa->Option Value) (h:Addr) (o:Obj) (v cd e:Value) (a:Addr) (vs:List Value) (ns:List Int),
   Ground q c [] x w s₀ mg mb b.heap->y w b.heap->
   b.heap.get? h=some o->o.data=.func (docDef d.name d.params d.body d.scope v cd e)->b.heap.CodeRec cd d.name->mg d.name=some (.ref h)->
   b.heap.get? a=some { cls:=.type "list",data:=.seq vs.toArray }->wh vs ns->ns.length<=n->b.gens=#[]->
   codeAny (model l.prog w) Tg (.call (.ref h) ⟨[.ref a],[]⟩) (λr m=>r=.ok (.ret (.bool true))/\OldK b.heap m.heap/\m.os=b.os/\Pg m.gens) b) :
  WalkO q c x y l.row.toRowW d [] (λf vs=>PySem.call f vs):=by
 intro w s₀ b mg mb G Y h o v cd e D kV K hd p A t I z C N k B M u J;obtain rfl:D=.none:=Dflts.none A s;obtain rfl:kV=.none:=Dflts.noKw A;obtain⟨a,vs,ns,rfl,rfl,j,g,i⟩:=VY hn k u;refine enter_call (kf (call w s₀ b mg mb h o v cd e a vs ns G Y K (fd_plain hd) p t j g i I) λr m L=>?_);obtain⟨rfl,E,F,H⟩:=L;exact⟨.inl ⟨.bool true,.bool true,[],rfl,λ_=>rfl,.bool true,X6 l _,λ_=>⟨List.Pairwise.nil,λ_ hm=>(nomatch hm)⟩⟩,E,F,H⟩
section
variable{prog:ua}{w:Ea}{A:Da}{E:Value->Shared->Prop}{s:Shared}{K:Frag}
noncomputable def Y9(h:Heap)(L d:Addr):List (Addr × Obj):=(List.range h.objs.size).filterMap λa=>if a=L\/a=d then none else (h.get? a).map λo=>(a,o)
end
end Att
namespace L2
open PySem PySem.Spec PyProof.Rows
theorem Pz:∀ {vs:List Value} {ns:List Int},wh vs ns->Pd (ns.map V.int) vs
 |_,_,.nil=>.nil
 |_,_,.cons n t h=>.cons ⟨t,rfl⟩ (Pz h)
noncomputable def ZH(H:Hp):Prop:=∀ b,H b=none\/∃ o xs,H b=some (.qb o (.lst xs))
theorem QT{P:ua}{w:Ea}{K:W.Frag}{mg mb:qa->Option Value}{N:ft}{k:Nat}{E a:Addr}{R:Yd}{x:qa}{sp:Sp}{s₁:Shared}{vs:List Value}{ns:List Int}
  (O:K.In s₁.heap) (t:s₁.heap.Ns mainGlobals mg) (hb:s₁.heap.Ns builtinsNs mb) (I:∀ x:qa,x ≠ "__name__"->mb x=bootBuiltins x) (p:s₁.heap.NoLimit) (hg:s₁.gens=#[])
  (C:s₁.heap.get? a=some { cls:=.type "list",data:=.seq vs.toArray }) (U:wh vs ns) (X:ns.length<=sizeLine) (hr:Xd k Tg)
  (F:∀ base:Heap,K.In base->base.Ns mainGlobals mg->mh P w K mg base N k E R [x] sp) (i:∀ (s:Shared) (u:Value),Zf s R ⟨[u],[]⟩ [(x,u)])
  (L:∀ H:Hp,ZH H->cf K H a (ns.map V.int)->sp [.ref a] H (λv _=>v=.bl true) λ_ _ _=>False)
  (G:∀ H e s',N [] H s₁ (λ_ _ _=>False) e s'->False) :
  codeAny (model P w) Tg (.call (.ref E) ⟨[.ref a],[]⟩) (λr s'=>r=.ok (.ret (.bool true))/\OldK s₁.heap s'.heap/\s'.os=s₁.os/\Pg s'.gens) s₁:=by
 have Y:=Pz U;have A:=U.length;have g:∀ H:Hp,ZH H->cf K H a (ns.map V.int)->yi P w H s₁.heap->(∀ b,H b≠none->b=a)->(H a≠none->K.lookup a=none)->
   codeAny (model P w) Tg (.call (.ref E) ⟨[.ref a],[]⟩) (λr s'=>r=.ok (.ret (.bool true))/\OldK s₁.heap s'.heap/\s'.os=s₁.os/\Pg s'.gens) s₁:=by
  intro H T hS Pb S hK;have c:∀ {b:Addr} {o:Obj},s₁.heap.get? b=some o->H b=none->(Xr s₁.heap H).get? b=some o:=λe n=>CP e n;have M:∀ {b:Addr} {o:Obj} {j:Array ju} {ep:Nat},s₁.heap.get? b=some o->o.data=.dict j ep->H b=none:=fun {b o j ep} e d=>by
   cases q:H b with
   |none=>rfl
   |some u=>
    have D:b=a:=S b (by rw[q];simp);subst D;rw[C]at e;cases e;have Z:Data.seq vs.toArray _=Data.dict j ep:=d;cases Z
  have f:∀ {b:Addr} {m:qa->Option Value},s₁.heap.Ns b m->(Xr s₁.heap H).Ns b m:=fun {b m} ⟨o,j,ep,e,d,r⟩=>⟨o,j,ep,c e (M e d),d,r⟩
  have l:K.In (Xr s₁.heap H):=λb o e=>c (O b o e) (by
   cases q:H b with
   |none=>rfl
   |some u=>
    have D:b=a:=S b (by rw[q];simp);subst D;rw[hK (by rw[q];simp)]at e;cases e)
  have hM:Mod K mg (Xr s₁.heap H):=⟨l,f t,⟨mb,f hb,I⟩,let ⟨mc,h1,h2⟩:=p;⟨mc,f h1,h2⟩⟩
  have e0:Nl P w K mg (Xr s₁.heap H) Tg [] s₁ H:=⟨rfl,hM,λb o e=>aL e,Cr (oP _ _),trivial,λb hb=>absurd (show b∈([]:List Addr)from hb) (by simp),Pb,.of_eq hg⟩
  refine kf ((F _ l (f t)).run Tg [] s₁ H ⟨[.ref a],[]⟩ [.ref a] [.ref a] _ _ hr e0 (i s₁ (.ref a)) (.cons rfl .nil) (L H T hS)) λr s' h=>?_;cases r with
  |error e=>exact(G H e s' h).elim
  |ok fl=>
   cases fl with
   |next=>exact False.elim h
   |brk=>exact False.elim h
   |cont=>exact False.elim h
   |ret u=>
    obtain⟨v,H',os,bare,un,y,r',q⟩:=h;have q':v=.bl true:=q;subst q';obtain rfl:u=wf true:=r';refine⟨rfl,OldK.of_keep λb o e=>?_,os,bare⟩;cases q:H b with
    |none=>exact un.keep b o e q (by intro z;exact absurd (show b∈([]:List Addr)from z) (by simp)) (by simp)
    |some u=>
     rcases T b with z|⟨ob,xs,z⟩
     ·rw[q]at z;cases z
     ·have z2:=un.nh b ob _ z;obtain⟨Q,_⟩:=Pb b _ z;obtain⟨e2,_⟩:=y b _ z2;rw[e]at Q;cases Q;exact e2
 cases J:K.lookup a with
 |some o=>
  have e:=O a o J;rw[C]at e;cases e;refine g (λ_=>none) (λ_=>.inl rfl) (.inr ⟨_,vs.toArray,_,J,rfl,rfl,rfl,by rw[na,A];exact X,by simpa using Y⟩) (λb u z=>by have B:(none:Option HO)=some u:=z;cases B) (λb z=>absurd rfl z) λz=>absurd rfl z
 |none=>
  refine g (λb=>if b=a then some (.qb { cls:=.type "list",data:=.seq vs.toArray } (.lst (ns.map V.int)))else none) (λb=>?_) (.inl (.inr ⟨{ cls:=.type "list",data:=.seq vs.toArray },ia rfl⟩)) (λb u z=>?_) (λb z=>?_) λ_=>J
  ·by_cases hb:b=a
   ·exact .inr ⟨_,_,ia hb⟩
   ·exact .inl (ja hb)
  ·by_cases hb:b=a
   ·have B:=(ia hb).symm.trans z;cases B;subst hb;exact⟨C,by rw[xa];exact X,vs,_,Y,C⟩
   ·have B:=(ja hb).symm.trans z;cases B
  ·by_cases hb:b=a
   ·exact hb
   ·exact absurd (ja hb) z
noncomputable abbrev Ca{K:W.Frag}{h:Heap}(_:K.In h):W.Frag:=K
theorem ydp{l:W.OpenLaw}{n k:Nat}{q:ua}{j:List qa}{L:(qa->Option Value)->Heap->Prop}{I:Ea->Heap->Prop}{d:DefRec}{K:TJ->W.Frag}{D:Ea->ft}{sp:Ea->Sp}{x:qa}
  (hn:l.most=some n) (B:n<=sizeLine) (z:d.params.defaults=[]) (U:Xd k Tg)
  (Q:∀ (w:Ea) (h:Heap),I w h->(K w.params).In h)
  (F:∀ (w:Ea) (mg:qa->Option Value) (r:Addr) (h:Heap),(K w.params).In h->h.Ns mainGlobals mg->mg d.name=some (.ref r)->
   ∃ t:Yd,(∀ (s:Shared) (u:Value),Zf s t ⟨[u],[]⟩ [(x,u)])/\
    ∀ base:Heap,(K w.params).In base->base.Ns mainGlobals mg->mh l.prog w (K w.params) mg base (D w) k r t [x] (sp w))
  (C:∀ (w:Ea) (H:Hp) (a:Addr) (ns:List Int),ns.length<=n->ZH H->cf (K w.params) H a (ns.map V.int)->sp w [.ref a] H (λv _=>v=.bl true) λ_ _ _=>False)
  (y:∀ (w:Ea) (H:Hp) (s:Shared) (e:Value) (s':Shared),D w [] H s (λ_ _ _=>False) e s'->False) :
  W.WalkO q j L I l.row.toRowW d [] (λf J=>PySem.call f J):=by
 refine Att.yl hn z λw s₀ p mg mb r o pm X M a J ns G Y Z hd R A m i c S=>?_;have E:=Q w _ Y;obtain⟨t,hb,N⟩:=F w mg r _ E G.T.g A;exact QT E G.T.g G.T.b G.T.builtins G.T.nolimit S m i (Ya c B) U N hb (λH O P=>C w H a ns c O P) λH e s'=>y w H p e s'
noncomputable def Ln(s:Stmt):Arguments:=match s with
 | .FunctionDef _ a _ _ _ _ _ _ _ _=>a
 |_=>{ posonlyargs:=[],args:=[],vararg:=none,kwonlyargs:=[],kw_defaults:=[],kwarg:=none,defaults:=[] }
noncomputable def Kj(s:Stmt):List Stmt:=match s with
 | .FunctionDef _ _ b _ _ _ _ _ _ _=>b
 |_=>[]
noncomputable def qd(s:Stmt):Scope:=match s with
 | .FunctionDef _ _ _ _ _ _ sc _ _ _=>sc
 |_=>{ kind:=.function,names:=[],isGenerator:=false,isCoroutine:=false }
noncomputable abbrev UK:ft:=λ_ _ _ _ _ _=>False
noncomputable abbrev E0:XK:=λ_ _ _=>False
structure fx(K:W.Frag)(x qual:qa)(st:Stmt)(f:Addr)(fd:Yd):Prop where
 ex:∃ (oc:Value) (od:Option Addr) (kV doc pm:Value) (an:Option Addr) (cdv ct:Value) (osl:Array (Option Value)),
  fd=W.fnOf x qual (Ln st) (Kj st) (qd st) .none kV doc pm an cdv ct/\K.lookup f=some ⟨oc,od,.func fd,osl⟩/\W.codeIn K cdv qual=true
 kp:W.keepIn K (.ref f)=true
section
variable{P:ua}{w:Ea}{K:W.Frag}{mg:qa->Option Value}{base:Heap}
theorem fx.ok{x qual:qa}{c:Stmt}{f:Addr}{g:Yd}{N ps:List qa}{k:Nat}{sp:Sp}(F:fx K x qual c f g)(S:Ba N ps (qd c))(len:∀ vs H Q E,sp vs H Q E->vs.length=ps.length)
  (b:∀ (a:Value) (A:Da) (outer:List Og) (s:Shared) (H:Hp) (vs:List V) (Q:VK) (E:XK),Xd k (A.deeper (Rg qual (qd c) s.heap.objs.size f a))->sp vs H Q E->
   ∃ t,ts (fq UK P w K mg base N qual (qd c) f a A outer s H E).Wn (Kj c) t/\t { nx:=λ_ i=>Q .Yb i,rt:=Q } (zu N vs) H):mh P w K mg base UK (k+1) f g ps sp:=by
 obtain⟨p,r,kV,j,u,o,a,ct,n,rfl,m,d⟩:=F.ex;refine GN m d S len λA outer s H vs Q E l e=>?_;obtain⟨t,h,q⟩:=b a A outer s H vs Q E l e;exact⟨t,h.Wn,q⟩
theorem fx.binds{x qual:qa}{c:Stmt}{f:Addr}{g:Yd}{ps:List qa}(F:fx K x qual c f g)
  (h:∀ (kV b e:Value) (d:Option Addr) (a ct:Value) (us:List Value),us.length=ps.length->bindArgs (W.fnOf x qual (Ln c) (Kj c) (qd c) .none kV b e d a ct) ⟨us,[]⟩=pure (ps.zip us)):pr K g ps []:=by
 obtain⟨l,m,kV,b,e,d,a,ct,j,rfl,k,i⟩:=F.ex;exact .all (h kV b e d a ct)
theorem HL{x qual:qa}{d:Stmt}{f:Addr}{i:Value}{od g:Option Addr}{e:Array (Option Value)}{kV b h a ct:Value}(l:K.lookup f=some ⟨i,od,.func (W.fnOf x qual (Ln d) (Kj d) (qd d) .none kV b h g a ct),e⟩)
  (c:W.codeIn K a qual=true) (k:W.keepIn K (.ref f)=true):fx K x qual d f (W.fnOf x qual (Ln d) (Kj d) (qd d) .none kV b h g a ct):=⟨⟨i,od,kV,b,h,g,a,ct,e,rfl,l,c⟩,k⟩
end
theorem lN{n:Nat}(h:n<=1000):n<sizeLine:=fv h (by decide)
section
variable{X:Cx}
end
noncomputable def Hv(H a:Hp):Prop:=∀ b o,H b=some o->a b=some o
theorem Hv.refl(H:Hp):Hv H H:=λ_ _ h=>h
theorem Hv.trans{H d H2:Hp}(a:Hv H d)(b:Hv d H2):Hv H H2:=λc o h=>b c o (a c o h)
theorem Hv.free{H a:Hp}(e:Hv H a){l:Addr}(h:a l=Option.none):H l=Option.none:=by
 cases q:H l with
 |none=>rfl
 |some o=>
  rw[e l o q]at h;cases h
theorem Hv.seq{K:W.Frag}{H b:Hp}{a:Addr}{xs:List V}(e:Hv H b)(h:cf K H a xs):cf K b a xs:=by
 rcases h with(h|⟨o,h⟩)|h
 ·exact .inl (.inl (e _ _ h))
 ·exact .inl (.inr ⟨o,e _ _ h⟩)
 ·exact .inr h
end L2
namespace L4
open PySem PySem.Spec PyProof.Rows L2
theorem oN{c:Type}(a:c):∃ b,b=a:=⟨a,rfl⟩
noncomputable def hide{b:Type}(a:b):b:=Classical.choose (oN a)
@[simp] theorem Mp{b:Type}(a:b):hide a=a:=y9 (oN a)
inductive D where
 |Yb|bl (b:Bool)|int (i:Int)|str (x:qa)|tup (xs:List D)|cg (ns:List Int)|ref (n:Nat)
 |lst (xs:List D)|Na (ks:List Key) (xs:List D)|obj (c:Nat) (ns:List qa) (xs:List D)|Wo (c:Nat)|gt (ss:List qa)
inductive Ob where
 |lst (xs:List D)
 |Na (kvs:List (Key × D))
 |ins (c:Nat) (fs:List (qa × D))
 |Kf (kvs:List (Key × D))
 |Kk (ks:List (List Key))
noncomputable abbrev Oa:=List Ob
noncomputable abbrev St:=L2.St
noncomputable abbrev Ev:=List (Option D)
structure Xn where
 cls:Nat
inductive Out(α:Type) where
 |ok (a:α) (σ:Oa)
 |ex (x:Xn) (σ:Oa)
 |bad
noncomputable abbrev M(a:Type):=Oa->Out a
noncomputable def ret{α:Type}(a:α):M α:=λb=>.ok a b
noncomputable def bad{α:Type}:M α:=λ_=>.bad
noncomputable def Out.bind{c β:Type}(o:Out c)(k:c->M β):Out β:=match o with
 | .ok a b=>k a b
 | .ex x b=>.ex x b
 | .bad=>.bad
noncomputable def Mc{a β:Type}(m:M a)(k:a->M β):M β:=λb=>(m b).bind k
inductive Fl where
 |nx (ρ:Ev)|rt (d:D)|bk (ρ:Ev)|ct (ρ:Ev)|xc (ρ:Ev) (x:Xn)
structure Tab where
 P:Addr
 line:Int
 col:Int
 qual:qa
structure Tx where
 Im:List Tab
 bm:Addr
structure Tb where
 K:W.Frag
 ca:Nat->Addr
 tx:Tx
noncomputable def Xt(q:qa)(c:Addr):Heap->Prop:=λh=>∃ o a t,h.get? c=some o/\o.data=.fields a/\a[1]?=some (.str q t)
noncomputable def CD(bm:Addr):Heap->Prop:=λh=>∃ o,h.get? bm=some o/\o.cls=.type "module"/\o.dict=some builtinsNs/\o.data=.plain
noncomputable def js(T:Tb)(μ:List Addr)(H:Hp):Prop:=∀ t∈T.tx.Im,(T.tx.bm ∉ μ/\∃ b,H T.tx.bm=some (.qb b (.ext (CD T.tx.bm))))/\t.P ∉ μ/\∃ a,H t.P=some (.mm a)/\(a=#[]\/∃ c,a=#[rawInt t.line,rawInt t.col,.ref c]/\c ∉ μ/\H c=some (.ext (Xt t.qual c)))
theorem js.grow{T:Tb}{μ:List Addr}{H H':Hp}(h:js T μ H)(k:∀ b u,H b=some u->H' b=some u):js T μ H':=λt j=>by
 obtain⟨⟨a,l,d⟩,f,m,g,i⟩:=h t j;exact⟨⟨a,l,k _ _ d⟩,f,m,k _ _ g,i.imp id λ⟨c,e,n,z⟩=>⟨c,e,n,k _ _ z⟩⟩
theorem js.sub{T:Tb}{μ μ':List Addr}{H:Hp}(h:js T μ' H)(k:∀ b∈μ,b∈μ'):js T μ H:=λt j=>by
 obtain⟨⟨a,d⟩,f,l,g,i⟩:=h t j;exact⟨⟨λz=>a (k _ z),d⟩,λz=>f (k _ z),l,g,i.imp id λ⟨c,e,n,z⟩=>⟨c,e,λy=>n (k _ y),z⟩⟩
theorem js.more{T:Tb}{μ:List Addr}{H:Hp}{p:Addr}(h:js T μ H)(j:H p=none):js T (μ++[p]) H:=λt k=>by
 obtain⟨⟨f,l,a⟩,g,m,d,i⟩:=h t k;have ne:∀ {b:Addr} {u:HO},H b=some u->b ∉ μ->b ∉ μ++[p]:=fun {b u} e n z=>(Uf.mp z).elim n λy=>by
  have o:b=p:=by simpa using y
  subst o;rw[j]at e;cases e
 exact⟨⟨ne a f,l,a⟩,ne d g,m,d,i.imp id λ⟨c,e,n,z⟩=>⟨c,e,ne z n,z⟩⟩
theorem js.out{T:Tb}{μ:List Addr}{H H':Hp}{a:Addr}(h:js T μ H)(m:∀ b,b≠a->H' b=H b)(l:a∈μ\/∃ kvs,H a=some (.dK kvs)):js T μ H':=λt o=>by
 obtain⟨⟨f,p,i⟩,g,q,j,k⟩:=h t o;have ne:∀ {b:Addr} {u:HO},H b=some u->b ∉ μ->(∀ kvs,u≠.dK kvs)->H' b=some u:=fun {b u} e n d=>by
  rw[m b (λz=>by
   subst z;rcases l with y|⟨kvs,y⟩
   ·exact n y
   ·rw[e]at y;cases y;exact d kvs rfl)]
  exact e
 exact⟨⟨f,p,ne i f (λ_ z=>by cases z)⟩,g,q,ne j g (λ_ z=>by cases z),k.imp id λ⟨c,e,n,z⟩=>⟨c,e,n,ne z n (λ_ y=>by cases y)⟩⟩
noncomputable def Tb.cv(T:Tb)(x:Xn):Value:=.ref (T.ca x.cls)
noncomputable def Iz(c:Nat):Option Nat:=if c<100 then none else some (c / 100 - 1)
noncomputable def qE(C a:Addr):Heap->Prop:=λh=>∃ o,h.get? a=some o/\o.cls=.ref C
noncomputable def Ov(C:Addr)(dd:Option Addr)(a:Addr):Heap->Prop:=λh=>∃ o,h.get? a=some o/\o.cls=.ref C/\∀ b,dd=some b->o.dict=some b/\∃ c,o.data=.fields c
noncomputable def zB(b:Addr)(n:Nat):Heap->Prop:=λh=>∃ o,h.get? b=some o/\∃ a c t,o.data=.dict a c/\StrKeys a/\nsFind a "pot" = some (.int n t)
noncomputable def NC(K:W.Frag)(H:Hp)(a:Addr)(ns:List Int):Prop:=
 (∃ o,H a=some (.qb o (.lst (ns.map V.int))))\/
  ∃ (o:Obj) (b:Array Value) (n:Nat),K.lookup a=some o/\o.cls=.type "list"/\o.dict=none/\o.data=.seq b n/\b.size<=sizeLine/\Pd (ns.map V.int) b.toList
theorem NC.seq{K:W.Frag}{H:Hp}{a:Addr}{ns:List Int}(h:NC K H a ns):cf K H a (ns.map V.int):=by
 rcases h with⟨o,h⟩|h
 ·exact .inl (.inr ⟨o,h⟩)
 ·exact .inr h
noncomputable def UB(K:W.Frag)(a:Addr)(ss:List qa):Prop:=∃ (o:Obj) (b:Array Value) (n:Nat),K.lookup a=some o/\o.cls=.type "tuple"/\o.data=.seq b n/\b.size<=sizeLine/\Pd (ss.map V.str) b.toList
mutual
noncomputable def Rep(T:Tb)(μ:List Addr)(H:Hp):D->V->Prop
 | .Yb,v=>v=.Yb
 | .bl b,v=>v=.bl b
 | .int i,v=>v=.int i
 | .str x,v=>v=.str x
 | .tup ds,v=>∃ p e,v=.ref p/\H p=some (.tup e)/\Ua T μ H ds e
 | .cg ns,v=>∃ a,v=.ref a/\NC T.K H a ns
 | .ref n,v=>∃ a,v=.ref a/\μ[n]?=some a
 | .lst ds,v=>∃ a e,v=.ref a/\a ∉ μ/\H a=some (.lst e)/\Ua T μ H ds e
 | .Na j ds,v=>∃ a d,v=.ref a/\a ∉ μ/\Rd H a (.dK d)/\d.map (·.1)=j/\Ua T μ H ds (d.map (·.2))
 | .obj c ns ds,v=>∃ a h fs,v=.ref a/\a ∉ μ/\H a=some (.ins (T.ca c) h fs)/\fs.map (·.1)=ns/\Ua T μ H ds (fs.map (·.2))
 | .Wo c,v=>∃ a g,v=.ref a/\a ∉ μ/\H a=some (.ext (Ov (T.ca c) g a))/\∀ n,Iz c=some n->∃ f,g=some f/\f ∉ μ/\H f=some (.ext (zB f n))
 | .gt ss,v=>∃ a,v=.ref a/\UB T.K a ss
noncomputable def Ua(T:Tb)(μ:List Addr)(H:Hp):List D->List V->Prop
 |[],a=>a=[]
 |d::ds,a=>∃ v r,a=v::r/\Rep T μ H d v/\Ua T μ H ds r
end
noncomputable def Kp(o b:HO):Prop:=b=o\/(∃ d a,o=.dK a/\b=.qb d (.dK a))\/∃ e c,o=.mm e/\b=.mm c
theorem Kp.trans{a b c:HO}(x:Kp a b)(y:Kp b c):Kp a c:=by
 rcases x with rfl|⟨h,d,rfl,rfl⟩|⟨g,e,rfl,rfl⟩
 ·exact y
 ·rcases y with rfl|⟨_,_,z,_⟩|⟨_,_,z,_⟩
  ·exact .inr (.inl ⟨h,d,rfl,rfl⟩)
  ·cases z
  ·cases z
 ·rcases y with rfl|⟨_,_,z,_⟩|⟨_,f,_,rfl⟩
  ·exact .inr (.inr ⟨g,e,rfl,rfl⟩)
  ·cases z
  ·exact .inr (.inr ⟨g,f,rfl,rfl⟩)
structure Ext(μ:List Addr)(H:Hp)(μ':List Addr)(H':Hp):Prop where
 pre:∃ r,μ'=μ++r
 tup:∀ p xs,H p=some (.tup xs)->H' p=some (.tup xs)
 qb:∀ p o u,H p=some (.qb o u)->H' p=some (.qb o u)
 keep:∀ p o,H p=some o->p ∉ μ->(∃ o',H' p=some o'/\Kp o o')/\p ∉ μ'
theorem Ext.refl(μ:List Addr)(H:Hp):Ext μ H μ H:=⟨⟨[],by simp⟩,λ_ _ h=>h,λ_ _ _ h=>h,λ_ _ h n=>⟨⟨_,h,.inl rfl⟩,n⟩⟩
theorem Ext.trans{μ c d:List Addr}{H e H2:Hp}(a:Ext μ H c e)(b:Ext c e d H2):Ext μ H d H2:=by
 obtain⟨⟨r,rfl⟩,y,i,m⟩:=a;obtain⟨⟨x,rfl⟩,z,j,q⟩:=b;exact⟨⟨r++x,by simp⟩,λp xs h=>z p xs (y p xs h),λp o u h=>j p o u (i p o u h),λp o h n=>let ⟨⟨v,k,f⟩,s⟩:=m p o h n;let ⟨⟨w,l,g⟩,t⟩:=q p v k s;⟨⟨w,l,f.trans g⟩,t⟩⟩
theorem Ext.xi{μ μ':List Addr}{H a:Hp}(e:Ext μ H μ' a)(p:Addr)(o:HO)(h:H p=some o)(n:p ∉ μ)(hd:(∀ kvs,o≠.dK kvs)/\∀ ps,o≠.mm ps:=by exact⟨(λ_ z=>by cases z),(λ_ z=>by cases z)⟩):a p=some o/\p ∉ μ':=by
 obtain⟨⟨f,b,c⟩,d⟩:=e.keep p o h n;rcases c with rfl|⟨_,kvs,z,_⟩|⟨ps,_,z,_⟩
 ·exact⟨b,d⟩
 ·exact absurd z (hd.1 kvs)
 ·exact absurd z (hd.2 ps)
theorem Ext.rd{μ μ':List Addr}{H b:Hp}(e:Ext μ H μ' b)(p:Addr)(kvs:List (Key × V))(h:Rd H p (.dK kvs))(n:p ∉ μ):Rd b p (.dK kvs)/\p ∉ μ':=by
 rcases h with h|⟨a,h⟩
 ·obtain⟨⟨i,d,c⟩,g⟩:=e.keep p _ h n;rcases c with rfl|⟨a,f,z,rfl⟩|⟨_,_,z,_⟩
  ·exact⟨.inl d,g⟩
  ·cases z;exact⟨.inr ⟨a,d⟩,g⟩
  ·cases z
 ·exact⟨.inr ⟨a,e.qb _ _ _ h⟩,(e.keep p _ h n).2⟩
theorem Ext.get{μ μ':List Addr}{H b:Hp}(e:Ext μ H μ' b){n:Nat}{a:Addr}(h:μ[n]?=some a):μ'[n]?=some a:=by
 obtain⟨⟨r,rfl⟩,_,_⟩:=e;rw[Xa (ka.mp h).1];exact h
mutual
theorem Rep.mono{T:Tb}{μ μ':List Addr}{H r:Hp}(e:Ext μ H μ' r):∀ (d:D) (v:V),Rep T μ H d v->Rep T μ' r d v
 | .Yb,v,h=>by simpa [Rep]using h
 | .bl b,v,h=>by simpa [Rep]using h
 | .int i,v,h=>by simpa [Rep]using h
 | .str x,v,h=>by simpa [Rep]using h
 | .tup ds,v,h=>by
  rw[Rep]at h ⊢;obtain⟨p,k,g,f,j⟩:=h;exact⟨p,k,g,e.tup _ _ f,Ua.mono e ds k j⟩
 | .cg ns,v,h=>by
  rw[Rep]at h ⊢;obtain⟨a,g,f⟩:=h;refine⟨a,g,?_⟩;rcases f with⟨o,f⟩|f
  ·exact .inl ⟨o,e.qb _ _ _ f⟩
  ·exact .inr f
 | .ref n,v,h=>by
  rw[Rep]at h ⊢;obtain⟨a,g,f⟩:=h;exact⟨a,g,e.get f⟩
 | .lst ds,v,h=>by
  rw[Rep]at h ⊢;obtain⟨a,k,g,f,j,l⟩:=h;exact⟨a,k,g,(e.xi _ _ j f).2,(e.xi _ _ j f).1,Ua.mono e ds k l⟩
 | .Na A ds,v,h=>by
  rw[Rep]at h ⊢;obtain⟨a,k,g,f,j,m,l⟩:=h;exact⟨a,k,g,(e.rd _ _ j f).2,(e.rd _ _ j f).1,m,Ua.mono e ds _ l⟩
 | .obj c ns ds,v,h=>by
  rw[Rep]at h ⊢;obtain⟨a,y,k,g,f,j,m,l⟩:=h;exact⟨a,y,k,g,(e.xi _ _ j f).2,(e.xi _ _ j f).1,m,Ua.mono e ds _ l⟩
 | .Wo c,v,h=>by
  rw[Rep]at h ⊢;obtain⟨a,w,g,f,j,l⟩:=h;exact⟨a,w,g,(e.xi _ _ j f).2,(e.xi _ _ j f).1,λn q=>let ⟨u,z,s,t⟩:=l n q;⟨u,z,(e.xi _ _ t s).2,(e.xi _ _ t s).1⟩⟩
 | .gt ss,v,h=>by rw[Rep]at h ⊢;exact h
theorem Ua.mono{T:Tb}{μ μ':List Addr}{H a:Hp}(e:Ext μ H μ' a):∀ (ds:List D) (vs:List V),Ua T μ H ds vs->Ua T μ' a ds vs
 |[],vs,h=>by simpa [Ua]using h
 |d::ds,vs,h=>by
  rw[Ua]at h ⊢;obtain⟨v,r,b,c,f⟩:=h;exact⟨v,r,b,Rep.mono e d v c,Ua.mono e ds r f⟩
end
theorem Ua.nil{T:Tb}{μ:List Addr}{H:Hp}:Ua T μ H [] []:=by rw[Ua]
theorem Ua.cons{T:Tb}{μ:List Addr}{H:Hp}{d:D}{v:V}{ds:List D}{vs:List V}(a:Rep T μ H d v)(b:Ua T μ H ds vs):Ua T μ H (d::ds) (v::vs):=by
 rw[Ua];exact⟨v,vs,rfl,a,b⟩
theorem Ua.length{T:Tb}{μ:List Addr}{H:Hp}:∀ {ds:List D} {vs:List V},Ua T μ H ds vs->ds.length=vs.length
 |[],vs,h=>by rw[Ua]at h;subst h;rfl
 |d::ds,vs,h=>by
  rw[Ua]at h;obtain⟨v,r,rfl,_,a⟩:=h;simp[Ua.length a]
theorem Ua.get{T:Tb}{μ:List Addr}{H:Hp}:∀ {ds:List D} {vs:List V} {i:Nat} {d:D},Ua T μ H ds vs->ds[i]?=some d->∃ v,vs[i]?=some v/\Rep T μ H d v
 |[],vs,i,d,h,e=>by simp at e
 |d::ds,vs,0,x,h,e=>by
  rw[Ua]at h;obtain⟨v,r,rfl,a,b⟩:=h;simp at e;subst e;exact⟨v,rfl,a⟩
 |d::ds,vs,i+1,x,h,e=>by
  rw[Ua]at h;obtain⟨v,r,rfl,a,b⟩:=h;simpa using Ua.get (i:=i) b (by simpa using e)
theorem Ua.append{T:Tb}{μ:List Addr}{H:Hp}:∀ {ds a:List D} {vs us:List V},Ua T μ H ds vs->Ua T μ H a us->Ua T μ H (ds++a) (vs++us)
 |[],a,vs,us,h,b=>by rw[Ua]at h;subst h;simpa using b
 |d::ds,a,vs,us,h,b=>by
  rw[Ua]at h;obtain⟨v,r,rfl,c,e⟩:=h;exact Ua.cons c (Ua.append e b)
theorem Ua.set{T:Tb}{μ:List Addr}{H:Hp}{d:D}{v:V}(hd:Rep T μ H d v):∀ {ds:List D} {vs:List V} (i:Nat),Ua T μ H ds vs->Ua T μ H (ds.set i d) (vs.set i v)
 |[],vs,i,h=>by rw[Ua]at h;subst h;simpa using Ua.nil
 |x::ds,vs,0,h=>by
  rw[Ua]at h;obtain⟨w,r,rfl,b,a⟩:=h;exact Ua.cons hd a
 |x::ds,vs,i+1,h=>by
  rw[Ua]at h;obtain⟨w,r,rfl,b,a⟩:=h;exact Ua.cons b (Ua.set hd i a)
theorem Ua.drop{T:Tb}{μ:List Addr}{H:Hp}:∀ {ds:List D} {vs:List V} (n:Nat),Ua T μ H ds vs->Ua T μ H (ds.drop n) (vs.drop n)
 |ds,vs,0,h=>by simpa using h
 |[],vs,n+1,h=>by rw[Ua]at h;subst h;simpa using Ua.nil
 |x::ds,vs,n+1,h=>by
  rw[Ua]at h;obtain⟨w,r,rfl,b,a⟩:=h;simpa using Ua.drop n a
theorem Ua.take{T:Tb}{μ:List Addr}{H:Hp}:∀ {ds:List D} {vs:List V} (n:Nat),Ua T μ H ds vs->Ua T μ H (ds.take n) (vs.take n)
 |ds,vs,0,h=>by simpa using Ua.nil
 |[],vs,n+1,h=>by rw[Ua]at h;subst h;simpa using Ua.nil
 |x::ds,vs,n+1,h=>by
  rw[Ua]at h;obtain⟨w,r,rfl,a,b⟩:=h;exact Ua.cons a (Ua.take n b)
noncomputable def Rs(T:Tb)(μ:List Addr)(H:Hp):List (qa × D)->List (qa × V)->Prop:=Paired λp q=>p.1=q.1/\Rep T μ H p.2 q.2
noncomputable def Oh(T:Tb)(μ:List Addr)(H:Hp):List (Key × D)->List (Key × V)->Prop:=Paired λp q=>p.1=q.1/\Rep T μ H p.2 q.2
noncomputable def Ap(T:Tb)(μ:List Addr)(H:Hp)(a:Addr):Ob->Prop
 | .lst ds=>∃ b,H a=some (.lst b)/\Ua T μ H ds b
 | .Na d=>∃ b,H a=some (.dK b)/\Oh T μ H d b
 | .ins c fs=>∃ e b,H a=some (.ins (T.ca c) e b)/\Rs T μ H fs b
 | .Kf d=>∃ g b,H a=some (.qb g (.dK b))/\Oh T μ H d b
 | .Kk f=>∃ b,H a=some (.dT b)/\b.map (·.1)=f
structure Rel(T:Tb)(μ:List Addr)(H:Hp)(σ:Oa):Prop where
 len:μ.length=σ.length
 nd:μ.Nodup
 obs:∀ (n:Nat) (o:Ob),σ[n]?=some o->∃ a,μ[n]?=some a/\Ap T μ H a o
 tb:js T μ H
noncomputable def qh(T:Tb)(μ:List Addr)(H:Hp)(ρ:Ev)(a:St):Prop:=ρ.length=a.length/\∀ (i:Nat) (d:D),ρ[i]?=some (some d)->∃ v,a[i]?=some (some v)/\Rep T μ H d v
theorem qh.mono{T:Tb}{μ μ':List Addr}{H a:Hp}{ρ:Ev}{st:St}(e:Ext μ H μ' a)(h:qh T μ H ρ st):qh T μ' a ρ st:=
 ⟨h.1,λi d q=>let ⟨v,b,c⟩:=h.2 i d q;⟨v,b,Rep.mono e d v c⟩⟩
theorem qh.set{T:Tb}{μ:List Addr}{H:Hp}{ρ:Ev}{b:St}{d:D}{v:V}(h:qh T μ H ρ b)(i:Nat)(r:Rep T μ H d v):qh T μ H (ρ.set i (some d)) (b.set i (some v)):=by
 refine⟨by simpa using h.1,λj x q=>?_⟩;rw[cc]at q;by_cases a:i=j
 ·subst a;rw[ia rfl]at q;split at q
  ·rename_i f
   cases q;exact⟨v,by rw[cc,ia rfl,ia (by rw[<-h.1];exact f)],r⟩
  ·cases q
 ·rw[ja a]at q;obtain⟨w,c,e⟩:=h.2 j x q;exact⟨w,by rw[cc,ja a];exact c,e⟩
noncomputable def vX(e:Addr)(cls a0:Value)(h:Heap):Prop:=∃ b a,h.get? e=some b/\b.cls=cls/\b.data=.fields a/\1<a.size/\a[0]?=some a0/\a[1]?=some .none
noncomputable def nq(B:Heap)(l:List Og)(e:Addr)(cls a0:Value)(h:Heap):Prop:=B.StaysIn h/\B.get? e=none/\h.FunFrames B l/\((∃ a,h.TracedAtW B e cls a0 a)\/vX e cls a0 h)
noncomputable def SS(o:Obj)(n:Nat):Prop:=∃ a b t,o.data=.dict a b/\StrKeys a/\nsFind a "pot" = some (.int n t)
noncomputable def AB(f:Option Nat)(e:Addr)(B h g:Heap)(d:Hp):Prop:=∀ n,f=some n->∃ a b c,h.get? e=some c/\c.dict=some a/\B.get? a=some b/\SS b n/\d a=none/\g.get? a=none
structure Wy(P:ua)(w:Ea)(outer:List Og)(H:Hp)(s:Shared)(cls:Value)(fd:Option Nat)(H':Hp)(e:Value)(s':Shared):Prop where
 ex:∃ (ea:Addr) (a0:Value) (B:Heap),e=.ref ea/\nq B outer ea cls a0 s'.heap/\H' ea=none/\s.heap.get? ea=none/\
  (∀ b o,H' b=some o->∃ ob,B.get? b=some ob)/\(∀ b o,s.heap.get? b=some o->H b=none->b ∉ qj outer->B.get? b=some o)/\(∀ b o,s.heap.get? b=some o->b ∉ qj outer->∃ o',B.get? b=some o')/\AB fd ea B s'.heap s.heap H'
 os:s'.os=s.os
 bare:Pg s'.gens
 un:Un (qj outer) [] H H' s.heap s'.heap
 Pb:yi P w H' s'.heap
noncomputable def Wl(P:ua)(w:Ea):ft:=λouter H s E e c=>∃ cls b a,Wy P w outer H s cls b a e c/\E cls b a
structure Wz(X:Cx)(st:St)(cls:Value)(fd:Option Nat)(H':Hp):Prop where
 oD:∀ (pins:List (Addr × Obj)) (H:Hp) (s:Shared) (e:Value) (s':Shared),Inv X pins st H s->Wy X.prog X.w X.stack H s cls fd H' e s'->X.xe e s'
noncomputable abbrev XE(X:Cx)(c:St):XK:=λcls b a=>Wz X c cls b a
noncomputable def Kb{d e:Type}(T:Tb)(E:XK)(R:List Addr->Hp->d->e->Prop)(μ:List Addr)(H:Hp)(o:Out d)(Q:e->Hp->Prop):Prop:=match o with
 | .ok a σ=>∀ b g c,Ext μ H b c->Rel T b c σ->R b c a g->Q g c
 | .ex x σ=>∀ b c,Ext μ H b c->Rel T b c σ->E (T.cv x) (Iz x.cls) c
 | .bad=>False
theorem Kb.mono{j k:Type}{T:Tb}{E:XK}{R:List Addr->Hp->j->k->Prop}{μ c:List Addr}{H i:Hp}{o:Out j}{Q:k->Hp->Prop}(e:Ext μ H c i)(h:Kb T E R μ H o Q):Kb T E R c i o Q:=by
 cases o with
 |ok a σ=>exact λb g d f r q=>h b g d (e.trans f) r q
 |ex x σ=>exact λb d f r=>h b d (e.trans f) r
 |bad=>exact h
theorem Kb.imp{d e:Type}{T:Tb}{E:XK}{R:List Addr->Hp->d->e->Prop}{μ:List Addr}{H:Hp}{o:Out d}{Q Q':e->Hp->Prop}(h:Kb T E R μ H o Q)(k:∀ g b,Q g b->Q' g b):Kb T E R μ H o Q':=by
 cases o with
 |ok a σ=>exact λc g b f r q=>k _ _ (h c g b f r q)
 |ex x σ=>exact h
 |bad=>exact h
theorem Kb.bind{i o p s:Type}{T:Tb}{E:XK}{R:List Addr->Hp->i->p->Prop}{l:List Addr->Hp->o->s->Prop}{μ:List Addr}{H:Hp}{m:M i}{k:i->M o}{σ:Oa}{Q:s->Hp->Prop}{Q1:p->Hp->Prop}
  (h:Kb T E l μ H (Mc m k σ) Q) (f:∀ a b c g d,m σ=.ok a b->Ext μ H c d->Rel T c d b->R c d a g->Kb T E l c d (k a b) Q->Q1 g d):Kb T E R μ H (m σ) Q1:=by
 unfold Mc at h;cases e:m σ with
 |ok a b=>
  rw[e]at h;exact λj g t n r q=>f a b j g t e n r q (h.mono n)
 |ex x b=>rw[e]at h;exact h
 |bad=>rw[e]at h;exact h
theorem Kb.here{T:Tb}{E:XK}{b a:Type}{R:List Addr->Hp->b->a->Prop}{μ:List Addr}{H:Hp}{d:b}{σ:Oa}{g:a}{Q:a->Hp->Prop}(h:Kb T E R μ H (.ok d σ) Q)(r:Rel T μ H σ)(p:R μ H d g):Q g H:=h μ g H (Ext.refl _ _) r p
section
variable(T:Tb)(X:Cx)
noncomputable def tF(f:Ev->M D):TE:=λb H Q=>∃ a c d,qh T a H c b/\Rel T a H d/\Kb T (XE X b) (Rep T) a H (f c d) Q
noncomputable def SF:List Addr->Hp->Bool->Bool->Prop:=λ_ _ a b=>b=a
noncomputable def tT(f:Ev->M Bool):TT:=λb H Q=>∃ a c d,qh T a H c b/\Rel T a H d/\Kb T (XE X b) SF a H (f c d) Q
noncomputable def tL(f:Ev->M (List D)):TA:=λb H Q=>∃ a c d,qh T a H c b/\Rel T a H d/\Kb T (XE X b) (Ua T) a H (f c d) Q
inductive sm where
 |nx (st:St)|rt (v:V)|bk (st:St)|ct (st:St)|xc (st:St) (cls:Value) (fd:Option Nat)
noncomputable def zl(T:Tb)(μ:List Addr)(H:Hp):Fl->sm->Prop
 | .nx a,.nx st=>qh T μ H a st
 | .rt d,.rt v=>Rep T μ H d v
 | .bk a,.bk st=>qh T μ H a st
 | .ct a,.ct st=>qh T μ H a st
 | .xc a x,.xc st cls fd=>qh T μ H a st/\cls=T.cv x/\fd=Iz x.cls
 |_,_=>False
noncomputable def ek(X:Cx)(D:Ends):sm->Hp->Prop
 | .nx st,H=>D.nx st H
 | .rt v,H=>D.rt v H
 | .bk st,H=>D.bk st H
 | .ct st,H=>D.ct st H
 | .xc st cls fd,H=>Wz X st cls fd H
noncomputable abbrev EN:XK:=λ_ _ _=>False
noncomputable def tS(g:Ev->M Fl):TS:=λD d H=>∃ a b c,qh T a H b d/\Rel T a H c/\Kb T EN (zl T) a H (g b c) (ek X D)
end
noncomputable def xs{c:Type}(ρ:Ev)(m:M c)(k:c->M Fl):M Fl:=λd=>match m d with
 | .ok a b=>k a b
 | .ex x b=>.ok (.xc ρ x) b
 | .bad=>.bad
theorem Kb.xs{o p:Type}{T:Tb}{X:Cx}{D:Ends}{R:List Addr->Hp->o->p->Prop}{μ:List Addr}{H:Hp}{ρ:Ev}{n:St}{m:M o}{k:o->M Fl}{σ:Oa}{Q1:p->Hp->Prop}(s:qh T μ H ρ n)
  (h:Kb T EN (zl T) μ H (L4.xs ρ m k σ) (ek X D)) (f:∀ a b c g i,m σ=.ok a b->Ext μ H c i->Rel T c i b->R c i a g->Kb T EN (zl T) c i (k a b) (ek X D)->Q1 g i):Kb T (XE X n) R μ H (m σ) Q1:=by
 unfold L4.xs at h;cases e:m σ with
 |ok a b=>
  rw[e]at h;exact λd g l j r q=>f a b d g l e j r q (h.mono j)
 |ex x b=>
  rw[e]at h;intro d l j r;exact h d (.xc n (T.cv x) (Iz x.cls)) l j r ⟨s.mono j,rfl,rfl⟩
 |bad=>rw[e]at h;exact h
noncomputable abbrev FE(T:Tb)(X:Cx)(e:Ga)(f:Ev->M D):Prop:=PE X e (tF T X f)
noncomputable abbrev FT(T:Tb)(X:Cx)(e:Ga)(f:Ev->M Bool):Prop:=PT X e (tT T X f)
noncomputable abbrev FW(T:Tb)(X:Cx)(e:Ga)(f:Ev->M Bool):Prop:=PW X e (tT T X f)
noncomputable abbrev FA(T:Tb)(X:Cx)(a:List Ga)(f:Ev->M (List D)):Prop:=PA X a (tL T X f)
noncomputable abbrev FS(T:Tb)(X:Cx)(a:Stmt)(g:Ev->M Fl):Prop:=PS X a (tS T X g)
noncomputable abbrev ap(T:Tb)(X:Cx)(a:List Stmt)(g:Ev->M Fl):Prop:=ts X a (tS T X g)
end L4
namespace L4
open PySem PySem.Spec PyProof.Rows L2
noncomputable def Mh:Nat:=1000
theorem kx{n:Nat}(h:n<=Mh):n<=sizeLine:=Td (lN h)
theorem GZ{n:Nat}(h:n<Mh):n<sizeLine:=lN (Td h)
theorem pE{g:Type}{l:List g}(h:l.Nodup){i j:Nat}{a:g}(k:l[i]?=some a)(m:l[j]?=some a):i=j:=by
 obtain⟨c,d⟩:=ka.mp k;obtain⟨e,f⟩:=ka.mp m;have b:=Cp.mp h;rcases Yv i j with z|z|z
 ·exact absurd (d.trans f.symm) (b i j c e z)
 ·exact z
 ·exact absurd (f.trans d.symm) (b j i e c z)
section
variable{T:Tb}{μ μ':List Addr}{H H':Hp}{σ:Oa}
theorem NI{a:Type}(e:Ext μ H μ' H'){xs:List (a × D)}{ys:List (a × V)}(h:Paired (λ(p:a × D) (q:a × V)=>p.1=q.1/\Rep T μ H p.2 q.2) xs ys) :
  Paired (λ(p:a × D) (q:a × V)=>p.1=q.1/\Rep T μ' H' p.2 q.2) xs ys:=L2.Paired.jr h λp q z=>⟨z.1,Rep.mono e _ _ z.2⟩
theorem Ap.mono(e:Ext μ H μ' H'){a:Addr}(d:H' a=H a):∀ {o:Ob},Ap T μ H a o->Ap T μ' H' a o
 | .lst ds,⟨b,h,r⟩=>⟨b,d.trans h,Ua.mono e _ _ r⟩
 | .Na f,⟨b,h,r⟩=>⟨b,d.trans h,NI e r⟩
 | .ins c fs,⟨g,b,h,r⟩=>⟨g,b,d.trans h,NI e r⟩
 | .Kf f,⟨i,b,h,r⟩=>⟨i,b,d.trans h,NI e r⟩
 | .Kk j,⟨b,h,r⟩=>⟨b,d.trans h,r⟩
theorem Ap.some{a:Addr}:∀ {o:Ob},Ap T μ H a o->∃ u,H a=Option.some u/\(∀ xs,u≠.tup xs)
 | .lst ds,⟨b,h,r⟩=>⟨_,h,(λ_ z=>by cases z)⟩
 | .Na d,⟨b,h,r⟩=>⟨_,h,(λ_ z=>by cases z)⟩
 | .ins c fs,⟨e,b,h,r⟩=>⟨_,h,(λ_ z=>by cases z)⟩
 | .Kf d,⟨g,b,h,r⟩=>⟨_,h,(λ_ z=>by cases z)⟩
 | .Kk f,⟨b,h,r⟩=>⟨_,h,(λ_ z=>by cases z)⟩
theorem Ap.YB{a:Addr}:∀ {o:Ob},(∀ kvs,o≠.Kf kvs)->Ap T μ H a o->∃ u,H a=Option.some u/\(∀ xs,u≠.tup xs)/\(∀ ob w,u≠.qb ob w)
 | .lst ds,_,⟨b,h,r⟩=>⟨_,h,(λ_ z=>by cases z),(λ_ _ z=>by cases z)⟩
 | .Na kvs,_,⟨b,h,r⟩=>⟨_,h,(λ_ z=>by cases z),(λ_ _ z=>by cases z)⟩
 | .ins c fs,_,⟨d,b,h,r⟩=>⟨_,h,(λ_ z=>by cases z),(λ_ _ z=>by cases z)⟩
 | .Kf kvs,n,_=>absurd rfl (n kvs)
 | .Kk e,_,⟨b,h,r⟩=>⟨_,h,(λ_ z=>by cases z),(λ_ _ z=>by cases z)⟩
theorem Rel.keep(r:Rel T μ H σ)(e:Ext μ H μ H')(k:∀ a∈μ,H' a=H a)(t:js T μ H'):Rel T μ H' σ:=
 ⟨r.len,r.nd,λn o h=>let ⟨a,b,c⟩:=r.obs n o h;⟨a,b,c.mono e (k a (La b))⟩,t⟩
theorem Rel.mem(r:Rel T μ H σ){a:Addr}(h:a∈μ):∃ u,H a=some u/\(∀ xs,u≠.tup xs):=by
 obtain⟨n,hn⟩:=Fs h;have d:n<σ.length:=by rw[<-r.len];exact(ka.mp hn).1
 obtain⟨e,b,c⟩:=r.obs n σ[n] (by simp[d]);rw[hn]at b;cases b;exact c.some
theorem Ik{p:Addr}{o:HO}(a:H p=none):Ext μ H μ (upd H p o):=
 ⟨⟨[],by simp⟩,λq xs h=>by rw[Ad (Ko h a)];exact h,λq b u h=>by rw[Ad (Ko h a)];exact h,λq b h n=>⟨⟨b,by rw[Ad (Ko h a)];exact h,.inl rfl⟩,n⟩⟩
theorem Rel.fresh(r:Rel T μ H σ){p:Addr}{o:HO}(c:H p=none):Rel T μ (upd H p o) σ:=
 r.keep (Ik c) (λa d=>by obtain⟨u,h,_⟩:=r.mem d;rw[Ad (Ko h c)]) (r.tb.grow λb u h=>by rw[Ad (Ko h c)];exact h)
theorem uy{p:Addr}{o:HO}(a:H p=none):Ext μ H (μ++[p]) (upd H p o):=
 ⟨⟨[p],rfl⟩,(Ik (μ:=μ) a).tup,(Ik (μ:=μ) a).qb,λq b h n=>⟨((Ik (μ:=μ) a).keep q b h n).1,λz=>(Uf.mp z).elim n λz=>Ko h a (by simpa using z)⟩⟩
theorem Rel.push(r:Rel T μ H σ){p:Addr}{o:HO}{ob:Ob}(c:H p=none)(l:Ap T (μ++[p]) (upd H p o) p ob):Rel T (μ++[p]) (upd H p o) (σ++[ob]):=by
 refine⟨by simp[r.len],?_,λn x h=>?_,(r.tb.more c).grow λb u h=>by rw[Ad (Ko h c)];exact h⟩
 ·rw[iv];refine⟨r.nd,by simp,λa k b hb e=>?_⟩;have g:b=p:=by simpa using hb
  subst g;subst e;obtain⟨u,h,_⟩:=r.mem k;rw[c]at h;cases h
 ·by_cases hn:n<σ.length
  ·rw[Xa hn]at h;obtain⟨a,j,d⟩:=r.obs n x h;obtain⟨u,m,_⟩:=d.some;exact⟨a,by rw[Xa (by rw[r.len];exact hn)];exact j,d.mono (uy c) (Ad (Ko m c))⟩
  ·rw[yf (by omega)]at h;have f:n - σ.length=0:=by
    have:=(ka.mp h).1;simp at this;omega
   rw[f]at h;simp at h;subst h;have i:n=μ.length:=by rw[r.len];omega
   subst i;exact⟨p,by simp,l⟩
theorem jF{p:Addr}{o:HO}(r:Rel T μ H σ):Rep T (μ++[p]) (upd H p o) (.ref σ.length) (.ref p):=by
 rw[Rep];exact⟨p,rfl,by rw[<-r.len];simp⟩
theorem Mw{a:Addr}{u o:HO}(hm:a∈μ)(b:H a=some u)(c:∀ xs,u≠.tup xs)(d:∀ ob w,u≠.qb ob w):Ext μ H μ (upd H a o):=
 ⟨⟨[],by simp⟩,λq xs h=>by rw[Ad (GG h b (λz=>c xs z.symm))];exact h,λq ob w h=>by rw[Ad (GG h b (λz=>d ob w z.symm))];exact h,λq ob h n=>⟨⟨ob,by rw[Ad (λz=>n (by rw[z];exact hm))];exact h,.inl rfl⟩,n⟩⟩
theorem Rel.write(r:Rel T μ H σ){n:Nat}{a:Addr}{o:HO}{ob:Ob}(hn:μ[n]?=some a)(j:Ap T μ (upd H a o) a ob)(l:∀ kvs,σ[n]?≠some (.Kf kvs):=by intro kvs z;simp_all [kg]):Ext μ H μ (upd H a o)/\Rel T μ (upd H a o) (σ.set n ob):=by
 obtain⟨u,k,c,d⟩:∃ u,H a=some u/\(∀ xs,u≠.tup xs)/\(∀ ob w,u≠.qb ob w):=by
  have g:n<σ.length:=by rw[<-r.len];exact(ka.mp hn).1
  obtain⟨p,c,d⟩:=r.obs n σ[n] (by simp[g]);rw[hn]at c;cases c;exact d.YB λkvs z=>l kvs (by rw[yb g,z])
 have e:Ext μ H μ (upd H a o):=Mw (La hn) k c d;refine⟨e,by simp[r.len],r.nd,λm x h=>?_,r.tb.out (λb hb=>Ad hb) (.inl (La hn))⟩;rw[cc]at h;by_cases hm:n=m
 ·subst hm;rw[ia rfl]at h;split at h
  ·cases h;exact⟨a,hn,j⟩
  ·cases h
 ·rw[ja hm]at h;obtain⟨b,f,i⟩:=r.obs m x h;refine⟨b,f,i.mono e (Ad λz=>hm ?_)⟩;subst z;exact pE r.nd hn f
theorem Rel.at(r:Rel T μ H σ){n:Nat}{v:V}{o:Ob}(h:Rep T μ H (.ref n) v)(e:σ[n]?=some o):∃ a,v=.ref a/\μ[n]?=some a/\Ap T μ H a o:=by
 rw[Rep]at h;obtain⟨a,rfl,c⟩:=h;obtain⟨f,b,d⟩:=r.obs n o e;rw[c]at b;cases b;exact⟨a,rfl,c,d⟩
end
noncomputable def wa(i:Nat):Ev->M D:=λa b=>match a[i]? with
 |some (some d)=>.ok d b
 |_=>.bad
noncomputable def eC(d:D):Ev->M D:=λ_=>ret d
noncomputable def eI(o:D->D->M D)(m:M D)(x:D):M D:=Mc m (o x)
noncomputable def Hb(o:D->D->M D)(a b:Ev->M D):Ev->M D:=λc=>Mc (a c) (eI o (b c))
noncomputable def Je(o:D->M D)(a:Ev->M D):Ev->M D:=λb=>Mc (a b) o
noncomputable def Sz(d:D):M Bool:=match d with
 | .bl b=>ret b
 |_=>bad
noncomputable def Pj{α:Type}(p q:M α)(c:Bool):M α:=if c=true then p else q
noncomputable def II(c:Bool):M Bool:=ret (!c)
noncomputable def Ox{α:Type}(k:Bool->M α)(d:D):M α:=Mc (Sz d) k
noncomputable def eT(f:Ev->M D):Ev->M Bool:=λa=>Mc (f a) Sz
noncomputable def rB(a b:Ev->M Bool):Ev->M Bool:=λc=>Mc (a c) (Pj (b c) (ret false))
noncomputable def Qs(a b:Ev->M Bool):Ev->M Bool:=λc=>Mc (a c) (Pj (ret true) (b c))
noncomputable def Vt(a:Ev->M Bool):Ev->M Bool:=λb=>Mc (a b) II
noncomputable def zn(a b:Ev->M D):Ev->M D:=λc=>Mc (a c) (Ox (Pj (b c) (ret (.bl false))))
noncomputable def UE(a b:Ev->M D):Ev->M D:=λc=>Mc (a c) (Ox (Pj (ret (.bl true)) (b c)))
noncomputable def iI(c:Bool):M D:=ret (.bl (!c))
noncomputable def DD(a:Ev->M D):Ev->M D:=λb=>Mc (a b) (Ox iI)
noncomputable def DB(t:Ev->M Bool)(a b:Ev->M D):Ev->M D:=λc=>Mc (t c) (Pj (a c) (b c))
noncomputable def xb:Ev->M (List D):=λ_=>ret []
noncomputable def VI(x:D)(xs:List D):M (List D):=ret (x::xs)
noncomputable def bH(m:M (List D))(x:D):M (List D):=Mc m (VI x)
noncomputable def Ta(e:Ev->M D)(r:Ev->M (List D)):Ev->M (List D):=λa=>Mc (e a) (bH (r a))
noncomputable def wy(ds:List D):M D:=if ds.length<=Mh then ret (.tup ds)else bad
noncomputable def Yq(a:Ev->M (List D)):Ev->M D:=λb=>Mc (a b) wy
noncomputable def vy(ds:List D):M D:=λa=>.ok (.ref a.length) (a++[.lst ds])
noncomputable def VE(ds:List D):M D:=if ds.length<=Mh then vy ds else bad
noncomputable def jw(a:Ev->M (List D)):Ev->M D:=λb=>Mc (a b) VE
noncomputable def uz(ds:List D):M D:=if ds.length<=Mh then ret (.lst ds)else bad
noncomputable def Rn(a:Ev->M (List D)):Ev->M D:=λb=>Mc (a b) uz
noncomputable def Bm(T:Tb)(r:R2)(o:D->D->M D):Prop:=∀ (E:XK) a H b x y v u Q,Rel T a H b->Rep T a H x v->Rep T a H y u->Kb T E (Rep T) a H (o x y b) Q->r v u H Q
noncomputable def Ot(T:Tb)(r:List V->Hp->VK->Prop)(o:List D->M D):Prop:=∀ (E:XK) a H c xs b Q,Rel T a H c->Ua T a H xs b->Kb T E (Rep T) a H (o xs c) Q->r b H Q
section
variable{T:Tb}{X:Cx}{a b c:Ga}{fa fb:Ev->M D}{ta tb:Ev->M Bool}{pos:Se}
theorem za(i:Nat){x:qa}(hN:X.N[i]?=some x:=by rfl)(l:wH X.env.scope x:=by first|exact Or.inl rfl|exact Or.inr (Or.inl rfl)|exact Or.inr (Or.inr rfl))(hd:(x == ("__debug__" : qa))=false:=by decide)
  (c:(x == ("__classdict__" : qa))=false:=by decide):FE T X (.Name x pos) (wa i):=by
 intro b s m H Q I h;obtain⟨p,n,q,j,k,a⟩:=h;refine v7 hN l hd c b s m H Q I ?_;unfold wa at a;cases e:n[i]? with
 |none=>rw[e]at a;exact a.elim
 |some o=>
  cases o with
  |none=>rw[e]at a;exact a.elim
  |some d=>
   rw[e]at a;obtain⟨v,f,g⟩:=j.2 i d e;exact⟨v,f,a.here k g⟩
theorem gA{e:Ga}{v:V}{d:D}(h:PE X e (tC v))(r:∀ μ H,Rep T μ H d v):FE T X e (eC d):=by
 intro a s g H Q I c;obtain⟨μ,j,k,i,f,b⟩:=c;exact h a s g H Q I (Kb.here b f (r _ _))
theorem Sc{i:Int}{j}:FE T X (.Constant (.int i) j pos) (eC (.int i)):=gA BX λ_ _=>by rw[Rep]
theorem Wq{i:Bool}{j}:FE T X (.Constant (.bool i) j pos) (eC (.bl i)):=gA GV λ_ _=>by rw[Rep]
theorem oE{j}:FE T X (.Constant .none j pos) (eC .Yb):=gA L5 λ_ _=>by rw[Rep]
theorem qt{i:qa}{j}:FE T X (.Constant (.str i) j pos) (eC (.str i)):=gA DT λ_ _=>by rw[Rep]
theorem tu{x:qa}{u:Value}{i:Int}(a:Gl X x)(hm:X.mg x=some u)(r:vd (.int i) u)(hd:(x == ("__debug__" : qa))=false:=by decide):FE T X (.Name x pos) (eC (.int i)):=gA (sJ a hm r hd) λ_ _=>by rw[Rep]
theorem two{r:R2}{o:D->D->M D}(n:Bm T r o){f:St}{H:Hp}{Q:VK}(h:tF T X (Hb o fa fb) f H Q):lB r (tF T X fa) (tF T X fb) f H Q:=by
 obtain⟨A,g,B,e,m,l⟩:=h;exact⟨A,g,B,e,m,l.bind λx c a v C _ j w p s=>⟨a,g,c,e.mono j,w,s.bind λy d b u i _ k z q t=>n _ b i d x y v u Q z (Rep.mono k _ _ p) q t⟩⟩
theorem ai{d:Ww}{r:R2}{o:D->D->M D}(f:Ei X (He d) r)(g:Bm T r o)(e:FE T X a fa)(hb:FE T X b fb):FE T X (.BinOp a d b pos) (Hb o fa fb):=
 λc s i H Q I h=>y3 f e hb c s i H Q I (two g h)
theorem Nq{d:Yp}{r:R2}{o:D->D->M D}(f:Ei X (Qc d) r)(g:Bm T r o)(e:FE T X a fa)(hb:FE T X b fb)(hm:Pe d b=false):FE T X (.Compare a [d] [b] pos) (Hb o fa fb):=
 λc s i H Q I h=>pZ f e hb hm c s i H Q I (two g h)
theorem Xg{r:R2}{o:D->D->M D}(e:nw X r)(g:Bm T r o)(d:FE T X a fa)(hb:FE T X b fb)(f:MO b):FE T X (.Subscript a b pos) (Hb o fa fb):=
 λc s i H Q I h=>v8 e d hb f c s i H Q I (two g h)
theorem bD{E:XK}{d:D}{σ:Oa}{μ:List Addr}{H:Hp}{v:V}{b e:Type}{a:List Addr->Hp->b->e->Prop}{k:Bool->M b}{Q:e->Hp->Prop}(r:Rep T μ H d v)(h:Kb T E a μ H (Mc (Sz d) k σ) Q):∃ c,d=.bl c/\v=.bl c/\Kb T E a μ H (k c σ) Q:=by
 cases d with
 |bl c=>rw[Rep]at r;exact⟨c,rfl,r,h⟩
 |_=>exact h.elim
theorem qK{E:XK}{d:D}{σ:Oa}{μ:List Addr}{H:Hp}{v:V}{Q:Bool->Hp->Prop}(r:Rep T μ H d v)(h:Kb T E SF μ H (Sz d σ) Q):∃ c,v=.bl c/\Kb T E SF μ H (.ok c σ) Q:=by
 cases d with
 |bl c=>rw[Rep]at r;exact⟨c,r,h⟩
 |_=>exact h.elim
theorem Tj{e:Yp}{r:R2}{o:D->D->M D}(j:Ei X (Qc e) r)(n:Bm T r o)(g:FE T X a fa)(hb:FE T X b fb)(hm:Pe e b=false):FT T X (.Compare a [e] [b] pos) (eT (Hb o fa fb)):=by
 intro c s w H Q I h;refine B2 j g hb hm c s w H Q I ?_;refine two (o:=o) n ?_;obtain⟨x,z,A,i,m,l⟩:=h;refine⟨x,z,A,i,m,l.bind λd B y v C _ E u p t=>?_⟩;obtain⟨k,f,q⟩:=qK p t;exact⟨k,f,q.here u rfl⟩
theorem Ju{e:Ga}{f:Ev->M D}(h:FE T X e f)(i:∀ a,oz e X.env a=(do let v <-a;Tq e.pos;Yf [v] (truthy v)):=by intro _;rfl):FT T X e (eT f):=by
 intro b s r H Q I m;refine A3 h i b s r H Q I ?_;obtain⟨t,w,x,g,l,j⟩:=m;refine⟨t,w,x,g,l,j.bind λd y u v z _ A p n o=>?_⟩;obtain⟨k,c,q⟩:=qK n o;exact⟨k,c,q.here p rfl⟩
theorem Uv(h:FT T X a ta):FT T X (.UnaryOp .Not a pos) (Vt ta):=by
 intro b s l H Q I g;refine NU h b s l H Q I ?_;obtain⟨m,o,p,d,f,e⟩:=g;exact⟨m,o,p,d,f,e.bind λc q n v r _ t k i j=>by cases i;exact j.here k rfl⟩
variable{Eg:List Ga}
theorem QG(h:FT T X a ta):FW T X (.BoolOp .And [a] pos) ta:=KW h
theorem oy(h:FT T X a ta):FW T X (.BoolOp .Or [a] pos) ta:=UW h
theorem mH(h:FT T X a ta)(hb:FW T X (.BoolOp .And (b::Eg) pos) tb):FW T X (.BoolOp .And (a::b::Eg) pos) (rB ta tb):=by
 intro r e s q H Q I o;refine V6 h hb r e s q H Q I ?_;obtain⟨t,k,u,i,n,m⟩:=o;refine⟨t,k,u,i,n,m.bind λc g f v w _ l j p d=>?_⟩;cases p;cases c with
 |true=>unfold Pj at d;rw[ia rfl]at d ⊢;exact⟨f,k,g,i.mono l,j,d⟩
 |false=>unfold Pj at d;rw[ja Va]at d ⊢;exact d.here j rfl
theorem Nv(h:FT T X a ta)(hb:FW T X (.BoolOp .Or (b::Eg) pos) tb):FW T X (.BoolOp .Or (a::b::Eg) pos) (Qs ta tb):=by
 intro r e s q H Q I o;refine iU h hb r e s q H Q I ?_;obtain⟨t,k,u,i,n,m⟩:=o;refine⟨t,k,u,i,n,m.bind λc g f v w _ l j p d=>?_⟩;cases p;cases c with
 |true=>unfold Pj at d;rw[ia rfl]at d ⊢;exact d.here j rfl
 |false=>unfold Pj at d;rw[ja Va]at d ⊢;exact⟨f,k,g,i.mono l,j,d⟩
theorem lw{op}(h:FE T X a fa):FE T X (.BoolOp op [a] pos) fa:=R0 h
theorem Ao(h:FE T X a fa)(hb:FE T X (.BoolOp .And (b::Eg) pos) fb):FE T X (.BoolOp .And (a::b::Eg) pos) (zn fa fb):=by
 intro e s u H Q I p;refine y8 h hb e s u H Q I ?_;obtain⟨w,k,x,i,o,n⟩:=p;refine⟨w,k,x,i,o,n.bind λd g f v y _ l j r t=>?_⟩;obtain⟨c,rfl,m,q⟩:=bD r t;refine⟨c,m,?_⟩;cases c with
 |true=>unfold Pj at q;rw[ia rfl]at q ⊢;exact⟨f,k,g,i.mono l,j,q⟩
 |false=>unfold Pj at q;rw[ja Va]at q ⊢;exact Kb.here q j (by rw[Rep])
theorem sL(h:FE T X a fa)(hb:FE T X (.BoolOp .Or (b::Eg) pos) fb):FE T X (.BoolOp .Or (a::b::Eg) pos) (UE fa fb):=by
 intro e s u H Q I p;refine AZ h hb e s u H Q I ?_;obtain⟨w,k,x,i,o,n⟩:=p;refine⟨w,k,x,i,o,n.bind λd g f v y _ l j r t=>?_⟩;obtain⟨c,rfl,m,q⟩:=bD r t;refine⟨c,m,?_⟩;cases c with
 |true=>unfold Pj at q;rw[ia rfl]at q ⊢;exact Kb.here q j (by rw[Rep])
 |false=>unfold Pj at q;rw[ja Va]at q ⊢;exact⟨f,k,g,i.mono l,j,q⟩
theorem wQ(h:FE T X a fa):FE T X (.UnaryOp .Not a pos) (DD fa):=by
 intro b s n H Q I j;refine YV h b s n H Q I ?_;obtain⟨o,r,t,f,i,g⟩:=j;refine⟨o,r,t,f,i,g.bind λd u p v w _ x m k l=>?_⟩;obtain⟨c,rfl,e,q⟩:=bD k l;exact⟨c,e,Kb.here q m (by rw[Rep])⟩
theorem vR(n:FT T X c ta)(m:FE T X a fa)(hb:FE T X b fb):FE T X (.IfExp c a b pos) (DB ta fa fb):=by
 intro f s t H Q I q;refine Y0 n m hb f s t H Q I ?_;obtain⟨u,j,w,i,p,o⟩:=q;refine⟨u,j,w,i,p,o.bind λd h g v x _ k l r e=>?_⟩;cases r;cases d with
 |true=>unfold Pj at e;rw[ia rfl]at e ⊢;exact⟨g,j,h,i.mono k,l,e⟩
 |false=>unfold Pj at e;rw[ja Va]at e ⊢;exact⟨g,j,h,i.mono k,l,e⟩
variable{e:Ga}{es:List Ga}{fe:Ev->M D}{fs:Ev->M (List D)}
theorem gc:FA T X [] xb:=by
 intro pos a s e H Q I d;refine Dv pos a s e H Q I ?_;obtain⟨g,h,i,f,c,b⟩:=d;exact Kb.here b c Ua.nil
theorem jb(k:FE T X e fe)(b:FA T X es fs)(m:ma (e::es) X.env=(false,Nb e X.env)::ma es X.env:=by rfl):FA T X (e::es) (Ta fe fs):=by
 intro pos a s w H Q I n;refine Ss k b m pos a s w H Q I ?_;obtain⟨x,h,z,g,b,l⟩:=n;exact⟨x,h,z,g,b,l.bind λd f c v B _ i t o q=>⟨c,h,f,g.mono i,t,q.bind λD A y E C _ j u p r=>Kb.here r u (Ua.cons (Rep.mono j _ _ o) p)⟩⟩
theorem dJ{E:XK}{μ:List Addr}{H:Hp}{σ:Oa}{ds:List D}{vs:List V}{Q:VK}{p:Addr}(h:Kb T E (Rep T) μ H (.ok (.tup ds) σ) Q)(r:Rel T μ H σ)(q:Ua T μ H ds vs)(a:H p=none):Q (.ref p) (upd H p (.tup vs)):=
 h μ (.ref p) _ (Ik a) (r.fresh a) (by rw[Rep];exact⟨p,vs,rfl,Jg,Ua.mono (Ik a) _ _ q⟩)
theorem lA{E:XK}{μ:List Addr}{H:Hp}{σ:Oa}{ds:List D}{vs:List V}{Q:VK}{p:Addr}(h:Kb T E (Rep T) μ H (vy ds σ) Q)(r:Rel T μ H σ)(q:Ua T μ H ds vs)(a:H p=none):Q (.ref p) (upd H p (.lst vs)):=
 h (μ++[p]) (.ref p) _ (uy a) (r.push a ⟨vs,Jg,Ua.mono (uy a) _ _ q⟩) (jF r)
theorem Vu{x1}(h:FA T X es fs):FE T X (.Tuple es x1 pos) (Yq fs):=by
 intro a s l H Q I j;refine AU h a s l H Q I ?_;obtain⟨m,o,q,g,i,d⟩:=j;refine⟨m,o,q,g,i,d.bind λf r n v t _ u k e b=>?_⟩;unfold wy at b;by_cases c:f.length<=Mh
 ·rw[ia c]at b;exact⟨by rw[<-e.length];exact kx c,λp d=>dJ b k e d⟩
 ·rw[ja c]at b;exact b.elim
theorem Ny(h:FA T X es fs):FE T X (.List es pos) (jw fs):=by
 intro a s l H Q I j;refine QL h a s l H Q I ?_;obtain⟨m,o,q,g,i,d⟩:=j;refine⟨m,o,q,g,i,d.bind λf r n v t _ u k e b=>?_⟩;unfold VE at b;by_cases c:f.length<=Mh
 ·rw[ia c]at b;exact⟨by rw[<-e.length];exact kx c,λp d=>lA b k e d⟩
 ·rw[ja c]at b;exact b.elim
theorem qD{E:XK}{μ:List Addr}{H:Hp}{σ:Oa}{ds:List D}{vs:List V}{Q:VK}{p:Addr}(h:Kb T E (Rep T) μ H (.ok (.lst ds) σ) Q)(r:Rel T μ H σ)(q:Ua T μ H ds vs)(a:H p=none):Q (.ref p) (upd H p (.lst vs)):=
 h μ (.ref p) _ (Ik a) (r.fresh a) (by rw[Rep];exact⟨p,vs,rfl,λhm=>(by obtain⟨u,b,_⟩:=r.mem hm;rw[a]at b;cases b),Jg,Ua.mono (Ik a) _ _ q⟩)
theorem bq(h:FA T X es fs):FE T X (.List es pos) (Rn fs):=by
 intro a s l H Q I j;refine QL h a s l H Q I ?_;obtain⟨m,o,q,g,i,d⟩:=j;refine⟨m,o,q,g,i,d.bind λf r n v t _ u k e b=>?_⟩;unfold uz at b;by_cases c:f.length<=Mh
 ·rw[ia c]at b;exact⟨by rw[<-e.length];exact kx c,λp d=>qD b k e d⟩
 ·rw[ja c]at b;exact b.elim
end
noncomputable def oI(g:Int->Int->Int):D->D->M D
 | .int i,.int j=>ret (.int (g i j))
 |_,_=>bad
noncomputable def oB(g:Int->Int->Bool):D->D->M D
 | .int i,.int j=>ret (.bl (g i j))
 |_,_=>bad
noncomputable def Ax(C:Int->Int->Bool)(g:Int->Int->Int):D->D->M D
 | .int i,.int j=>if C i j=true then ret (.int (g i j))else bad
 |_,_=>bad
noncomputable def pG(i j:Int):Bool:=hide ((decide (-(2 ^ 64)<i) && decide (i<2 ^ 64)) || (decide (-(2 ^ 64)<j) && decide (j<2 ^ 64)))
noncomputable def vJ(_ j:Int):Bool:=hide (decide (0<j) && decide (j<1073741824))
noncomputable def VG(_ j:Int):Bool:=hide (decide (0<j))
noncomputable def Qy(i j:Int):Bool:=hide (decide (0<=j) && decide (j<=1000000) && decide (i.natAbs<2 ^ 64))
noncomputable abbrev AI:=oI (λi j=>i - j)
noncomputable abbrev jA:=Ax pG (λi j=>i * j)
noncomputable abbrev bF:=Ax vJ (λi j=>i / j)
noncomputable abbrev Jq:=Ax VG (λi j=>i % j)
noncomputable abbrev Gx:=Ax Qy (λi j=>i ^ j.toNat)
noncomputable abbrev oLt:=oB (λi j=>decide (i<j))
noncomputable abbrev oLe:=oB (λi j=>decide (i<=j))
noncomputable abbrev XC:=oB (λi j=>decide (j<i))
noncomputable abbrev WL:=oB (λi j=>decide (j<=i))
noncomputable def rD(T:Tb)(o:D->D->M D):R2:=λv u H Q=>∃ (E:XK) (a:List Addr) (σ:Oa) (x y:D),Rel T a H σ/\Rep T a H x v/\Rep T a H y u/\Kb T E (Rep T) a H (o x y σ) Q
theorem Gg{T:Tb}{o:D->D->M D}:Bm T (rD T o) o:=λE a H b x y v u Q r p q h=>⟨E,a,b,x,y,r,p,q,h⟩
section
variable{T:Tb}{X:Cx}
theorem Ws{μ:List Addr}{H:Hp}{i:Int}{v:V}(h:Rep T μ H (.int i) v):v=.int i:=by simpa [Rep]using h
theorem uY{g:Int->Int->Int}:Bm T (qr λi j=>.int (g i j)) (oI g):=by
 intro E a H b x y v u Q r p q h;cases x with
 |int i=>
  cases y with
  |int j=>exact⟨i,j,Ws p,Ws q,Kb.here h r (by rw[Rep])⟩
  |_=>exact h.elim
 |_=>exact h.elim
theorem ZE{g:Int->Int->Bool}:Bm T (qr λi j=>.bl (g i j)) (oB g):=by
 intro E a H b x y v u Q r p q h;cases x with
 |int i=>
  cases y with
  |int j=>exact⟨i,j,Ws p,Ws q,Kb.here h r (by rw[Rep])⟩
  |_=>exact h.elim
 |_=>exact h.elim
theorem aF{C:Int->Int->Bool}{b:Int->Int->Prop}{g:Int->Int->Int}(d:∀ i j,C i j=true->b i j):Bm T (rI b λi j=>.int (g i j)) (Ax C g):=by
 intro E f H k x y v u Q r p q h;cases x with
 |int i=>
  cases y with
  |int j=>
   by_cases a:C i j=true
   ·have c:Kb T E (Rep T) f H (ret (.int (g i j)) k) Q:=by
     have e:Ax C g (.int i) (.int j)=ret (.int (g i j)):=by show (if C i j=true then _ else _)=_;rw[ia a]
     rw[e]at h;exact h
    exact⟨i,j,Ws p,Ws q,d i j a,Kb.here c r (by rw[Rep])⟩
   ·have e:Ax C g (.int i) (.int j)=bad:=by show (if C i j=true then _ else _)=_;rw[ja a]
    rw[e]at h;exact h.elim
  |_=>exact h.elim
 |_=>exact h.elim
theorem rM:Bm T (qr λi j=>.int (i - j)) AI:=uY
theorem cH:Bm T (rI yC λi j=>.int (i * j)) jA:=aF λi j h=>by
 simp only[pG,Mp,af,va,Mb]at h;exact h
theorem TR:Bm T (rI OO λi j=>.int (i / j)) bF:=aF λi j h=>by
 simp only[vJ,Mp,va,Mb]at h;exact h
theorem nu:Bm T (rI (λ_ j=>0<j) λi j=>.int (i % j)) Jq:=aF λi j h=>by
 simp only[VG,Mp,Mb]at h;exact h
theorem vP:Bm T (rI aR λi j=>.int (i ^ j.toNat)) Gx:=aF λi j h=>by
 simp only[Qy,Mp,va,Mb]at h;exact⟨h.1.1,h.1.2,h.2⟩
theorem SD:Bm T (qr λi j=>.bl (decide (i<j))) oLt:=ZE
theorem VQ:Bm T (qr λi j=>.bl (decide (i<=j))) oLe:=ZE
theorem cG:Bm T (qr λi j=>.bl (decide (j<i))) XC:=ZE
theorem KY:Bm T (qr λi j=>.bl (decide (j<=i))) WL:=ZE
end
noncomputable def sc:D->Option V
 | .Yb=>some .Yb
 | .bl b=>some (.bl b)
 | .int i=>some (.int i)
 | .str x=>some (.str x)
 |_=>none
noncomputable def kg(σ:Oa)(n:Nat):Option (List D):=match σ[n]? with
 |some (.lst xs)=>some xs
 |_=>none
theorem AG{σ:Oa}{n:Nat}{xs:List D}(h:kg σ n=some xs):σ[n]?=some (.lst xs):=by
 unfold kg at h;cases e:σ[n]? with
 |none=>rw[e]at h;cases h
 |some o=>rw[e]at h;cases o<;>simp at h;subst h;rfl
inductive Kd where
 |s (v:V)|t (xs:List D)|l (xs:List D)|o
noncomputable def kd(σ:Oa):D->Kd
 | .Yb=>.s .Yb
 | .bl b=>.s (.bl b)
 | .int i=>.s (.int i)
 | .str x=>.s (.str x)
 | .tup xs=>.t xs
 | .lst xs=>.l xs
 | .ref n=>match kg σ n with
  |some xs=>.l xs
  |none=>.o
 |_=>.o
noncomputable def Op(f:D->D->Option Bool):List D->List D->Option Bool
 |[],[]=>some true
 |[],_::_=>some false
 |_::_,[]=>some false
 |x::xs,y::a=>match f x y,Op f xs a with
  |some b,some c=>some (b && c)
  |_,_=>none
noncomputable def Oo(f:D->D->Option Bool):Kd->Kd->Option Bool
 | .s a,.s b=>some (vl a b)
 | .t xs,.t c=>Op f xs c
 | .l xs,.l c=>Op f xs c
 | .s _,.t _=>some false
 | .t _,.s _=>some false
 | .s _,.l _=>some false
 | .l _,.s _=>some false
 | .t _,.l _=>some false
 | .l _,.t _=>some false
 |_,_=>none
noncomputable def Vl(σ:Oa):Nat->D->D->Option Bool
 |0,x,y=>Oo (λ_ _=>none) (kd σ x) (kd σ y)
 |n+1,x,y=>Oo (Vl σ n) (kd σ x) (kd σ y)
noncomputable def Xs(f:D->D->Option Bool)(xs ys:List D)(j:Nat):Bool:=match xs[j]?,ys[j]? with
 |some a,some b=>(f a b).getD false
 |_,_=>false
theorem NQ(f:D->D->Option Bool):∀ (xs ys:List D) (b:Bool),Op f xs ys=some b->
  (∀ (j:Nat) (a c:D),xs[j]?=some a->ys[j]?=some c->∃ k,f a c=some k)/\b=((List.range (min xs.length ys.length)).all (Xs f xs ys) && xs.length == ys.length)
 |[],[],b,h=>by simp[Op]at h;subst h;simp
 |[],y::ys,b,h=>by simp[Op]at h;subst h;simp
 |x::xs,[],b,h=>by simp[Op]at h;subst h;simp
 |x::xs,y::ys,b,h=>by
  unfold Op at h;cases d:f x y with
  |none=>rw[d]at h;cases h
  |some b1=>
   cases e:Op f xs ys with
   |none=>rw[d,e]at h;cases h
   |some l=>
    rw[d,e]at h;cases h;obtain⟨r,s⟩:=NQ f xs ys l e;refine⟨λj a c g i=>?_,?_⟩
    ·cases j with
     |zero=>simp at g i;subst g;subst i;exact⟨b1,d⟩
     |succ j=>exact r j a c (by simpa using g) (by simpa using i)
    ·have m:min (x::xs).length (y::ys).length=min xs.length ys.length+1:=by simp[Nat.succ_min_succ]
     have n:∀ j,Xs f (x::xs) (y::ys) (j+1)=Xs f xs ys j:=λj=>by simp[Xs]
     have o:Xs f (x::xs) (y::ys) 0=b1:=by simp[Xs,d]
     rw[m,Ji,Pf,rA,o,s];have p:(Xs f (x::xs) (y::ys) ∘ Nat.succ)=Xs f xs ys:=funext λj=>n j;have q:((x::xs).length == (y::ys).length)=(xs.length == ys.length):=by simp
     rw[p,q,Bool.and_assoc]
section
variable{T:Tb}{μ:List Addr}{H:Hp}{σ:Oa}
theorem Rel.lst(r:Rel T μ H σ){n:Nat}{v:V}{xs:List D}(h:Rep T μ H (.ref n) v)(e:kg σ n=some xs):∃ a vs,v=.ref a/\μ[n]?=some a/\H a=some (.lst vs)/\Ua T μ H xs vs:=by
 obtain⟨a,rfl,b,vs,c,d⟩:=r.at h (AG e);exact⟨a,vs,rfl,b,c,d⟩
theorem oF{d:D}{v a:V}(h:Rep T μ H d v)(e:sc d=some a):v=a:=by
 cases d<;>simp[sc]at e<;>subst e<;>simpa [Rep]using h
theorem WK{d:D}{a:V}(e:sc d=some a):gj a=true:=by
 cases d<;>simp[sc]at e<;>subst e<;>rfl
theorem OZ{a:V}(h:gj a=true):vl a a=true:=by cases a<;>simp[gj,vl]at h ⊢
theorem Jx(r:Rel T μ H σ){d:D}{v:V}(h:Rep T μ H d v):match kd σ d with
  | .s a=>v=a/\gj a=true
  | .t xs=>∃ p c,v=.ref p/\H p=some (.tup c)/\Ua T μ H xs c
  | .l xs=>∃ p c,v=.ref p/\H p=some (.lst c)/\Ua T μ H xs c
  | .o=>True:=by
 cases d with
 |Yb=>exact⟨by simpa [Rep]using h,rfl⟩
 |bl b=>exact⟨by simpa [Rep]using h,rfl⟩
 |int b=>exact⟨by simpa [Rep]using h,rfl⟩
 |str b=>exact⟨by simpa [Rep]using h,rfl⟩
 |tup xs=>rw[Rep]at h;exact h
 |lst xs=>rw[Rep]at h;obtain⟨a,c,f,_,g,i⟩:=h;exact⟨a,c,f,g,i⟩
 |ref n=>
  unfold kd;dsimp only;cases e:kg σ n with
  |none=>trivial
  |some xs=>obtain⟨a,c,f,_,g,i⟩:=r.lst h e;exact⟨a,c,f,g,i⟩
 |_=>trivial
theorem AJ{f:D->D->Option Bool}(g:∀ (x y:D) (v:V) (b:Bool),Rep T μ H x v->Rep T μ H y v->f x y=some b->b=true):∀ (xs ys:List D) (vs:List V) (b:Bool),Ua T μ H xs vs->Ua T μ H ys vs->Op f xs ys=some b->b=true
 |[],ys,vs,b,c,a,h=>by
  rw[Ua]at c;subst c;cases ys with
  |nil=>simp[Op]at h;exact h
  |cons y ys=>rw[Ua]at a;obtain⟨_,_,z,_⟩:=a;cases z
 |x::xs,ys,vs,b,c,a,h=>by
  rw[Ua]at c;obtain⟨v,r,rfl,k,m⟩:=c;cases ys with
  |nil=>rw[Ua]at a;cases a
  |cons y ys=>
   rw[Ua]at a;obtain⟨p,o,z,l,n⟩:=a;cases z;unfold Op at h;cases d:f x y with
   |none=>rw[d]at h;cases h
   |some i=>
    cases e:Op f xs ys with
    |none=>rw[d,e]at h;cases h
    |some j=>
     rw[d,e]at h;cases h;rw[g x y v i k l d,AJ g xs ys r j m n e];rfl
theorem OF(r:Rel T μ H σ){f:D->D->Option Bool}(B:∀ (x y:D) (v:V) (b:Bool),Rep T μ H x v->Rep T μ H y v->f x y=some b->b=true){x y:D}{v:V}{b:Bool}(C:Rep T μ H x v)(E:Rep T μ H y v)(h:Oo f (kd σ x) (kd σ y)=some b):b=true:=by
 have u:=Jx r C;have g:=Jx r E;generalize kd σ x=F at h u;generalize kd σ y=w at h g;cases F with
 |s a=>
  obtain⟨rfl,i⟩:=u;cases w with
  |s c=>obtain⟨rfl,_⟩:=g;cases h;exact OZ i
  |t xs=>obtain⟨p,m,rfl,_⟩:=g;simp[gj]at i
  |l xs=>obtain⟨p,m,rfl,_⟩:=g;simp[gj]at i
  |o=>cases h
 |t xs=>
  obtain⟨p,m,rfl,j,z⟩:=u;cases w with
  |s c=>obtain⟨e,i⟩:=g;rw[<-e]at i;simp[gj]at i
  |t n=>
   obtain⟨q,A,e,d,k⟩:=g;cases e;rw[j]at d;cases d;exact AJ B xs n m b z k h
  |l n=>obtain⟨q,A,e,d,k⟩:=g;cases e;rw[j]at d;cases d
  |o=>cases h
 |l xs=>
  obtain⟨p,m,rfl,j,z⟩:=u;cases w with
  |s c=>obtain⟨e,i⟩:=g;rw[<-e]at i;simp[gj]at i
  |t n=>obtain⟨q,A,e,d,k⟩:=g;cases e;rw[j]at d;cases d
  |l n=>
   obtain⟨q,A,e,d,k⟩:=g;cases e;rw[j]at d;cases d;exact AJ B xs n m b z k h
  |o=>cases h
 |o=>cases h
theorem oM(r:Rel T μ H σ):∀ (n:Nat) (x y:D) (v:V) (b:Bool),Rep T μ H x v->Rep T μ H y v->Vl σ n x y=some b->b=true
 |0,x,y,v,b,a,c,h=>OF r (λ_ _ _ _ _ _ z=>by cases z) a c h
 |n+1,x,y,v,b,a,c,h=>OF r (λx y v b d e f=>oM r n x y v b d e f) a c h
end
section
variable{T:Tb}{X:Cx}{pins:List (Addr × Obj)}{st:St}{μ:List Addr}{H:Hp}{s:Shared}{σ:Oa}
theorem kE{A:Da}{a:V}{u:Value}{p:Addr}{its:Array Value}(e:gj a=true)(r:vd a u)(c:s.heap.IsTuple p its)(d:A.units<cLine):ve A s u (.ref p) false/\ve A s (.ref p) u false/\Gi A s u (.ref p) false/\Gi A s (.ref p) u false/\ph A s u (.ref p) true/\ph A s (.ref p) u true:=by
 cases a with
 |Yb=>cases r;exact⟨.none_tuple c d,.tuple_none c d,.none_tuple c d,.tuple_none c d,.none_tuple c d,.tuple_none c d⟩
 |bl b=>cases r;exact⟨.bool_tuple b c d,.tuple_bool b c d,.bool_tuple b c d,.tuple_bool b c d,.bool_tuple b c d,.tuple_bool b c d⟩
 |int b=>obtain⟨t,rfl⟩:=r;exact⟨.int_tuple b t c d,.tuple_int b t c d,.int_tuple b t c d,.tuple_int b t c d,.int_tuple b t c d,.tuple_int b t c d⟩
 |str b=>obtain⟨t,rfl⟩:=r;exact⟨.str_tuple b t c d,.tuple_str b t c d,.str_tuple b t c d,.tuple_str b t c d,.str_tuple b t c d,.tuple_str b t c d⟩
 |_=>simp[gj]at e
theorem QR{A:Da}{a:V}{u:Value}{p:Addr}{its:Array Value}(e:gj a=true)(r:vd a u)(c:s.heap.IsList p its)(d:A.units<cLine):Gi A s u (.ref p) false/\Gi A s (.ref p) u false/\ph A s u (.ref p) true/\ph A s (.ref p) u true:=by
 cases a with
 |Yb=>cases r;exact⟨.none_list c d,.list_none c d,.none_list c d,.list_none c d⟩
 |bl b=>cases r;exact⟨.bool_list b c d,.list_bool b c d,.bool_list b c d,.list_bool b c d⟩
 |int b=>obtain⟨t,rfl⟩:=r;exact⟨.int_list b t c d,.list_int b t c d,.int_list b t c d,.list_int b t c d⟩
 |str b=>obtain⟨t,rfl⟩:=r;exact⟨.str_list b t c d,.list_str b t c d,.str_list b t c d,.list_str b t c d⟩
 |_=>simp[gj]at e
theorem Z5{A:Da}{a:V}{u:Value}{p:Addr}{its:Array Value}(e:gj a=true)(r:vd a u)(c:s.heap.IsList p its)(d:A.units<cLine):ve A s u (.ref p) false:=by
 cases a with
 |Yb=>cases r;exact .none_list c d
 |bl b=>cases r;exact .bool_list b c d
 |int b=>obtain⟨t,rfl⟩:=r;exact .int_list b t c d
 |str b=>obtain⟨t,rfl⟩:=r;exact .str_list b t c d
 |_=>simp[gj]at e
theorem m5{A:Da}{a:V}{u:Value}{p:Addr}{its:Array Value}(e:gj a=true)(r:vd a u)(c:s.heap.IsList p its)(d:A.units<cLine):ve A s (.ref p) u false:=by
 cases a with
 |Yb=>cases r;exact .list_none c d
 |bl b=>cases r;exact .list_bool b c d
 |int b=>obtain⟨t,rfl⟩:=r;exact .list_int b t c d
 |str b=>obtain⟨t,rfl⟩:=r;exact .list_str b t c d
 |_=>simp[gj]at e
theorem B4{A:Da}{a b:V}{u w:Value}(f:vd a u)(d:vd b w)(g:gj a=true)(e:gj b=true):Gi A s u w (vl a b)/\ph A s u w (!vl a b):=by
 cases a with
 |Yb=>
  cases f;cases b with
  |Yb=>cases d;exact⟨.none_none,.none_none⟩
  |bl y=>cases d;exact⟨.none_bool y,.none_bool y⟩
  |int y=>obtain⟨t,rfl⟩:=d;exact⟨.none_int y t,.none_int y t⟩
  |str y=>obtain⟨t,rfl⟩:=d;exact⟨.none_str y t,.none_str y t⟩
  |_=>simp[gj]at e
 |bl x=>
  cases f;cases b with
  |Yb=>cases d;exact⟨.bool_none x,.bool_none x⟩
  |bl y=>cases d;exact⟨.bool_bool x y,.bool_bool x y⟩
  |int y=>obtain⟨t,rfl⟩:=d;exact⟨.bool_int x y t,.bool_int x y t⟩
  |str y=>obtain⟨t,rfl⟩:=d;exact⟨.bool_str x y t,.bool_str x y t⟩
  |_=>simp[gj]at e
 |int x=>
  obtain⟨c,rfl⟩:=f;cases b with
  |Yb=>cases d;exact⟨.int_none x c,.int_none x c⟩
  |bl y=>cases d;exact⟨.int_bool x c y,.int_bool x c y⟩
  |int y=>obtain⟨t,rfl⟩:=d;exact⟨.int_int x c y t,.int_int x c y t⟩
  |str y=>obtain⟨t,rfl⟩:=d;exact⟨.int_str x c y t,.int_str x c y t⟩
  |_=>simp[gj]at e
 |str x=>
  obtain⟨c,rfl⟩:=f;cases b with
  |Yb=>cases d;exact⟨.str_none x c,.str_none x c⟩
  |bl y=>cases d;exact⟨.str_bool x c y,.str_bool x c y⟩
  |int y=>obtain⟨t,rfl⟩:=d;exact⟨.str_int x c y t,.str_int x c y t⟩
  |str y=>obtain⟨t,rfl⟩:=d;exact⟨.str_str x c y t,.str_str x c y t⟩
  |_=>simp[gj]at e
 |_=>simp[gj]at g
theorem uI{xs:List V}{us:List Value}{i:Nat}{u:Value}(r:Pd xs us)(h:us[i]?=some u):∃ x,xs[i]?=some x/\vd x u:=by
 have d:=r.length;have c:=(ka.mp h).1;obtain⟨e,a,b⟩:=r.get (i:=i) (x:=xs[i]'(by omega)) (by simp);rw[h]at a;cases a;exact⟨_,by simp,b⟩
theorem pO{ds:List D}{vs:List V}{i:Nat}{v:V}(r:Ua T μ H ds vs)(h:vs[i]?=some v):∃ d,ds[i]?=some d/\Rep T μ H d v:=by
 have e:=r.length;have c:=(ka.mp h).1;obtain⟨f,a,b⟩:=r.get (i:=i) (d:=ds[i]'(by omega)) (by simp);rw[h]at a;cases a;exact⟨_,by simp,b⟩
theorem dO{A:Da}{f:D->D->Option Bool}(C:∀ (x y:D) (v w:V) (q r:Value) (b:Bool),Rep T μ H x v->Rep T μ H y w->vd v q->vd w r->f x y=some b->ve A s q r b)
  {xs ys:List D} {vs ws:List V} {us zs:List Value} {b:Bool} (o:Ua T μ H xs vs) (p:Ua T μ H ys ws) (m:Pd vs us) (n:Pd ws zs) (h:Op f xs ys=some b) :
  (∀ j (g:j<us.toArray.size) (l:j<zs.toArray.size),ve A s us.toArray[j] zs.toArray[j] (Xs f xs ys j))/\b=((List.range (min us.toArray.size zs.toArray.size)).all (Xs f xs ys) && us.toArray.size == zs.toArray.size):=by
 obtain⟨g,l⟩:=NQ f xs ys b h;have E:=o.length;have F:=p.length;have G:=m.length;have I:=n.length;refine⟨λj L g2=>?_,?_⟩
 ·obtain⟨v,t,K⟩:=uI (i:=j) (u:=us.toArray[j]) m (by simp);obtain⟨w,z,a⟩:=uI (i:=j) (u:=zs.toArray[j]) n (by simp);obtain⟨x,c,J⟩:=pO o t;obtain⟨y,d,p4⟩:=pO p z;obtain⟨k,e⟩:=g j x y c d;have B:Xs f xs ys j=k:=by simp[Xs,c,d,e]
  rw[B];exact C x y v w _ _ k J p4 K a e
 ·simp only[na];rw[l,E,F,G,I]
noncomputable abbrev iM(A:Da)(s:Shared)(v w:Value)(b:Bool):Prop:=Gi A s v w b/\ph A s v w (!b)
theorem CG{A:Da}(I:Inv X pins st H s)(r:Rel T μ H σ)(hu:A.units+1<cLine){f:D->D->Option Bool}
  (hf:∀ (x y:D) (v w:V) (P Q:Value) (b:Bool),Rep T μ H x v->Rep T μ H y w->vd v P->vd w Q->f x y=some b->ve A.in1 s P Q b)
  {x y:D} {v w:V} {P Q:Value} {b:Bool} (hx:Rep T μ H x v) (hy:Rep T μ H y w) (O:vd v P) (d:vd w Q) (h:Oo f (kd σ x) (kd σ y)=some b):iM A s P Q b:=by
 have g:A.units<cLine:=by omega
 have S:=Jx r hx;have m:=Jx r hy;generalize kd σ x=k1 at h S;generalize kd σ y=Y at h m;cases k1 with
 |o=>cases h
 |s a=>
  obtain⟨rfl,U⟩:=S;cases Y with
  |o=>cases h
  |s c=>obtain⟨rfl,L⟩:=m;cases h;exact B4 O d U L
  |t C=>
   obtain⟨q,R,rfl,j,z⟩:=m;cases h;cases d;obtain⟨k,_,u,_⟩:=L2.Inv.tuple I (Th.of (K:=X.K) j);obtain⟨_,_,E,F,G,J⟩:=kE U O u g;exact⟨E,G⟩
  |l C=>
   obtain⟨q,R,rfl,j,z⟩:=m;cases h;cases d;obtain⟨k,_,pl,_⟩:=L2.Inv.list I (cf.of (K:=X.K) j);obtain⟨E,F,G,J⟩:=QR U O pl.isList g;exact⟨E,G⟩
 |t xs=>
  obtain⟨p,vs,rfl,W,r1⟩:=S;cases O;obtain⟨k,Z,N,_⟩:=L2.Inv.tuple I (Th.of (K:=X.K) W);cases Y with
  |o=>cases h
  |s c=>
   obtain⟨rfl,L⟩:=m;cases h;obtain⟨_,_,E,F,G,J⟩:=kE L d N g;exact⟨F,J⟩
  |t C=>
   obtain⟨q,R,rfl,j,z⟩:=m;cases d;obtain⟨i,q2,u,_⟩:=L2.Inv.tuple I (Th.of (K:=X.K) j);obtain⟨M,g2⟩:=dO (A:=A.in1) hf r1 z Z q2 h;rw[g2];exact⟨.tuples N u (by omega) M,.tuples N u (by omega) M⟩
  |l C=>
   obtain⟨q,R,rfl,j,z⟩:=m;cases h;cases d;obtain⟨i,_,pl,_⟩:=L2.Inv.list I (cf.of (K:=X.K) j);exact⟨.tuple_list N pl.isList g,.tuple_list N pl.isList g⟩
 |l xs=>
  obtain⟨p,vs,rfl,W,r1⟩:=S;cases O;obtain⟨k,Z,pl,_⟩:=L2.Inv.list I (cf.of (K:=X.K) W);cases Y with
  |o=>cases h
  |s c=>
   obtain⟨rfl,L⟩:=m;cases h;obtain⟨E,F,G,J⟩:=QR L d pl.isList g;exact⟨F,J⟩
  |t C=>
   obtain⟨q,R,rfl,j,z⟩:=m;cases h;cases d;obtain⟨i,_,u,_⟩:=L2.Inv.tuple I (Th.of (K:=X.K) j);exact⟨.list_tuple pl.isList u g,.list_tuple pl.isList u g⟩
  |l C=>
   obtain⟨q,R,rfl,j,z⟩:=m;cases d;obtain⟨i,q2,n,_⟩:=L2.Inv.list I (cf.of (K:=X.K) j);obtain⟨M,g2⟩:=dO (A:=A.in1) hf r1 z Z q2 h;by_cases B:k.toArray.size=i.toArray.size
   ·have e:b=(List.range k.toArray.size).all (Xs f xs C):=by rw[g2,<-B];simp
    rw[e];exact⟨.lists pl.isList n.isList B (by omega) M,.lists pl.isList n.isList B (by omega) M⟩
   ·have e:b=false:=by rw[g2,pd.mpr B,Sx]
    rw[e];exact⟨.lists_lengths pl.isList n.isList (by simpa using B) (by omega),.lists_lengths pl.isList n.isList (by simpa using B) (by omega)⟩
theorem fQ{A:Da}(I:Inv X pins st H s)(r:Rel T μ H σ)(Y:A.units+1<cLine){f:D->D->Option Bool}
  (R:∀ (x y:D) (v w:V) (F G:Value) (b:Bool),Rep T μ H x v->Rep T μ H y w->vd v F->vd w G->f x y=some b->ve A.in1 s F G b)
  (W:∀ (x y:D) (v:V) (b:Bool),Rep T μ H x v->Rep T μ H y v->f x y=some b->b=true)
  {x y:D} {v w:V} {F G:Value} {b:Bool} (J:Rep T μ H x v) (L:Rep T μ H y w) (n:vd v F) (d:vd w G) (h:Oo f (kd σ x) (kd σ y)=some b):ve A s F G b:=by
 have k:A.units<cLine:=by omega
 have M:=(CG I r Y R J L n d h).1;by_cases i:v=w
 ·subst i;have hb:=OF r W J L h;have m:=Jx r J;have g:=Jx r L;generalize kd σ x=P at h m;generalize kd σ y=E at h g;cases P with
  |o=>cases h
  |s a=>
   obtain⟨rfl,j⟩:=m;cases E with
   |o=>cases h
   |s c=>obtain⟨rfl,u⟩:=g;cases h;exact eJ n d j u
   |t C=>obtain⟨q,B,e,_⟩:=g;rw[e]at j;simp[gj]at j
   |l C=>obtain⟨q,B,e,_⟩:=g;rw[e]at j;simp[gj]at j
  |t xs=>
   obtain⟨p,Q,rfl,_⟩:=m;cases n;cases d;rw[hb];exact Hk _
  |l xs=>
   obtain⟨p,Q,rfl,_⟩:=m;cases n;cases d;rw[hb];exact Hk _
 ·have m:=Jx r J;have g:=Jx r L;generalize kd σ x=P at h m;generalize kd σ y=E at h g;cases P with
  |o=>cases h
  |s a=>
   obtain⟨rfl,j⟩:=m;cases E with
   |o=>cases h
   |s c=>obtain⟨rfl,u⟩:=g;cases h;exact eJ n d j u
   |t C=>
    obtain⟨q,B,rfl,O,r2⟩:=g;cases h;cases d;obtain⟨z,_,U,_⟩:=L2.Inv.tuple I (Th.of (K:=X.K) O);exact(kE j n U k).1
   |l C=>
    obtain⟨q,B,rfl,O,r2⟩:=g;cases h;cases d;obtain⟨z,_,pl,_⟩:=L2.Inv.list I (cf.of (K:=X.K) O);exact Z5 j n pl.isList k
  |t xs=>
   obtain⟨p,Q,rfl,N,Z⟩:=m;cases n;cases E with
   |o=>cases h
   |s c=>
    obtain⟨rfl,u⟩:=g;cases h;obtain⟨z,_,S,_⟩:=L2.Inv.tuple I (Th.of (K:=X.K) N);exact(kE u d S k).2.1
   |t C=>obtain⟨q,B,rfl,_⟩:=g;cases d;exact .of_refs (λe=>i (by rw[e])) M
   |l C=>obtain⟨q,B,rfl,_⟩:=g;cases d;exact .of_refs (λe=>i (by rw[e])) M
  |l xs=>
   obtain⟨p,Q,rfl,N,Z⟩:=m;cases n;cases E with
   |o=>cases h
   |s c=>
    obtain⟨rfl,u⟩:=g;cases h;obtain⟨z,_,pl,_⟩:=L2.Inv.list I (cf.of (K:=X.K) N);exact m5 u d pl.isList k
   |t C=>obtain⟨q,B,rfl,_⟩:=g;cases d;exact .of_refs (λe=>i (by rw[e])) M
   |l C=>obtain⟨q,B,rfl,_⟩:=g;cases d;exact .of_refs (λe=>i (by rw[e])) M
theorem wR(I:Inv X pins st H s)(r:Rel T μ H σ):∀ (n:Nat) (A:Da) (x y:D) (v w:V) (c d:Value) (b:Bool),A.units+n+1<cLine->Rep T μ H x v->Rep T μ H y w->vd v c->vd w d->Vl σ n x y=some b->ve A s c d b
 |0,A,x,y,v,w,c,d,b,o,i,j,k,a,h=>fQ I r (by omega) (λ_ _ _ _ _ _ _ _ _ _ _ z=>by cases z) (λ_ _ _ _ _ _ z=>by cases z) i j k a h
 |n+1,A,x,y,v,w,c,d,b,o,i,j,k,a,h=>fQ I r (by omega) (λx y v w c d b e f g l m=>wR I r n A.in1 x y v w c d b (by show A.units+1+n+1<cLine;omega) e f g l m) (λx y v b e f g=>oM r n x y v b e f g) i j k a h
theorem jM{A:Da}(I:Inv X pins st H s)(r:Rel T μ H σ)(n:Nat)(o:A.units+n+1<cLine){x y:D}{v w:V}{c d:Value}{b:Bool}(e:Rep T μ H x v)(f:Rep T μ H y w)(g:vd v c)(a:vd w d)(h:Vl σ n x y=some b):iM A s c d b:=by
 cases n with
 |zero=>exact CG I r (by omega) (λ_ _ _ _ _ _ _ _ _ _ _ z=>by cases z) e f g a h
 |succ n=>exact CG I r (by omega) (λx y v w c d b i j k l m=>wR I r n A.in1 x y v w c d b (by show A.units+1+n+1<cLine;omega) i j k l m) e f g a h
end
section
variable{T:Tb}{X:Cx}{pins:List (Addr × Obj)}{st:St}{μ:List Addr}{H:Hp}{s:Shared}{σ:Oa}
noncomputable def oEq(x y:D):M D:=λσ=>match Vl σ 8 x y with
 |some b=>.ok (.bl b) σ
 |none=>.bad
noncomputable def gk(x y:D):M D:=λσ=>match Vl σ 8 x y with
 |some b=>.ok (.bl (!b)) σ
 |none=>.bad
theorem Oq(i:X.A.units+9<cLine):Ei X (Qc .Eq) (rD T oEq):=by
 intro pins s st H v u k j Q I g f h;obtain⟨E,μ,σ,x,y,r,c,d,a⟩:=h;unfold oEq at a;cases e:Vl σ 8 x y with
 |none=>rw[e]at a;exact a.elim
 |some b=>
  rw[e]at a;have:=(jM I r 8 (by omega) c d g f e).1 X.prog X.w X.xe (EP X pins st Q) ⟨.bl b,H,I,rfl,Kb.here a r (by rw[Rep])⟩;exact this
theorem Pq(i:X.A.units+9<cLine):Ei X (Qc .NotEq) (rD T gk):=by
 intro pins s st H v u k j Q I g f h;obtain⟨E,μ,σ,x,y,r,c,d,a⟩:=h;unfold gk at a;cases e:Vl σ 8 x y with
 |none=>rw[e]at a;exact a.elim
 |some b=>
  rw[e]at a;have:=(jM I r 8 (by omega) c d g f e).2 X.prog X.w X.xe (EP X pins st Q) ⟨.bl (!b),H,I,rfl,Kb.here a r (by rw[Rep])⟩;exact this
noncomputable def ox(x y:D):M D:=λσ=>match y with
 | .Yb=>(match x with
  | .Yb=>.ok (.bl true) σ
  |_=>.ok (.bl false) σ)
 |_=>.bad
theorem l7{x:D}{v:V}(h:Rep T μ H x v):decide (v=.Yb)=(match x with | .Yb=>true|_=>false):=by
 cases x with
 |Yb=>rw[Rep]at h;subst h;rfl
 |tup ds=>rw[Rep]at h;obtain⟨p,_,rfl,_⟩:=h;simp
 |cg ds=>rw[Rep]at h;obtain⟨p,rfl,_⟩:=h;simp
 |ref ds=>rw[Rep]at h;obtain⟨p,rfl,_⟩:=h;simp
 |lst ds=>rw[Rep]at h;obtain⟨p,_,rfl,_⟩:=h;simp
 |Na a ds=>rw[Rep]at h;obtain⟨p,_,rfl,_⟩:=h;simp
 |obj c a ds=>rw[Rep]at h;obtain⟨p,_,_,rfl,_⟩:=h;simp
 |Wo c=>rw[Rep]at h;obtain⟨p,_,rfl,_⟩:=h;simp
 |gt ds=>rw[Rep]at h;obtain⟨p,rfl,_⟩:=h;simp
 |_=>rw[Rep]at h;subst h;simp
theorem uG:Bm T (λx y H Q=>y=.Yb/\Q (.bl (decide (x=.Yb))) H) ox:=by
 intro E μ H σ x y v u Q r p q h;cases y with
 |Yb=>
  refine⟨by rw[Rep]at q;exact q,?_⟩;rw[l7 p];cases x<;>exact Kb.here h r (by rw[Rep])
 |_=>exact h.elim
theorem yW{ds:List D}{vs:List V}{k:Int}{d:D}(r:Ua T μ H ds vs)(h:Sm ds k=some d):∃ v,Sm vs k=some v/\Rep T μ H d v:=by
 unfold Sm at h ⊢;rw[<-r.length];cases e:az ds.length k with
 |none=>rw[e]at h;cases h
 |some j=>rw[e]at h;exact r.get h
theorem tE:∀ (ns:List Int),Ua T μ H (ns.map D.int) (ns.map V.int)
 |[]=>Ua.nil
 |n::ns=>Ua.cons (by rw[Rep]) (tE ns)
noncomputable def ym(σ:Oa):D->Option (List D)
 | .tup xs=>some xs
 | .cg ns=>some (ns.map D.int)
 | .ref n=>kg σ n
 | .lst xs=>some xs
 | .gt ss=>some (ss.map D.str)
 |_=>none
noncomputable def Ld(x i:D):M D:=λσ=>match i with
 | .int k=>(match ym σ x with
  |some xs=>(match Sm xs k with
   |some d=>.ok d σ
   |none=>.bad)
  |none=>.bad)
 |_=>.bad
theorem SM:∀ (ss:List qa),Ua T μ H (ss.map D.str) (ss.map V.str)
 |[]=>Ua.nil
 |n::ns=>Ua.cons (by rw[Rep]) (SM ns)
theorem dA(r:Rel T μ H σ){x:D}{v:V}{xs:List D}(h:Rep T μ H x v)(e:ym σ x=some xs):∃ p vs,v=.ref p/\Ua T μ H xs vs/\(cf T.K H p vs\/Th T.K H p vs):=by
 cases x with
 |tup ds=>cases e;rw[Rep]at h;obtain⟨p,vs,rfl,b,c⟩:=h;exact⟨p,vs,rfl,c,.inr (Th.of b)⟩
 |cg ns=>cases e;rw[Rep]at h;obtain⟨p,rfl,b⟩:=h;exact⟨p,_,rfl,tE ns,.inl b.seq⟩
 |ref n=>obtain⟨a,vs,rfl,_,b,c⟩:=r.lst h e;exact⟨a,vs,rfl,c,.inl (cf.of b)⟩
 |lst ds=>cases e;rw[Rep]at h;obtain⟨p,vs,rfl,_,b,c⟩:=h;exact⟨p,vs,rfl,c,.inl (cf.of b)⟩
 |gt ss=>cases e;rw[Rep]at h;obtain⟨p,rfl,b⟩:=h;exact⟨p,_,rfl,SM ss,.inr (.inr b)⟩
 |_=>cases e
theorem ah(l:T.K=X.K):Bm T (λx y H Q=>wG X.K x y H Q\/CH X.K x y H Q) Ld:=by
 intro E μ H σ x y v u Q r p q h;cases y with
 |int k=>
  unfold Ld at h;cases e:ym σ x with
  |none=>simp only[e]at h;exact h.elim
  |some xs=>
   simp only[e]at h;cases c:Sm xs k with
   |none=>rw[c]at h;exact h.elim
   |some d=>
    rw[c]at h;obtain⟨a,i,rfl,j,b⟩:=dA r p e;obtain⟨w,f,g⟩:=yW j c;rw[l]at b;rcases b with b|b
    ·exact .inl ⟨a,i,k,w,rfl,Ws q,b,f,Kb.here h r g⟩
    ·exact .inr ⟨a,i,k,w,rfl,Ws q,b,f,Kb.here h r g⟩
 |_=>exact h.elim
theorem Yg:nw X (λx y H Q=>wG X.K x y H Q\/CH X.K x y H Q):=pY.or ZT
noncomputable def dw(d:D):Bool:=(sc d).isSome
noncomputable def zx(x y:D):Bool:=match sc x,sc y with
 |some a,some b=>vl a b
 |_,_=>false
noncomputable def VB(neg:Bool)(x y:D):M D:=λσ=>match ym σ y with
 |some xs=>if (dw x && xs.all dw)=true then .ok (.bl (if neg then !(xs.any λz=>zx z x)else xs.any λz=>zx z x)) σ else .bad
 |none=>.bad
theorem cR:∀ {ds:List D} {vs:List V},Ua T μ H ds vs->ds.all dw=true->vs.all gj=true
 |[],vs,h,_=>by rw[Ua]at h;subst h;rfl
 |d::ds,vs,h,e=>by
  rw[Ua]at h;obtain⟨v,r,rfl,c,f⟩:=h;rw[Pf,va]at e ⊢;obtain⟨a,b⟩:=ue.mp e.1;exact⟨by rw[oF c b];exact WK b,cR f e.2⟩
theorem LK{x:D}{a:V}(ex:sc x=some a):∀ {ds:List D} {vs:List V},Ua T μ H ds vs->ds.all dw=true->(ds.any λz=>zx z x)=vs.any λy=>vl y a
 |[],vs,h,_=>by rw[Ua]at h;subst h;rfl
 |d::ds,vs,h,e=>by
  rw[Ua]at h;obtain⟨v,r,rfl,f,g⟩:=h;rw[Pf,va]at e;obtain⟨c,b⟩:=ue.mp e.1;rw[Oc,Oc,LK ex g e.2];have:zx d x=vl v a:=by unfold zx;rw[b,ex,oF f b]
  rw[this]
theorem wT(k:T.K=X.K)(neg:Bool):Bm T (yK X.K neg) (VB neg):=by
 intro E μ H σ x y v u Q r p q h;unfold VB at h;cases e:ym σ y with
 |none=>rw[e]at h;exact h.elim
 |some xs=>
  rw[e]at h;by_cases c:(dw x && xs.all dw)=true
  ·simp only[c,ie]at h;rw[va]at c;obtain⟨a,d⟩:=ue.mp c.1;obtain⟨b,i,rfl,f,g⟩:=dA r q e;rw[k]at g;refine⟨b,i,rfl,g,by rw[oF p d];exact WK d,cR f c.2,?_⟩;have j:OD v i=xs.any λz=>zx z x:=by unfold OD;rw[LK d f c.2,oF p d]
   rw[j];exact Kb.here h r (by rw[Rep])
  ·simp only[c]at h;exact h.elim
noncomputable def Vo(xs:List D):M D:=λσ=>match xs with
 |[x]=>(match ym σ x with
  |some a=>.ok (.int a.length) σ
  |none=>.bad)
 |_=>.bad
theorem ow(g:T.K=X.K):Ot T (λxs H Q=>∃ p ys,xs=[.ref p]/\(cf X.K H p ys\/Th X.K H p ys)/\Q (.int ys.length) H) Vo:=by
 intro E μ H σ xs d Q r p h
 match xs with
 |[]=>exact h.elim
 |[x]=>
  rw[Ua]at p;obtain⟨v,w,rfl,i,c⟩:=p;rw[Ua]at c;subst c;unfold Vo at h;cases e:ym σ x with
  |none=>simp only[e]at h;exact h.elim
  |some ys=>
   simp only[e]at h;obtain⟨b,d,rfl,f,a⟩:=dA r i e;rw[g]at a;exact⟨b,d,rfl,a,by rw[<-f.length];exact Kb.here h r (by rw[Rep])⟩
 |_::_::_=>exact h.elim
noncomputable def Bn(xs:List D):M D:=λσ=>match xs with
 |[x]=>(match ym σ x with
  |some a=>vy a σ
  |none=>.bad)
 |_=>.bad
theorem jy(g:T.K=X.K):Ot T (λxs H Q=>∃ p ys,xs=[.ref p]/\(cf X.K H p ys\/Th X.K H p ys)/\∀ l,H l=none->Q (.ref l) (upd H l (.lst ys))) Bn:=by
 intro E μ H σ xs d Q r p h
 match xs with
 |[]=>exact h.elim
 |[x]=>
  rw[Ua]at p;obtain⟨v,w,rfl,j,c⟩:=p;rw[Ua]at c;subst c;unfold Bn at h;cases e:ym σ x with
  |none=>simp only[e]at h;exact h.elim
  |some ys=>
   simp only[e]at h;obtain⟨b,d,rfl,f,a⟩:=dA r j e;rw[g]at a;exact⟨b,d,rfl,a,λl i=>lA h r f i⟩
 |_::_::_=>exact h.elim
end
noncomputable def Ii(o:List D->M D)(fs:Ev->M (List D)):Ev->M D:=λa=>Mc (fs a) o
section
variable{T:Tb}{X:Cx}{x:qa}{p pos:Se}{e:Ga}{es:List Ga}{fs:Ev->M (List D)}{id ty:String}{r:List V->Hp->VK->Prop}{o:List D->M D}
theorem EL(j:Ot T r o){c:St}{H:Hp}{Q:VK}(h:tF T X (Ii o fs) c H Q):UI r (tL T X fs) c H Q:=by
 obtain⟨p,q,s,f,i,g⟩:=h;exact⟨p,q,s,f,i,g.bind λe b a n d _ t m k l=>j _ a d b e n Q m k l⟩
theorem As(f:Wm X (.builtin id) r)(j:Ot T r o)(i:Gl X x)(hm:X.mg x=none)(k:bootBuiltins x=some (.builtin id))(d:FA T X (e::es) fs)(hn:x ≠ "__name__":=by decide)(b:(x == ("__debug__" : qa))=false:=by decide)
  (g:ma (e::es) X.env=(false,Nb e X.env)::ma es X.env:=by rfl) (c:(kc pos (ma es X.env)).any (·.1)=false:=by rfl):FE T X (.Call (.Name x p) (e::es) [] pos) (Ii o fs):=
 λa s l H Q I h=>mB f i hm k d hn b g c a s l H Q I (EL j h)
theorem Qv(f:Wm X (.type ty) r)(j:Ot T r o)(i:Gl X x)(hm:X.mg x=none)(k:bootBuiltins x=some (.type ty))(d:FA T X (e::es) fs)(hn:x ≠ "__name__":=by decide)(b:(x == ("__debug__" : qa))=false:=by decide)
  (g:ma (e::es) X.env=(false,Nb e X.env)::ma es X.env:=by rfl) (c:(kc pos (ma es X.env)).any (·.1)=false:=by rfl):FE T X (.Call (.Name x p) (e::es) [] pos) (Ii o fs):=
 λa s l H Q I h=>gH f i hm k d hn b g c a s l H Q I (EL j h)
end
noncomputable def Ff(σ:Oa):D->Option (List D)
 | .ref n=>kg σ n
 | .lst xs=>some xs
 |_=>none
theorem Rel.ls{T:Tb}{μ:List Addr}{H:Hp}{σ:Oa}(r:Rel T μ H σ){x:D}{v:V}{xs:List D}(h:Rep T μ H x v)(e:Ff σ x=some xs):∃ a vs,v=.ref a/\H a=some (.lst vs)/\Ua T μ H xs vs:=by
 cases x with
 |ref n=>obtain⟨a,vs,b,_,c,d⟩:=r.lst h e;exact⟨a,vs,b,c,d⟩
 |lst f=>cases e;rw[Rep]at h;obtain⟨a,vs,b,_,c,d⟩:=h;exact⟨a,vs,b,c,d⟩
 |_=>cases e
noncomputable def Vs(o:D->List D->M D)(m:M (List D))(x:D):M D:=λa=>match Ff a x with
 |some _=>Mc m (o x) a
 |none=>.bad
noncomputable def Vv(o:D->List D->M D)(f:Ev->M D)(fs:Ev->M (List D)):Ev->M D:=λa=>Mc (f a) (Vs o (fs a))
noncomputable def my(T:Tb)(r:V->List V->Hp->VK->Prop)(o:D->List D->M D):Prop:=∀ (E:XK) a H c x xs v b Q,Rel T a H c->Rep T a H x v->Ua T a H xs b->Kb T E (Rep T) a H (o x xs c) Q->r v b H Q
noncomputable def yk(x:D)(xs:List D):M D:=λb=>match x,xs with
 | .ref n,[y]=>(match kg b n with
  |some a=>if a.length<Mh then .ok .Yb (b.set n (.lst (a++[y])))else .bad
  |none=>.bad)
 |_,_=>.bad
section
variable{T:Tb}{X:Cx}{o e:Ga}{es:List Ga}{f:Ev->M D}{fs:Ev->M (List D)}{name:qa}{apos cpos:Se}{id:String}{r:V->List V->Hp->VK->Prop}{g:D->List D->M D}
theorem Oz(O:ti "list")(slot:pz "list" name id)(p:ql (.builtin id)=pure (.type "method_descriptor"))(hm:Sr X id r)(M:my T r g)(J:FE T X o f)(G:FA T X (e::es) fs)
  (c:Uc o name X.env (Nb o X.env)=Nb o X.env:=by rfl)
  (i:((kc cpos (ma (e::es) X.env)).all (λx=>!x.1) && (ko cpos (Ni [] X.env)).all (λx=>x.1.isSome)
   && decide ((e::es).length+([]:List Oj).length+(if ([]:List Oj).isEmpty then 0 else 1)<30))=true:=by rfl)
  (d:(apos.endLine == cpos.line)=true:=by rfl) (n:ma (e::es) X.env=(false,Nb e X.env)::ma es X.env:=by rfl) (b:(kc cpos (ma es X.env)).any (·.1)=false:=by rfl) :
  FE T X (.Call (.Attribute o name apos) (e::es) [] cpos) (Vv g f fs):=by
 intro j s S H Q I h;refine V5 O slot p hm J G c i d n b j s S H Q I ?_;obtain⟨W,A,Y,w,L,K⟩:=h;refine⟨W,A,Y,w,L,K.bind λx l q v Z _ D z y k=>?_⟩;unfold Vs at k;cases m:Ff l x with
 |none=>rw[m]at k;exact k.elim
 |some xs=>
  rw[m]at k;obtain⟨a,U,rfl,F,h2⟩:=z.ls y m;refine⟨.inl ⟨rfl,U,cf.of F⟩,q,A,l,w.mono D,z,k.bind λC u t V B _ E R N P=>?_⟩;exact M _ t B u x C (.ref a) V Q R (Rep.mono E _ _ y) N P
theorem Rz:my T PH yk:=by
 intro E k H m x xs v b Q r p q h;cases x with
 |ref n=>
  match xs with
  |[]=>exact h.elim
  |[y]=>
   rw[Ua]at q;obtain⟨w,z,rfl,l,g⟩:=q;rw[Ua]at g;subst g;unfold yk at h;cases c:kg m n with
   |none=>simp only[c]at h;exact h.elim
   |some j=>
    simp only[c]at h;by_cases d:j.length<Mh
    ·rw[ia d]at h;obtain⟨a,b,rfl,hn,e,f⟩:=r.lst p c;have i:=r.write (o:=.lst (b++[w])) (ob:=.lst (j++[y])) hn ⟨_,Jg,by
      have ex:Ext k H k (upd H a (.lst (b++[w]))):=Mw (La hn) e (λ_ z=>by cases z) (λ_ _ z=>by cases z);exact Ua.append (Ua.mono ex _ _ f) (Ua.cons (Rep.mono ex _ _ l) Ua.nil)⟩
     exact⟨a,b,w,rfl,rfl,e,by rw[<-f.length];exact GZ d,h _ _ _ i.1 i.2 (by rw[Rep])⟩
    ·rw[ja d]at h;exact h.elim
  |_::_::_=>exact h.elim
 |_=>exact h.elim
end
inductive BT where
 |int|bool|str|tuple|list|dict
noncomputable def BT.nm:BT->String
 | .int=>"int" | .bool=>"bool" | .str=>"str" | .tuple=>"tuple" | .list=>"list" | .dict=>"dict"
noncomputable def iD(σ:Oa)(c:BT):D->Option Bool
 | .Yb=>some false
 | .bl _=>some (match c with | .int=>true | .bool=>true|_=>false)
 | .int _=>some (match c with | .int=>true|_=>false)
 | .str _=>some (match c with | .str=>true|_=>false)
 | .tup _=>some (match c with | .tuple=>true|_=>false)
 | .cg _=>none
 | .lst _=>some (match c with | .list=>true|_=>false)
 | .Na _ _=>some (match c with | .dict=>true|_=>false)
 | .obj _ _ _=>none
 | .Wo _=>none
 | .gt _=>none
 | .ref n=>match σ[n]? with
  |some (.lst _)=>some (match c with | .list=>true|_=>false)
  |some (.Na _)=>some (match c with | .dict=>true|_=>false)
  |_=>none
noncomputable def wv(c:BT)(x:D):M D:=λa=>match iD a c x with
 |some b=>.ok (.bl b) a
 |none=>.bad
section
variable{T:Tb}{X:Cx}
noncomputable def nQ(K:W.Frag)(H:Hp)(x:V)(t:Value):Prop:=Wk K H x t\/∃ a b,x=.ref a/\Rd H a (.dK b)/\t=.type "dict"
noncomputable def iW(K:W.Frag)(c:String):List V->Hp->VK->Prop:=λxs H Q=>∃ x t b,xs=[x,.ty c]/\nQ K H x t/\W.kitOne K t (.type c)=some b/\Q (.bl b) H
theorem Z0(c:String):Wm X (.builtin "isinstance") (iW X.K c):=by
 intro g s v H xs y Q I r h;obtain⟨x,t,b,rfl,ty,e,q⟩:=h;obtain⟨u,u2,rfl,i,f⟩:=EM r;cases f;rcases ty with ty|⟨a,d,rfl,rd,rfl⟩
 ·exact dY I i ty e λl=>⟨.bl b,H,I.tok _,rfl,q⟩
 ·cases (show u=nb a from i);obtain⟨_,_,A,_,p⟩:=(show lj X.prog X.w H s.heap a (.dK d)from rd.ok I.Pb)
  obtain⟨o,n,m,j,k,_⟩:=p;exact Re Zu I.Uj ⟨o,j,k.1⟩ e (λz=>nomatch z) λl=>⟨.bl b,H,I.tok _,rfl,q⟩
theorem JW{μ:List Addr}{H:Hp}{σ:Oa}{x:D}{v:V}{c:BT}{b:Bool}(r:Rel T μ H σ)(p:Rep T μ H x v)(h:iD σ c x=some b):∃ t,nQ X.K H v t/\W.kitOne X.K t (.type c.nm)=some b:=by
 cases x with
 |Yb=>rw[Rep]at p;subst p;refine⟨_,.inl (.Yb),?_⟩;cases c<;>cases h<;>rfl
 |bl i=>rw[Rep]at p;subst p;refine⟨_,.inl (.bl i),?_⟩;cases c<;>cases h<;>rfl
 |int i=>rw[Rep]at p;subst p;refine⟨_,.inl (.int i),?_⟩;cases c<;>cases h<;>rfl
 |str i=>rw[Rep]at p;subst p;refine⟨_,.inl (.str i),?_⟩;cases c<;>cases h<;>rfl
 |tup ds=>rw[Rep]at p;obtain⟨q,f,rfl,d,_⟩:=p;refine⟨_,.inl (.tup d),?_⟩;cases c<;>cases h<;>rfl
 |cg ns=>cases h
 |lst ds=>rw[Rep]at p;obtain⟨q,f,rfl,_,d,_⟩:=p;refine⟨_,.inl (.lst d),?_⟩;cases c<;>cases h<;>rfl
 |Na l ds=>rw[Rep]at p;obtain⟨q,f,rfl,_,d,_⟩:=p;refine⟨_,.inr ⟨q,_,rfl,d,rfl⟩,?_⟩;cases c<;>cases h<;>rfl
 |obj j l ds=>cases h
 |Wo j=>cases h
 |gt ss=>cases h
 |ref n=>
  unfold iD at h;dsimp only at h;cases e:σ[n]? with
  |none=>rw[e]at h;cases h
  |some o=>
   rw[e]at h;obtain⟨a,rfl,_,k⟩:=r.at p e;cases o with
   |lst xs=>obtain⟨f,g,_⟩:=k;refine⟨_,.inl (.lst g),?_⟩;cases c<;>cases h<;>rfl
   |Na xs=>obtain⟨f,g,_⟩:=k;refine⟨_,.inl (.dK g),?_⟩;cases c<;>cases h<;>rfl
   |ins j fs=>cases h
   |Kf xs=>cases h
   |Kk _=>cases h
theorem aA(c:BT){a:qa}{e:Ga}{f:Ev->M D}{p j g:Se}(C:FE T X e f)(E:Gl X "isinstance")(hm:X.mg "isinstance" = none)(m:Gl X a)(n:X.mg a=none)(r:bootBuiltins a=some (.type c.nm))(o:a ≠ "__name__":=by decide)(l:(a == ("__debug__" : qa))=false:=by decide)
  (w:ma [e,.Name a j] X.env=(false,Nb e X.env)::ma [.Name a j] X.env:=by rfl) (q:(kc g (ma [.Name a j] X.env)).any (·.1)=false:=by rfl) :
  FE T X (.Call (.Name "isinstance" p) [e,.Name a j] [] g) (Je (wv c) f):=by
 intro d s K H Q I h;refine mB (Z0 c.nm) E hm zF (Ss C (Ss (DR m n r (v:=.ty c.nm) rfl o l) Dv) w) (by decide) (by decide) w q d s K H Q I ?_;obtain⟨L,O,P,B,G,F⟩:=h;refine⟨L,O,P,B,G,F.bind λx u N v R _ S y J i=>?_⟩;unfold wv at i;cases k:iD u c x with
 |none=>rw[k]at i;exact i.elim
 |some b=>
  rw[k]at i;obtain⟨t,z,A⟩:=JW (X:=X) y J k;exact⟨v,t,b,rfl,z,A,Kb.here i y (by rw[Rep])⟩
end
noncomputable def wl:Ev->M Fl:=λa=>ret (.nx a)
noncomputable def Hy(h:Ev->M Fl):Fl->M Fl
 | .nx a=>h a
 | .rt d=>ret (.rt d)
 | .bk a=>ret (.bk a)
 | .ct a=>ret (.ct a)
 | .xc a x=>ret (.xc a x)
noncomputable def Ec(g h:Ev->M Fl):Ev->M Fl:=λa=>Mc (g a) (Hy h)
noncomputable def lI:D->M Fl:=λd=>ret (.rt d)
noncomputable def Jf(f:Ev->M D):Ev->M Fl:=λa=>xs a (f a) lI
noncomputable def oH(ρ:Ev):D->M Fl:=λ_=>ret (.nx ρ)
noncomputable def dn(f:Ev->M D):Ev->M Fl:=λa=>xs a (f a) (oH a)
noncomputable def CB(i:Nat)(ρ:Ev):D->M Fl:=λd=>ret (.nx (ρ.set i (some d)))
noncomputable def Vg(i:Nat)(f:Ev->M D):Ev->M Fl:=λa=>xs a (f a) (CB i a)
noncomputable def rl(t:Ev->M Bool)(a b:Ev->M Fl):Ev->M Fl:=λc=>xs c (t c) (Pj (a c) (b c))
section
variable{T:Tb}{X:Cx}{st':Stmt}{Eg:List Stmt}{g h:Ev->M Fl}{e:Ga}{f:Ev->M D}{pos:Se}
theorem wm:ap T X [] wl:=by
 intro a s b H D I f;obtain⟨h,i,j,c,e,d⟩:=f;exact Y4 a s b H D I (Kb.here (g:=sm.nx b) d e c)
theorem z5{μ:List Addr}{H:Hp}{σ:Oa}{a:Fl}{gl:sm}{D:Ends}{N:St->Hp->Prop}(r:Rel T μ H σ)(q:zl T μ H a gl)(k:Fl->M Fl)
  (hn:∀ ρ,a=.nx ρ->∀ b,gl=.nx b->qh T μ H ρ b->N b H) (e:(∀ ρ,a≠.nx ρ)->Kb T EN (zl T) μ H (.ok a σ) (ek X D)):ek X { D with nx:=N } gl H:=by
 cases a with
 |nx ρ=>cases gl with
  |nx b=>exact hn ρ rfl b rfl q
  |_=>exact q.elim
 |rt d=>cases gl with
  |rt v=>have z:=Kb.here (g:=sm.rt v) (e λ_ z=>by cases z) r q;exact z
  |_=>exact q.elim
 |bk ρ=>cases gl with
  |bk v=>have z:=Kb.here (g:=sm.bk v) (e λ_ z=>by cases z) r q;exact z
  |_=>exact q.elim
 |ct ρ=>cases gl with
  |ct v=>have z:=Kb.here (g:=sm.ct v) (e λ_ z=>by cases z) r q;exact z
  |_=>exact q.elim
 |xc ρ x=>cases gl with
  |xc v c fd=>have z:=Kb.here (g:=sm.xc v c fd) (e λ_ z=>by cases z) r q;exact z
  |_=>exact q.elim
theorem Vc(k:FS T X st' g)(l:ap T X Eg h):ap T X (st'::Eg) (Ec g h):=by
 intro b s t H D I q;refine k8 k l b s t H D I ?_;obtain⟨v,w,x,m,p,o⟩:=q;refine⟨v,w,x,m,p,o.bind λj d c gl y _ z f r e=>?_⟩;refine z5 (X:=X) f r (λ_=>bad) (λa i u A n=>?_) (λhn=>?_)
 ·subst i;exact⟨c,a,d,n,f,e⟩
 ·cases j with
  |nx a=>exact(hn a rfl).elim
  |_=>exact e
theorem Fd(a:FS T X st' g):ap T X [st'] g:=S5 a
theorem Rf(c:FE T X e f):FS T X (.Return (some e) pos) (Jf f):=by
 intro a s n H D I j;refine VU c a s n H D I ?_;obtain⟨o,q,r,b,i,h⟩:=j;exact⟨o,q,r,b,i,h.xs b λd t p v u _ w m l k=>Kb.here (g:=sm.rt v) k m l⟩
theorem uq(i:FE T X e f)(l:xj e none pos.line X.env=pure false:=by rfl):FS T X (.Expr e pos) (dn f):=by
 intro a s c H D I m;refine MU i l a s c H D I ?_;obtain⟨p,r,t,b,k,j⟩:=m;exact⟨p,r,t,b,k,j.xs b λd u q v w _ h o x n=>Kb.here (g:=sm.nx c) n o (b.mono h)⟩
theorem Sh{i:Nat}{x:qa}{a:Se}(hN:X.N.Nodup)(m:X.N[i]?=some x)(r:Loc X.env.scope x)(k:FE T X e f)(p:xj e (some (.Name x a)) pos.line X.env=pure false:=by rfl)(l:X.fn x=true\/X.env.scope.names.lookup x=some .local:=by first|exact .inl rfl|exact .inr rfl|assumption) :
  FS T X (.Assign [.Name x a] e pos) (Vg i f):=by
 intro b s h H D I q;refine xU hN m r k p l b s h H D I ?_;obtain⟨y,A,B,c,o,n⟩:=q;exact⟨y,A,B,c,o,n.xs c λd C z v E _ j w u t=>Kb.here (g:=sm.nx (h.set i (some v))) t w ((c.mono j).set i u)⟩
theorem Am{c:Ga}{a b:List Stmt}{n:Ev->M Bool}{k l:Ev->M Fl}(p:FT T X c n)(o:ap T X a k)(hb:ap T X b l):FS T X (.If c a b pos) (rl n k l):=by
 intro e s w H D I t;refine jV p o hb e s w H D I ?_;obtain⟨x,i,y,h,r,q⟩:=t;refine⟨x,i,y,h,r,q.xs h λc g f v z _ j m u d=>?_⟩;cases u;cases c with
 |true=>unfold Pj at d;rw[ia rfl]at d ⊢;exact⟨f,i,g,h.mono j,m,d⟩
 |false=>unfold Pj at d;rw[ja Va]at d ⊢;exact⟨f,i,g,h.mono j,m,d⟩
noncomputable def gD(T:Tb)(tg:D->Ev->Option Ev):TG:=λv e H Q=>∃ b f c d a,qh T b H c e/\Rel T b H f/\Rep T b H d v/\tg d c=some a/\∀ st',qh T b H a st'->Q st' H
noncomputable def i6(T:Tb)(tg:List D->Ev->Option Ev):Ex:=λf e H Q=>∃ b g d c a,qh T b H d e/\Rel T b H g/\Ua T b H c f/\tg c d=some a/\∀ st',qh T b H a st'->Q st' H
noncomputable abbrev FG(T:Tb)(X:Cx)(t:Ga)(tg:D->Ev->Option Ev):Prop:=PG X t (gD T tg)
noncomputable abbrev AC(T:Tb)(X:Cx)(a:List Ga)(tg:List D->Ev->Option Ev):Prop:=XB X a (i6 T tg)
noncomputable def Wd(i:Nat):D->Ev->Option Ev:=λd a=>some (a.set i (some d))
noncomputable def Lq:List D->Ev->Option Ev
 |[],a=>some a
 |_::_,_=>none
noncomputable def Fj(t:D->Ev->Option Ev)(u:List D->Ev->Option Ev):List D->Ev->Option Ev
 |[],_=>none
 |d::ds,b=>(t d b).bind λa=>u ds a
noncomputable def cq(n:Nat)(t:List D->Ev->Option Ev):D->Ev->Option Ev
 | .tup ds,a=>if ds.length=n then t ds a else none
 |_,_=>none
theorem uh{i:Nat}{x:qa}(hN:X.N.Nodup)(e:X.N[i]?=some x)(j:Loc X.env.scope x)(c:X.fn x=true\/X.env.scope.names.lookup x=some .local:=by first|exact .inl rfl|exact .inr rfl|assumption):FG T X (.Name x pos) (Wd i):=by
 intro a s k H v u Q I r h;obtain⟨n,p,o,d,l,b,m,hd,g,f⟩:=h;cases g;exact zU hN e j c a s k H v u Q I r (f _ (b.set i hd))
theorem Jv:AC T X [] Lq:=by
 intro a s g H l i Q I r h;obtain⟨m,o,n,b,j,e,k,hd,c,f⟩:=h;cases b with
 |nil=>cases c;rw[Ua]at hd;subst hd;exact O5 a s g H [] i Q I r ⟨rfl,f _ e⟩
 |cons d b=>cases c
theorem xo{c:List Ga}{t:D->Ev->Option Ev}{u:List D->Ev->Option Ev}(x:FG T X e t)(y:AC T X c u)
  (B:(pf (e::c) X.env).map (·.2)=ml e X.env::(pf c X.env).map (·.2):=by rfl):AC T X (e::c) (Fj t u):=by
 intro a s C H J F Q I r h;obtain⟨n,o,G,f,k,z,l,hd,m,A⟩:=h;cases f with
 |nil=>cases m
 |cons d f=>
  rw[Ua]at hd;obtain⟨v,w,rfl,i,j⟩:=hd;obtain⟨b,p,q⟩:=Wf.mp m;refine fV x y B a s C H (v::w) F Q I r ⟨v,w,rfl,n,o,G,d,b,z,l,i,p,λE g=>?_⟩;exact⟨n,o,b,f,k,g,l,j,q,A⟩
theorem Pv{c:List Ga}{k:Nat}{t:List D->Ev->Option Ev}{n:Nat}(m:X.calm=true)(h:AC T X c t)
  (hn:(pf c X.env).length=n:=by rfl) (f:(pf c X.env).findIdx? (·.1)=none:=by rfl):FG T X (.Tuple c k pos) (cq n t):=by
 intro b s y H v u Q I r x;obtain⟨A,C,B,d,g,l,w,hd,a,q⟩:=x;cases d with
 |tup ds=>
  have o:=hd;rw[Rep]at hd;obtain⟨p,z,rfl,j,i⟩:=hd;unfold cq at a;dsimp only at a;by_cases e:ds.length=n
  ·rw[ia e]at a;exact bZ m h hn f b s y H (.ref p) u Q I r ⟨p,z,rfl,Th.of j,by rw[<-i.length];exact e,A,C,B,ds,g,l,w,i,a,q⟩
  ·rw[ja e]at a;cases a
 |_=>cases a
end
inductive Src where
 |seq (ds:List D)
 |qp (n:Nat)
noncomputable def Src.nx:Src->Nat->Oa->Option (Option D)
 | .seq ds,i,_=>some ds[i]?
 | .qp n,i,σ=>(kg σ n).map λxs=>xs[i]?
noncomputable def tw(T:Tb)(b:List Addr)(f:Hp)(src:Src)(J:It):Prop:=∀ a H e i,Ext b f a H->Rel T a H e->match src.nx i e with
 |none=>True
 |some none=>J.stop i H
 |some (some d)=>J.go i H/\∀ x c,J.eA i H x c->c=H/\Rep T a H d x
noncomputable def tI(T:Tb)(X:Cx)(f:Ev->M Src):TI:=λb H R=>∃ a c d,qh T a H c b/\Rel T a H d/\Kb T (XE X b) (tw T) a H (f c d) R
noncomputable abbrev FI(T:Tb)(X:Cx)(tg a:Ga)(f:Ev->M Src):Prop:=PI X tg a (tI T X f)
noncomputable def Gq(n:Nat):List D:=(List.range n).map λ(i:Nat)=>D.int (i:Int)
noncomputable def dt(d:D):M Src:=λa=>match d with
 | .tup ds=>.ok (.seq ds) a
 | .lst ds=>.ok (.seq ds) a
 | .cg ns=>.ok (.seq (ns.map D.int)) a
 | .ref n=>(match kg a n with
  |some _=>.ok (.qp n) a
  |none=>.bad)
 |_=>.bad
noncomputable def zi(f:Ev->M D):Ev->M Src:=λa=>Mc (f a) dt
noncomputable def HD(j:Int):Bool:=hide (decide (-(2 ^ 62)<=j) && decide (j<2 ^ 62))
noncomputable def Ay(d:D):M Src:=λa=>match d with
 | .int j=>if HD j=true then .ok (.seq (Gq j.toNat)) a else .bad
 |_=>.bad
noncomputable def gx(f:Ev->M D):Ev->M Src:=λa=>Mc (f a) Ay
section
variable{T:Tb}{X:Cx}{tg iter:Ga}{f:Ev->M D}
noncomputable def XU(K:W.Frag)(c:TE):TI:=λd H R=>c d H λx b=>∃ a,x=.ref a/\(((∃ xs,cf K b a xs)/\R (KI K a) b)\/((∃ xs,Th K b a xs)/\R (NF K a) b))
theorem i8{l:Ga}{j:TE}(k:PE X l j):PI X tg l (XU X.K j):=by
 intro f s t H R I h;refine ae (k f s t H _ I h) λv s1 ⟨x,H1,c,n,i⟩=>?_;obtain⟨a,e,i⟩:=i;subst e;cases n;rcases i with⟨⟨xs,g⟩,q⟩|⟨⟨xs,g⟩,q⟩
 ·obtain⟨d,r,p,m⟩:=c.list g;refine Ki p.isList ?_;refine⟨s1.heap.objs.size,[s1.heap.objs.size],_,_,H1,rfl,c.kept (t':=s1.toks) λb o e=>ba _ e,K3 a _,⟨_,ya _ rfl,rfl,rfl⟩,λb hb=>?_,q⟩;have e:b=s1.heap.objs.size:=by simpa using hb
  subst e;exact c.Xo (pa _) (c.Pb.fresh (pa _))
 ·obtain⟨d,r,p,m⟩:=c.tuple g;refine kz (show s1.heap.IsTuple a d.toArray from p) ?_;refine⟨s1.heap.objs.size,[s1.heap.objs.size],_,_,H1,rfl,c.kept (t':=s1.toks) λb o e=>ba _ e,W3 a _,⟨_,ya _ rfl,rfl,rfl⟩,λb hb=>?_,q⟩;have e:b=s1.heap.objs.size:=by simpa using hb
  subst e;exact c.Xo (pa _) (c.Pb.fresh (pa _))
theorem GR{g:List Addr}{l:Hp}{a:Addr}{ds:List D}{K:W.Frag}(h:∀ b c,Ext g l b c->∃ vs,cf K c a vs/\Ua T b c ds vs):tw T g l (.seq ds) (KI K a):=by
 intro b c n i ex p;obtain⟨vs,j,m⟩:=h b c ex;show match some ds[i]? with|none=>True|some none=>_|some (some d)=>_
 cases e:ds[i]? with
 |none=>exact⟨vs,j,by rw[<-m.length];exact Wa.mp e⟩
 |some d=>
  obtain⟨v,f,k⟩:=m.get e;refine⟨⟨vs,v,j,f⟩,λx o y=>?_⟩;obtain⟨rfl,y⟩:=y;have:=y vs j;rw[f]at this;cases this;exact⟨rfl,k⟩
theorem g8{g:List Addr}{l:Hp}{a:Addr}{ds:List D}{K:W.Frag}(h:∀ b c,Ext g l b c->∃ vs,Th K c a vs/\Ua T b c ds vs):tw T g l (.seq ds) (NF K a):=by
 intro b c n i ex p;obtain⟨vs,j,m⟩:=h b c ex;show match some ds[i]? with|none=>True|some none=>_|some (some d)=>_
 cases e:ds[i]? with
 |none=>exact⟨vs,j,by rw[<-m.length];exact Wa.mp e⟩
 |some d=>
  obtain⟨v,f,k⟩:=m.get e;refine⟨⟨vs,v,j,f⟩,λx o y=>?_⟩;obtain⟨rfl,y⟩:=y;have:=y vs j;rw[f]at this;cases this;exact⟨rfl,k⟩
theorem Zn(O:T.K=X.K)(h:FE T X iter f):FI T X tg iter (zi f):=by
 intro u s W H R I S;refine i8 h u s W H R I ?_;obtain⟨Y,Z,σ,N,Q,P⟩:=S;refine⟨Y,Z,σ,N,Q,P.bind λd D C v G _ e1 w k c=>?_⟩;cases d with
 |tup ds=>
  rw[Rep]at k;obtain⟨p,o,rfl,j,m⟩:=k;exact⟨p,rfl,.inr ⟨⟨o,Th.of j⟩,Kb.here (R:=tw T) c w (g8 λb g ex=>⟨o,Th.of (ex.tup _ _ j),Ua.mono ex _ _ m⟩)⟩⟩
 |lst ds=>
  rw[Rep]at k;obtain⟨p,o,rfl,hn,j,m⟩:=k;exact⟨p,rfl,.inl ⟨⟨o,cf.of j⟩,Kb.here (R:=tw T) c w (GR λb g ex=>⟨o,cf.of (ex.xi _ _ j hn).1,Ua.mono ex _ _ m⟩)⟩⟩
 |cg ns=>
  rw[Rep]at k;obtain⟨p,rfl,j⟩:=k;have r:∀ b g,Ext C G b g->cf X.K g p (ns.map V.int):=λb g ex=>by
   have m:Rep T b g (.cg ns) (.ref p):=Rep.mono ex _ _ (by rw[Rep];exact⟨p,rfl,j⟩);rw[Rep]at m;obtain⟨p',J,q⟩:=m;cases J;rw[<-O];exact q.seq
  exact⟨p,rfl,.inl ⟨⟨_,r _ _ (Ext.refl _ _)⟩,Kb.here (R:=tw T) c w (GR λb g ex=>⟨_,r b g ex,tE ns⟩)⟩⟩
 |ref n=>
  unfold dt at c;dsimp only at c;cases l:kg D n with
  |none=>rw[l]at c;exact c.elim
  |some xs=>
   rw[l]at c;obtain⟨a,o,rfl,_,j,m⟩:=w.lst k l;refine⟨a,rfl,.inl ⟨⟨o,cf.of j⟩,Kb.here (R:=tw T) c w λb g z i ex U=>?_⟩⟩;show match (kg z n).map (λxs=>xs[i]?)with|none=>True|some none=>_|some (some d)=>_
   cases M:kg z n with
   |none=>trivial
   |some F=>
    obtain⟨a',B,L,_,q,E⟩:=U.lst (Rep.mono ex _ _ k) M;cases L;show match some (F[i]?)with|none=>True|some none=>_|some (some d)=>_
    cases e:F[i]? with
    |none=>exact⟨B,cf.of q,by rw[<-E.length];exact Wa.mp e⟩
    |some d=>
     obtain⟨v,t,A⟩:=E.get e;refine⟨⟨B,v,cf.of q,t⟩,λx H' y=>?_⟩;obtain⟨rfl,y⟩:=y;have:=y B (cf.of q);rw[t]at this;cases this;exact⟨rfl,A⟩
 |_=>exact c.elim
theorem WX{n i:Nat}(h:i<n):(Gq n)[i]?=some (.int i):=by simp[Gq,h]
theorem MV(n:Nat):(Gq n).length=n:=by simp[Gq]
theorem gF{a:Ga}{p l:Se}(h:Gl X "range")(hm:X.mg "range" = none)(o:FE T X a f)(e:ma [a] X.env=[(false,Nb a X.env)]:=by rfl):FI T X tg (.Call (.Name "range" p) [a] [] l) (gx f):=by
 intro g s w H R I t;refine YT h hm (Ss o Dv e) e g s w H R I ?_;obtain⟨z,C,D,n,r,q⟩:=t;refine⟨z,C,D,n,r,q.bind λd E A v J _ L u m b=>?_⟩;cases d with
 |int j=>
  rw[Rep]at m;subst m;unfold Ay at b;dsimp only at b;by_cases c:HD j=true
  ·rw[ia c]at b;simp only[HD,Mp,va,Mb]at c;refine⟨j,rfl,c.1,c.2,Kb.here (R:=tw T) b u λB K F i ex M=>?_⟩;show match some (Gq j.toNat)[i]? with|none=>True|some none=>_|some (some d)=>_
   by_cases k:i<j.toNat
   ·rw[WX k];refine⟨k,λx G y=>?_⟩;obtain⟨rfl,rfl⟩:=y;exact⟨rfl,by rw[Rep,Int.zero_add]⟩
   ·rw[Wa.mpr (by rw[MV];omega)];exact jv.mp k
  ·rw[ja c]at b;exact b.elim
 |_=>exact b.elim
end
noncomputable def Qt(k:Ev->M Fl):Fl->M Fl
 | .nx a=>k a
 | .ct a=>k a
 | .bk a=>ret (.nx a)
 | .rt d=>ret (.rt d)
 | .xc b x=>ret (.xc b x)
noncomputable def Nk(tg:D->Ev->Option Ev)(body:Ev->M Fl):List D->Ev->M Fl
 |[],a=>ret (.nx a)
 |d::ds,a=>match tg d a with
  |none=>bad
  |some b=>Mc (body b) (Qt (Nk tg body ds))
noncomputable def Lp(tg:D->Ev->Option Ev)(body:Ev->M Fl)(n:Nat):Nat->Nat->Ev->M Fl
 |0,_,_=>bad
 |k+1,i,c=>λb=>match kg b n with
  |none=>.bad
  |some xs=>match xs[i]? with
   |none=>.ok (.nx c) b
   |some d=>match tg d c with
    |none=>.bad
    |some a=>Mc (body a) (Qt (Lp tg body n k (i+1))) b
noncomputable def Cz(tg:D->Ev->Option Ev)(body:Ev->M Fl)(ρ:Ev):Src->M Fl
 | .seq ds=>Nk tg body ds ρ
 | .qp n=>Lp tg body n 1001 0 ρ
noncomputable def Zs(src:Ev->M Src)(tg:D->Ev->Option Ev)(body:Ev->M Fl):Ev->M Fl:=λa=>xs a (src a) (Cz tg body a)
section
variable{T:Tb}{X:Cx}
theorem tJ{e:List Addr}{H1:Hp}{h:Oa}{l:Fl}{gl:sm}{D:Ends}{k:Ev->M Fl}{N:St->Hp->Prop}(m:Rel T e H1 h)(f:zl T e H1 l gl)(j:Kb T EN (zl T) e H1 (Qt k l h) (ek X D))
  (hN:∀ b a,qh T e H1 b a->Kb T EN (zl T) e H1 (k b h) (ek X D)->N a H1):ek X { D with nx:=N,ct:=N,bk:=D.nx } gl H1:=by
 cases l with
 |nx b=>cases gl with
  |nx a=>exact hN b a f j
  |_=>exact f.elim
 |ct b=>cases gl with
  |ct a=>exact hN b a f j
  |_=>exact f.elim
 |bk b=>cases gl with
  |bk a=>have z:ek X D (sm.nx a) H1:=Kb.here (g:=sm.nx a) (d:=Fl.nx b) j m f;exact z
  |_=>exact f.elim
 |rt n=>cases gl with
  |rt v2=>have z:ek X D (sm.rt v2) H1:=Kb.here (g:=sm.rt v2) (d:=Fl.rt n) j m f;exact z
  |_=>exact f.elim
 |xc b x=>cases gl with
  |xc a c i=>have z:ek X D (sm.xc a c i) H1:=Kb.here (g:=sm.xc a c i) (d:=Fl.xc b x) j m f;exact z
  |_=>exact f.elim
variable{tgt iter:Ga}{body:List Stmt}{src:Ev->M Src}{t:D->Ev->Option Ev}{g:Ev->M Fl}{pos:Se}
theorem Tu(W:Fp (model X.prog X.w) X.A X.env X.xe)(hc:X.calm=true)(hi:FI T X tgt iter src)(hg:FG T X tgt t)(hb:ap T X body g)
  (hs:∀ x,Qg iter X.env x=pure x:=by intro _;rfl):FS T X (.For tgt iter body [] pos) (Zs src t g):=by
 intro R s st H D I hq;refine kP W hc hi hg hb hs R s st H D I ?_;obtain⟨e,l,r,U,hr,W⟩:=hq;refine⟨e,l,r,U,hr,W.xs U λsrc C k J P _ e1 r1 q1 p1=>?_⟩;cases src with
 |seq ds=>
  have L:Kb T EN (zl T) k P (Nk t g ds l C) (ek X D):=p1;refine⟨λi m p b=>m=ds.length - i/\∃ e l r,Ext k P e b/\qh T e b l p/\Rel T e b r/\Kb T EN (zl T) e b (Nk t g (ds.drop i) l r) (ek X D),⟨ds.length,by simp,k,l,C,Ext.refl _ _,U.mono e1,r1,by simpa using L⟩,?_⟩;rintro i m p b ⟨rfl,f,v,j,ex,u,B,c⟩;have so:=q1 f b j i ex B;have a:match (some ds[i]?:Option (Option L4.D))with|none=>True|some none=>J.stop i b|some (some d)=>J.go i b/\∀ x Q,J.eA i b x Q->Q=b/\Rep T f b d x:=so
  cases E:ds[i]? with
  |none=>
   rw[E]at a;rw[Li (Wa.mp E)]at c;exact .inl ⟨a,Kb.here (g:=sm.nx p) c B u⟩
  |some d=>
   rw[E]at a;obtain⟨hl,ed⟩:=ka.mp E;have hd:ds.drop i=d::ds.drop (i+1):=by rw[<-ed];exact(Ef hl)
   rw[hd]at c;unfold Nk at c;refine .inr ⟨a.1,λq o=>∃ e l r,Ext k P e o/\qh T e o l q/\Rel T e o r/\Kb T EN (zl T) e o (Nk t g (ds.drop (i+1)) l r) (ek X D),λq o h=>⟨ds.length - (i+1),by omega,rfl,h⟩,λx o y=>?_⟩;obtain⟨rfl,Y⟩:=a.2 x o y;cases K:t d v with
   |none=>rw[K]at c;exact c.elim
   |some z=>
    rw[K]at c;exact⟨f,j,v,d,z,u,B,Y,K,λq F=>⟨f,z,j,F,B,c.bind λfl O M gl H4 _ V S q4 p4=>tJ S q4 p4 λN a0 G Z=>⟨M,N,O,ex.trans V,G,S,Z⟩⟩⟩
 |qp n=>
  have L:Kb T EN (zl T) k P (Lp t g n 1001 0 l C) (ek X D):=p1;refine⟨λi m p b=>∃ e l r,Ext k P e b/\qh T e b l p/\Rel T e b r/\Kb T EN (zl T) e b (Lp t g n m i l r) (ek X D),⟨1001,k,l,C,Ext.refl _ _,U.mono e1,r1,L⟩,?_⟩;rintro i m p b ⟨f,v,j,ex,u,B,c⟩;cases m with
  |zero=>exact c.elim
  |succ m=>
   unfold Lp at c;have so:=q1 f b j i ex B;have a:match ((kg j n).map λxs=>xs[i]?:Option (Option L4.D))with|none=>True|some none=>J.stop i b|some (some d)=>J.go i b/\∀ x Q,J.eA i b x Q->Q=b/\Rep T f b d x:=so
   cases el:kg j n with
   |none=>simp only[el]at c;exact c.elim
   |some xs=>
    simp only[el]at c a;cases E:xs[i]? with
    |none=>
     simp only[E,Ve]at c a;exact .inl ⟨a,Kb.here (g:=sm.nx p) c B u⟩
    |some d=>
     simp only[E,Ve]at c a;refine .inr ⟨a.1,λq o=>∃ e l r,Ext k P e o/\qh T e o l q/\Rel T e o r/\Kb T EN (zl T) e o (Lp t g n m (i+1) l r) (ek X D),λq o h=>⟨m,zb _,h⟩,λx o y=>?_⟩;obtain⟨rfl,Y⟩:=a.2 x o y;cases K:t d v with
     |none=>simp only[K]at c;exact c.elim
     |some z=>
      simp only[K]at c;exact⟨f,j,v,d,z,u,B,Y,K,λq F=>⟨f,z,j,F,B,c.bind λfl O M gl H4 _ V S q4 p4=>tJ S q4 p4 λN a0 G Z=>⟨M,N,O,ex.trans V,G,S,Z⟩⟩⟩
noncomputable def qI:Ev->M Fl:=λa=>ret (.ct a)
theorem JZ:FS T X (.Continue pos) qI:=λpins s st H D I ⟨d,e,σ,a,c,b⟩=>wpAny_Continue ⟨st,H,I,Kb.here (g:=sm.ct st) b c a⟩
end
mutual
noncomputable def cl:D->Bool
 | .tup xs=>Nh xs
 | .lst xs=>Nh xs
 | .Na _ xs=>Nh xs
 | .obj _ _ xs=>Nh xs
 | .ref _=>false
 | .Yb=>true
 | .bl _=>true
 | .int _=>true
 | .str _=>true
 | .cg _=>true
 | .Wo _=>true
 | .gt _=>true
noncomputable def Nh:List D->Bool
 |[]=>true
 |d::ds=>cl d && Nh ds
end
noncomputable def An(f:D->Option D):List D->Option (List D)
 |[]=>some []
 |d::ds=>match f d,An f ds with
  |some x,some xs=>some (x::xs)
  |_,_=>none
noncomputable def fz(k:Nat)(σ:Oa):Nat->D->Option D
 |0,d=>if cl d=true then some d else match d with
  | .ref n=>if n<k then some (.ref n)else none
  |_=>none
 |m+1,d=>if cl d=true then some d else match d with
  | .ref n=>if n<k then some (.ref n)else match σ[n]? with
   |some (.lst xs)=>(An (fz k σ m) xs).map .lst
   |some (.Na a)=>(An (fz k σ m) (a.map (·.2))).map (.Na (a.map (·.1)))
   |some (.ins c fs)=>(An (fz k σ m) (fs.map (·.2))).map (.obj c (fs.map (·.1)))
   |some (.Kf _)=>none
   |some (.Kk _)=>none
   |none=>none
  | .tup xs=>(An (fz k σ m) xs).map .tup
  | .lst xs=>(An (fz k σ m) xs).map .lst
  | .Na b xs=>(An (fz k σ m) xs).map (.Na b)
  | .obj c ns xs=>(An (fz k σ m) xs).map (.obj c ns)
  |_=>none
open Classical in
noncomputable def Ag(σ:Oa):Out D->Out D
 | .ok d a=>if a.take σ.length=σ then (match fz σ.length a 6 d with
  |some b=>.ok b σ
  |none=>.bad)else .bad
 | .ex x a=>if a.take σ.length=σ then .ex x σ else .bad
 | .bad=>.bad
noncomputable def qb(f:M D):M D:=λa=>Ag a (f a)
section
variable{T:Tb}{μ μ':List Addr}{H H':Hp}{σ σ':Oa}
mutual
theorem GI(e:∃ r,μ'=μ++r):∀ (d:D) (v:V),cl d=true->Rep T μ' H d v->Rep T μ H d v
 | .Yb,v,_,h=>by simpa [Rep]using h
 | .bl b,v,_,h=>by simpa [Rep]using h
 | .int i,v,_,h=>by simpa [Rep]using h
 | .str x,v,_,h=>by simpa [Rep]using h
 | .tup ds,v,c,h=>by
  rw[Rep]at h ⊢;obtain⟨p,l,f,g,j⟩:=h;exact⟨p,l,f,g,GB e ds l (by simpa [cl]using c) j⟩
 | .cg ns,v,_,h=>by rw[Rep]at h ⊢;exact h
 | .ref n,v,c,h=>by simp[cl]at c
 | .lst ds,v,c,h=>by
  rw[Rep]at h ⊢;obtain⟨a,l,f,g,j,m⟩:=h;exact⟨a,l,f,λz=>g (by obtain⟨r,rfl⟩:=e;exact Ka _ z),j,GB e ds l (by simpa [cl]using c) m⟩
 | .Na B ds,v,c,h=>by
  rw[Rep]at h ⊢;obtain⟨a,l,f,g,j,o,m⟩:=h;exact⟨a,l,f,λz=>g (by obtain⟨r,rfl⟩:=e;exact Ka _ z),j,o,GB e ds _ (by simpa [cl]using c) m⟩
 | .obj k ns ds,v,c,h=>by
  rw[Rep]at h ⊢;obtain⟨a,u,l,f,g,j,o,m⟩:=h;exact⟨a,u,l,f,λz=>g (by obtain⟨r,rfl⟩:=e;exact Ka _ z),j,o,GB e ds _ (by simpa [cl]using c) m⟩
 | .Wo k,v,_,h=>by
  rw[Rep]at h ⊢;obtain⟨a,t,f,g,j,m⟩:=h;exact⟨a,t,f,λz=>g (by obtain⟨r,rfl⟩:=e;exact Ka _ z),j,λn q=>let ⟨s,w,y,A⟩:=m n q;⟨s,w,λz=>y (by obtain⟨r,rfl⟩:=e;exact Ka _ z),A⟩⟩
 | .gt ss,v,_,h=>by rw[Rep]at h ⊢;exact h
theorem GB(e:∃ r,μ'=μ++r):∀ (ds:List D) (vs:List V),Nh ds=true->Ua T μ' H ds vs->Ua T μ H ds vs
 |[],vs,_,h=>by simpa [Ua]using h
 |d::ds,vs,c,h=>by
  rw[Ua]at h ⊢;obtain⟨v,r,b,f,g⟩:=h;have a:cl d=true/\Nh ds=true:=by simpa [Nh,va]using c
  exact⟨v,r,b,GI e d v a.1 f,GB e ds r a.2 g⟩
end
mutual
theorem Rep.down(e:∃ r,μ'=μ++r):∀ (d:D) (v0 v:V),Rep T μ H d v0->Rep T μ' H' d v->Rep T μ H' d v
 | .Yb,v0,v,_,h=>by simpa [Rep]using h
 | .bl b,v0,v,_,h=>by simpa [Rep]using h
 | .int i,v0,v,_,h=>by simpa [Rep]using h
 | .str x,v0,v,_,h=>by simpa [Rep]using h
 | .tup ds,v0,v,c,h=>by
  rw[Rep]at h c ⊢;obtain⟨p,m,g,f,l⟩:=h;obtain⟨I,j,_,_,w⟩:=c;exact⟨p,m,g,f,Ua.down e ds j m w l⟩
 | .cg ns,v0,v,_,h=>by rw[Rep]at h ⊢;exact h
 | .ref n,v0,v,c,h=>by
  rw[Rep]at h c ⊢;obtain⟨a,g,f⟩:=h;obtain⟨b,_,u⟩:=c;refine⟨a,g,?_⟩;obtain⟨r,rfl⟩:=e;rw[Xa (ka.mp u).1]at f;exact f
 | .lst ds,v0,v,c,h=>by
  rw[Rep]at h c ⊢;obtain⟨a,m,g,f,l,o⟩:=h;obtain⟨_,j,_,_,_,s⟩:=c;exact⟨a,m,g,λz=>f (by obtain⟨r,rfl⟩:=e;exact Ka _ z),l,Ua.down e ds j m s o⟩
 | .Na G ds,v0,v,c,h=>by
  rw[Rep]at h c ⊢;obtain⟨a,m,g,f,l,t,o⟩:=h;obtain⟨_,j,_,_,_,_,s⟩:=c;exact⟨a,m,g,λz=>f (by obtain⟨r,rfl⟩:=e;exact Ka _ z),l,t,Ua.down e ds _ _ s o⟩
 | .obj k ns ds,v0,v,c,h=>by
  rw[Rep]at h c ⊢;obtain⟨a,B,m,g,f,l,t,o⟩:=h;obtain⟨_,_,j,_,_,_,_,s⟩:=c;exact⟨a,B,m,g,λz=>f (by obtain⟨r,rfl⟩:=e;exact Ka _ z),l,t,Ua.down e ds _ _ s o⟩
 | .Wo k,v0,v,_,h=>by
  rw[Rep]at h ⊢;obtain⟨a,A,g,f,l,o⟩:=h;exact⟨a,A,g,λz=>f (by obtain⟨r,rfl⟩:=e;exact Ka _ z),l,λn q=>let ⟨y,C,E,F⟩:=o n q;⟨y,C,λz=>E (by obtain⟨r,rfl⟩:=e;exact Ka _ z),F⟩⟩
 | .gt ss,v0,v,_,h=>by rw[Rep]at h ⊢;exact h
theorem Ua.down(e:∃ r,μ'=μ++r):∀ (ds:List D) (a vs:List V),Ua T μ H ds a->Ua T μ' H' ds vs->Ua T μ H' ds vs
 |[],a,vs,_,h=>by simpa [Ua]using h
 |d::ds,a,vs,c,h=>by
  rw[Ua]at h c ⊢;obtain⟨v,r,g,i,j⟩:=h;obtain⟨l,k,_,b,f⟩:=c;exact⟨v,r,g,Rep.down e d l v b i,Ua.down e ds k r f j⟩
end
theorem PD{f:Type}(e:∃ r,μ'=μ++r):∀ {xs:List (f × D)} {ys zs:List (f × V)},Paired (λ(p:f × D) (q:f × V)=>p.1=q.1/\Rep T μ H p.2 q.2) xs zs->Paired (λ(p:f × D) (q:f × V)=>p.1=q.1/\Rep T μ' H' p.2 q.2) xs ys->Paired (λ(p:f × D) (q:f × V)=>p.1=q.1/\Rep T μ H' p.2 q.2) xs ys
 |_,_,_,.nil,.nil=>.nil
 |_,_,_,.cons a b,.cons c d=>.cons ⟨c.1,Rep.down e _ _ _ a.2 c.2⟩ (PD e b d)
theorem Ap.down(e:∃ r,μ'=μ++r){a:Addr}:∀ {o:Ob},Ap T μ H a o->Ap T μ' H' a o->Ap T μ H' a o
 | .lst ds,⟨_,_,c⟩,⟨b,h,r⟩=>⟨b,h,Ua.down e _ _ _ c r⟩
 | .Na f,⟨_,_,c⟩,⟨b,h,r⟩=>⟨b,h,PD e c r⟩
 | .ins c fs,⟨_,_,_,d⟩,⟨g,b,h,r⟩=>⟨g,b,h,PD e d r⟩
 | .Kf f,⟨_,_,_,d⟩,⟨i,b,h,r⟩=>⟨i,b,h,PD e d r⟩
 | .Kk j,_,⟨b,h,r⟩=>⟨b,h,r⟩
theorem Rel.down(c:Rel T μ H σ)(r:Rel T μ' H' σ')(e:Ext μ H μ' H')(m:σ'.take σ.length=σ):Rel T μ H' σ/\Ext μ H μ H':=by
 refine⟨⟨c.len,c.nd,λn o h=>?_,r.tb.sub λb hb=>by obtain⟨z,rfl⟩:=e.pre;exact Ka _ hb⟩,⟨⟨[],by simp⟩,e.tup,e.qb,λp o h n=>⟨(e.keep p o h n).1,n⟩⟩⟩;obtain⟨a,f,i⟩:=c.obs n o h;have g:σ'[n]?=some o:=by
  have l:=(ka.mp h).1;rw[<-m,Tp l]at h;exact h
 obtain⟨b,j,k⟩:=r.obs n o g;have d:=e.get f;rw[j]at d;cases d;exact⟨a,f,i.down e.pre k⟩
theorem hJ{c:Type}:∀ {xs:List (c × D)} {ys:List (c × V)},Paired (λ(p:c × D) (q:c × V)=>p.1=q.1/\Rep T μ H p.2 q.2) xs ys->ys.map (·.1)=xs.map (·.1)/\Ua T μ H (xs.map (·.2)) (ys.map (·.2))
 |_,_,.nil=>⟨rfl,Ua.nil⟩
 |_,_,.cons a b=>by
  obtain⟨d,e⟩:=hJ b;exact⟨by simp[d,a.1],Ua.cons a.2 e⟩
theorem nR{f:D->Option D}(e:∀ d d' v,f d=some d'->Rep T μ' H d v->Rep T μ H d' v):∀ (ds a:List D) (vs:List V),An f ds=some a->Ua T μ' H ds vs->Ua T μ H a vs
 |[],a,vs,h,r=>by cases h;simpa [Ua]using r
 |d::ds,a,vs,h,r=>by
  unfold An at h;cases b:f d with
  |none=>rw[b]at h;cases h
  |some x=>
   cases c:An f ds with
   |none=>rw[b,c]at h;cases h
   |some xs=>
    rw[b,c]at h;cases h;rw[Ua]at r;obtain⟨v,w,rfl,g,i⟩:=r;exact Ua.cons (e d x v b g) (nR e ds xs w c i)
theorem PM(e:∃ r,μ'=μ++r)(r:Rel T μ' H σ'):∀ (m:Nat) (d d':D) (v:V),fz μ.length σ' m d=some d'->Rep T μ' H d v->Rep T μ H d' v:=by
 have F:∀ n v,n<μ.length->Rep T μ' H (.ref n) v->Rep T μ H (.ref n) v:=λn v hn h=>by
  rw[Rep]at h ⊢;obtain⟨a,l,g⟩:=h;obtain⟨q,rfl⟩:=e;rw[Xa hn]at g;exact⟨a,l,g⟩
 intro m;induction m with
 |zero=>
  intro d d' v h s;unfold fz at h;by_cases y:cl d=true
  ·rw[ia y]at h;cases h;exact GI e _ _ y s
  ·rw[ja y]at h;cases d with
   |ref n=>
    dsimp only at h;by_cases hn:n<μ.length
    ·rw[ia hn]at h;cases h;exact F n v hn s
    ·rw[ja hn]at h;cases h
   |_=>cases h
 |succ m Q=>
  intro d d' v h s;unfold fz at h;by_cases y:cl d=true
  ·rw[ia y]at h;cases h;exact GI e _ _ y s
  ·rw[ja y]at h;have go:=nR (T:=T) (μ:=μ) (μ':=μ') (H:=H) (f:=fz μ.length σ' m) (λd d' v a b=>Q d d' v a b);cases d with
   |ref n=>
    dsimp only at h;by_cases hn:n<μ.length
    ·rw[ia hn]at h;cases h;exact F n v hn s
    ·rw[ja hn]at h;cases J:σ'[n]? with
     |none=>rw[J]at h;cases h
     |some o=>
      rw[J]at h;obtain⟨a,rfl,O,A⟩:=r.at s J;have out:a ∉ μ:=λz=>by
       obtain⟨i,N⟩:=Fs z;obtain⟨q,rfl⟩:=e;have P:=(ka.mp N).1;have:=pE r.nd (i:=i) (j:=n) (by rw[Xa P];exact N) O;omega
      cases o with
      |lst xs=>
       obtain⟨t,l,g⟩:=Db.mp h;subst g;obtain⟨k,C,E⟩:=A;rw[Rep];exact⟨a,k,rfl,out,C,go xs t k l E⟩
      |Na M=>
       obtain⟨t,l,g⟩:=Db.mp h;subst g;obtain⟨k,C,E⟩:=A;obtain⟨K,L⟩:=hJ E;rw[Rep];exact⟨a,k,rfl,out,(.inl C),K,go _ t _ l L⟩
      |ins c fs=>
       obtain⟨t,l,g⟩:=Db.mp h;subst g;obtain⟨G,k,C,E⟩:=A;obtain⟨K,L⟩:=hJ E;rw[Rep];exact⟨a,G,k,rfl,out,C,K,go _ t _ l L⟩
      |Kf M=>cases h
      |Kk _=>cases h
   |tup xs=>
    obtain⟨t,l,g⟩:=Db.mp h;subst g;rw[Rep]at s ⊢;obtain⟨p,k,u,w,x⟩:=s;exact⟨p,k,u,w,go xs t k l x⟩
   |lst xs=>
    obtain⟨t,l,g⟩:=Db.mp h;subst g;rw[Rep]at s ⊢;obtain⟨p,k,u,B,w,x⟩:=s;exact⟨p,k,u,λz=>B (by obtain⟨r,rfl⟩:=e;exact Ka _ z),w,go xs t k l x⟩
   |Na R xs=>
    obtain⟨t,l,g⟩:=Db.mp h;subst g;rw[Rep]at s ⊢;obtain⟨p,k,u,B,w,I,x⟩:=s;exact⟨p,k,u,λz=>B (by obtain⟨r,rfl⟩:=e;exact Ka _ z),w,I,go xs t _ l x⟩
   |obj c R xs=>
    obtain⟨t,l,g⟩:=Db.mp h;subst g;rw[Rep]at s ⊢;obtain⟨p,G,k,u,B,w,I,x⟩:=s;exact⟨p,G,k,u,λz=>B (by obtain⟨r,rfl⟩:=e;exact Ka _ z),w,I,go xs t _ l x⟩
   |_=>cases h
theorem Kb.qb{E:XK}{f:M D}{Q:V->Hp->Prop}(r:Rel T μ H σ)(h:Kb T E (Rep T) μ H (qb f σ) Q):Kb T E (Rep T) μ H (f σ) Q:=by
 unfold L4.qb at h;cases e:f σ with
 |bad=>rw[e]at h;exact h
 |ex x a=>
  rw[e]at h;unfold Ag at h;dsimp only at h;by_cases b:a.take σ.length=σ
  ·rw[ia b]at h;intro m i c g;obtain⟨l,j⟩:=Rel.down r g c b;exact h μ i j l
  ·rw[ja b]at h;exact h.elim
 |ok d a=>
  rw[e]at h;unfold Ag at h;dsimp only at h;by_cases b:a.take σ.length=σ
  ·rw[ia b]at h;cases k:fz σ.length a 6 d with
   |none=>rw[k]at h;exact h.elim
   |some n=>
    rw[k]at h;intro m v i c g o;obtain⟨l,j⟩:=Rel.down r g c b;exact h μ v i j l (PM c.pre g 6 d n v (by rw[r.len];exact k) o)
  ·rw[ja b]at h;exact h.elim
end
noncomputable def oh(f:Ev->M D):Ev->M D:=λa=>qb (f a)
theorem Mm{T:Tb}{X:Cx}{e:Ga}{f:Ev->M D}(h:FE T X e f):FE T X e (oh f):=by
 intro a s i H Q I g;obtain⟨j,k,l,c,b,d⟩:=g;exact h a s i H Q I ⟨j,k,l,c,b,Kb.qb b d⟩
end L4
namespace L4
open PySem PySem.Spec PyProof.Rows L2
noncomputable def DK(h h':Heap):Prop:=∀ (a:Nat) o,h.objs[a]?=some o->∃ b:Obj,h'.objs[a]?=some b/\b.dict=o.dict
theorem DK.refl(h:Heap):DK h h:=λ_ o e=>⟨o,e,rfl⟩
theorem DK.trans{d f h3:Heap}(x:DK d f)(y:DK f h3):DK d h3:=λa o e=>by
 obtain⟨h,g,q⟩:=x a o e;obtain⟨c,b,i⟩:=y a h g;exact⟨c,b,i.trans q⟩
theorem DK.push(h:Heap)(o:Obj):DK h (h.push o):=λa u e=>by
 obtain⟨b,l⟩:=h;have e:b[a]?=some u:=e;have c:=(Pc.mp e).1;refine⟨u,?_,rfl⟩;show (b.push o)[a]?=some u;rw[Array.getElem?_push_lt c];exact(pb c).symm.trans e
theorem DK.update(h:Heap)(b:Addr){f:Obj->Obj}(d:∀ o,(f o).dict=o.dict):DK h (h.update b f):=λa u e=>by
 obtain⟨c,l⟩:=h;have e:c[a]?=some u:=e;show ∃ g:Obj,(c.modify b f)[a]?=some g/\_;rw[Array.getElem?_modify];by_cases hb:b=a
 ·rw[ia hb,e];exact⟨f u,rfl,d u⟩
 ·rw[ja hb];exact⟨u,e,rfl⟩
theorem DK.get{h h':Heap}(x:DK h h'){a:Addr}{o o':Obj}(e:h.get? a=some o)(b:h'.get? a=some o'):o'.dict=o.dict:=by
 obtain⟨u,c,d⟩:=x a o ((mv _ _ _).1 e).1;have:=((mv _ _ _).1 b).1;have z:some u=some o':=c.symm.trans this;cases z;exact d
structure KD{α:Type}(t:Xp α):Prop where
 out:∀ (M:Yj) (Γ:PySem.Ctx) (Q:α->Se->Shared->Prop) (E:Value->Se->Shared->Prop) (p:Se) (s:Shared),Sem.wp M Γ t Q E p s->Sem.wp M Γ t (λa p' s'=>Q a p' s'/\DK s.heap s'.heap) (λe p' s'=>E e p' s'/\DK s.heap s'.heap) p s
namespace KD
variable{α β:Type}
theorem Os(a:α):KD (Pure.pure a:Xp α):=⟨λ_ _ _ _ _ s h=>⟨h,.refl _⟩⟩
theorem Su(w:String):KD (PySem.unsupported w:Xp α):=⟨λ_ _ _ _ _ _ h=>h⟩
theorem Mc{m:Xp α}{f:α->Xp β}(hm:KD m)(e:∀ a,KD (f a)):KD (m >>= f):=⟨λM b Q E p s h=>by
 rw[om]at h ⊢;refine yt M b m (λa c d z=>?_) (λ_ _ _ z=>z) p s (hm.out M b _ _ p s h);exact yt M b (f a) (λ_ _ _ q=>⟨q.1,z.2.trans q.2⟩) (λ_ _ _ q=>⟨q.1,z.2.trans q.2⟩) c d ((e a).out M b _ _ c d z.1)⟩
theorem Gm{c:Prop}[Decidable c]{t u:Xp α}(a:KD t)(b:KD u):KD (if c then t else u):=by split<;>assumption
theorem ld(a:Addr):KD (PySem.load a):=⟨λ_ _ _ _ _ _ h=>by obtain⟨o,b,h⟩:=h;exact⟨o,b,h,.refl _⟩⟩
theorem upd(a:Addr){f:Obj->Obj}(b:∀ o,(f o).dict=o.dict):KD (PySem.update a f):=⟨λ_ _ _ _ _ _ h=>⟨h.1,h.2,.update _ _ b⟩⟩
theorem Uo:KD PySem.stack:=⟨λM a Q E p s h=>by
 unfold PySem.stack at h ⊢;rw[Sem.wp_stack]at h ⊢;exact⟨h,.refl _⟩⟩
theorem Eu(o:Obj):KD (PySem.alloc o):=⟨λ_ _ _ _ _ _ h=>⟨h,.push _ _⟩⟩
theorem fld(v:Value)(i:Nat):KD (PySem.field v i):=⟨λ_ g Q E p s h=>by
 rw[nv]at h ⊢;obtain⟨a,o,f,x,b,c,d,e,h⟩:=h;exact⟨a,o,f,x,b,c,d,e,h,.refl _⟩⟩
theorem set(v:Value)(i:Nat)(x:Value):KD (PySem.setField v i x):=⟨λ_ m Q E p s h=>by
 rw[AF]at h ⊢;obtain⟨a,o,k,e,f,g,j,h⟩:=h;exact⟨a,o,k,e,f,g,j,h,.update _ _ λo=>by obtain⟨c,d,b,l⟩:=o;cases b<;>rfl⟩⟩
end KD
theorem yT(env:Og)(l:List Og):KD (UJ env l):=by unfold UJ;(repeat' with_reducible first|assumption|exact KD.Os _|exact KD.Su _|exact KD.fld _ _|exact KD.set _ _ _|exact KD.ld _|exact KD.upd _ (λ_=>rfl)|exact KD.Uo|exact KD.Eu _|apply KD.Gm|apply KD.Mc|intro _|split)
theorem j6:KD underTheClaimsCaller:=by unfold underTheClaimsCaller;(repeat' with_reducible first|assumption|exact KD.Os _|exact KD.Su _|exact KD.fld _ _|exact KD.set _ _ _|exact KD.ld _|exact KD.upd _ (λ_=>rfl)|exact KD.Uo|exact KD.Eu _|apply KD.Gm|apply KD.Mc|intro _|split)
theorem Y7(env:Og)(i:Bool)(l:List Og):KD (keptBack env i l):=by
 have:=j6;cases l<;>unfold keptBack<;>(repeat' with_reducible first|assumption|exact KD.Os _|exact KD.Su _|exact KD.fld _ _|exact KD.set _ _ _|exact KD.ld _|exact KD.upd _ (λ_=>rfl)|exact KD.Uo|exact KD.Eu _|apply KD.Gm|apply KD.Mc|intro _|split)
theorem XO:∀ l:List Og,KD (readyFrames l)
 |[]=>KD.Os _
 |env::l=>by
  have c:=XO l;have b:=yT env l;have a:=λi=>Y7 env i l;unfold readyFrames
  (repeat' with_reducible first|assumption|exact KD.Os _|exact KD.Su _|exact KD.fld _ _|exact KD.set _ _ _|exact KD.ld _|exact KD.upd _ (λ_=>rfl)|exact KD.Uo|exact KD.Eu _|apply KD.Gm|apply KD.Mc|intro _|split)
  all_goals first|exact a _|skip
theorem OU(l:List Og):KD (frameObject l):=by
 cases l with
 |nil=>exact KD.Os _
 |cons env l=>
  have:=XO (env::l);unfold frameObject
  (repeat' with_reducible first|assumption|exact KD.Os _|exact KD.Su _|exact KD.fld _ _|exact KD.set _ _ _|exact KD.ld _|exact KD.upd _ (λ_=>rfl)|exact KD.Uo|exact KD.Eu _|apply KD.Gm|apply KD.Mc|intro _|split)
theorem ET:KD frameEnvs:=by unfold frameEnvs;(repeat' with_reducible first|assumption|exact KD.Os _|exact KD.Su _|exact KD.fld _ _|exact KD.set _ _ _|exact KD.ld _|exact KD.upd _ (λ_=>rfl)|exact KD.Uo|exact KD.Eu _|apply KD.Gm|apply KD.Mc|intro _|split)
theorem FY(env:Og):KD (PySem.frameOf env):=by
 have b:=ET;have a:=OU;unfold PySem.frameOf
 (repeat' with_reducible first|assumption|exact KD.Os _|exact KD.Su _|exact KD.fld _ _|exact KD.set _ _ _|exact KD.ld _|exact KD.upd _ (λ_=>rfl)|exact KD.Uo|exact KD.Eu _|apply KD.Gm|apply KD.Mc|intro _|split)
 all_goals first|exact a _|skip
theorem W1(f:Addr)(b:Bool):KD (N9 f b):=by unfold N9;(repeat' with_reducible first|assumption|exact KD.Os _|exact KD.Su _|exact KD.fld _ _|exact KD.set _ _ _|exact KD.ld _|exact KD.upd _ (λ_=>rfl)|exact KD.Uo|exact KD.Eu _|apply KD.Gm|apply KD.Mc|intro _|split)
theorem M5(a b c d e:Value)(l:List Value):KD (Gp a b c d e l):=by
 unfold Gp uC newObj newObjAsIs;dsimp only
 (repeat' with_reducible first|assumption|exact KD.Os _|exact KD.Su _|exact KD.fld _ _|exact KD.set _ _ _|exact KD.ld _|exact KD.upd _ (λ_=>rfl)|exact KD.Uo|exact KD.Eu _|apply KD.Gm|apply KD.Mc|intro _|split)
theorem e5(e:Value)(env:Og):KD (Cg e env):=by
 have c:=FY env;have a:=W1;have b:=M5;unfold Cg
 (repeat' with_reducible first|assumption|exact KD.Os _|exact KD.Su _|exact KD.fld _ _|exact KD.set _ _ _|exact KD.ld _|exact KD.upd _ (λ_=>rfl)|exact KD.Uo|exact KD.Eu _|apply KD.Gm|apply KD.Mc|intro _|split)
 all_goals first|exact a _ _|exact b _ _ _ _ _ _|skip
theorem PV(e:Value)(f:Option Addr):KD (ji e f):=by unfold ji;(repeat' with_reducible first|assumption|exact KD.Os _|exact KD.Su _|exact KD.fld _ _|exact KD.set _ _ _|exact KD.ld _|exact KD.upd _ (λ_=>rfl)|exact KD.Uo|exact KD.Eu _|apply KD.Gm|apply KD.Mc|intro _|split)
theorem NP{e:Type}{M:Yj}{A:Da}{t:Xp e}{Q:e->Shared->Prop}{E:Value->Shared->Prop}{s:Shared}(k:KD t)(h:wpAny M A t Q E s):wpAny M A t (λa d=>Q a d/\DK s.heap d.heap) E s:=
 λc p b=>yt M c t (λ_ _ _ z=>z) (λ_ _ _ z=>z.1) p s (k.out M c _ _ p s (h c p b))
section
variable{P:ua}{w:Ea}{H H':Hp}{h h':Heap}{a:Addr}{o:HO}
theorem kK(x:lj P w H h a o):∃ u,h.get? a=some u:=by
 cases o with
 |lst xs=>obtain⟨_,_,_,_,e⟩:=x;exact⟨_,e⟩
 |tup xs=>obtain⟨_,_,_,c,e,_⟩:=x;exact⟨_,e⟩
 |dK b=>obtain⟨_,_,_,_,o,_,_,e,_⟩:=x;exact⟨_,e⟩
 |dT b=>obtain⟨_,_,_,_,o,_,_,e,_⟩:=x;exact⟨_,e⟩
 |set S n=>obtain⟨o,_,_,_,e,_⟩:=x;exact⟨_,e⟩
 |ins C d fs=>obtain⟨_,_,_,e,_⟩:=x;exact⟨_,e⟩
 |own y=>obtain⟨_,e⟩:=x;exact⟨_,e⟩
 |xd fs=>obtain⟨_,⟨_,_,_,e,_⟩,_⟩:=x;exact⟨_,e⟩
 |bE lo g=>obtain⟨_,_,_,e⟩:=x;exact⟨_,e⟩
 |qb c u=>obtain⟨e,_⟩:=x;exact⟨_,e⟩
 |mm i=>exact⟨_,x⟩
 |met f y=>exact⟨_,x⟩
 |ext j=>obtain⟨_,⟨_,e⟩,_⟩:=x;exact⟨_,e⟩
theorem oJ(x:yi P w H h)(k:∀ b o u,H b=some o->h.get? b=some u->h'.get? b=some u):yi P w H h':=λb o e=>
 (x b o e).xk (λc v a q=>by
  rcases a with rfl|a
  ·exact k _ _ _ e q
  ·exact k _ _ _ a q) (λ_ q=>q) λ_ _ q=>q
end
section
variable{X:Cx}{pins:List (Addr × Obj)}{st:St}{H H':Hp}{s s':Shared}{cls:Value}{h':Heap}{ea:Addr}{args:List Value}{M:Yj}{E:Value->Shared->Prop}{Q:Unit->Shared->Prop}
theorem cU{B:Heap}{l:List Og}{a0:Value}{h:Heap}(x:IA B l ea cls a0 h):nq B l ea cls a0 h:=⟨x.1,x.2.1,x.2.2.1,.inl ⟨.none,x.2.2.2.at⟩⟩
theorem nq.there{B:Heap}{l:List Og}{a0:Value}{h:Heap}(x:nq B l ea cls a0 h):∃ ob,h.get? ea=some ob/\ob.cls=cls:=by
 obtain⟨_,_,_,⟨d,q⟩|⟨a,e,b,c,_⟩⟩:=x
 ·exact q.there
 ·exact⟨a,b,c⟩
theorem nq.SI{B:Heap}{l:List Og}{a0:Value}{h:Heap}{o:Obj}(x:nq B l ea cls a0 h)(b:h.get? ea=some o):∃ vs,o.data=.fields vs:=by
 obtain⟨_,_,_,⟨g,d,vs,T,i,k,c,a,hd,_⟩|⟨d,vs,e,j,f,_⟩⟩:=x
 ·cases c.symm.trans b;exact⟨vs,hd⟩
 ·cases e.symm.trans b;exact⟨vs,f⟩
theorem AB.next{a:Option Nat}{B h h' b:Heap}{H':Hp}(x:AB a ea B h b H')(k:DK h h')(e:∃ o,h'.get? ea=some o):AB a ea B h' b H':=λn q=>by
 obtain⟨c,d,j,f,g,i⟩:=x n q;obtain⟨o,e⟩:=e;exact⟨c,d,o,e,(k.get f e).trans g,i⟩
theorem qH{A:Da}{B:Heap}{l:List Og}{a0:Value}(x:nq B l ea cls a0 s.heap)(h:∀ a,nq B l ea cls a0 a->s.heap.UpToSlots a->DK s.heap a->Q () { s with heap:=a }):wpAny M A (ji (.ref ea) none) Q E s:=by
 obtain⟨d,f,g,⟨v,c⟩|c⟩:=x
 ·have k:wpAny M A (ji (.ref ea) none) (λ_ s'=>∃ a,s'={ s with heap:=a }/\nq B l ea cls a0 a/\s.heap.UpToSlots a) E s:=
   wpAny_setFlight_noneW d g c λa j m p q=>⟨a,rfl,cU ⟨j,f,m,p⟩,λb o e n=>⟨o.slots,q b o e n⟩⟩
  exact Eb (NP (PV _ _) k) (λ_ _ ⟨⟨a,e,r,t⟩,u⟩=>by subst e;exact h a r t u) λ_ _ z=>z
 ·obtain⟨D,F,i,y,hd,C,w,a⟩:=id c;unfold ji;refine aa (il i hd a ?_);rw[ja (show ¬ ((eb != eb)=true)from by decide)];exact da (h s.heap ⟨d,f,g,.inr c⟩ (.refl _) (.refl _))
theorem A8{A:Da}{B:Heap}{env:Og}{outer:List Og}{L:Addr}{a0:Value}(m:A.frames=some (env::outer))(l:env.frame=some L)(x:nq B (env::outer) ea cls a0 s.heap)
  (G:∀ f,Io B (env::outer) ea cls a0 L f->s.heap.UpToSlots f->Q () { s with heap:=f }):wpAny M A (Cg (.ref ea) env) Q E s:=by
 obtain⟨C,u,D,⟨w,i⟩|i⟩:=x
 ·by_cases hm:w=rawInt L
  ·subst hm;exact wpAny_noteFrame_againW l i (G s.heap ⟨C,u,D,i⟩ (.refl _))
  ·obtain⟨oe,N,T,W,t,h,H,hd,f,r,g,y,a,R⟩:=i;have sz:3<t.size:=(Pc.mp R).1;have c:∀ b,b≠T->(s.heap.update T (Ee (·.setIfInBounds 3 eb))).get? b=s.heap.get? b:=λb hb=>og _ _ (Me hb);have nr:∀ b o,s.heap.get? b=some o->(∀ v,o.data≠.fields v)->b≠T:=λb o hb hn q=>by
    rw[q,y]at hb;cases hb;exact hn t a
   have d:=Zc (Ee (·.setIfInBounds 3 eb)) y (lf (Wb a _));have up:s.heap.UpToSlots (s.heap.update T (Ee (·.setIfInBounds 3 eb))):=λb o e n=>⟨o.slots,(c b (nr b o e n)).trans e⟩
   have X:IA B (env::outer) ea cls a0 (s.heap.update T (Ee (·.setIfInBounds 3 eb))):=
    ⟨λb o e=>(c b λq=>by rw[q,r]at e;cases e).trans (C b o e),u,D.of_keeps λb o e n=>⟨o,(c b (nr b o e n)).trans e,rfl⟩,
     oe,N,T,_,_,(c ea (Me g)).trans h,H,hd,f,r,g,d,Wb a _,by simp[sz]⟩
   have J:=wpAny_looks_onW (M:=M) (E:=E) (Q:=Q) (s:={ s with heap:=s.heap.update T (Ee (·.setIfInBounds 3 eb)) }) m l X λh2 q1 q2=>G h2 q1 (up.trans q2);intro Γ p I;have k:=J Γ p I;unfold Cg at k ⊢;simp only[l]at k ⊢;rw[om,nv]at k ⊢;obtain⟨a1,o1,v1,x1,Z,g1,P,S,k⟩:=k;cases Z;have j:s.heap.get? ea=some o1:=(c ea (Me g)).symm.trans g1;have K:o1=oe:=by rw[h]at j;cases j;rfl
   subst K;rw[hd]at P;cases P;rw[f]at S;cases S;refine⟨ea,o1,N,.ref T,rfl,h,hd,f,?_⟩;have nn:(nb T != eb)=true:=by simp
   simp only[nn,ie]at k ⊢;rw[om,nv]at k ⊢;obtain⟨a2,o2,v2,x2,e2,g2,Y,U,k⟩:=k;cases e2;have F:=d.symm.trans g2;cases F;have z:=(Wb a (·.setIfInBounds 3 eb)).symm.trans Y;cases z;have O:x2=eb:=by
    have:(t.setIfInBounds 3 eb)[3]?=some eb:=by simp[sz]
    rw[this]at U;cases U;rfl
   subst O;refine⟨T,W,t,w,rfl,y,a,R,?_⟩;have n1:(eb == rawInt L)=false:=by simp[rawInt]
   have n2:(w == rawInt L)=false:=by
    cases q:w == rawInt L with
    |false=>rfl
    |true=>exact absurd (xf.mp q) hm
   simp only[n1,n2,Cc,ag]at k ⊢;rw[om,AF]at k ⊢;obtain⟨a3,o3,v3,e3,g3,d3,i3,k⟩:=k;cases e3;refine⟨T,W,t,rfl,y,a,sz,?_⟩;simp only[Heap.update_setField_twice]at k;exact k
 ·obtain⟨oe,N,h,H,hd,hz,h0,f⟩:=i;unfold Cg;simp only[l];refine aa (il h hd f ?_);rw[ja (by decide)];refine wpAny_entryW (base:=B) (outer:=outer) (a0:=a0) m D l h C u hd hz h0 λh4 hN=>?_;obtain⟨k1,k2,V,k4⟩:=hN;rw[H]at V;exact G h4 ⟨k1,u,k2,V⟩ k4
theorem NK{A:Da}{B:Heap}{env:Og}{outer:List Og}{L:Addr}{a0:Value}(b:A.frames=some (env::outer))(g:env.frame=some L)(x:nq B (env::outer) ea cls a0 s.heap)
  (f:∀ a,Io B (env::outer) ea cls a0 L a->s.heap.UpToSlots a->DK s.heap a->Q () { s with heap:=a }):wpAny M A (Cg (.ref ea) env) Q E s:=by
 have k:wpAny M A (Cg (.ref ea) env) (λ_ s'=>∃ a,s'={ s with heap:=a }/\Io B (env::outer) ea cls a0 L a/\s.heap.UpToSlots a) E s:=A8 b g x λa c d=>⟨a,rfl,c,d⟩
 exact Eb (NP (e5 _ _) k) (λ_ _ ⟨⟨a,e,c,d⟩,h⟩=>by subst e;exact f a c d h) λ_ _ z=>z
theorem eM{B:Heap}{l:List Og}{a0:Value}{L:Addr}{h:Heap}(x:Io B l ea cls a0 L h):nq B l ea cls a0 h:=⟨x.1,x.2.1,x.2.2.1,.inl ⟨_,x.2.2.2⟩⟩
theorem GU{A:Da}{B:Heap}{env:Og}{outer:List Og}{L:Addr}{a0:Value}(b:A.frames=some (env::outer))(e:env.frame=some L)(x:nq B (env::outer) ea cls a0 s.heap)
  (d:∀ a,nq B outer ea cls a0 a->s.heap.UpToSlots a->DK s.heap a->Q () { s with heap:=a }):wpAny M A (GA env (.ref ea)) Q E s:=by
 unfold GA;refine aa (NK b e x λa j k l=>?_);refine qH (eM j) λc m n o=>?_;obtain⟨f,g,⟨_,_,h⟩,i⟩:=m;exact d c ⟨f,g,h,i⟩ (k.trans n) (l.trans o)
theorem RC(c:X.stack=X.env::X.outer)(a:X.env.frame=some X.env.locals){b:Addr}:b∈qj X.stack ↔ b=X.env.locals\/b∈qj X.outer:=by
 rw[c];unfold qj;rw[Gf,a];exact Fa
theorem XW(I:Inv X pins st H s)(j:X.stack=X.env::X.outer)(i:X.env.frame=some X.env.locals)(k:X.ex=[]){h'':Heap}(un:Un (qj X.stack) [] H H' s.heap h''):Un (qj X.outer) [] X.H₀ H' X.s₀.heap h'':=by
 have a:∀ b,b ∉ X.ex:=λb z=>by rw[k]at z;cases z
 have f:∀ b o,X.s₀.heap.get? b=some o->b≠X.env.locals:=λb o e=>ra (Aa (la e) I.ok.above);refine⟨λb o e n hb _=>?_,λb o e n hb _=>?_,λb o e n _=>?_,λb o e _=>?_,λb xs e=>un.pi b xs (I.base.pi b xs e),λb o u e=>un.nh b o u (I.base.nh b o u e),λb p e=>?_⟩
 ·exact un.keep b o (I.base.keep b o e n hb (a b)) (I.base.free b o e n (a b)) (λz=>((RC j i).mp z).elim (f b o e) hb) (by simp)
 ·obtain⟨q,c⟩:=I.base.slot b o e n hb (a b);obtain⟨h,d⟩:=un.slot b _ c (I.base.free b o e n (a b)) ((RC j i).mpr (.inr hb)) (by simp);exact⟨h,d⟩
 ·obtain⟨g,c⟩:=I.base.there b o e (a b);exact un.free b g c (I.base.free b o e n (a b)) (by simp)
 ·obtain⟨g,c⟩:=I.base.there b o e (a b);exact un.there b g c (by simp)
 ·obtain⟨l,c⟩:=I.base.Uh b p e;obtain⟨m,d⟩:=un.Uh b _ c;exact⟨l++m,by rw[d,Ak]⟩
theorem lH{P:ua}{w:Ea}{outer:List Og}{e:Value}{m:Option Nat}(F:Wy P w outer H s cls m H' e s'){h6:Heap}{B:Heap}(r:∀ b o,s.heap.get? b=some o->H b=none->b ∉ qj outer->B.get? b=some o)(t:∀ b o,H' b=some o->∃ ob,B.get? b=some ob)
  (p:∀ b o,s.heap.get? b=some o->b ∉ qj outer->∃ d,B.get? b=some d) (k:∀ b o,B.get? b=some o->s'.heap.get? b=some o) (c:∀ b o,B.get? b=some o->h6.get? b=some o) (h:s'.heap.UpToSlots h6) (g:∀ b∈qj outer,∃ o,s.heap.get? b=some o/\(∀ vs,o.data≠.fields vs)/\H b=none) :
  Un (qj outer) [] H H' s.heap h6/\yi P w H' h6:=by
 refine⟨⟨λb o e n hb _=>c b o (r b o e n hb),λb o e n hb l=>?_,F.un.free,λb o e l=>?_,F.un.pi,F.un.nh,F.un.Uh⟩,oJ F.Pb λb o u e q=>?_⟩
 ·obtain⟨v,a⟩:=F.un.slot b o e n hb l;obtain⟨d,f,hd,_⟩:=g b hb;rw[e]at f;cases f;obtain⟨i,j⟩:=h b _ a hd;exact⟨i,j⟩
 ·by_cases hb:b∈qj outer
  ·obtain⟨d,f,hd,hn⟩:=g b hb;rw[e]at f;cases f;obtain⟨v,a⟩:=F.un.slot b o e hn hb l;obtain⟨i,j⟩:=h b _ a hd;exact⟨_,j⟩
  ·obtain⟨d,a⟩:=p b o e hb;exact⟨d,c b d a⟩
 ·obtain⟨ob,a⟩:=t b o e;have:=k b ob a;rw[q]at this;cases this;exact c b _ a
theorem dG(I:Inv X pins st H s):∀ b∈qj X.stack,∃ o,s.heap.get? b=some o/\(∀ vs,o.data≠.fields vs)/\H b=none:=λb hb=>by
 obtain⟨_,o,e,hd⟩:=I.stack.mem hb;exact⟨o,e,hd,I.ik b hb⟩
theorem R1(I:Inv X pins st H s)(f:X.stack=X.env::X.outer)(j:X.env.frame=some X.env.locals)(c:X.ex=[]){e:Value}{k:Option Nat}(F:Wy X.prog X.w X.stack H s cls k H' e s')
  (L:∀ i,Wy X.prog X.w X.outer X.H₀ X.s₀ cls k H' e i->Q () i):wpAny M X.A (GA X.env e) Q E s':=by
 obtain⟨ea,t,B,rfl,y,hn,d,G,D,C,K⟩:=F.ex;have l:nq B (X.env::X.outer) ea cls t s'.heap:=by rw[<-f];exact y
 refine GU (by rw[<-f];exact I.ok.frames) j l λm r R S=>L _ ?_;obtain⟨un,Pb⟩:=lH F D G C y.1 r.1 R (dG I);have a:∀ b,b ∉ X.ex:=λb z=>by rw[c]at z;cases z
 have g:∀ b o,X.s₀.heap.get? b=some o->b≠X.env.locals:=λb o e=>ra (Aa (la e) I.ok.above);have h:∀ b,s.heap.get? b=none->X.s₀.heap.get? b=none:=λb e=>by
  cases q:X.s₀.heap.get? b with
  |none=>rfl
  |some u=>obtain⟨v,x⟩:=I.base.there _ _ q (a _);rw[e]at x;cases x
 have p:AB k ea B m X.s₀.heap H':=λn q=>by
  obtain⟨J,O,P,T,U,V,W,Y,Z⟩:=K.next S (let ⟨o,e,_⟩:=r.there;⟨o,e⟩) n q;exact⟨J,O,P,T,U,V,W,Y,h _ Z⟩
 refine⟨⟨ea,t,B,rfl,r,hn,?_,G,λb o e n hb=>?_,λb o e hb=>?_,p⟩,F.os.trans I.os,F.bare,XW I f j c un,Pb⟩
 ·cases q:X.s₀.heap.get? ea with
  |none=>rfl
  |some u=>obtain⟨v,e⟩:=I.base.there _ _ q (a _);rw[d]at e;cases e
 ·exact D b o (I.base.keep b o e n hb (a b)) (I.base.free b o e n (a b)) λz=>((RC f j).mp z).elim (g b o e) hb
 ·obtain⟨N,q⟩:=I.base.there b o e (a b);exact C b N q λz=>((RC f j).mp z).elim (g b o e) hb
end
theorem U3{P:ua}{w:Ea}{K:W.Frag}{mg:qa->Option Value}{base:Heap}{N:List qa}{qual:qa}{scope:Scope}{f:Addr}{cd:Value}{A:Da}{outer:List Og}{s:Shared}{H:Hp}{E:XK}{g:St}{cls:Value}{b:Option Nat}{a:Hp}
  (h:E cls b a):Wz (fq (Wl P w) P w K mg base N qual scope f cd A outer s H E) g cls b a where
 oD:=λc i k e j I F=>R1 I rfl rfl rfl F λd G=>⟨cls,b,a,G,h⟩
theorem Wz.made{X:Cx}{d:List (Addr × Obj)}{k:St}{g:Hp}{s:Shared}{cls:Value}{ea:Addr}{h':Heap}{h:List Value}(t:Wz X k cls none g)(I:Inv X d k g s)(c:Heap.MadeExcOf s.heap h' ea cls h):X.xe (.ref ea) { s with heap:=h' }:=by
 have l:s.heap.FunFrames (W.hideAll s.heap (qj X.stack)) X.stack:=W.funFrames_hide (as:=qj X.stack) I.stack (λenv i a m=>Gk.mpr ⟨env,i,m⟩);have f:∀ b o,s.heap.get? b=some o->b ∉ qj X.stack->(W.hideAll s.heap (qj X.stack)).get? b=some o:=λb o e n=>uF _ e n;obtain⟨r,i,p,w⟩:=c.there;have j:∀ b o,g b=some o->b ∉ qj X.stack:=λb o e z=>by rw[I.ik b z]at e;cases e
 have hn:g ea=none:=by
  cases q:g ea with
  |none=>rfl
  |some u=>obtain⟨v,e⟩:=kK (I.Pb _ _ q);rw[c.new]at e;cases e
 refine t.oD d g s (.ref ea) _ I ⟨⟨ea,.ref r,W.hideAll s.heap (qj X.stack),rfl,⟨λb o q=>c.keeps b o (vt _ q),?_,l.of_keeps λb o e _=>⟨o,c.keeps b o e,rfl⟩,.inr ⟨_,_,i,rfl,rfl,by simp,rfl,rfl⟩⟩,hn,c.new,λb o e=>?_,λb o e n hb=>f b o e hb,λb o e hb=>⟨o,f b o e hb⟩,λn q=>by cases q⟩,rfl,I.bare,⟨λb o e n hb _=>c.keeps b o e,λb o e n hb _=>⟨o.slots,c.keeps b o e⟩,λb o e n _=>n,λb o e _=>⟨o,c.keeps b o e⟩,λ_ _ e=>e,λ_ _ _ e=>e,λb x e=>⟨#[],by rw[e];simp⟩⟩,oJ I.Pb λb o u e q=>c.keeps b u q⟩
 ·cases q:(W.hideAll s.heap (qj X.stack)).get? ea with
  |none=>rfl
  |some u=>have:=vt _ q;rw[c.new]at this;cases this
 ·obtain⟨u,q⟩:=kK (I.Pb _ _ e);exact⟨u,f b u q (j b o e)⟩
theorem Hn{P:ua}{w:Ea}{K:W.Frag}{mg:qa->Option Value}{base:Heap}{N:List qa}{qual:qa}{scope:Scope}{f:Addr}{cd:Value}{A:Da}{outer:List Og}{s:Shared}{H:Hp}{E:XK} :
  Fp (model P w) (fq (Wl P w) P w K mg base N qual scope f cd A outer s H E).A (fq (Wl P w) P w K mg base N qual scope f cd A outer s H E).env (fq (Wl P w) P w K mg base N qual scope f cd A outer s H E).xe:=z9
noncomputable def bY:Fl->M D
 | .nx _=>ret .Yb
 | .rt d=>ret d
 | .xc _ x=>λa=>.ex x a
 |_=>bad
noncomputable def Ys:Out Fl->Out D
 | .ok a σ=>bY a σ
 |_=>.bad
noncomputable def run(n:Nat)(g:Ev->M Fl)(ds:List D):M D:=λa=>Ys (g (ds.map some++List.replicate (n - ds.length) none) a)
noncomputable def ip(T:Tb)(n:Nat)(f:List D->M D):Sp:=λd H Q E=>∃ b c a,Ua T b H a d/\a.length=n/\Rel T b H c/\Kb T E (Rep T) b H (f a c) Q
noncomputable def jt(n:Nat)(f:List D->M D)(dds:List D)(ds:List D):M D:=if (ds++dds).length=n then f (ds++dds)else bad
noncomputable def Sf(n:Nat)(f:List D->M D)(dds:List D)(fs:Ev->M (List D)):Ev->M D:=λa=>Mc (fs a) (jt n f dds)
section
variable{T:Tb}{X:Cx}
theorem K6{μ:List Addr}{H:Hp}{ds:List D}{vs:List V}{N:List qa}(h:Ua T μ H ds vs):qh T μ H (ds.map some++List.replicate (N.length - ds.length) none) (L2.zu N vs):=by
 have c:=h.length;refine⟨by simp[L2.zu,c],λi d e=>?_⟩;by_cases b:i<ds.length
 ·rw[Xa (by simpa using b),Ja]at e;cases a:ds[i]? with
  |none=>rw[a]at e;cases e
  |some x=>
   rw[a]at e;cases e;obtain⟨v,f,g⟩:=h.get a;refine⟨v,?_,g⟩;unfold L2.zu;rw[Xa (by simpa [<-c]using b),Ja,f];rfl
 ·rw[yf (by simpa using b),ig]at e;split at e<;>cases e
variable{k:Nat}{f C:Addr}{fd:Yd}{ps:List qa}{dvs:List V}{dval:List Value}{dds:List D}{x:qa}{p pos:Se}{e:Ga}{es:List Ga}{fn:List D->M D}{fs:Ev->M (List D)}{sp:Sp}{t:TA}
theorem jJ{a:List (Addr × Obj)}{d:St}{H:Hp}{s:Shared}{Q:VK}{us:List Value}{vs:List V}(F:mh X.prog X.w X.K X.mg X.base (Wl X.prog X.w) k f fd ps sp)(l:Xd k X.A)(hb:pr X.K fd ps dval)(hd:Pd dvs dval)
  (I:Inv X a d H s) (r:Pd vs us) (h:sp (vs++dvs) H Q (XE X d)):wpAny (model X.prog X.w) X.A (call (.ref f) us) (EP X a d Q) X.xe s:=by
 have g:Pd (vs++dvs) (us++dval):=r.append hd;have j:(us++dval).length=ps.length:=by rw[<-g.length];exact F.len _ _ _ _ h
 refine Gr (kf (F.run X.A X.stack s H ⟨us,[]⟩ (us++dval) (vs++dvs) Q (XE X d) l I.aB (hb s us I.Uj j) g h) λr n c=>?_);cases r with
 |error e=>obtain⟨cls,fd,o,b,m⟩:=c;exact m.oD a H s e n I b
 |ok i=>
  cases i with
  |ret u=>exact I.after c
  |next=>exact False.elim c
  |brk=>exact False.elim c
  |cont=>exact False.elim c
theorem zP(F:mh X.prog X.w X.K X.mg X.base (Wl X.prog X.w) k f fd ps (ip T ps.length fn))(G:Xd k X.A)(C:Gl X x)(hm:X.mg x=some (.ref f))(D:W.keepIn X.K (.ref f)=true)(hb:pr X.K fd ps dval)(hd:Pd dvs dval)(g:∀ μ H,Ua T μ H dds dvs)
  (z:FA T X (e::es) fs) (d:(x == ("__debug__" : qa))=false:=by decide) (B:ma (e::es) X.env=(false,Nb e X.env)::ma es X.env:=by rfl) (j:(kc pos (ma es X.env)).any (·.1)=false:=by rfl) :
  FE T X (.Call (.Name x p) (e::es) [] pos) (Sf ps.length fn dds fs):=by
 intro a s v H Q I h;refine jf (Kz I C hm ?_ d);obtain⟨μ,M,N,y,l,E⟩:=h;refine on (h₀:=X.base) I.ok.mod.Dx D (ae (z pos a s v H (λm c=>ip T ps.length fn (m++dvs) c Q (XE X v)) I ⟨μ,M,N,y,l,E.bind λu o n m c _ O L J b=>?_⟩) λus s1 ⟨m,c,t,r,q⟩=>⟨t.Uj,?_⟩) B j
 ·unfold jt at b;by_cases i:(u++dds).length=ps.length
  ·rw[ia i]at b;exact⟨n,o,u++dds,J.append (g _ _),i,L,b⟩
  ·rw[ja i]at b;exact b.elim
 ·exact jJ F G hb hd t r q
variable{P:ua}{w:Ea}{K:W.Frag}{mg:qa->Option Value}{base:Heap}
theorem wz{x qual:qa}{c:Stmt}{N:List qa}{g:Ev->M Fl}{a:Arguments}{F kV i I b ct oc:Value}{C od:Option Addr}{q:Array (Option Value)}
  (Z:K.lookup f=some ⟨oc,od,.func (W.fnOf x qual a (Kj c) (qd c) F kV i I C b ct),q⟩) (p:W.codeIn K b qual=true) (S:Ba N ps (qd c))
  (hb:∀ (A:Da) (outer:List Og) (s:Shared) (H:Hp) (E:XK),Xd k (A.deeper (Rg qual (qd c) s.heap.objs.size f b))->ap T (fq (Wl P w) P w K mg base N qual (qd c) f b A outer s H E) (Kj c) g) :
  mh P w K mg base (Wl P w) (k+1) f (W.fnOf x qual a (Kj c) (qd c) F kV i I C b ct) ps (ip T ps.length (run N.length g)):=by
 refine GN Z p S (λvs H Q E h=>?_) (λA outer s H vs Q E Y h=>?_)
 ·obtain⟨J,y,m,o,G,_⟩:=h;rw[<-o.length];exact G
 ·obtain⟨J,y,m,o,G,X,e⟩:=h;refine⟨_,hb A outer s H E Y,J,_,y,K6 o,X,?_⟩;unfold run at e;cases n:g (m.map some++List.replicate (N.length - m.length) none) y with
  |bad=>rw[n]at e;exact e
  |ex x B=>rw[n]at e;exact e.elim
  |ok U B=>
   rw[n]at e;intro u gl H1 O r j;have l:=e.mono O;cases U with
   |nx v=>cases gl with
    |nx t=>have z:Q V.Yb H1:=Kb.here (d:=D.Yb) l r (by rw[Rep]);exact z
    |_=>exact j.elim
   |rt L=>cases gl with
    |rt v2=>have z:Q v2 H1:=Kb.here (d:=L) l r j;exact z
    |_=>exact j.elim
   |xc v x2=>cases gl with
    |xc t c2 R=>
     obtain⟨_,rfl,rfl⟩:=j;exact U3 (l u H1 (Ext.refl _ _) r)
    |_=>exact j.elim
   |_=>exact l.elim
theorem IC(F:mh P w K mg base (Wl P w) k f fd ps (ip T ps.length fn)):mh P w K mg base (Wl P w) k f fd ps (ip T ps.length (λa=>qb (fn a))):=
 F.imp λj H Q E h=>by
  obtain⟨g,i,a,c,d,b,e⟩:=h;exact⟨g,i,a,c,d,b,Kb.qb b e⟩
end
noncomputable def Fi(env:Og)(names:List (qa × Ye))(a:List (qa × Addr)):List (qa × Addr):=
 names.foldl (λb y=>if (y.2 == .free)=true then (match env.cells.lookup y.1 with|some c=>(y.1,c)::b|none=>b)else b) a
theorem EG(env:Og):∀ (names:List (qa × Ye)) (acc:List (qa × Addr)),(∀ y∈names,y.2=.free->∃ c,env.cells.lookup y.1=some c)->
  (forIn names acc (λx (cs:List (qa × Addr))=>match x with|(name,kind)=>if (kind == .free)=true then (do let a <-cellOf env name;pure (ForInStep.yield ((name,a)::cs)))else pure (ForInStep.yield cs)):Xp (List (qa × Addr)))=pure (Fi env names acc)
 |[],acc,_=>rfl
 |(n,k)::r,acc,h=>by
  rw[List.forIn_cons];by_cases b:(k == db)=true
  ·obtain⟨c,f⟩:=h (n,k) Qa (by simpa using b);have g:cellOf env n=pure c:=by unfold cellOf;rw[f]
   simp only[b,ie,g];show (forIn r ((n,c)::acc) _:Xp (List (qa × Addr)))=_;rw[EG env r ((n,c)::acc) λy e=>h y (Ha _ e)];have d:Fi env ((n,k)::r) acc=Fi env r ((n,c)::acc):=by
    unfold Fi;rw[Cd];simp only[b,ie,f]
   rw[d]
  ·simp only[b];show (forIn r acc _:Xp (List (qa × Addr)))=_;rw[EG env r acc λy e=>h y (Ha _ e)];have d:Fi env ((n,k)::r) acc=Fi env r acc:=by
    unfold Fi;rw[Cd];simp only[b];rfl
   rw[d]
theorem NG(env:Og)(scope:Scope)(h:∀ y∈scope.names,y.2=.free->∃ c,env.cells.lookup y.1=some c):closureFor scope env=pure (Fi env scope.names []):=by
 have e:=EG env scope.names [] h;unfold closureFor;simp only[bind_pure];exact e
theorem RG(env:Og):∀ (names:List (qa × Ye)) (acc:List (qa × Addr)) (n:qa) (c:Addr),(∀ n c,acc.lookup n=some c->env.cells.lookup n=some c)->(Fi env names acc).lookup n=some c->env.cells.lookup n=some c
 |[],acc,n,c,h,e=>h n c e
 |(y,k)::r,acc,n,c,h,e=>by
  unfold Fi at e;rw[Cd]at e;refine RG env r _ n c (λn c q=>?_) e;by_cases b:(k == db)=true
  ·simp only[b,ie]at q;cases a:env.cells.lookup y with
   |none=>rw[a]at q;exact h n c q
   |some d=>
    rw[a]at q;rw[Sa]at q;cases hn:(n == y)with
    |true=>rw[hn]at q;cases q;rw[eq_of_beq hn];exact a
    |false=>rw[hn]at q;exact h n c q
  ·simp only[b]at q;exact h n c q
theorem ZO(env:Og):∀ (names:List (qa × Ye)) (acc:List (qa × Addr)) (n:qa),(∃ c,acc.lookup n=some c)->∃ c,(Fi env names acc).lookup n=some c
 |[],acc,n,h=>h
 |(y,k)::r,acc,n,h=>by
  unfold Fi;rw[Cd];refine ZO env r _ n ?_;by_cases b:(k == db)=true
  ·simp only[b,ie];cases d:env.cells.lookup y with
   |none=>exact h
   |some a=>
    show ∃ c,List.lookup n ((y,a)::acc)=some c;rw[Sa];cases hn:(n == y)with
    |true=>exact⟨a,rfl⟩
    |false=>exact h
  ·simp only[b];exact h
theorem TB(env:Og):∀ (names:List (qa × Ye)) (acc:List (qa × Addr)) (n:qa),(n,db)∈names->(∃ c,env.cells.lookup n=some c)->∃ c,(Fi env names acc).lookup n=some c
 |[],acc,n,h,_=>nomatch h
 |(y,k)::r,acc,n,h,a=>by
  unfold Fi;rw[Cd];rcases Fa.mp h with e|e
  ·cases e;refine ZO env r _ _ ?_;obtain⟨c,a⟩:=a;refine⟨c,?_⟩;simp[a]
  ·exact TB env r _ n e a
theorem GJ{env:Og}:∀ {names:List (qa × Ye)} {x:qa} {k:Ye},
  (names.map λ(n,k)=>if (k == db && env.scope.kind == .function && env.kindOf n == some .cell)then (n,pc)else (n,k)).lookup x=some k->∃ k0,names.lookup x=some k0/\(k=k0\/(k0=.free/\k=.cell))
 |[],_,_,h=>by simp at h
 |(n,k0)::r,x,k,h=>by
  have d:=@GJ env r x k;have a:List.lookup x ((if (k0 == db && env.scope.kind == .function && env.kindOf n == some .cell)=true then (n,pc)else (n,k0))::(r.map λ(n,k)=>if (k == db && env.scope.kind == .function && env.kindOf n == some .cell)then (n,pc)else (n,k)))=some k:=h;cases c:x == n with
  |true=>
   by_cases b:(k0 == db && env.scope.kind == .function && env.kindOf n == some .cell)=true
   ·rw[ia b]at a;simp only[Sa,c]at a ⊢;cases a;simp only[va]at b;exact⟨k0,rfl,.inr ⟨by simpa using b.1.1,rfl⟩⟩
   ·rw[ja b]at a;simp only[Sa,c]at a ⊢;cases a;exact⟨k0,rfl,.inl rfl⟩
  |false=>
   by_cases b:(k0 == db && env.scope.kind == .function && env.kindOf n == some .cell)=true
   ·rw[ia b]at a;simp only[Sa,c]at a ⊢;exact d a
   ·rw[ja b]at a;simp only[Sa,c]at a ⊢;exact d a
theorem zR{env:Og}:∀ {names:List (qa × Ye)} {x:qa},names.lookup x=some .free->
  (names.map λ(n,k)=>if (k == db && env.scope.kind == .function && env.kindOf n == some .cell)then (n,pc)else (n,k)).lookup x=some .cell\/
  (names.map λ(n,k)=>if (k == db && env.scope.kind == .function && env.kindOf n == some .cell)then (n,pc)else (n,k)).lookup x=some .free
 |[],_,h=>by simp at h
 |(n,k)::r,x,h=>by
  have d:=@zR env r x;have a:∀ z,List.lookup x ((if (k == db && env.scope.kind == .function && env.kindOf n == some .cell)=true then (n,pc)else (n,k))::(r.map λ(n,k)=>if (k == db && env.scope.kind == .function && env.kindOf n == some .cell)then (n,pc)else (n,k)))=z->
   (List.map (λ(n,k)=>if (k == db && env.scope.kind == .function && env.kindOf n == some .cell)then (n,pc)else (n,k)) ((n,k)::r)).lookup x=z:=λz e=>e
  cases b:x == n with
  |true=>
   simp only[Sa,b]at h;cases h;by_cases c:(db == db && env.scope.kind == .function && env.kindOf n == some .cell)=true
   ·exact .inl (a _ (by rw[ia c];simp only[Sa,b]))
   ·exact .inr (a _ (by rw[ja c];simp only[Sa,b]))
  |false=>
   simp only[Sa,b]at h;have e:List.lookup x ((if (k == db && env.scope.kind == .function && env.kindOf n == some .cell)=true then (n,pc)else (n,k))::(r.map λ(n,k)=>if (k == db && env.scope.kind == .function && env.kindOf n == some .cell)then (n,pc)else (n,k))) =
     (r.map λ(n,k)=>if (k == db && env.scope.kind == .function && env.kindOf n == some .cell)then (n,pc)else (n,k)).lookup x:=by
    by_cases c:(k == db && env.scope.kind == .function && env.kindOf n == some .cell)=true
    ·rw[ia c];simp only[Sa,b]
    ·rw[ja c];simp only[Sa,b]
   rcases d h with q|q
   ·exact .inl (a _ (e.trans q))
   ·exact .inr (a _ (e.trans q))
theorem Sv{names:List (qa × Ye)}{x:qa}{k:Ye}(h:names.lookup x=some k):(x,k)∈names:=Fe h
noncomputable def Kt(X:Cx)(a:List qa)(scope:Scope)(cl:List (qa × Addr))(C:Addr)(s₀:Shared)(H₀:Hp)(ex:List Addr):Cx:=
 { X with N:=a,s₀:=s₀,H₀:=H₀,env:=compEnvC scope cl C X.env,outer:=X.stack,stack:=X.stack,ex:=ex,fn:=λ_=>false,pn:=[],xe:=λ_ _=>False }
structure Qm(X:Cx)(x:qa)(M':List qa)(ix:List Nat)(scope:Scope):Prop where
 kind:scope.kind=.function
 cell:(scope.names.all λy=>!(y.2 == .cell))=true
 names:(scope.names.all λy=>!(y.2 == .local) || scope.names.lookup y.1 == some .local)=true
 free:(scope.names.all λy=>!(y.2 == .free) || (X.env.scope.names.lookup y.1 == some .cell || X.env.scope.names.lookup y.1 == some .free))=true
 at_:ix.map (λi=>X.N[i]?)=M'.map some
 OP:(M'.all λy=>(X.env.scope.names.lookup y == some .cell || X.env.scope.names.lookup y == some .free) && scope.names.lookup y == some .free)=true
noncomputable def bI(ix:List Nat)(ρ:Ev):Ev:=none::ix.map λi=>(ρ[i]?).getD none
noncomputable def ZP(ix:List Nat)(a:St):St:=none::ix.map λi=>(a[i]?).getD none
theorem LL{T:Tb}{μ:List Addr}{H:Hp}{ρ:Ev}{f:St}(ix:List Nat)(h:qh T μ H ρ f):qh T μ H (bI ix ρ) (ZP ix f):=by
 refine⟨by simp[bI,ZP],λi d e=>?_⟩;cases i with
 |zero=>simp[bI]at e
 |succ j=>
  have a:(ix.map λi=>(ρ[i]?).getD none)[j]?=some (some d):=e;rw[Ja]at a;cases g:ix[j]? with
  |none=>rw[g]at a;cases a
  |some b=>
   rw[g]at a;have c:(ρ[b]?).getD none=some d:=ub a;have k:ρ[b]?=some (some d):=by
    cases q:ρ[b]? with
    |none=>rw[q]at c;cases c
    |some o=>rw[q]at c;exact we some c
   obtain⟨v,l,m⟩:=h.2 b d k;refine⟨v,?_,m⟩;show (ix.map λi=>(f[i]?).getD none)[j]?=_;rw[Ja,g];show some ((f[b]?).getD none)=_;rw[l];rfl
section
variable{X:Cx}{pins:List (Addr × Obj)}{st:St}{H:Hp}{s:Shared}{x:qa}{M':List qa}{ix:List Nat}{scope:Scope}{fp:List Addr}
theorem MY(L:Qm X x M' ix scope)(y:qa × Ye)(a:y∈scope.names)(e:y.2=.free):X.env.kindOf y.1=some .cell\/X.env.kindOf y.1=some .free:=by
 have q:=Zb.mp L.free y a;rw[e]at q;simp only[Sq,di,Kg,af]at q;rcases q with q|q
 ·exact .inl (eq_of_beq q)
 ·exact .inr (eq_of_beq q)
theorem cy(I:Inv X pins st H s)(L:Qm X x M' ix scope):∀ y∈scope.names,y.2=.free->∃ c,X.env.cells.lookup y.1=some c:=λy a e=>I.ok.has y.1 (MY L y a e)
theorem xB(L:Qm X x M' ix scope):∀ y∈scope.names,y.2≠.cell:=λy a e=>by
 have q:=Zb.mp L.cell y a;rw[e]at q;simp at q
end
noncomputable def Wn{α:Type}(m:M α):M α:=λa=>match m a with
 | .ex _ _=>.bad
 |o=>o
theorem Kb.wu{i o p s:Type}{T:Tb}{E E0:XK}{R:List Addr->Hp->i->p->Prop}{l:List Addr->Hp->o->s->Prop}{μ:List Addr}{H:Hp}{m:M i}{k:i->M o}{σ:Oa}{Q:s->Hp->Prop}{Q1:p->Hp->Prop}
  (h:Kb T E l μ H (Mc (Wn m) k σ) Q) (f:∀ a b c g d,m σ=.ok a b->Ext μ H c d->Rel T c d b->R c d a g->Kb T E l c d (k a b) Q->Q1 g d):Kb T E0 R μ H (m σ) Q1:=by
 unfold Mc Wn at h;cases e:m σ with
 |ok a b=>
  simp only[e]at h;exact λj g t n r q=>f a b j g t e n r q (h.mono n)
 |ex x b=>simp only[e]at h;exact h.elim
 |bad=>simp only[e]at h;exact h
noncomputable def XA(T:Tb)(X:Cx)(b:List Ga)(f:Ev->M Bool):Prop:=
 ∀ (a:List (Addr × Obj)) (s:Shared) (st:St) (H:Hp) (Q:Bool->Hp->Prop),Inv X a st H s->tT T X f st H Q->
  wpAny (model X.prog X.w) X.A (forIn b true λc r=>if r=true then do let ok <-oz c X.env (Nb c X.env);pure (ForInStep.yield ok)else pure (ForInStep.yield r)) (TP X a st Q) X.xe s
noncomputable def Yi:Ev->M Bool:=λ_=>ret true
section
variable{T:Tb}{X:Cx}
theorem Us:XA T X [] Yi:=by
 intro a s e H Q I h;obtain⟨f,g,i,d,c,b⟩:=h;exact wpAny_tests_nil ⟨H,I,Kb.here b c rfl⟩
theorem cP{c:Ga}{f:Ev->M Bool}(h:FT T X c f):XA T X [c] f:=λa s d H Q I b=>wpAny_tests_one (h a s d H Q I b)
theorem fX{fs ex:List Addr}{H d:Hp}{h f h2:Heap}{C:Addr}(u:Un fs ex H d h f)(c:Rc C f h2)(g:h.objs.size<=C):Un fs ex H d h h2:=by
 have ne:∀ b o,h.get? b=some o->b≠C:=λb o e=>ra (Aa (la e) g);refine⟨λb o e n hb a=>(c.2 b (ne b o e)).trans (u.keep b o e n hb a),λb o e n hb a=>?_,u.free,λb o e a=>?_,u.pi,u.nh,u.Uh⟩
 ·obtain⟨j,q⟩:=u.slot b o e n hb a;exact⟨j,(c.2 b (ne b o e)).trans q⟩
 ·obtain⟨i,q⟩:=u.there b o e a;exact⟨i,(c.2 b (ne b o e)).trans q⟩
theorem AV{P:ua}{w:Ea}{H:Hp}{d h2:Heap}{C:Addr}(ok:yi P w H d)(g:Rc C d h2)(f:H C=none):yi P w H h2:=λb h e=>by
 refine(ok b h e).xk (λc i a q=>(g.2 c ?_).trans q) (λ_ q=>q) λ_ _ q=>q;rintro rfl;rcases a with rfl|a
 ·rw[f]at e;cases e
 ·rw[f]at a;cases a
theorem t6{E:XK}{μ:List Addr}{H:Hp}{σ:Oa}{n:Nat}{a:Addr}{y:D}{v:V}{Q:VK}(r:Rel T μ H σ)(hn:μ[n]?=some a)(b:Rep T μ H y v)(h:Kb T E (Rep T) μ H (yk (.ref n) [y] σ) Q):PH (.ref a) [v] H Q:=
 Rz E μ H σ (.ref n) [y] (.ref a) [v] Q r (by rw[Rep];exact⟨a,rfl,hn⟩) (Ua.cons b Ua.nil) h
theorem MD{a b:Type}{m m':M a}{k:a->M b}{σ:Oa}(h:m σ=m' σ):Mc m k σ=Mc m' k σ:=by unfold Mc;rw[h]
theorem gG{b c d:Type}{m:M b}{k:b->M c}{l:c->M d}:Mc (Mc m k) l=Mc m λa=>Mc (k a) l:=by
 funext e;unfold Mc;cases m e<;>rfl
end
noncomputable def aC(x y:D):M D:=λa=>match Ff a x,Ff a y with
 |some xs,some b=>if xs.length+b.length<=Mh then .ok (.lst (xs++b)) a else .bad
 |_,_=>.bad
noncomputable def zj(x y:D):M D:=match x,y with
 | .int i,.int j=>ret (.int (i+j))
 | .tup xs,.tup c=>if xs.length+c.length<=Mh then ret (.tup (xs++c))else bad
 | .str a,.str b=>if a.length+b.length<=100000 then ret (.str (a++b))else bad
 |x,y=>aC x y
theorem nZ{n:Nat}(h:n<=100000):n<=sizeLine:=Ya h (by decide)
section
variable{T:Tb}{X:Cx}{a b c:Ga}{fa fb fc:Ev->M D}{pos:Se}
theorem t5{prog:ua}{w:Ea}{A:Da}{F:Value->Shared->Prop}{s:Shared}{t b:Addr}{ws:List Value}{Q:Value->Shared->Prop}(o:eu s.heap t (#[]:Array Value))(hb:eu s.heap b ws.toArray)(m:Q (.ref b) s):wpAny (model prog w) A (He .Add (.ref t) (.ref b)) Q F s:=by
 obtain⟨⟨cls,l,i,q⟩,k,j,n,hd⟩:=id o;obtain⟨⟨h,f,e,g⟩,d,a,p,c⟩:=id hb;simp only at j hd a c;subst j hd a c;exact av ⟨_,k,rfl⟩ ⟨_,d,rfl⟩ Bp xt qi Vh (Kh _ _)
  (tuple_addW0 t b #[] ws.toArray n p l f q g rfl) ⟨k,d,m⟩
theorem SC{E:XK}{μ:List Addr}{H:Hp}{σ:Oa}{x y:D}{v u:V}{h g:Value}{Q:VK}{b:List (Addr × Obj)}{s:Shared}{f:St}(I:Inv X b f H s)(B:vd v h)(z:vd u g)(r:Rel T μ H σ)(o:Rep T μ H x v)(t:Rep T μ H y u)(a:Kb T E (Rep T) μ H (aC x y σ) Q) :
  wpAny (model X.prog X.w) X.A (He .Add h g) (EP X b f Q) X.xe s:=by
 unfold aC at a;cases c:Ff σ x with
 |none=>rw[c]at a;exact a.elim
 |some xs=>
  cases d:Ff σ y with
  |none=>rw[c,d]at a;exact a.elim
  |some G=>
   rw[c,d]at a;dsimp only at a;by_cases e:xs.length+G.length<=Mh
   ·rw[ia e]at a;obtain⟨p,C,rfl,k,i⟩:=r.ls o c;obtain⟨q,F,rfl,m,j⟩:=r.ls t d;exact TQ b s f H _ _ h g Q I B z ⟨p,q,C,F,rfl,rfl,k,m,by rw[<-i.length,<-j.length];exact kx e,λl n=>qD a r (Ua.append i j) n⟩
   ·rw[ja e]at a;exact a.elim
theorem lp(V:T.K=X.K):Ei X (He .Add) (rD T zj):=by
 intro d s B H v u D C Q I m k h;obtain⟨E,Z,σ,x,y,r,f,g,c⟩:=h;cases x with
 |int i=>
  cases y with
  |int j=>exact nX d s B H v u D C Q I m k ⟨i,j,Ws f,Ws g,Kb.here c r (by rw[Rep])⟩
  |_=>exact SC I m k r f g c
 |str a=>
  cases y with
  |str b=>
   unfold zj at c;dsimp only at c;by_cases n:a.length+b.length<=100000
   ·rw[ia n]at c;exact SW d s B H v u D C Q I m k ⟨a,b,by simpa [Rep]using f,by simpa [Rep]using g,nZ n,Kb.here c r (by rw[Rep])⟩
   ·rw[ja n]at c;exact c.elim
  |_=>exact SC I m k r f g c
 |tup xs=>
  cases y with
  |tup L=>
   unfold zj at c;dsimp only at c;by_cases n:xs.length+L.length<=Mh
   ·rw[ia n]at c;have z:=f;have A:=g;rw[Rep]at f g;obtain⟨p,S,rfl,F,t⟩:=f;obtain⟨q,U,rfl,G,w⟩:=g;cases S with
    |nil=>
     have o:xs=[]:=by have:=t.length;simpa using this
     subst o;cases m;cases k;obtain⟨N,O,P,_⟩:=L2.Inv.tuple I (Th.of (K:=X.K) F);obtain⟨J,W,R,_⟩:=L2.Inv.tuple I (Th.of (K:=X.K) G);cases O;exact t5 P R ⟨.ref q,H,I,rfl,Kb.here c r (by simpa using A)⟩
    |cons v0 Y=>
     refine rX d s B H _ _ D C Q I m k ⟨p,q,_,U,rfl,rfl,Th.of F,Th.of G,by simp,?_,λe=>?_,λe l M=>?_⟩
     ·rw[<-t.length,<-w.length];exact kx n
     ·subst e;have o:L=[]:=by have:=w.length;simpa using this
      subst o;exact Kb.here c r (by simpa using z)
     ·exact dJ c r (Ua.append t w) M
   ·rw[ja n]at c;exact c.elim
  |_=>exact SC I m k r f g c
 |_=>exact SC I m k r f g c
noncomputable def OH(a:D->D->M D)(c:M D)(y:D):D->M D:=Ox (Pj (Mc c (a y)) (ret (.bl false)))
noncomputable def qJ(o a:D->D->M D)(c:M D)(x y:D):M D:=Mc (o x y) (OH a c y)
noncomputable def fG(o a:D->D->M D)(b c:M D)(x:D):M D:=Mc b (qJ o a c x)
noncomputable def CJ(o e:D->D->M D)(a b c:Ev->M D):Ev->M D:=λd=>Mc (a d) (fG o e (b d) (c d))
theorem RW{j d:Yp}{r L:R2}{o J:D->D->M D}(W:Ei X (Qc j) r)(hs:Bm T r o)(g:Ei X (Qc d) L)(i:Bm T L J)(U:FE T X a fa)(hb:FE T X b fb)(V:FE T X c fc)
  (hm:lastMarks [j,d] [b,c]=false:=by with_unfolding_all rfl):FE T X (.Compare a [j,d] [b,c] pos) (CJ o J fa fb fc):=by
 intro e s st H Q I h;refine X4 W g U hb V hm e s st H Q I ?_;obtain⟨μ,q,σ,f,Z,Y⟩:=h;refine⟨μ,q,σ,f,Z,Y.bind λx t l v H1 _ E r1 q1 p1=>⟨l,q,t,f.mono E,r1,p1.bind λy A m w O _ F r2 K p2=>?_⟩⟩;refine hs _ m O A x y v w _ r2 (Rep.mono F _ _ q1) K (p2.bind λz B n u H3 _ G N q3 p3=>?_);obtain⟨k,rfl,S,p4⟩:=bD q3 p3;refine⟨k,S,?_⟩;cases k with
 |true=>
  unfold Pj at p4;rw[ia rfl]at p4 ⊢;exact⟨n,q,B,((f.mono E).mono F).mono G,N,p4.bind λz C p u5 P _ R r5 q5 p5=>i _ p P C y z w u5 Q r5 (Rep.mono R _ _ (Rep.mono G _ _ K)) q5 p5⟩
 |false=>unfold Pj at p4;rw[ja Va]at p4 ⊢;exact Kb.here p4 N (by rw[Rep])
theorem Ph{k:Nat}{A:Da}(a:Xd k A):A.units+9<cLine:=by have:=a.un;omega
end
noncomputable def Df(K:W.Frag)(mg:qa->Option Value)(x:qa)(c:Stmt)(ps:List qa):Prop:=
 ∃ f b,mg x=some (.ref f)/\fx K x x c f b/\∀ a:List Value,a.length=ps.length->bindArgs b ⟨a,[]⟩=pure (ps.zip a)
noncomputable def ud(T:Tb)(P:ua)(w:Ea)(mg:qa->Option Value)(base:Heap)(k:Nat)(x:qa)(ps:List qa)(fn:List D->M D):Prop:=
 ∃ f b,mg x=some (.ref f)/\W.keepIn T.K (.ref f)=true/\(∀ a:List Value,a.length=ps.length->bindArgs b ⟨a,[]⟩=pure (ps.zip a))/\mh P w T.K mg base (Wl P w) k f b ps (ip T ps.length fn)
section
variable{T:Tb}{X:Cx}
theorem dh{k:Nat}{ps:List qa}{fn:List D->M D}{x:qa}{p b:Se}{e:Ga}{a:List Ga}{fs:Ev->M (List D)}(h:ud T X.prog X.w X.mg X.base k x ps fn)(j:T.K=X.K)(o:Xd k X.A)(n:Gl X x)
  (l:FA T X (e::a) fs) (c:(x == ("__debug__" : qa))=false:=by decide) (m:ma (e::a) X.env=(false,Nb e X.env)::ma a X.env:=by rfl) (d:(kc b (ma a X.env)).any (·.1)=false:=by rfl) :
  FE T X (.Call (.Name x p) (e::a) [] b) (Sf ps.length fn [] fs):=by
 obtain⟨f,q,hm,i,hb,g⟩:=h;rw[j]at i g;exact zP (dds:=[]) (dvs:=[]) g o n hm i (.all hb) .nil (λ_ _=>Ua.nil) l c m d
variable{P:ua}{w:Ea}{K:W.Frag}{mg:qa->Option Value}{base:Heap}{ca:Nat->Addr}{tx:Tx}
theorem sk{k:Nat}{x:qa}{b:Stmt}{ps N:List qa}{g:Ev->M Fl}(h:Df K mg x b ps)(S:Ba N ps (qd b))
  (hb:∀ (f:Addr) (a:Value) (A:Da) (outer:List Og) (s:Shared) (H:Hp) (E:XK),Xd k (A.deeper (Rg x (qd b) s.heap.objs.size f a))->ap ⟨K,ca,tx⟩ (fq (Wl P w) P w K mg base N x (qd b) f a A outer s H E) (Kj b) g) :
  ud ⟨K,ca,tx⟩ P w mg base (k+1) x ps (run N.length g):=by
 obtain⟨f,m,hm,F,c⟩:=h;obtain⟨n,o,kV,e,p,l,a,ct,j,rfl,i,d⟩:=F.ex;exact⟨f,_,hm,F.kp,c,wz i d S (hb f a)⟩
theorem ud.qb{k:Nat}{x:qa}{ps:List qa}{fn:List D->M D}(h:ud T P w mg base k x ps fn):ud T P w mg base k x ps (λa=>L4.qb (fn a)):=by
 obtain⟨f,b,c,d,e,g⟩:=h;exact⟨f,b,c,d,e,IC g⟩
theorem Dj{h:Heap}{x:qa}{e:Stmt}{ps:List qa}{f:Addr}{m:Value}{od g:Option Addr}{j:Array (Option Value)}{kV d i b ct:Value}(X:K.In h)(G:h.Ns mainGlobals mg)
  (hb:∀ (kV d i:Value) (g:Option Addr) (b ct:Value) (us:List Value),us.length=ps.length->bindArgs (W.fnOf x x (Ln e) (Kj e) (qd e) .none kV d i g b ct) ⟨us,[]⟩=pure (ps.zip us))
  (a:W.nsIn K mainGlobals x=some (some (.ref f))) (l:K.lookup f=some ⟨m,od,.func (W.fnOf x x (Ln e) (Kj e) (qd e) .none kV d i g b ct),j⟩)
  (c:W.codeIn K b x=true) (k:W.keepIn K (.ref f)=true):Df K mg x e ps:=
 ⟨f,_,zt X G a,HL l c k,hb kV d i g b ct⟩
theorem Jw{h:Heap}{x:qa}{i:Int}{t:Tok}(X:K.In h)(G:h.Ns mainGlobals mg)(a:W.nsIn K mainGlobals x=some (some (.int i t))):∃ t,mg x=some (.int i t):=⟨t,zt X G a⟩
end
noncomputable def RF(T:Tb)(P:ua)(w:Ea)(mg:qa->Option Value)(k:Nat)(x:qa)(ps:List qa)(fn:List D->M D):Prop:=
 ∃ f b,mg x=some (.ref f)/\(∀ a:List Value,a.length=ps.length->bindArgs b ⟨a,[]⟩=pure (ps.zip a))/\∀ base:Heap,mh P w T.K mg base (Wl P w) k f b ps (ip T ps.length fn)
theorem G2{P:ua}{w:Ea}{K:W.Frag}{mg:qa->Option Value}{ca:Nat->Addr}{tx:Tx}{k:Nat}{x:qa}{b:Stmt}{ps N:List qa}{g:Ev->M Fl}(h:Df K mg x b ps)(S:Ba N ps (qd b))
  (hb:∀ (base:Heap) (f:Addr) (a:Value) (A:Da) (outer:List Og) (s:Shared) (H:Hp) (E:XK),Xd k (A.deeper (Rg x (qd b) s.heap.objs.size f a))->ap ⟨K,ca,tx⟩ (fq (Wl P w) P w K mg base N x (qd b) f a A outer s H E) (Kj b) g) :
  RF ⟨K,ca,tx⟩ P w mg (k+1) x ps (run N.length g):=by
 obtain⟨f,m,hm,F,c⟩:=h;obtain⟨n,o,kV,e,p,l,a,ct,j,rfl,i,d⟩:=F.ex;exact⟨f,_,hm,c,λbase=>wz i d S (hb base f a)⟩
theorem JV{K:W.Frag}{h:Heap}{C:Addr}{c:List Value}{a:String}(f:K.In h)(d:W.excIn K C c a=true) :
  ∃ bm N nm k bs hdct sn sub ab col dd k0 k1 k2 k3 k5 mN,h.get? C=some (excClassObj nm k C N bs bm hdct sn sub ab col dd k0 k1 k2 k3 k5 a)/\h.Ns N mN/\mN "__init__" = none/\OwnTail h c bm:=by
 unfold W.excIn at d;split at d
 ·rename_i dd b w u
  split at d
  ·rename_i n bm k0 k1 k2 k3 j k5 e g
   have i:((((n=C/\j=a)/\b.hasDel=false)/\W.tailIn K c bm=true)/\W.nsOkIn K b.ns=true)/\W.nsIn K b.ns "__init__" = some none:=by
    simpa [va,Bool.not_eq_true']using d
   obtain⟨⟨⟨⟨⟨o,p⟩,q⟩,r⟩,m⟩,s⟩:=i;subst o;subst p;obtain⟨nm,bs,v,ns,k,hd,sn,sub,ab,col,t⟩:=b;cases e;cases q;obtain⟨l⟩:=w;cases g;exact⟨bm,ns,nm,k,bs,hd,sn,sub,ab,col,dd,k0,k1,k2,k3,k5,_,f _ _ u,.of_isNs (W.isNs_of_in f m),W.nsMap_none_of_in f m s,W.tail_of_in f r⟩
  ·cases d
 ·cases d
noncomputable def IE(c:Nat)(ρ:Ev)(ds:List D):M Fl:=if ds.length<=Mh then ret (.xc ρ ⟨c⟩)else bad
noncomputable def Px(c:Nat)(fs:Ev->M (List D)):Ev->M Fl:=λa=>xs a (fs a) (IE c a)
section
variable{T:Tb}{X:Cx}
theorem zz(c:Nat){x:qa}{B b d:String}{h:List Value}{np a w:Se}{e:Ga}{f:List Ga}{fs:Ev->M (List D)}(C:ExcBaseFacts B b d h)(P:T.K=X.K)(F:W.excIn T.K (T.ca c) h b=true)(hm:X.mg x=some (.ref (T.ca c)))
  (S:Gl X x) (R:X.calm=true) (Q:FA T X (e::f) fs) (p:(x == ("__debug__" : qa))=false:=by decide) (E:ma (e::f) X.env=(false,Nb e X.env)::ma f X.env:=by rfl)
  (v:(kc a (ma f X.env)).any (·.1)=false:=by rfl) (t:Iz c=none:=by rfl):FS T X (.Raise (some (.Call (.Name x np) (e::f) [] a)) none w) (Px c fs):=by
 intro l s y H D I Y;obtain⟨μ,ρ,σ,o,V,U⟩:=Y;rw[P]at F;obtain⟨bm,N,nm,qn,bs,hdct,sn,sub,ab,col,dd,k0,k1,k2,k3,k5,mN,O,hN,u,G⟩:=JV I.ok.mod.Dx F;have j:(kc a (ma (e::f) X.env)).any (·.1)=false:=by
  rw[E];show (false || (kc a (ma f X.env)).any (·.1))=false;rw[v];rfl
 refine wpAny_Raise_call_subT (nm:=nm) (q:=qn) (N:=N) (bs:=bs) (bm:=bm) (hdct:=hdct) (sn:=sn) (sub:=sub) (ab:=ab) (col:=col) (dd:=dd) (k0:=k0) (k1:=k1) (k2:=k2) (k3:=k3) (k5:=k5) C (mN:=mN) (G.hasType C.hasBase) (I.ok.hd R) j u (Kz I S hm ⟨rfl,?_⟩ p);have step:=Q a l s y H (λA n=>A.length<=Mh/\Wz X y (T.cv ⟨c⟩) none n) I ⟨μ,ρ,σ,o,V,U.xs o λJ a1 a0 A n _ L r1 q1 k=>by
  unfold IE at k;by_cases i:J.length<=Mh
  ·rw[ia i]at k;exact⟨by rw[<-q1.length];exact i,Kb.here (g:=sm.xc y (T.cv ⟨c⟩) none) k r1 ⟨o.mono L,rfl,t.symm⟩⟩
  ·rw[ja i]at k;exact k.elim⟩
 rw[E]at step ⊢;refine uj (ae step λus s1 ⟨A,n,m,r,i,z⟩=>?_);exact⟨rfl,by rw[<-r.length];exact kx i,m.bk _ _ O,hN.keeps m.bk,G.keeps m.bk,λh' ea Z=>z.made m Z⟩
end
structure Hd where
 t:Nat->Option Bool
 nm:Option Nat
 g:Ev->M Fl
noncomputable def FD(i:Nat):Fl->M Fl
 | .nx a=>ret (.nx (a.set i none))
 | .rt d=>ret (.rt d)
 | .bk a=>ret (.bk (a.set i none))
 | .ct a=>ret (.ct (a.set i none))
 | .xc _ _=>bad
noncomputable def jE:Fl->M Fl
 | .nx a=>ret (.nx a)
 | .rt d=>ret (.rt d)
 | .bk a=>ret (.bk a)
 | .ct a=>ret (.ct a)
 | .xc _ _=>bad
noncomputable def hit(h:Hd)(ρ:Ev)(x:Xn):M Fl:=match h.nm with
 |none=>Mc (h.g ρ) jE
 |some i=>Mc (h.g (ρ.set i (some (.Wo x.cls)))) (FD i)
noncomputable def Fx(ρ:Ev)(x:Xn):List Hd->M Fl
 |[]=>bad
 |h::r=>match h.t x.cls with
  |some true=>hit h ρ x
  |some false=>Fx ρ x r
  |none=>bad
noncomputable def WE(b:List Hd):Fl->M Fl
 | .xc a x=>Fx a x b
 | .nx a=>ret (.nx a)
 | .rt d=>ret (.rt d)
 | .bk a=>ret (.bk a)
 | .ct a=>ret (.ct a)
noncomputable def tD(g:Ev->M Fl)(a:List Hd):Ev->M Fl:=λb=>Mc (g b) (WE a)
noncomputable abbrev Cx.Gu(X:Cx)(e:Value):Cx:={ X with A:=X.A.mark (some e),calm:=false,xe:=λ_ _=>False }
noncomputable abbrev Cx.iF(X:Cx)(a:List (Addr × Obj))(xe:Value->Shared->Prop):Cx:={ X with xe:=xe,pn:=X.pn++a }
section
variable{T:Tb}{X:Cx}{pins:List (Addr × Obj)}{st:St}{H:Hp}{s:Shared}{e:Value}{xe:Value->Shared->Prop}
theorem G6(I:Inv X pins st H s):Inv (Cx.iF X pins xe) [] st H s:=
 ⟨⟨I.ok.mod,I.ok.kind,I.ok.glob,I.ok.blt,I.ok.above,I.ok.inj,I.ok.has,I.ok.qx,I.ok.hd,I.ok.frames,I.ok.Uo,I.ok.ly,I.ok.bs,I.ok.ir,I.ok.iq,I.ok.oq,I.ok.nj,I.ok.Xu⟩,I.os,I.bare,I.base,I.loc,I.cell,I.free,I.eg,λp a=>I.pin p (by simpa using a),I.Pb,I.len⟩
theorem qB{b:List (Addr × Obj)}(I:Inv (Cx.iF X pins xe) b st H s):Inv X pins st H s:=
 ⟨⟨I.ok.mod,I.ok.kind,I.ok.glob,I.ok.blt,I.ok.above,I.ok.inj,I.ok.has,I.ok.qx,I.ok.hd,I.ok.frames,I.ok.Uo,I.ok.ly,I.ok.bs,I.ok.ir,I.ok.iq,I.ok.oq,I.ok.nj,I.ok.Xu⟩,I.os,I.bare,I.base,I.loc,I.cell,I.free,I.eg,λp a=>I.pin p (Ka _ a),I.Pb,I.len⟩
theorem nE(I:Inv X pins st H s):Inv (Cx.Gu X e) pins st H s:=
 ⟨⟨I.ok.mod,I.ok.kind,I.ok.glob,I.ok.blt,I.ok.above,I.ok.inj,I.ok.has,I.ok.qx,λz=>(by cases z),I.ok.frames,I.ok.Uo,I.ok.ly,I.ok.bs,I.ok.ir,I.ok.iq,I.ok.oq,I.ok.nj,I.ok.Xu⟩,I.os,I.bare,I.base,I.loc,I.cell,I.free,I.eg,I.pin,I.Pb,I.len⟩
theorem EB(ok:X.Ok)(I:Inv (Cx.Gu X e) pins st H s):Inv X pins st H s:=
 ⟨ok,I.os,I.bare,I.base,I.loc,I.cell,I.free,I.eg,I.pin,I.Pb,I.len⟩
theorem G7{D:Ends}{f:Flow}{s':Shared}(h:SP (Cx.iF X pins xe) [] D f s'):SP X pins D f s':=by
 cases f with
 |next=>obtain⟨a,b,I,q⟩:=h;exact⟨a,b,qB I,q⟩
 |brk=>obtain⟨a,b,I,q⟩:=h;exact⟨a,b,qB I,q⟩
 |cont=>obtain⟨a,b,I,q⟩:=h;exact⟨a,b,qB I,q⟩
 |ret u=>obtain⟨v,a,b,I,r,q⟩:=h;exact⟨v,a,b,qB I,r,q⟩
theorem T7(ok:X.Ok){D:Ends}{f:Flow}{s':Shared}(h:SP (Cx.Gu X e) pins D f s'):SP X pins D f s':=by
 cases f with
 |next=>obtain⟨a,b,I,q⟩:=h;exact⟨a,b,EB ok I,q⟩
 |brk=>obtain⟨a,b,I,q⟩:=h;exact⟨a,b,EB ok I,q⟩
 |cont=>obtain⟨a,b,I,q⟩:=h;exact⟨a,b,EB ok I,q⟩
 |ret u=>obtain⟨v,a,b,I,r,q⟩:=h;exact⟨v,a,b,EB ok I,r,q⟩
end
noncomputable def Rt(X:Cx)(a:List (Addr × Obj))(e:St)(H:Hp)(s:Shared)(ea:Addr)(cls:Value)(d:Option Nat):Prop:=∃ b c,Inv X a e b c/\Wy X.prog X.w X.stack b c cls d H (.ref ea) s
section
variable{T:Tb}{X:Cx}{pins:List (Addr × Obj)}{st:St}{H:Hp}{s:Shared}{ea:Addr}{cls:Value}{fd:Option Nat}
theorem Rt.inv(L:Rt X pins st H s ea cls fd):Inv X pins st H s:=by
 obtain⟨a,c,I,F⟩:=L;exact L2.Inv.Du (ch:=[]) I F.os F.un F.Pb F.bare λb z=>absurd z (by simp)
theorem Rt.next(L:Rt X pins st H s ea cls fd){M:Yj}{A:Da}{E:Value->Shared->Prop}{Q:Unit->Shared->Prop}(h:∀ s',Rt X pins st H s' ea cls fd->Q () s'):wpAny M A (ji (.ref ea) none) Q E s:=by
 obtain⟨k,p,I,F⟩:=L;obtain⟨m,l,B,e,f,hn,b,j,i,g,n⟩:=F.ex;cases e;refine qH f λq a d c=>h _ ?_;obtain⟨un,Pb⟩:=lH F i j g f.1 a.1 d (dG I);exact⟨k,p,I,⟨ea,l,B,rfl,a,hn,b,j,i,g,n.next c (let ⟨o,e,_⟩:=a.there;⟨o,e⟩)⟩,F.os,F.bare,un,Pb⟩
theorem Rt.obj(L:Rt X pins st H s ea cls fd):H ea=none/\(∃ o,s.heap.get? ea=some o/\o.cls=cls)/\∃ s0:Shared,s0.heap.get? ea=none/\∃ b,Inv X pins st b s0:=by
 obtain⟨b,s0,I,F⟩:=L;obtain⟨c,f,B,e,d,hn,a,j,h,g,i⟩:=F.ex;cases e;exact⟨hn,d.there,s0,a,b,I⟩
theorem fH{w:Hp}{k:Shared}{a:Addr}{o:Obj}{φ:Heap->Prop}(I:Inv X pins st H s)(g:Inv X pins st w k)(d:k.heap.get? a=none)(hn:H a=none)(A:s.heap.get? a=some o)(j:φ s.heap)
  (B:∀ l r:Heap,φ l->(∀ u,l.get? a=some u->r.get? a=some u)->φ r):Inv X pins st (upd H a (.ext φ)) s:=by
 have ne:∀ b u,k.heap.get? b=some u->b≠a:=λb u e z=>by rw[z,d]at e;cases e
 have f:∀ b u,H b=some u->b≠a:=λb u e z=>by rw[z,hn]at e;cases e
 have C:∀ b u,X.s₀.heap.get? b=some u->b ∉ X.ex->b≠a:=λb u e h=>by obtain⟨K,y⟩:=g.base.there b u e h;exact ne b K y
 refine⟨I.ok,I.os,I.bare,⟨I.base.keep,I.base.slot,λb u e n h=>?_,I.base.there,λb xs e=>?_,λb D u e=>?_,λb J e=>?_⟩,I.loc,I.cell,?_,λx c e=>?_,λp t=>?_,λb u e=>?_,I.len⟩
 ·rw[Ad (C b u e h)];exact I.base.free b u e n h
 ·have q:=I.base.pi b xs e;rw[Ad (f b _ q)];exact q
 ·have q:=I.base.nh b D u e;rw[Ad (f b _ q)];exact q
 ·obtain⟨more,q⟩:=I.base.Uh b J e;exact⟨more,by rw[Ad (f b _ q)];exact q⟩
 ·obtain⟨m,⟨u,_,_,i,_⟩,_⟩:=g.loc;rw[Ad (ne _ u i)];exact I.free
 ·obtain⟨v,u,i,_⟩:=g.cell x c e;rw[Ad (ne _ u i)];exact I.eg x c e
 ·obtain⟨E,F,G⟩:=I.pin p t;refine⟨E,?_,G⟩;rw[Ad (ne _ _ (g.pin p t).1)];exact F
 ·by_cases hb:b=a
  ·subst hb;rw[Jg]at e;cases e;exact⟨j,⟨o,A⟩,B⟩
  ·rw[Ad hb]at e;exact(I.Pb b u e).xk (λc v _ q=>q) (λc q=>by rw[Ad (f c _ q)];exact q) λc xs q=>by rw[Ad (f c _ q)];exact q
theorem NR{C a:Addr}{dd:Option Addr}:∀ b h2:Heap,Ov C dd a b->(∀ u,b.get? a=some u->h2.get? a=some u)->Ov C dd a h2:=λb h2 ⟨u,c,q⟩ k=>⟨u,k u c,q⟩
theorem A2{a:Addr}{n:Nat}:∀ b h2:Heap,zB a n b->(∀ u,b.get? a=some u->h2.get? a=some u)->zB a n h2:=λb h2 ⟨u,c,q⟩ k=>⟨u,k u c,q⟩
theorem Rt.LB(L:Rt X pins st H s ea (.ref C) fd):∃ dd f,Inv X pins st f s/\f ea=some (.ext (Ov C dd ea))/\(∀ n,fd=some n->∃ a,dd=some a/\H a=none/\f a=some (.ext (zB a n)))/\(∀ b u,H b=some u->f b=some u)/\∀ b u,f b=some u->H b=some u\/H b=none:=by
 have I:=L.inv;obtain⟨M,R,k,F⟩:=L;obtain⟨D,N,B,e,i,hn,c,Q,P,O,E⟩:=F.ex;cases e;obtain⟨o,d,t⟩:=i.there;cases p:fd with
 |none=>
  have l:=fH (φ:=Ov C none ea) I k c hn d ⟨o,d,t,λ_ z=>by cases z⟩ NR;refine⟨none,_,l,Jg,(λn q=>by cases q),λb u e=>?_,λb u e=>?_⟩
  ·rw[Ad (λz=>by rw[z,hn]at e;cases e)];exact e
  ·by_cases hb:b=ea
   ·rw[hb];exact .inr hn
   ·rw[Ad hb]at e;exact .inl e
 |some n=>
  obtain⟨a,v,w,x,G,y,J,j,K⟩:=E n p;have r:w=o:=by rw[d]at x;cases x;rfl
  subst r;have g:=i.1 a v y;have h:a≠ea:=λz=>by
   have:=i.2.1;rw[<-z,y]at this;cases this
  have l:=fH (φ:=Ov C (some a) ea) I k c hn d ⟨w,d,t,λ_ z=>by cases z;exact⟨G,i.SI d⟩⟩ NR;have A:=fH (φ:=zB a n) l k K (by rw[Ad h];exact j) g ⟨v,g,J⟩ A2;refine⟨some a,_,A,by rw[Ad (Me h)];exact Jg,λm q=>?_,λb u e=>?_,λb u e=>?_⟩
  ·cases q;exact⟨a,rfl,j,Jg⟩
  ·rw[Ad (λz=>by rw[z,j]at e;cases e),Ad (λz=>by rw[z,hn]at e;cases e)];exact e
  ·by_cases hd:b=a
   ·rw[hd];exact .inr j
   ·rw[Ad hd]at e;by_cases hb:b=ea
    ·rw[hb];exact .inr hn
    ·rw[Ad hb]at e;exact .inl e
theorem WS(I:Inv X pins st H s)(l:X.stack=X.env::X.outer)(x:X.env.frame=some X.env.locals){s':Shared}{p:Hp}{e:Value}(F:Wy X.prog X.w X.stack H s cls fd p e s'){M:Yj}{E:Value->Shared->Prop}{Q:Value->Shared->Prop}
  (h:∀ ea d,e=.ref ea->Rt X pins st p d ea cls fd->Q e d):wpAny M X.A (Cg e X.env) (λ_ y=>wpAny M X.A (ji e none) (λ_ z=>Q e z) E y) E s':=by
 obtain⟨ea,f,B,rfl,q,hn,c,u,t,r,v⟩:=F.ex;have j:nq B (X.env::X.outer) ea cls f s'.heap:=by rw[<-l];exact q
 refine NK (by rw[<-l];exact I.ok.frames) x j λC b m g=>?_;refine qH (eM b) λh5 k n i=>h ea _ rfl ?_;have a:nq B X.stack ea cls f h5:=by rw[l];exact k
 obtain⟨un,Pb⟩:=lH F t u r q.1 a.1 (m.trans n) (dG I);exact⟨H,s,I,⟨ea,f,B,rfl,a,hn,c,u,t,r,v.next (g.trans i) (let ⟨o,e,_⟩:=a.there;⟨o,e⟩)⟩,F.os,F.bare,un,Pb⟩
end
noncomputable def oG(X:Cx)(x:qa)(cv:Value):Prop:=X.mg x=some cv\/(X.mg x=none/\bootBuiltins x=some cv/\x ≠ "__name__")
inductive Yx(T:Tb)(X:Cx):List xh->List Hd->Prop where
 |nil:Yx T X [] []
 |cons {x:qa} {np pos:Se} {cv:Value} {b₀:Stmt} {suite:List Stmt} {t:Nat->Option Bool} {g:Ev->M Fl} {r:List xh} {hs:List Hd} (hg:Gl X x) (hd:(x == ("__debug__" : qa))=false) (hm:oG X x cv) (ht:∀ c b,t c=some b->W.exmOne X.K (.ref (T.ca c)) cv=some b)
   (hb:∀ e,ap T (Cx.Gu X e) (b₀::suite) g) (hr:Yx T X r hs):Yx T X (.ExceptHandler (some (.Name x np)) none (b₀::suite) pos::r) (⟨t,none,g⟩::hs)
 |Iu {x n:qa} {i:Nat} {np pos:Se} {cv:Value} {b₀:Stmt} {suite:List Stmt} {t:Nat->Option Bool} {g:Ev->M Fl} {r:List xh} {hs:List Hd} (hg:Gl X x) (hd:(x == ("__debug__" : qa))=false) (hm:oG X x cv) (ht:∀ c b,t c=some b->W.exmOne X.K (.ref (T.ca c)) cv=some b)
   (hN:X.N.Nodup) (hi:X.N[i]?=some n) (hl:X.env.scope.names.lookup n=some .local)
   (hb:∀ e,ap T (Cx.Gu X e) (b₀::suite) g) (hr:Yx T X r hs):Yx T X (.ExceptHandler (some (.Name x np)) (some n) (b₀::suite) pos::r) (⟨t,some i,g⟩::hs)
section
variable{T:Tb}{X:Cx}
theorem EK{a:List (Addr × Obj)}{e:St}{H:Hp}{s:Shared}{x:qa}{cv:Value}{b:Se}{E:Value->Shared->Prop}{Q:Value->Shared->Prop}(I:Inv X a e H s)(c:Gl X x)(hd:(x == ("__debug__" : qa))=false)(hm:oG X x cv)(h:Q cv s):wpAny (model X.prog X.w) X.A (Nb (.Name x b) X.env) Q E s:=by
 rcases hm with hm|⟨hm,d,hn⟩
 ·exact Kz I c hm h hd
 ·exact bx I c hm d h hn hd
theorem n3{e:Value}{μ:List Addr}{H:Hp}{o:Out Fl}{D:Ends}(c:Kb T EN (zl T) μ H (o.bind jE) (ek X D)):Kb T EN (zl T) μ H o (ek (Cx.Gu X e) D):=by
 cases o with
 |bad=>exact c
 |ex x σ=>exact c
 |ok i σ=>
  intro a gl d f g b;cases i with
  |nx h=>cases gl with
   |nx st=>exact c a (.nx st) d f g b
   |_=>exact b.elim
  |rt h=>cases gl with
   |rt st=>exact c a (.rt st) d f g b
   |_=>exact b.elim
  |bk h=>cases gl with
   |bk st=>exact c a (.bk st) d f g b
   |_=>exact b.elim
  |ct h=>cases gl with
   |ct st=>exact c a (.ct st) d f g b
   |_=>exact b.elim
  |xc h x=>exact c.elim
theorem KH{μ:List Addr}{H:Hp}{ρ:Ev}{b:St}(h:qh T μ H ρ b)(i:Nat):qh T μ H (ρ.set i none) (b.set i none):=by
 refine⟨by simpa using h.1,λj d q=>?_⟩;rw[cc]at q;by_cases a:i=j
 ·subst a;rw[ia rfl]at q;split at q<;>cases q
 ·rw[ja a]at q;obtain⟨v,c,e⟩:=h.2 j d q;exact⟨v,by rw[cc,ja a];exact c,e⟩
theorem Q0{e:Value}{μ:List Addr}{H:Hp}{o:Out Fl}{D:Ends}{i:Nat}(d:Kb T EN (zl T) μ H (o.bind (FD i)) (ek X D)):Kb T EN (zl T) μ H o (ek (Cx.Gu X e) ⟨λa H=>D.nx (a.set i none) H,D.rt,λa H=>D.bk (a.set i none) H,λa H=>D.ct (a.set i none) H⟩):=by
 cases o with
 |bad=>exact d
 |ex x σ=>exact d
 |ok k σ=>
  intro b gl f g h c;cases k with
  |nx j=>cases gl with
   |nx a=>exact d b (.nx (a.set i none)) f g h (KH c i)
   |_=>exact c.elim
  |rt j=>cases gl with
   |rt a=>exact d b (.rt a) f g h c
   |_=>exact c.elim
  |bk j=>cases gl with
   |bk a=>exact d b (.bk (a.set i none)) f g h (KH c i)
   |_=>exact c.elim
  |ct j=>cases gl with
   |ct a=>exact d b (.ct (a.set i none)) f g h (KH c i)
   |_=>exact c.elim
  |xc j x=>exact d.elim
theorem KU{a:List (Addr × Obj)}{L:St}{H:Hp}{s:Shared}{n:qa}{i t:Nat}{h':Heap}{m:qa->Option Value}(I:Inv X a L H s)(hN:X.N.Nodup)(S:X.N[i]?=some n)(hl:X.env.scope.names.lookup n=some .local)(hn:s.heap.Ns X.env.locals m){w:Option Value}(E:h'.Ns X.env.locals λy=>if y=n then w else m y)(d:Rc X.env.locals s.heap h'):Inv X a (L.set i none) H { s with heap:=h',toks:=t }:=by
 have f:∀ b o,X.s₀.heap.get? b=some o->b≠X.env.locals:=λb o e=>ra (Aa (la e) I.ok.above);obtain⟨G,D,l⟩:=I.loc;have O:G=m:=by
  obtain⟨o,es,ep,U,hd,hk,R⟩:=D;obtain⟨J,Q,P,x,h,T,B⟩:=hn;rw[U]at x;cases x;rw[hd]at h;cases h;funext y;rw[<-R y,<-B y]
 subst O;refine⟨I.ok,I.os,I.bare,⟨λb o e n hb A=>(d.2 b (f b o e)).trans (I.base.keep b o e n hb A),λb o e n hb A=>?_,I.base.free,λb o e A=>?_,I.base.pi,I.base.nh,I.base.Uh⟩,⟨_,E,λj y v F g M=>?_⟩,λy c e=>?_,I.free,I.eg,λp V=>?_,oJ I.Pb λb o u e q=>?_,by simpa using I.len⟩
 ·obtain⟨sl,q⟩:=I.base.slot b o e n hb A;exact⟨sl,(d.2 b (f b o e)).trans q⟩
 ·obtain⟨J,q⟩:=I.base.there b o e A;exact⟨J,(d.2 b (f b o e)).trans q⟩
 ·rw[cc]at g;by_cases C:i=j
  ·subst C;rw[ia rfl]at g;split at g<;>cases g
  ·rw[ja C]at g;obtain⟨u,r,Y⟩:=l j y v F g M;refine⟨u,r,?_⟩;have W:y≠n:=λz=>C (BJ hN S (z ▸ F));rcases Y with⟨k,q⟩|⟨k,c,q,z⟩
   ·exact .inl ⟨k,by show (if y=n then w else G y)=some u;rw[ja W];exact q⟩
   ·exact .inr ⟨k,c,q,z.sameBut d (I.kw y c q)⟩
 ·obtain⟨v,z⟩:=I.cell y c e;exact⟨v,z.sameBut d (I.kw y c e)⟩
 ·obtain⟨Z,q2,K,q4⟩:=I.pin p V;exact⟨(d.2 p.1 K).trans Z,q2,K,q4⟩
 ·exact(d.2 b λz=>by rw[z,I.free]at e;cases e).trans q
theorem GX{D:Ends}{c:List (Addr × Obj)}{F:St}{H:Hp}{ea:Addr}{x:Xn}{μ:List Addr}{ρ:Ev}{σ:Oa}{V:List xh}{hs:List Hd}(h:Yx T X V hs)(hE:qh T μ H ρ F)(hr:Rel T μ H σ)(d:Kb T EN (zl T) μ H (Fx ρ x hs σ) (ek X D)) :
  ∀ s,Rt X c F H s ea (T.cv x) (Iz x.cls)->wpAny (model X.prog X.w) X.A (VJ (.ref ea) X.env V) (SP X c D) X.xe s:=by
 induction h with
 |nil=>exact d.elim
 |@cons y np pos cv S Q t g r hs hg hd hm ht hb O ih=>
  intro s L;have I:=L.inv;obtain⟨_,⟨o,ho,hc⟩,_⟩:=L.obj;refine Ux (Zv (EK (X:=Cx.Gu X (.ref ea)) (nE I) hg hd hm ?_)) (by intro q;cases q);unfold Fx at d;dsimp only at d;cases M:t x.cls with
  |none=>rw[M]at d;exact d.elim
  |some b=>
   rw[M]at d;have LT:W.Looks (model X.prog X.w) s.heap (ql (.ref ea)) (T.cv x):=by rw[<-hc];exact(Hr ho).andThen .now
   refine(W.exm_one I.Uj LT (ht x.cls b M)).here ?_;cases b with
   |false=>exact ih d s L
   |true=>
    refine codeAny_handlers_suite (L.next λs' L'=>?_);exact Eb (hb (.ref ea) c s' F H D (nE L'.inv) ⟨μ,ρ,σ,hE,hr,n3 d⟩) (λf s2 q=>T7 I.ok q) λ_ _ z=>z.elim
 |@Iu y n i np pos cv S Q t g r hs hg hd hm ht hN hi hl hb O ih=>
  intro s L;have I:=L.inv;obtain⟨_,⟨o,ho,hc⟩,_⟩:=L.obj;refine Ux (Zv (EK (X:=Cx.Gu X (.ref ea)) (nE I) hg hd hm ?_)) (by intro q;cases q);unfold Fx at d;dsimp only at d;cases M:t x.cls with
  |none=>rw[M]at d;exact d.elim
  |some b=>
   rw[M]at d;have LT:W.Looks (model X.prog X.w) s.heap (ql (.ref ea)) (T.cv x):=by rw[<-hc];exact(Hr ho).andThen .now
   refine(W.exm_one I.Uj LT (ht x.cls b M)).here ?_;cases b with
   |false=>exact ih d s L
   |true=>
    refine codeAny_handlers_suite_as (L.next λs' L'=>?_);have hn:H ea=none:=L'.obj.1;obtain⟨dd,H1,I1,a1,a0,B,a4⟩:=Rt.LB L';have l:∀ b,b∈μ->∃ u,H b=some u:=λb z=>by obtain⟨u,C,_⟩:=hr.mem z;exact⟨u,C⟩
    have N:Ext μ H μ H1:=⟨⟨[],by simp⟩,λp xs e=>B _ _ e,λp o u e=>B _ _ e,λp o e n=>⟨⟨o,B _ _ e,.inl rfl⟩,n⟩⟩
    have out:ea ∉ μ:=λz=>by obtain⟨u,C⟩:=l _ z;rw[hn]at C;cases C
    have rp:Rep T μ H1 (.Wo x.cls) (.ref ea):=by
     rw[Rep];refine⟨ea,dd,rfl,out,a1,λn q=>?_⟩;obtain⟨dN,z1,z2,z3⟩:=a0 n q;exact⟨dN,z1,λz=>(by obtain⟨u,C⟩:=l _ z;rw[z2]at C;cases C),z3⟩
    refine nH (X:=Cx.Gu X (.ref ea)) (v:=.ref ea) (nE I1) hN hi (.inl hl) rfl (λs2 I2=>?_) (.inr hl);refine Eb (hb (.ref ea) c s2 _ _ ⟨λF H=>D.nx (F.set i none) H,D.rt,λF H=>D.bk (F.set i none) H,λF H=>D.ct (F.set i none) H⟩ I2 ⟨μ,ρ.set i (some (.Wo x.cls)),σ,(hE.mono N).set i rp,hr.keep N (λa ha=>by obtain⟨u,C⟩:=l a ha;rw[B _ _ C,C]) (hr.tb.grow B),Q0 (Kb.mono N d)⟩) (λf s3 q=>?_) λ_ _ z=>z.elim;have U:(X.env.scope.kind == .class || (X.env.scope.kind == .module && X.env.locals != X.env.globals))=false:=by rw[I.ok.kind];rfl
    have go:∀ {j:St} {G:Hp},Inv (Cx.Gu X (.ref ea)) c j G s3->(∀ R,Inv X c (j.set i none) G R->SP X c D f R)->wpAny (model X.prog X.w) X.A (do bindName X.env n .none;unbindBehindTheSuite X.env n pos) (λ_ Z=>SP X c D f Z) X.xe s3:=fun {j G} E k=>by
     have J:=EB I.ok E;obtain⟨m,Y,_⟩:=id J.loc;exact wpAny_nameGoes_keeps hl Y U λh4 v4 a2 a3=>k _ (KU J hN hi hl Y a2 a3)
    cases f with
    |next=>obtain⟨j,G,E,P⟩:=q;exact go E λR K=>⟨_,_,K,P⟩
    |brk=>obtain⟨j,G,E,P⟩:=q;exact go E λR K=>⟨_,_,K,P⟩
    |cont=>obtain⟨j,G,E,P⟩:=q;exact go E λR K=>⟨_,_,K,P⟩
    |ret u=>obtain⟨v,j,G,E,r3,P⟩:=q;exact go E λR K=>⟨v,_,_,K,r3,P⟩
theorem uO{body:List Stmt}{h₀:xh}{h:List xh}{y:List Hd}{g:Ev->M Fl}{C:Se}(B:X.stack=X.env::X.outer)(U:X.env.frame=some X.env.locals)
  (hb:∀ a xe,Fp (model X.prog X.w) X.A X.env xe->ap T (Cx.iF X a xe) body g) (V:Yx T X (h₀::h) y):FS T X (.Try body (h₀::h) [] [] C) (tD g y):=by
 intro a s i H D I Z;obtain⟨K,k,G,S,Y,W⟩:=Z;refine wpAny_Try_except ?_;refine Eb (hb a (λe n=>wpAny (model X.prog X.w) X.A (Cg e X.env) (λ_ o=>wpAny (model X.prog X.w) X.A (ji e none) (λ_ c=>wpAny (model X.prog X.w) X.A (VJ e X.env (h₀::h)) (SP X a D) X.xe c) X.xe o) X.xe n) A9 [] s i H D (G6 I)
  ⟨K,k,G,S,Y,?_⟩) (λf s1 q=>?_) λ_ _ z=>z
 ·have b:Kb T EN (zl T) K H ((g k G).bind (WE y)) (ek X D):=W;cases t:g k G with
  |bad=>rw[t]at b;exact b
  |ex x J=>rw[t]at b;exact b
  |ok R J=>
   rw[t]at b;intro j gl p O m d;have l:=b.mono O;cases R with
   |nx k=>cases gl with
    |nx i=>exact l j (.nx i) p (Ext.refl _ _) m d
    |_=>exact d.elim
   |rt k=>cases gl with
    |rt i=>exact l j (.rt i) p (Ext.refl _ _) m d
    |_=>exact d.elim
   |bk k=>cases gl with
    |bk i=>exact l j (.bk i) p (Ext.refl _ _) m d
    |_=>exact d.elim
   |ct k=>cases gl with
    |ct i=>exact l j (.ct i) p (Ext.refl _ _) m d
    |_=>exact d.elim
   |xc a1 x=>cases gl with
    |xc a0 cls fd=>
     obtain⟨v,rfl,rfl⟩:=d;refine⟨λp0 H0 s0 e s' N F=>?_⟩;exact WS (qB N) B U F (Q:=λe c=>wpAny (model X.prog X.w) X.A (VJ e X.env (h₀::h)) (SP X a D) X.xe c) λea E P L=>by subst P;exact GX V v m l E L
    |_=>exact d.elim
 ·have r:=G7 q;cases f with
  |next=>exact Vj r
  |brk=>exact r
  |cont=>exact r
  |ret u=>exact r
end
theorem fE{T:Tb}{X:Cx}{t:Stmt}{i:Nat}{f:Ev->M D}(h:FS T X t (Vg i f)):FS T X t (Vg i (oh f)):=by
 intro q s V H D I S;obtain⟨u,c,g,G,z,R⟩:=S;refine h q s V H D I ⟨u,c,g,G,z,?_⟩;have a:Kb T EN (zl T) u H (xs c (qb (f c)) (CB i c) g) (ek X D):=R;show Kb T EN (zl T) u H (xs c (f c) (CB i c) g) (ek X D);unfold xs qb at a;unfold xs;cases e:f c g with
 |bad=>rw[e]at a;exact a
 |ex x k=>
  rw[e]at a;unfold Ag at a;dsimp only at a ⊢;by_cases l:k.take g.length=g
  ·rw[ia l]at a;intro w gl y n A r;cases gl with
   |xc st1 O E=>
    obtain⟨K,B⟩:=Rel.down z A n l;obtain⟨N,U⟩:=r;refine a u (.xc st1 O E) y B K ⟨⟨N.1,λj d b=>?_⟩,U⟩;obtain⟨v,o,p⟩:=N.2 j d b;obtain⟨L,_,F⟩:=G.2 j d b;exact⟨v,o,Rep.down n.pre d L v F p⟩
   |_=>exact r.elim
  ·rw[ja l]at a;exact a.elim
 |ok d k=>
  rw[e]at a;unfold Ag at a;dsimp only at a ⊢;by_cases l:k.take g.length=g
  ·rw[ia l]at a;cases C:fz g.length k 6 d with
   |none=>rw[C]at a;exact a.elim
   |some P=>
    rw[C]at a;intro w gl y n A r;cases gl with
    |nx st1=>
     obtain⟨K,B⟩:=Rel.down z A n l;have m:qh T w y (c.set i (some d)) st1:=r;refine a u (.nx st1) y B K ⟨by simpa using m.1,λj x b=>?_⟩;rw[cc]at b;by_cases J:i=j
     ·subst J;rw[ia rfl]at b;split at b
      ·rename_i Q
       cases b;obtain⟨v,o,p⟩:=m.2 i d (by rw[cc,ia rfl,ia Q]);exact⟨v,o,PM n.pre A 6 d P v (by rw[z.len];exact C) p⟩
      ·cases b
     ·rw[ja J]at b;obtain⟨v,o,p⟩:=m.2 j x (by rw[cc,ja J];exact b);obtain⟨L,_,F⟩:=G.2 j x b;exact⟨v,o,Rep.down n.pre x L v F p⟩
    |_=>exact r.elim
  ·rw[ja l]at a;exact a.elim
noncomputable def VC:List D->Option (List Bool)
 |[]=>some []
 | .bl b::r=>(VC r).map (b::·)
 |_::_=>none
noncomputable def Ut:List D->Option (List Int)
 |[]=>some []
 | .int b::r=>(Ut r).map (b::·)
 |_::_=>none
theorem eL{T:Tb}{μ:List Addr}{H:Hp}:∀ {ds:List D} {vs:List V} {bs:List Bool},Ua T μ H ds vs->VC ds=some bs->vs=bs.map V.bl
 |[],vs,bs,r,h=>by cases h;rw[Ua]at r;exact r
 |d::ds,vs,bs,r,h=>by
  rw[Ua]at r;obtain⟨v,w,rfl,a,f⟩:=r;cases d with
  |bl b=>
   obtain⟨g,c,e⟩:=Db.mp h;subst e;rw[Rep]at a;subst a;rw[eL f c];rfl
  |_=>cases h
theorem yB{T:Tb}{μ:List Addr}{H:Hp}:∀ {ds:List D} {vs:List V} {bs:List Int},Ua T μ H ds vs->Ut ds=some bs->vs=bs.map V.int
 |[],vs,bs,r,h=>by cases h;rw[Ua]at r;exact r
 |d::ds,vs,bs,r,h=>by
  rw[Ua]at r;obtain⟨v,w,rfl,a,f⟩:=r;cases d with
  |int b=>
   obtain⟨g,c,e⟩:=Db.mp h;subst e;rw[Rep]at a;subst a;rw[yB f c];rfl
  |_=>cases h
noncomputable def JE(xs:List D):M D:=λa=>match xs with
 |[x]=>(match (ym a x).bind VC with
  |some bs=>.ok (.bl (bs.all id)) a
  |none=>.bad)
 |_=>.bad
noncomputable def ky(xs:List D):M D:=λa=>match xs with
 |[x]=>(match (ym a x).bind Ut with
  |some bs=>.ok (.int bs.sum) a
  |none=>.bad)
 |_=>.bad
section
variable{T:Tb}{X:Cx}
noncomputable def IN(K:W.Frag)(g:List Bool->Bool):List V->Hp->VK->Prop:=λxs H Q=>∃ p bs,xs=[.ref p]/\(cf K H p (bs.map V.bl)\/Th K H p (bs.map V.bl))/\Q (.bl (g bs)) H
noncomputable def AM(K:W.Frag):List V->Hp->VK->Prop:=λxs H Q=>∃ (p:Addr) (bs:List Int),xs=[.ref p]/\(cf K H p (bs.map V.int)\/Th K H p (bs.map V.int))/\Q (.int bs.sum) H
theorem BK:∀ {bs:List Bool} {us:List Value},Pd (bs.map V.bl) us->us=bs.map wf
 |[],us,h=>by cases h;rfl
 |b::bs,us,h=>by
  cases h with
  |cons r t=>cases r;rw[BK t];rfl
theorem pM{a:Type}(g:a->Bool)(d:a):∀ (bs:List a),(List.range bs.length).all (λi=>g (bs.getD i d))=bs.all g
 |[]=>rfl
 |b::bs=>by
  rw[Za,Ji,Pf,rA,Pf];congr 1;rw[<-pM g d bs];congr 1
theorem FV{prog:ua}{w:Ea}{A:Da}(bs:List Bool):TruthOf prog w A (λi v=>(bs.map wf).toArray[i]?=some v) (λi=>bs.getD i false):=by
 intro i v s Q E a d;simp only[df,Ja]at a;cases e:bs[i]? with
 |none=>rw[e]at a;cases a
 |some b=>
  rw[e]at a;cases a;have c:Q (bs.getD i false) s:=d;rw[zf,e]at c;exact Wc c
theorem BP{s:Shared}{o:Obj}{h':Heap}(k:∀ b u,b ∉ [s.heap.objs.size]->(s.heap.push o).get? b=some u->h'.get? b=some u):∀ b u,s.heap.get? b=some u->h'.get? b=some u:=λb u e=>
 k b u (λz=>absurd (la e) (by rw[bg.mp z];exact De _)) (ba _ e)
theorem sM{c:List (Addr × Obj)}{s:Shared}{m:St}{H:Hp}{p:Addr}{vs:List V}{E:Value->Shared->Prop}{Q:Value->Shared->Prop}(l:X.A.handled=none)(I:Inv X c m H s)(d:cf X.K H p vs\/Th X.K H p vs)
  (h:∀ (its:List Value) (It:Addr) (k:List Addr) (St:Nat->Heap->Prop) (f:Shared),Pd vs its->Walks X.prog X.w X.A.in1 It k [It] its.toArray.size (λi v=>its.toArray[i]?=some v) St->St 0 f.heap->(∀ b∈k,b<f.heap.objs.size)->
   (∀ h' tk,(∀ b o,b ∉ [It]->f.heap.get? b=some o->h'.get? b=some o)->Inv X c m H { f with heap:=h',toks:=tk })->Q (.ref It) f):wpAny (model X.prog X.w) X.A.in1 (pyIter (.ref p)) Q E s:=by
 rcases d with d|d
 ·obtain⟨its,j,pl,n⟩:=I.list d;have a:p<s.heap.objs.size:=by obtain⟨_,e,_⟩:=pl.isList;exact la e
  refine Ki pl.isList (h its s.heap.objs.size [s.heap.objs.size,p] _ _ j (Ck (A:=X.A.in1) l _ p (ra a) its.toArray) ⟨⟨_,ya _ rfl,rfl,rfl⟩,pl.isList.push _⟩ (λb hb=>?_) (λh' tk g=>I.kept (BP g)));show b<(s.heap.push _).objs.size;rw[rc];simp only[Fa,Dc,Qh]at hb;rcases hb with rfl|rfl
  ·exact zb _
  ·exact Ab a
 ·obtain⟨its,j,pl,n⟩:=I.tuple d;have a:p<s.heap.objs.size:=pl.lt;refine kz (show s.heap.IsTuple p _ from pl) (h its s.heap.objs.size [s.heap.objs.size,p] _ _ j (Walks.tuple (A:=X.A.in1) l _ p (ra a) its.toArray) ⟨⟨_,ya _ rfl,rfl,rfl⟩,BF (show s.heap.IsTuple p _ from pl) _⟩ (λb hb=>?_) (λh' tk g=>I.kept (BP g)));show b<(s.heap.push _).objs.size;rw[rc];simp only[Fa,Dc,Qh]at hb;rcases hb with rfl|rfl
  ·exact zb _
  ·exact Ab a
theorem n7(f:X.calm=true):Wm X (.builtin "all") (IN X.K λbs=>bs.all id):=by
 intro a s w H xs x Q I r h;obtain⟨p,bs,rfl,j,q⟩:=h;obtain⟨u,rfl,l⟩:=Bs r;cases l;refine call_all_walk (sM (I.ok.hd f) I j λk It o St v m W d t e=>?_);have b:=BK m;subst b;refine⟨_,_,_,_,_,_,λi=>bs.getD i false,rfl,W,d,FV bs,λc n g=>⟨.bl (bs.all id),H,e c n g,?_,q⟩⟩;show wf _=wf _;rw[na,xa];exact we wf (pM id false bs)
theorem QQ:∀ (bs:List Int) (n:Nat),n<=bs.length->preSum (λi=>bs.getD i 0) n=(bs.take n).sum
 |bs,0,_=>by simp[preSum]
 |bs,n+1,h=>by
  rw[preSum,QQ bs n (by omega),List.take_succ_eq_append_getElem (by omega),Rw];simp[zf,show n<bs.length by omega]
theorem aS(o:X.calm=true):Wm X (.builtin "sum") (AM X.K):=by
 intro f s F H xs G Q I r h;obtain⟨p,bs,rfl,z,q⟩:=h;obtain⟨u,rfl,A⟩:=Bs r;cases A;refine call_sum_walkG (sM (I.ok.hd o) I z λc It D St E g W l w n=>?_);refine⟨_,_,_,_,_,_,λi=>bs.getD i 0,rfl,W,l,w,λi v d=>?_,λk C B y=>⟨.int bs.sum,H,n k C y,⟨B,?_⟩,q⟩⟩
 ·simp only[df]at d;obtain⟨x,a,m⟩:=uI g d;rw[Ja]at a;cases e:bs[i]? with
  |none=>rw[e]at a;cases a
  |some b=>
   rw[e]at a;cases a;obtain⟨t,rfl⟩:=m;exact⟨t,by show Bd b t=Bd (bs.getD i 0) t;rw[zf,e];rfl⟩
 ·have j:c.toArray.size=bs.length:=by rw[na,<-g.length,xa]
  rw[j,QQ bs _ (pa _),Dm]
theorem aK{a:Type}{σ:Oa}{x:D}{g:List D->Option a}{bs:a}(h:(ym σ x).bind g=some bs):∃ ys,ym σ x=some ys/\g ys=some bs:=Wf.mp h
theorem L0(i:T.K=X.K):Ot T (IN X.K λbs=>bs.all id) JE:=by
 intro E n H l xs k Q r p h
 match xs with
 |[]=>exact h.elim
 |[x]=>
  rw[Ua]at p;obtain⟨v,w,rfl,j,c⟩:=p;rw[Ua]at c;subst c;unfold JE at h;cases e:(ym l x).bind VC with
  |none=>simp only[e]at h;exact h.elim
  |some bs=>
   simp only[e]at h;obtain⟨m,d,f⟩:=aK e;obtain⟨b,k,rfl,g,a⟩:=dA r j d;rw[i,eL g f]at a;exact⟨b,bs,rfl,a,Kb.here h r (by rw[Rep])⟩
 |_::_::_=>exact h.elim
theorem oK(i:T.K=X.K):Ot T (AM X.K) ky:=by
 intro E n H l xs k Q r p h
 match xs with
 |[]=>exact h.elim
 |[x]=>
  rw[Ua]at p;obtain⟨v,w,rfl,j,c⟩:=p;rw[Ua]at c;subst c;unfold ky at h;cases e:(ym l x).bind Ut with
  |none=>simp only[e]at h;exact h.elim
  |some bs=>
   simp only[e]at h;obtain⟨m,d,f⟩:=aK e;obtain⟨b,k,rfl,g,a⟩:=dA r j d;rw[i,yB g f]at a;exact⟨b,bs,rfl,a,Kb.here h r (by rw[Rep])⟩
 |_::_::_=>exact h.elim
noncomputable def yd(ns:List Int):List Int:=ns.foldl qz []
theorem XG(ns:List Int):ng (λi=>ns.getD i 0) ns.length=yd ns:=by
 unfold ng yd;congr 1;apply Wh;intro i;by_cases h:i<ns.length
 ·simp[h]
 ·simp[h]
noncomputable def Tz(x:D):M D:=λa=>match (Ff a x).bind Ut with
 |some ns=>if ns.length<=Mh then .ok (.int (yd ns).length) a else .bad
 |none=>.bad
noncomputable def D3(K:W.Frag):List V->Hp->VK->Prop:=λxs H Q=>∃ (p:Addr) (ns:List Int),xs=[.ref p]/\cf K H p (ns.map V.int)/\ns.length<=Mh/\∀ l,H l=none->Q (.ref l) (upd H l (.set (λk=>(yd ns).any (·== k)) (yd ns).length))
theorem FM{n:Nat}(h:n<=Mh):n+1<scanBound:=fv (Nat.succ_le_succ h) (by decide)
theorem tW(i:X.calm=true):Wm X (.type "set") (D3 X.K):=by
 intro f s x H xs y Q I r h;obtain⟨p,ns,rfl,m,l,q⟩:=h;obtain⟨u,rfl,n⟩:=Bs r;cases n;obtain⟨a,g,pl,w⟩:=I.list m;have c:a.length=ns.length:=by rw[<-g.length,xa]
 refine call_set_list (I.ok.hd i) pl.isList (ns:=ns) (hG g) (by rw[na,c];exact FM l) λv t d j=>?_;rw[show a.toArray.size=ns.length by rw[na,c],XG]at d;refine⟨.ref s.heap.objs.size,_,I.laid (t':=t) (o:=.set (λk=>(yd ns).any (·== k)) (yd ns).length) (λb o e=>j b o (la e) e) (pa _) ?_,rfl,q _ (I.Pb.fresh (pa _))⟩;exact d
theorem gY : Wm X (.builtin "len") (λxs H Q => ∃ (p : Addr) (S : Int -> Bool) (n : Nat), xs = [.ref p] /\ H p = some (.set S n) /\ Q (.int n) H) := by
  intro a s x H xs y Q I r h;obtain ⟨p, S, n, rfl, g, q⟩ := h;obtain ⟨u, rfl, i⟩ := Bs r;cases i;obtain ⟨o, k, j, t, b, c, d, l, m, v, e, f⟩ := (show lj X.prog X.w H s.heap p (.set S n) from I.Pb p _ g)
  refine call_len_set b c d e (by have : scanBound <= 2 ^ 62 := (by decide);omega) ⟨.int n, H, I.tok _, ⟨_, by rw [f]⟩, q⟩
theorem oY{e:Ga}{f:Ev->M D}{p t k b:Se}(Z:T.K=X.K)(G:X.calm=true)(L:Gl X "len")(hm:X.mg "len" = none)(n:Gl X "set")(q:X.mg "set" = none)(J:FE T X e f)
  (x:ma [e] X.env=(false,Nb e X.env)::ma [] X.env:=by rfl) (r:(kc b (ma [] X.env)).any (·.1)=false:=by rfl)
  (i:ma [.Call (.Name "set" t) [e] [] b] X.env=(false,Nb (.Call (.Name "set" t) [e] [] b) X.env)::ma [] X.env:=by rfl) (g:(kc k (ma [] X.env)).any (·.1)=false:=by rfl) :
  FE T X (.Call (.Name "len" p) [.Call (.Name "set" t) [e] [] b] [] k) (Je Tz f):=by
 intro j s R H Q I h;refine mB gY L hm sd (Ss (gH (tW G) n q rfl (Ss J Dv x) (by decide) (by decide) x r) Dv i) (by decide) (by decide) i g j s R H Q I ?_;obtain⟨S,U,V,F,O,N⟩:=h;refine⟨S,U,V,F,O,N.bind λd w u v W _ Y y P c=>?_⟩;unfold Tz at c;cases m:(Ff w d).bind Ut with
 |none=>rw[m]at c;exact c.elim
 |some ns=>
  rw[m]at c;dsimp only at c;by_cases o:ns.length<=Mh
  ·rw[ia o]at c;obtain⟨ys,z,A⟩:=Wf.mp m;obtain⟨a,vs,rfl,C,E⟩:=y.ls P z;have B:=yB E A;subst B;refine⟨a,ns,rfl,cf.of C,o,λl hn=>?_⟩;exact⟨l,_,_,rfl,Jg,c u (.int (yd ns).length) _ (Ik hn) (y.fresh hn) (by rw[Rep])⟩
  ·rw[ja o]at c;exact c.elim
noncomputable def nt(xs:List D)(a b:Option Int):List D:=(xs.drop (HT.sf xs.length 0 a)).take (HT.sf xs.length xs.length b - HT.sf xs.length 0 a)
theorem X2{xs:List D}{b a:Option Int}(h:HT.sf xs.length 0 b=0/\HT.sf xs.length xs.length a=xs.length):nt xs b a=xs:=by
 unfold nt;rw[h.1,h.2];simp
theorem EI{μ:List Addr}{H:Hp}{xs:List D}{vs:List V}(r:Ua T μ H xs vs)(b a:Option Int):Ua T μ H (nt xs b a) (ux vs b a):=by
 unfold nt ux;rw[r.length];exact Ua.take _ (Ua.drop _ r)
end
end L4
namespace HT
open PySem PySem.Spec PyProof.Rows
variable{prog:ua}{w:Ea}{A:Da}{E:Value->Shared->Prop}{s:Shared}
theorem nk{t j:Addr}{a:Array Value}{m n:Value}{c e:Option Int}{Q:Value->Shared->Prop}(b:eu s.heap t a)(k:s.heap.IsSliceOf j m n .none)(pl:nl m c)(q:nl n e)
  (l:sf a.size 0 c=0/\sf a.size a.size e=a.size) (h:Q (.ref t) s):wpAny (model prog w) A (Mi (.ref t) (.ref j)) Q E s:=by
 obtain⟨os,i,g,p⟩:=id k;have f:s.TypeIs (.ref j) "slice":=⟨os,i,g⟩
 unfold Mi;try with_reducible refine Rb ?_
 first|refine aa (da ?_)|skip
 refine aa (oA b.typeIs (by decide) ?_);refine aa (Md (name:=Vd "__getitem__") b.typeIs bc
  (Nc bc b.typeIs Rx ?_ (iz _ _)))
 show wpAny _ _ (Ek (.ref t) >>= _) _ _ s;refine aa (rS b ?_);refine aa (Nj f ?_);rw[ia (by decide)];refine aa (jK k pl q ?_);have d:(((sf a.size 0 c:Nat):Int) == 0 && (1:Int) == 1 && (sf a.size a.size e - sf a.size 0 c) == a.size)=true:=by
  rw[l.1,l.2];simp
 show wpAny _ _ (if (((sf a.size 0 c:Nat):Int) == 0 && (1:Int) == 1 && (sf a.size a.size e - sf a.size 0 c) == a.size)=true then _ else _) _ _ s;rw[ia d];obtain⟨o,u,r,v⟩:=id b;unfold vC;refine aa (aa (Nj b.typeIs ?_));refine da ?_;rw[ia (by decide)];refine aa (Ir ?_);first
  |exact da ⟨_,rfl,da h⟩
  |exact da (da ⟨_,rfl,da h⟩)
  |exact aa (da (da ⟨_,rfl,da h⟩))
end HT
namespace L4
open PySem PySem.Spec PyProof.Rows L2
section
variable{T:Tb}{X:Cx}
noncomputable def YN(K:W.Frag):V->Option Int->Option Int->Hp->VK->Prop:=λx c b H Q=>∃ a xs,x=.ref a/\Th K H a xs/\(HT.sf xs.length 0 c=0/\HT.sf xs.length xs.length b=xs.length)/\Q (.ref a) H
theorem YS:Mv X (YN X.K):=by
 intro e s p H x v t u n l o Q I k f pl j h;obtain⟨a,xs,rfl,i,g,q⟩:=h;cases k;obtain⟨c,r,d,m⟩:=I.tuple i;have b:c.toArray.size=xs.length:=by rw[na];exact r.length.symm
 exact⟨"tuple",_,bc.lookup,d.typeIs,HT.nk d f pl j (by rw[b];exact g) ⟨.ref a,H,I,rfl,q⟩⟩
noncomputable abbrev PF:=Option (Ev->M D)
noncomputable def YI(d:D):M (Option Int):=match d with
 | .int i=>ret (some i)
 |_=>bad
noncomputable def gy(p:PF):Ev->M (Option Int):=match p with
 |none=>λ_=>ret none
 |some f=>λa=>Mc (f a) YI
noncomputable def tP(T:Tb)(X:Cx)(f:Ev->M (Option Int)):TO:=λd H Q=>∃ c e g,qh T c H e d/\Rel T c H g/\Kb T (XE X d) (λ_ _ a b=>b=a) c H (f e g) Q
noncomputable abbrev FO(T:Tb)(X:Cx)(e:Option Ga)(p:PF):Prop:=PO X e (tP T X (gy p))
theorem lG:FO T X none none:=by
 intro a s d H Q I h;obtain⟨f,g,i,e,c,b⟩:=h;exact x0 a s d H Q I (Kb.here b c rfl)
theorem BB{e:Ga}{f:Ev->M D}(g:FE T X e f):FO T X (some e) (some f):=by
 intro a s n H Q I h;refine pU g a s n H Q I ?_;obtain⟨o,q,r,c,k,j⟩:=h;refine⟨o,q,r,c,k,Kb.bind j λd t p v u _ w m l b=>?_⟩;cases d with
 |int i=>exact⟨i,Ws l,Kb.here b m rfl⟩
 |_=>exact b.elim
noncomputable def vN(x:D)(c b:Option Int):M D:=λa=>match x with
 | .tup xs=>.ok (.tup (nt xs c b)) a
 | .cg ns=>.ok (.lst (nt (ns.map D.int) c b)) a
 |x=>(match Ff a x with
  |some xs=>.ok (.lst (nt xs c b)) a
  |none=>.bad)
noncomputable def ax(x:D)(b:Option Int)(a:Option Int):M D:=vN x b a
noncomputable def vG(x:D)(a:M (Option Int))(b:Option Int):M D:=Mc a (ax x b)
noncomputable def kG(b a:M (Option Int))(x:D):M D:=Mc b (vG x a)
noncomputable def Hz(f:Ev->M D)(c b:PF):Ev->M D:=λa=>Mc (f a) (kG (gy c a) (gy b a))
theorem lE{e:Ga}{W V:Option Ga}{f:Ev->M D}{pl Y:PF}{E C:Se}(hK:T.K=X.K)(he:FE T X e f)(hl:FO T X W pl)(hh:FO T X V Y):FE T X (.Subscript e (.Slice W V none C) E) (Hz f pl Y):=by
 intro x s Z H Q I h;refine GT (Mv.or EW (Mv.or YS TU)) he hl hh x s Z H Q I ?_;obtain⟨μ,O,σ,A,hr,hp⟩:=h;refine⟨μ,O,σ,A,hr,hp.bind λd P L v H1 _ S r1 q1 p1=>⟨L,O,P,A.mono S,r1,p1.bind λl R N g H2 _ U r2 q2 C=>⟨N,O,R,(A.mono S).mono U,r2,C.bind λu o z i t _ e3 y q3 c=>?_⟩⟩⟩;have F:g=l:=q2;have G:i=u:=q3;subst F;subst G;have rd:Rep T z t d v:=Rep.mono e3 _ _ (Rep.mono U _ _ q1);have b:∀ m,Ff o d=some m->Kb T (XE X Z) (Rep T) z t (.ok (.lst (nt m g i)) o) Q->NO X.K v g i t Q\/YN X.K v g i t Q\/gN X.K v g i t Q:=λm w p4=>by
  obtain⟨a,j,rfl,r,k⟩:=y.ls rd w;exact .inr (.inr ⟨a,j,rfl,cf.of r,λp hn=>qD p4 y (EI k g i) hn⟩)
 cases d with
 |tup xs=>
  have J:=rd;rw[Rep]at rd;obtain⟨p,j,rfl,r,k⟩:=rd;by_cases B:HT.sf j.length 0 g=0/\HT.sf j.length j.length i=j.length
  ·refine .inr (.inl ⟨p,j,rfl,Th.of r,B,Kb.here (d:=D.tup (nt xs g i)) c y ?_⟩);rw[X2 (by rw[k.length];exact B)];exact J
  ·exact .inl ⟨p,j,rfl,Th.of r,B,λq hn=>dJ c y (EI k g i) hn⟩
 |ref n=>
  unfold ax vN at c;dsimp only at c;cases w:Ff o (.ref n)with
  |none=>rw[w]at c;exact c.elim
  |some m=>rw[w]at c;exact b m w c
 |lst m=>exact b m rfl c
 |cg ns=>
  rw[Rep]at rd;obtain⟨p,rfl,r⟩:=rd;have k:=r.seq;rw[hK]at k;exact .inr (.inr ⟨p,_,rfl,k,λp hn=>qD c y (EI (tE ns) g i) hn⟩)
 |_=>exact c.elim
noncomputable def Fg(bs:List Int):Int:=bs.foldl min (bs.getD 0 0)
end
noncomputable def cD(K:W.Frag)(mg:qa->Option Value)(x:qa)(e:Stmt)(ps:List qa)(h:List Value):Prop:=
 ∃ f b,mg x=some (.ref f)/\W.keepIn K (.ref f)=true/\(∃ (i:Value) (j:Option Addr) (g kV c k:Value) (an:Option Addr) (a ct:Value) (d:Array (Option Value)),
  b=W.fnOf x x (Ln e) (Kj e) (qd e) g kV c k an a ct/\K.lookup f=some ⟨i,j,.func b,d⟩/\W.codeIn K a x=true)/\pr K b ps []/\pr K b ps h
noncomputable def Nu(T:Tb)(P:ua)(w:Ea)(mg:qa->Option Value)(base:Heap)(k:Nat)(x:qa)(ps:List qa)(b:List Value)(fn:List D->M D):Prop:=
 ∃ f a,mg x=some (.ref f)/\W.keepIn T.K (.ref f)=true/\pr T.K a ps []/\pr T.K a ps b/\mh P w T.K mg base (Wl P w) k f a ps (ip T ps.length fn)
section
variable{T:Tb}{X:Cx}
theorem VX{k:Nat}{ps:List qa}{i:List Value}{dds:List D}{dvs:List V}{fn:List D->M D}{x:qa}{p b:Se}{e:Ga}{a:List Ga}{fs:Ev->M (List D)}(h:Nu T X.prog X.w X.mg X.base k x ps i fn)(m:T.K=X.K)(r:Xd k X.A)(q:Gl X x)(s:Pd dvs i)(d:∀ μ H,Ua T μ H dds dvs)
  (n:FA T X (e::a) fs) (c:(x == ("__debug__" : qa))=false:=by decide) (o:ma (e::a) X.env=(false,Nb e X.env)::ma a X.env:=by rfl) (g:(kc b (ma a X.env)).any (·.1)=false:=by rfl) :
  FE T X (.Call (.Name x p) (e::a) [] b) (Sf ps.length fn dds fs):=by
 obtain⟨f,t,hm,l,_,hb,j⟩:=h;rw[m]at l j hb;exact zP (dds:=dds) (dvs:=dvs) j r q hm l hb s d n c o g
theorem XF:Pd [V.Yb] [eb]:=.cons rfl .nil
theorem WG{T:Tb}(μ:List Addr)(H:Hp):Ua T μ H [D.Yb] [V.Yb]:=Ua.cons (by rw[Rep]) Ua.nil
variable{P:ua}{w:Ea}{K:W.Frag}{mg:qa->Option Value}{base:Heap}{ca:Nat->Addr}{tx:Tx}
theorem cZ{k:Nat}{x:qa}{b:Stmt}{ps N:List qa}{d:List Value}{g:Ev->M Fl}(h:cD K mg x b ps d)(S:Ba N ps (qd b))
  (hb:∀ (f:Addr) (a:Value) (A:Da) (outer:List Og) (s:Shared) (H:Hp) (E:XK),Xd k (A.deeper (Rg x (qd b) s.heap.objs.size f a))->ap ⟨K,ca,tx⟩ (fq (Wl P w) P w K mg base N x (qd b) f a A outer s H E) (Kj b) g) :
  Nu ⟨K,ca,tx⟩ P w mg base (k+1) x ps d (run N.length g):=by
 obtain⟨f,q,hm,l,⟨r,t,p,kV,j,u,o,a,ct,n,rfl,m,c⟩,e,i⟩:=h;exact⟨f,_,hm,l,e,i,wz m c S (hb f a)⟩
theorem Nu.qb{k:Nat}{x:qa}{ps:List qa}{a:List Value}{fn:List D->M D}(h:Nu T P w mg base k x ps a fn):Nu T P w mg base k x ps a (λb=>L4.qb (fn b)):=by
 obtain⟨f,c,d,e,g,i,j⟩:=h;exact⟨f,c,d,e,g,i,IC j⟩
theorem hV{h:Heap}{x:qa}{g:Stmt}{ps:List qa}{f t:Addr}{dv:List Value}{y u:Value}{od i v:Option Addr}{m w:Array (Option Value)}{kV e j b ct:Value}{r:Nat}(X:K.In h)(G:h.Ns mainGlobals mg)
  (hb:∀ (t:Addr) (kV e j:Value) (i:Option Addr) (b ct:Value) (s:Shared) (o:Obj) (n:Nat) (us:List Value),s.heap.get? t=some o->o.data=.seq dv.toArray n->((us++[]).length=ps.length->Zf s (W.fnOf x x (Ln g) (Kj g) (qd g) (.ref t) kV e j i b ct) ⟨us,[]⟩ (ps.zip (us++[])))/\
   ((us++dv).length=ps.length->Zf s (W.fnOf x x (Ln g) (Kj g) (qd g) (.ref t) kV e j i b ct) ⟨us,[]⟩ (ps.zip (us++dv))))
  (a:W.nsIn K mainGlobals x=some (some (.ref f))) (l:K.lookup f=some ⟨y,od,.func (W.fnOf x x (Ln g) (Kj g) (qd g) (.ref t) kV e j i b ct),m⟩)
  (c:W.codeIn K b x=true) (k:W.keepIn K (.ref f)=true) (d:K.lookup t=some ⟨u,v,.seq dv.toArray r,w⟩):cD K mg x g ps dv:=
 ⟨f,_,zt X G a,k,⟨y,od,_,kV,e,j,i,b,ct,m,rfl,l,c⟩,λs us p q=>(hb t kV e j i b ct s _ r us (p _ _ d) rfl).1 q,λs us p q=>(hb t kV e j i b ct s _ r us (p _ _ d) rfl).2 q⟩
end
noncomputable def Ht(l:List (Nat × Bool)):Nat->Option Bool:=λc=>l.lookup c
abbrev px:List Value:=[.type "ValueError",.type "Exception",.type "BaseException",.type "object"]
noncomputable def LD(K:W.Frag)(ca:Nat->Addr)(cv:Value)(l:List (Nat × Bool)):Prop:=∀ p∈l,W.exmOne K (.ref (ca p.1)) cv=some p.2
theorem qQ{K:W.Frag}{ca:Nat->Addr}{cv:Value}:LD K ca cv []:=λ_ h=>nomatch h
theorem Lx{K:W.Frag}{ca:Nat->Addr}{cv:Value}{c:Nat}{b:Bool}{l:List (Nat × Bool)}(h:W.exmOne K (.ref (ca c)) cv=some b)(r:LD K ca cv l):LD K ca cv ((c,b)::l):=λp a=>by
 rcases Fa.mp a with rfl|a
 ·exact h
 ·exact r p a
theorem lJ:∀ {l:List (Nat × Bool)} {c:Nat} {b:Bool},l.lookup c=some b->(c,b)∈l
 |[],_,_,h=>by simp at h
 |(n,d)::r,c,b,h=>by
  rw[Sa]at h;cases e:c == n with
  |true=>rw[e]at h;cases h;rw[eq_of_beq e];exact Qa
  |false=>rw[e]at h;exact Ha _ (lJ h)
theorem ZL{K:W.Frag}{ca:Nat->Addr}{cv:Value}{l:List (Nat × Bool)}(h:LD K ca cv l):∀ c b,Ht l c=some b->W.exmOne K (.ref (ca c)) cv=some b:=λc b e=>h (c,b) (lJ e)
theorem ud.hide{T:Tb}{P:ua}{w:Ea}{mg:qa->Option Value}{base:Heap}{k:Nat}{x:qa}{ps:List qa}{fn:List D->M D}(h:ud T P w mg base k x ps fn):ud T P w mg base k x ps (L4.hide fn):=by rw[Mp];exact h
theorem Nu.hide{T:Tb}{P:ua}{w:Ea}{mg:qa->Option Value}{base:Heap}{k:Nat}{x:qa}{ps:List qa}{a:List Value}{fn:List D->M D}(h:Nu T P w mg base k x ps a fn):Nu T P w mg base k x ps a (L4.hide fn):=by rw[Mp];exact h
section
variable{T:Tb}{X:Cx}{μ:List Addr}{H:Hp}{σ:Oa}
noncomputable def Pp(σ:Oa):D->Option (Nat × List (qa × D))
 | .obj c ns ds=>if ns.length=ds.length then some (c,ns.zip ds)else none
 | .ref n=>match σ[n]? with
  |some (.ins c fs)=>some (c,fs)
  |_=>none
 |_=>none
theorem CO:∀ {ns:List qa} {ds:List D} {fs:List (qa × V)},fs.map (·.1)=ns->Ua T μ H ds (fs.map (·.2))->Rs T μ H (ns.zip ds) fs
 |[],ds,[],_,h=>by
  rw[Af]at h;cases ds with
  |nil=>exact Paired.nil
  |cons d ds=>have:=h.length;simp at this
 |[],ds,f::fs,e,_=>by simp at e
 |n::ns,ds,[],e,_=>by simp at e
 |n::ns,[],f::fs,e,h=>by have:=h.length;simp at this
 |n::ns,d::ds,f::fs,e,h=>by
  simp only[Ia,Gs]at e;rw[Ia,Ua]at h;obtain⟨v,r,a,g,i⟩:=h;simp only[Gs]at a;obtain⟨b,c⟩:=a;subst c;exact Paired.cons ⟨e.1.symm,by rw[b];exact g⟩ (CO e.2 i)
theorem QD(r:Rel T μ H σ){d:D}{v:V}{c:Nat}{fs:List (qa × D)}(h:Rep T μ H d v)(e:Pp σ d=some (c,fs)):∃ a b vs,v=.ref a/\H a=some (.ins (T.ca c) b vs)/\Rs T μ H fs vs:=by
 cases d with
 |obj k ns ds=>
  unfold Pp at e;by_cases j:ns.length=ds.length
  ·simp only[j,ie,gh,Prod.mk.injEq]at e;obtain⟨rfl,rfl⟩:=e;rw[Rep]at h;obtain⟨a,b,vs,rfl,_,g,i,p⟩:=h;exact⟨a,b,vs,rfl,g,CO i p⟩
  ·simp[j]at e
 |ref n=>
  unfold Pp at e;dsimp only at e;cases f:σ[n]? with
  |none=>rw[f]at e;cases e
  |some o=>
   rw[f]at e;obtain⟨a,rfl,_,m⟩:=r.at h f;cases o with
   |ins k l=>cases e;obtain⟨b,vs,g,i⟩:=m;exact⟨a,b,vs,rfl,g,i⟩
   |lst _=>cases e
   |Na _=>cases e
   |Kf _=>cases e
   |Kk _=>cases e
 |_=>cases e
theorem jB{f:qa}:∀ {fs:List (qa × D)} {vs:List (qa × V)},Rs T μ H fs vs->(∀ d,fs.lookup f=some d->∃ v,vs.lookup f=some v/\Rep T μ H d v)/\(fs.lookup f=none->vs.lookup f=none)
 |_,_,.nil=>⟨λd e=>by simp at e,λ_=>rfl⟩
 |(g,x)::fs,(g',v)::vs,.cons ⟨e,h⟩ t=>by
  have c:g=g':=e;subst c;obtain⟨i,j⟩:=jB t;by_cases b:(f == g)=true
  ·refine⟨λd q=>?_,λq=>?_⟩
   ·rw[Sa,b]at q;cases q;exact⟨v,by rw[Sa,b],h⟩
   ·rw[Sa,b]at q;cases q
  ·have a:(f == g)=false:=by simpa using b
   refine⟨λd q=>?_,λq=>?_⟩
   ·rw[Sa,a]at q;obtain⟨w,k,l⟩:=i d q;exact⟨w,by rw[Sa,a];exact k,l⟩
   ·rw[Sa,a]at q;rw[Sa,a];exact j q
noncomputable def Al(T:Tb)(cs:List Nat)(f:qa):Prop:=∀ c,cs.contains c=true->Zi T.K (T.ca c)/\Qd T.K (T.ca c) f
theorem Co{f:qa}:Al T [] f:=λc h=>by simp at h
theorem Gh{f:qa}{c:Nat}{cs:List Nat}(a:Zi T.K (T.ca c))(b:Qd T.K (T.ca c) f)(h:Al T cs f):Al T (c::cs) f:=λd hd=>by
 rw[List.contains_cons,af,xf]at hd;rcases hd with rfl|hd
 ·exact⟨a,b⟩
 ·exact h d hd
noncomputable def be(cs:List Nat)(f:qa)(x:D):M D:=λσ=>match Pp σ x with
 |some (c,fs)=>if cs.contains c=true then (match fs.lookup f with
  |some d=>.ok d σ
  |none=>.bad)else .bad
 |none=>.bad
theorem bi{e:Ga}{f:qa}{g:Ev->M D}{m:Se}{cs:List Nat}(C:T.K=X.K)(E:Al T cs f)(F:FE T X e g)
  (hb:Uc e f X.env (Nb e X.env)=Nb e X.env:=by rfl):FE T X (.Attribute e f m) (Je (be cs f) g):=by
 intro j s N H Q I h;refine uT F hb j s N H Q I ?_;obtain⟨μ,R,σ,B,J,G⟩:=h;refine⟨μ,R,σ,B,J,Kb.bind G λd n P v S _ U r L b=>?_⟩;unfold be at b;cases k:Pp n d with
 |none=>rw[k]at b;exact b.elim
 |some p=>
  obtain⟨c,fs⟩:=p;rw[k]at b;dsimp only at b;by_cases i:cs.contains c=true
  ·rw[ia i]at b;obtain⟨a,t,O,rfl,u,x⟩:=QD r L k;cases l:fs.lookup f with
   |none=>rw[l]at b;exact b.elim
   |some y=>
    rw[l]at b;obtain⟨w,z,A⟩:=(jB x).1 y l;obtain⟨o,q⟩:=E c i;rw[C]at o q;exact⟨a,_,t,O,w,rfl,u,o,q,z,Kb.here b r A⟩
  ·rw[ja i]at b;exact b.elim
noncomputable def vm(f:qa)(v:D):List (qa × D)->List (qa × D)
 |[]=>[(f,v)]
 |(g,x)::r=>if g=f then (g,v)::r else (g,x)::vm f v r
theorem aJ{f:qa}{d:D}{v:V}(hd:Rep T μ H d v):∀ {fs:List (qa × D)} {vs:List (qa × V)},Rs T μ H fs vs->Rs T μ H (vm f d fs) (kn f v vs)
 |_,_,.nil=>Paired.cons ⟨rfl,hd⟩ Paired.nil
 |(g,x)::fs,(g',w)::vs,.cons ⟨e,h⟩ t=>by
  have b:g=g':=e;subst b;unfold vm kn;by_cases a:g=f
  ·rw[ia a,ia a];exact Paired.cons ⟨rfl,hd⟩ t
  ·rw[ja a,ja a];exact Paired.cons ⟨rfl,h⟩ (aJ hd t)
theorem Rs.mono{μ':List Addr}{a:Hp}(e:Ext μ H μ' a){fs:List (qa × D)}{vs:List (qa × V)}(h:Rs T μ H fs vs):Rs T μ' a fs vs:=Paired.jr h λ_ _ q=>⟨q.1,Rep.mono e _ _ q.2⟩
theorem Rs.length{fs:List (qa × D)}{vs:List (qa × V)}(h:Rs T μ H fs vs):fs.length=vs.length:=Paired.length h
noncomputable def bA(cs:List Nat)(f:qa)(d x:D):M Unit:=λσ=>match x with
 | .ref n=>(match σ[n]? with
  |some (.ins c fs)=>if (cs.contains c && decide (fs.length<1000))=true then .ok () (σ.set n (.ins c (vm f d fs)))else .bad
  |_=>.bad)
 |_=>.bad
noncomputable def vw(ρ:Ev)(cs:List Nat)(f:qa)(d x:D):M Fl:=λσ=>match bA cs f d x σ with
 | .ok _ a=>.ok (.nx ρ) a
 |_=>.bad
noncomputable def iH(ρ:Ev)(cs:List Nat)(f:qa)(a:Ev->M D)(d:D):M Fl:=xs ρ (a ρ) (vw ρ cs f d)
noncomputable def Sj(cs:List Nat)(f:qa)(c b:Ev->M D):Ev->M Fl:=λa=>xs a (c a) (iH a cs f b)
theorem ul{o e:Ga}{f:qa}{E C:Ev->M D}{k h:Se}{cs:List Nat}(Q:T.K=X.K)(R:Al T cs f)(S:FE T X o C)(Z:FE T X e E)
  (Y:xj e (some (.Attribute o f h)) k.line X.env=pure false:=by rfl):FS T X (.Assign [.Attribute o f h] e k) (Sj cs f E C):=by
 intro j s O H D I V;refine YW S Z Y j s O H D I ?_;obtain⟨μ,P,σ,i,W,U⟩:=V;refine⟨μ,P,σ,i,W,U.xs i λd w u v H1 _ p r1 q1 p1=>?_⟩;refine⟨u,P,w,i.mono p,r1,p1.xs (i.mono p) λx y l vo A _ B N q2 b=>?_⟩;have hd:=Rep.mono B _ _ q1;unfold vw bA at b;cases x with
 |ref n=>
  dsimp only at b;cases q:y[n]? with
  |none=>rw[q]at b;exact b.elim
  |some ob=>
   rw[q]at b;cases ob with
   |lst _=>exact b.elim
   |Na _=>exact b.elim
   |Kf _=>exact b.elim
   |Kk _=>exact b.elim
   |ins c fs=>
    dsimp only at b;by_cases g:(cs.contains c && decide (fs.length<1000))=true
    ·rw[ia g]at b;rw[va,Mb]at g;obtain⟨a,rfl,hn,m,r,F,G⟩:=N.at q2 q;have ex:Ext l A l (upd A a (.ins (T.ca c) m (kn f v r))):=Mw (La hn) F (λ_ z=>by cases z) (λ_ _ z=>by cases z);have t:=N.write (o:=.ins (T.ca c) m (kn f v r)) (ob:=.ins c (vm f d fs)) hn ⟨m,_,Jg,aJ (Rep.mono ex _ _ hd) (Rs.mono ex G)⟩;obtain⟨J,L⟩:=R c g.1;rw[Q]at J L;exact⟨a,_,m,r,rfl,F,J,L,by rw[<-G.length];exact g.2,b _ (.nx O) _ t.1 t.2 ((i.mono p).mono B |>.mono t.1)⟩
    ·rw[ja g]at b;exact b.elim
 |_=>exact b.elim
noncomputable def Zy(n:Nat):Out D->Out D
 | .ok .Yb a=>.ok (.ref n) a
 | .ok _ _=>.bad
 | .ex x a=>.ex x a
 | .bad=>.bad
noncomputable def Fq(c n:Nat)(fn:List D->M D)(ds:List D):M D:=λσ=>if ds.length+1=n then Zy σ.length (fn (.ref σ.length::ds) (σ++[.ins c []]))else .bad
noncomputable def Iq(c n:Nat)(fn:List D->M D)(fs:Ev->M (List D)):Ev->M D:=λa=>Mc (fs a) (Fq c n fn)
noncomputable def Ke(T:Tb)(P:ua)(w:Ea)(mg:qa->Option Value)(base:Heap)(k:Nat)(f:Addr)(ps:List qa)(fn:List D->M D):Prop:=
 ∃ b,(∀ a:List Value,a.length=ps.length->bindArgs b ⟨a,[]⟩=pure (ps.zip a))/\mh P w T.K mg base (Wl P w) k f b ps (ip T ps.length fn)
noncomputable def n4(T:Tb)(P:ua)(w:Ea)(mg:qa->Option Value)(base:Heap)(k:Nat)(x:qa)(c:Nat)(ps:List qa)(fn:List D->M D):Prop:=
 ∃ f,mg x=some (.ref (T.ca c))/\Mk T.K (T.ca c) f/\Ke T P w mg base k f ps fn
theorem JP{E:XK}{c:Nat}{ps:List qa}{fn:List D->M D}{ds:List D}{vs:List V}{Q:VK}(r:Rel T μ H σ)(q:Ua T μ H ds vs)(p:Kb T E (Rep T) μ H (Fq c ps.length fn ds σ) Q) :
  ∀ x a,H x=none->H a=none->a≠x->ip T ps.length fn (.ref x::(vs++[])) (upd (upd H a (.own x)) x (.ins (T.ca c) a [])) (λv u=>v=.Yb/\Q (.ref x) u) E:=by
 intro x a z h m;unfold Fq at p;by_cases l:ds.length+1=ps.length
 ·rw[ia l]at p;have b:Ext μ H μ (upd H a (.own x)):=Ik h;have o:Rel T μ (upd H a (.own x)) σ:=r.fresh h;have i:upd H a (.own x) x=none:=by unfold upd;rw[ja (Me m)];exact z
  have f:Ext μ (upd H a (.own x)) (μ++[x]) (upd (upd H a (.own x)) x (.ins (T.ca c) a [])):=uy i;have A:Rel T (μ++[x]) (upd (upd H a (.own x)) x (.ins (T.ca c) a [])) (σ++[.ins c []]):=o.push i ⟨a,[],Jg,Paired.nil⟩;refine⟨μ++[x],σ++[.ins c []],.ref σ.length::ds,Ua.cons (jF o) (by rw[Vf];exact Ua.mono (b.trans f) _ _ q),by rw[Za];exact l,A,?_⟩;cases e:fn (.ref σ.length::ds) (σ++[.ins c []])with
  |bad=>rw[e]at p;exact p.elim
  |ex y s=>rw[e]at p;exact λg k j n=>p g k ((b.trans f).trans j) n
  |ok d s=>
   rw[e]at p;intro g v k j n t;have w:d=.Yb:=by cases d<;>first|rfl|exact p.elim
   subst w;rw[Rep]at t;refine⟨t,p g (.ref x) k ((b.trans f).trans j) n ?_⟩;exact Rep.mono j _ _ (jF o)
 ·rw[ja l]at p;exact p.elim
theorem qR{k:Nat}{C f:Addr}{j:Yd}{ps:List qa}{sp:Sp}{dvs:List V}{ds:List Value}{b:List (Addr × Obj)}{i:St}{H:Hp}{s:Shared}{Q:VK}{us:List Value}{vs:List V}(M:Mk X.K C f)(F:mh X.prog X.w X.K X.mg X.base (Wl X.prog X.w) k f j ps sp)(z:Xd (k+1) X.A)(hb:pr X.K j ps ds)(hd:Pd dvs ds)
  (I:Inv X b i H s) (r:Pd vs us)
  (h:∀ x g,H x=none->H g=none->g≠x->sp (.ref x::(vs++dvs)) (upd (upd H g (.own x)) x (.ins C g [])) (λv o=>v=.Yb/\Q (.ref x) o) (XE X i)) :
  wpAny (model X.prog X.w) X.A (call (.ref C) us) (EP X b i Q) X.xe s:=by
 have m:=h (s.heap.objs.size+1) s.heap.objs.size (I.Pb.fresh (gi _)) (I.Pb.fresh (pa _)) (ra (zb _));have d:=Inv.made (C:=C) I;have n:Pd (V.ref (s.heap.objs.size+1)::(vs++dvs)) (nb (s.heap.objs.size+1)::(us++ds)):=.cons rfl (r.append hd);have y:(nb (s.heap.objs.size+1)::us++ds).length=ps.length:=by
  have e:=n.length;rw[F.len _ _ _ _ m]at e;exact e.symm
 refine Gr (A1 (f:=f) I.Uj M.makes M.init (xf.mp M.fn) (kf (F.run _ X.stack _ _ ⟨nb (s.heap.objs.size+1)::us,[]⟩ (nb (s.heap.objs.size+1)::(us++ds)) _ _ (XE X i) (z.make C us [])
  (d.aB.make C us []) (hb _ (nb (s.heap.objs.size+1)::us) d.Uj y) n m) λr G a=>?_))
 cases r with
 |error e=>obtain⟨cls,j,l,c,B⟩:=a;exact B.oD b _ _ e G d c
 |ok t=>
  cases t with
  |ret u=>
   obtain⟨v,l,p,E,q,D⟩:=d.after a;subst q;exact⟨E,⟨V.ref (s.heap.objs.size+1),l,p,rfl,D⟩⟩
  |next=>exact False.elim a
  |brk=>exact False.elim a
  |cont=>exact False.elim a
theorem XD{k c:Nat}{ps:List qa}{fn:List D->M D}{x:qa}{p a:Se}{e:Ga}{d:List Ga}{fs:Ev->M (List D)}(h:n4 T X.prog X.w X.mg X.base k x c ps fn)(C:T.K=X.K)(N:Xd (k+1) X.A)(G:Gl X x)
  (E:FA T X (e::d) fs) (l:(x == ("__debug__" : qa))=false:=by decide) (F:ma (e::d) X.env=(false,Nb e X.env)::ma d X.env:=by rfl) (m:(kc a (ma d X.env)).any (·.1)=false:=by rfl) :
  FE T X (.Call (.Name x p) (e::d) [] a) (Iq c ps.length fn fs):=by
 obtain⟨f,hm,j,Z,hb,u⟩:=h;rw[C]at j u;intro g s y H Q I L;obtain⟨μ,U,σ,B,n,J⟩:=L;refine jf (Kz I G hm ?_ l);refine on (h₀:=X.base) I.ok.mod.Dx j.kp (ae (E a g s y H (λo b=>∀ x i,b x=none->b i=none->i≠x->ip T ps.length fn (.ref x::(o++[])) (upd (upd b i (.own x)) x (.ins (T.ca c) i [])) (λv z=>v=.Yb/\Q (.ref x) z) (XE X y)) I ⟨μ,U,σ,B,n,J.bind λds V S o b _ Y R O P=>JP R O P⟩) λus s1 ⟨o,b,t,r,q⟩=>⟨t.Uj,?_⟩) F m;exact qR (ds:=[]) (dvs:=[]) j u N (.all hb) .nil t r q
structure HG(T:Tb)(P:ua)(w:Ea)(mg:qa->Option Value)(base:Heap)(k:Nat)(m:qa)(c:Nat)(ps:List qa)(fn:List D->M D):Prop where
 cl:Zi T.K (T.ca c)
 ex:∃ f,Od T.K (T.ca c) m f/\Ke T P w mg base k f ps fn
noncomputable abbrev Mt:=List (Nat × (List D->M D))
noncomputable def gw:Mt->Nat->Option (List D->M D)
 |[],_=>none
 |(c,fn)::r,d=>if c == d then some fn else gw r d
noncomputable def vp(n:Nat)(fn:List D->M D)(x:D)(ds:List D):M D:=if ds.length+1=n then fn (x::ds)else bad
noncomputable def Zr(tb:Mt)(n:Nat)(m:qa)(fs:M (List D))(x:D):M D:=λσ=>match Pp σ x with
 |some (c,a)=>(match gw tb c,a.lookup m with
  |some fn,none=>Mc fs (vp n fn x) σ
  |_,_=>.bad)
 |none=>.bad
noncomputable def Ri(tb:Mt)(n:Nat)(m:qa)(f:Ev->M D)(fs:Ev->M (List D)):Ev->M D:=λa=>Mc (f a) (Zr tb n m (fs a))
theorem vH:∀ {tb:Mt} {c:Nat} {fn:List D->M D},gw tb c=some fn->(c,fn)∈tb
 |[],_,_,h=>by cases h
 |(d,g)::r,c,fn,h=>by
  unfold gw at h;by_cases e:(d == c)=true
  ·rw[ia e]at h;cases h;rw[xf.mp e];exact Qa
  ·rw[ja e]at h;exact Ha _ (vH h)
theorem Wt{pl:Xp Bool}{k:Nat}{tb:Mt}{ps:List qa}{m:qa}{o e:Ga}{l:List Ga}{f:Ev->M D}{fs:Ev->M (List D)}{b i:Se}(hK:T.K=X.K)(he:FE T X o f)(h:∀ q∈tb,HG T X.prog X.w X.mg X.base k m q.1 ps q.2)(hr:Xd k X.A)(ha:FA T X (e::l) fs)
  (S:ma (e::l) X.env=(false,Nb e X.env)::ma l X.env:=by rfl) (P:(kc b (ma l X.env)).any (·.1)=false:=by rfl)
  (ht:Nb (.Call (.Attribute o m i) (e::l) [] b) X.env=(do
   let ov <-Nb o X.env
   Tq i.atName
   let (f,first) <-Yf [ov] (fu ov m pl)
   callWith b f first (kc b (ma (e::l) X.env)) (ko b (Ni [] X.env))):=by rfl) :
  FE T X (.Call (.Attribute o m i) (e::l) [] b) (Ri tb ps.length m f fs):=by
 intro j s F H Q I hq;obtain⟨μ,ρ,σ,hE,R,hp⟩:=hq;have L:=hE;refine sA (pl:=pl) (ae (he j s F H (λx p=>∃ a c E vs fn,x=.ref a/\p a=some (.ins (T.ca c) E vs)/\gw tb c=some fn/\vs.lookup m=none/\tL T X fs F p λus G=>ip T ps.length fn (x::(us++[])) G Q (XE X F)) I ⟨μ,ρ,σ,hE,R,hp.bind λd C V v p _ e1 r1 q1 g=>?_⟩) λu s1 ⟨x,p,I1,rx,a,c,E,vs,fn,ex,ea,n,t,q⟩=>?_) ht
 ·unfold Zr at g;cases J:Pp C d with
  |none=>rw[J]at g;exact g.elim
  |some z=>
   obtain⟨c,gs⟩:=z;rw[J]at g;dsimp only at g;cases n:gw tb c with
   |none=>rw[n]at g;exact g.elim
   |some fn=>
    cases t:gs.lookup m with
    |some y=>rw[n,t]at g;exact g.elim
    |none=>
     rw[n,t]at g;dsimp only at g;obtain⟨a,E,vs,rfl,h1,h2⟩:=QD r1 q1 J;refine⟨a,c,E,vs,fn,rfl,h1,n,(jB h2).2 t,V,ρ,C,L.mono e1,r1,g.bind λds Z Y us G _ e2 r2 U B=>?_⟩;unfold vp at B;by_cases O:ds.length+1=ps.length
     ·rw[ia O]at B;exact⟨Y,Z,d::ds,Ua.cons (Rep.mono e2 _ _ q1) (by rw[Vf];exact U),by rw[Za];exact O,r2,B⟩
     ·rw[ja O]at B;exact B.elim
 ·subst ex;obtain rfl:u=nb a:=rx;obtain⟨hC,f',N,fd,hb,hF⟩:=h _ (vH n);rw[hK]at hC N hF;refine RQ I1 ea hC N t ?_;refine on (first:=[.ref a]) (h₀:=X.base) I.ok.mod.Dx N.kp (ae (ha b j s1 F p _ I1 q) λus s2 ⟨vs,G,I2,r,U⟩=>⟨I2.Uj,?_⟩) S P;exact jJ (us:=.ref a::us) (vs:=.ref a::vs) hF hr (.all hb) .nil I2 (.cons rfl r) U
theorem bp{pl:Xp Bool}{k:Nat}{tb:Mt}{ps:List qa}{m:qa}{o:Ga}{f:Ev->M D}{g e:Se}(hK:T.K=X.K)(he:FE T X o f)(h:∀ q∈tb,HG T X.prog X.w X.mg X.base k m q.1 ps q.2)(hr:Xd k X.A)
  (ht:Nb (.Call (.Attribute o m e) [] [] g) X.env=(do
   let P <-Nb o X.env
   Tq e.atName
   let (f,first) <-Yf [P] (fu P m pl)
   callWith g f first (kc g (ma [] X.env)) (ko g (Ni [] X.env))):=by rfl) :
  FE T X (.Call (.Attribute o m e) [] [] g) (Ri tb ps.length m f xb):=by
 intro r s L H Q I hq;obtain⟨μ,ρ,σ,hE,J,hp⟩:=hq;refine sA (pl:=pl) (ae (he r s L H (λx l=>∃ a c B vs fn,x=.ref a/\l a=some (.ins (T.ca c) B vs)/\gw tb c=some fn/\vs.lookup m=none/\ip T ps.length fn (x::([]++[])) l Q (XE X L)) I ⟨μ,ρ,σ,hE,J,hp.bind λd i t v l _ e1 S R b=>?_⟩) λu s1 ⟨x,l,C,rx,a,c,B,vs,fn,ex,U,j,n,q⟩=>?_) ht
 ·unfold Zr at b;cases E:Pp i d with
  |none=>rw[E]at b;exact b.elim
  |some z=>
   obtain⟨c,V⟩:=z;rw[E]at b;dsimp only at b;cases j:gw tb c with
   |none=>rw[j]at b;exact b.elim
   |some fn=>
    cases n:V.lookup m with
    |some y=>rw[j,n]at b;exact b.elim
    |none=>
     rw[j,n]at b;dsimp only at b;obtain⟨a,B,vs,rfl,Y,Z⟩:=QD S R E;have p:Kb T (XE X L) (Rep T) t l (vp ps.length fn d [] i) Q:=b;unfold vp at p;by_cases G:([]:List D).length+1=ps.length
     ·rw[ia G]at p;exact⟨a,c,B,vs,fn,rfl,Y,j,(jB Z).2 n,t,i,[d],Ua.cons R Ua.nil,G,S,p⟩
     ·rw[ja G]at p;exact p.elim
 ·subst ex;obtain rfl:u=nb a:=rx;obtain⟨N,f',F,fd,hb,O⟩:=h _ (vH j);rw[hK]at N F O;refine RQ C U N F n ?_;exact W.callWith_K0 (first:=[.ref a]) C.Uj F.kp (jJ (us:=[.ref a]) (vs:=[.ref a]) O hr (.all hb) .nil C (.cons rfl .nil) q)
structure OkU(T:Tb)(P:ua)(w:Ea)(mg:qa->Option Value)(base:Heap)(k:Nat)(x m:qa)(c:Nat)(ps:List qa)(fn:List D->M D):Prop where
 gl:mg x=some (.ref (T.ca c))
 sp:W.specialIn T.K (.ref (T.ca c)) (Vd "__getattribute__")=some (some (.builtin "type.__getattribute__"))
 ex:∃ f mc,W.readsIn T.K (T.ca c) mc=true/\W.findCls T.K (.ref (T.ca c)) mc m=some (.val (.ref f))/\W.keepIn T.K (.ref f)=true/\Ke T P w mg base k f ps fn
end
structure jd(K:W.Frag)(C:Addr)(x qual:qa)(st:Stmt)(ps:List qa)(f:Addr):Prop where
 ex:∃ fd,fx K x qual st f fd/\∀ us:List Value,us.length=ps.length->bindArgs fd ⟨us,[]⟩=pure (ps.zip us)
section
variable{P:ua}{w:Ea}{K:W.Frag}{mg:qa->Option Value}{base:Heap}{ca:Nat->Addr}{tx:Tx}
theorem Bl{k:Nat}{C f:Addr}{x qual:qa}{b:Stmt}{ps N:List qa}{g:Ev->M Fl}(h:jd K C x qual b ps f)(S:Ba N ps (qd b))
  (hb:∀ (a:Value) (A:Da) (outer:List Og) (s:Shared) (H:Hp) (E:XK),Xd k (A.deeper (Rg qual (qd b) s.heap.objs.size f a))->ap ⟨K,ca,tx⟩ (fq (Wl P w) P w K mg base N qual (qd b) f a A outer s H E) (Kj b) g) :
  Ke ⟨K,ca,tx⟩ P w mg base (k+1) f ps (run N.length g):=by
 obtain⟨m,F,c⟩:=h.ex;obtain⟨n,o,kV,e,p,l,a,ct,j,rfl,i,d⟩:=F.ex;exact⟨_,c,wz i d S (hb a)⟩
theorem Ke.qb{T:Tb}{k:Nat}{f:Addr}{ps:List qa}{fn:List D->M D}(h:Ke T P w mg base k f ps fn):Ke T P w mg base k f ps (λa=>L4.qb (fn a)):=by
 obtain⟨b,c,d⟩:=h;exact⟨b,c,IC d⟩
theorem Ke.hide{T:Tb}{k:Nat}{f:Addr}{ps:List qa}{fn:List D->M D}(h:Ke T P w mg base k f ps fn):Ke T P w mg base k f ps (L4.hide fn):=by rw[Mp];exact h
end
noncomputable def Ge(s:Stmt)(j:Nat):Stmt:=match s with
 | .ClassDef _ _ _ b _ _ _ _ _ _ _=>b.getD j (.Pass ⟨0,0,0,0⟩)
 |s=>s
theorem xl{K:W.Frag}{C f:Addr}{x qual:qa}{d:Stmt}{ps:List qa}{i:Value}{od e:Option Addr}{h:Array (Option Value)}{kV b g a ct:Value}
  (hb:∀ (kV b g:Value) (e:Option Addr) (a ct:Value) (us:List Value),us.length=ps.length->bindArgs (W.fnOf x qual (Ln d) (Kj d) (qd d) .none kV b g e a ct) ⟨us,[]⟩=pure (ps.zip us))
  (l:K.lookup f=some ⟨i,od,.func (W.fnOf x qual (Ln d) (Kj d) (qd d) .none kV b g e a ct),h⟩)
  (c:W.codeIn K a qual=true) (k:W.keepIn K (.ref f)=true):jd K C x qual d ps f:=⟨⟨_,HL l c k,hb kV b g e a ct⟩⟩
section
variable{T:Tb}{P:ua}{w:Ea}{mg:qa->Option Value}{base:Heap}
noncomputable def xm(T:Tb)(P:ua)(w:Ea)(mg:qa->Option Value)(base:Heap)(k:Nat)(m:qa)(ps:List qa)(tb:Mt):Prop:=∀ q∈tb,HG T P w mg base k m q.1 ps q.2
theorem Tn{k:Nat}{m:qa}{ps:List qa}:xm T P w mg base k m ps []:=λq h=>nomatch h
theorem yn{j k:Nat}{m:qa}{ps:List qa}{tb:Mt}{c:Nat}{f:Addr}{fn:List D->M D}(g:Zi T.K (T.ca c))(i:Od T.K (T.ca c) m f)(l:Ke T P w mg base j f ps fn)(n:j<=k)(h:xm T P w mg base k m ps tb):xm T P w mg base k m ps ((c,fn)::tb):=λq d=>by
 rcases Fa.mp d with rfl|d
 ·obtain⟨e,a,b⟩:=l;exact⟨g,f,i,e,a,b.mono n⟩
 ·exact h q d
end
section
variable{T:Tb}{X:Cx}
end
end L4
namespace L4
open PySem L2
theorem nr{c:Type}{a b:c}(h:a=b):a=b:=h
section
variable{α β:Type}{ρ:Ev}{σ:Oa}
@[simp] theorem se(a:α)(σ:Oa)(k:α->M β):(Out.ok a σ).bind k=k a σ:=nr rfl
@[simp] theorem yjz(a:α)(σ:Oa):ret a σ=.ok a σ:=nr rfl
@[simp] theorem zo(m:M α)(k:α->M β)(σ:Oa):Mc m k σ=(m σ).bind k:=nr rfl
@[simp] theorem NA(d:D):eC d ρ σ=.ok d σ:=nr rfl
@[simp] theorem Lv(d:D)(r:Ev):wa 0 (some d::r) σ=.ok d σ:=nr rfl
@[simp] theorem MA(i:Nat)(o:Option D)(r:Ev):wa (i+1) (o::r) σ=wa i r σ:=nr rfl
@[simp] theorem T9(o:D->D->M D)(a b:Ev->M D):Hb o a b ρ σ=(a ρ σ).bind (eI o (b ρ)):=nr rfl
@[simp] theorem zvg(o:D->D->M D)(m:M D)(x:D):eI o m x σ=(m σ).bind (o x):=nr rfl
@[simp] theorem vL(o:D->M D)(a:Ev->M D):Je o a ρ σ=(a ρ σ).bind o:=nr rfl
@[simp] theorem sK(b:Bool):Sz (.bl b) σ=.ok b σ:=nr rfl
@[simp] theorem ynt(p q:M α):Pj p q true σ=p σ:=nr rfl
@[simp] theorem QO(p q:M α):Pj p q false σ=q σ:=nr rfl
@[simp] theorem tM(c:Bool):II c σ=.ok (!c) σ:=nr rfl
@[simp] theorem zuf(k:Bool->M α)(b:Bool):Ox k (.bl b) σ=k b σ:=nr rfl
@[simp] theorem zr3(c:Bool):iI c σ=.ok (.bl (!c)) σ:=nr rfl
@[simp] theorem GL(f:Ev->M D):eT f ρ σ=(f ρ σ).bind Sz:=nr rfl
@[simp] theorem zve(a b:Ev->M Bool):rB a b ρ σ=(a ρ σ).bind (Pj (b ρ) (ret false)):=nr rfl
@[simp] theorem yd1(a b:Ev->M Bool):Qs a b ρ σ=(a ρ σ).bind (Pj (ret true) (b ρ)):=nr rfl
@[simp] theorem vK(a:Ev->M Bool):Vt a ρ σ=(a ρ σ).bind II:=nr rfl
@[simp] theorem zv2(a b:Ev->M D):zn a b ρ σ=(a ρ σ).bind (Ox (Pj (b ρ) (ret (.bl false)))):=nr rfl
@[simp] theorem ye7(a b:Ev->M D):UE a b ρ σ=(a ρ σ).bind (Ox (Pj (ret (.bl true)) (b ρ))):=nr rfl
@[simp] theorem zv7(a:Ev->M D):DD a ρ σ=(a ρ σ).bind (Ox iI):=nr rfl
@[simp] theorem ye4(t:Ev->M Bool)(a b:Ev->M D):DB t a b ρ σ=(t ρ σ).bind (Pj (a ρ) (b ρ)):=nr rfl
@[simp] theorem Uz:xb ρ σ=.ok [] σ:=nr rfl
@[simp] theorem Az(e:Ev->M D)(r:Ev->M (List D)):Ta e r ρ σ=(e ρ σ).bind (bH (r ρ)):=nr rfl
@[simp] theorem Ez(m:M (List D))(x:D):bH m x σ=(m σ).bind (VI x):=nr rfl
@[simp] theorem Vz(x:D)(xs:List D):VI x xs σ=.ok (x::xs) σ:=nr rfl
@[simp] theorem fY(a:Ev->M (List D)):Yq a ρ σ=(a ρ σ).bind wy:=nr rfl
@[simp] theorem W9:wy [] σ=.ok (.tup []) σ:=nr rfl
@[simp] theorem w4(a b:D):wy [a,b] σ=.ok (.tup [a,b]) σ:=nr rfl
@[simp] theorem yky(a b c:D):wy [a,b,c] σ=.ok (.tup [a,b,c]) σ:=nr rfl
@[simp] theorem ykz(a b c d e:D):wy [a,b,c,d,e] σ=.ok (.tup [a,b,c,d,e]) σ:=nr rfl
@[simp] theorem ye5(a:Ev->M (List D)):Rn a ρ σ=(a ρ σ).bind uz:=nr rfl
@[simp] theorem zv5(a:Ev->M (List D)):jw a ρ σ=(a ρ σ).bind VE:=nr rfl
@[simp] theorem yh2:VE [] σ=.ok (.ref σ.length) (σ++[.lst []]):=nr rfl
@[simp] theorem X9(g:Int->Int->Int)(i j:Int):oI g (.int i) (.int j) σ=.ok (.int (g i j)) σ:=nr rfl
@[simp] theorem yo1(g:Int->Int->Bool)(i j:Int):oB g (.int i) (.int j) σ=.ok (.bl (g i j)) σ:=nr rfl
theorem lF{C:Int->Int->Bool}{g:Int->Int->Int}{i j:Int}(h:C i j=true):Ax C g (.int i) (.int j) σ=.ok (.int (g i j)) σ:=by
 show (if C i j=true then ret _ else bad) σ=_;rw[ia h];rfl
@[simp] theorem zzy(i j:Int)(h:0<j)(a:j<1073741824):bF (.int i) (.int j) σ=.ok (.int (i / j)) σ:=lF (by simp[vJ,h,a])
@[simp] theorem US(i j:Int)(h:0<j):Jq (.int i) (.int j) σ=.ok (.int (i % j)) σ:=lF (by simp[VG,h])
theorem w8{i j:Int}(h:-(2 ^ 64)<i)(a:i<2 ^ 64):jA (.int i) (.int j) σ=.ok (.int (i * j)) σ:=lF (by simp only[pG,Mp,af,va,Mb];exact .inl ⟨h,a⟩)
theorem ED{i j:Int}(h:Qy i j=true):Gx (.int i) (.int j) σ=.ok (.int (i ^ j.toNat)) σ:=lF h
@[simp] theorem wL:Gx (.int 10) (.int 12) σ=.ok (.int 1000000000000) σ:=ED (by simp[Qy])
@[simp] theorem p6:Gx (.int 10) (.int 6) σ=.ok (.int 1000000) σ:=ED (by simp[Qy])
@[simp] theorem p4:Gx (.int 10) (.int 4) σ=.ok (.int 10000) σ:=ED (by simp[Qy])
@[simp] theorem kM:Gx (.int 10) (.int 40) σ=.ok (.int (10 ^ 40)) σ:=ED (by simp[Qy])
@[simp] theorem zsa(i j:Int):zj (.int i) (.int j) σ=.ok (.int (i+j)) σ:=nr rfl
theorem GC{xs ys:List D}(h:xs.length+ys.length<=Mh):zj (.lst xs) (.lst ys) σ=.ok (.lst (xs++ys)) σ:=by
 show aC (.lst xs) (.lst ys) σ=_;unfold aC;simp only[Ff];rw[ia h]
@[simp] theorem zsh(σ:Oa):ox .Yb .Yb σ=.ok (.bl true) σ:=nr rfl
@[simp] theorem zsg(b:List D):ox (.lst b) .Yb σ=.ok (.bl false) σ:=nr rfl
theorem KA{x y:D}{b:Bool}(h:Vl σ 8 x y=some b):oEq x y σ=.ok (.bl b) σ:=by unfold oEq;rw[h]
theorem dD{x y:D}{b:Bool}(h:Vl σ 8 x y=some b):gk x y σ=.ok (.bl (!b)) σ:=by unfold gk;rw[h]
@[simp] theorem zzz(i j:Int):oEq (.int i) (.int j) σ=.ok (.bl (i == j)) σ:=KA (by simp[Vl,kd,Oo,vl])
@[simp] theorem yaa(i j:Int):gk (.int i) (.int j) σ=.ok (.bl (!(i == j))) σ:=dD (by simp[Vl,kd,Oo,vl])
@[simp] theorem zz0(i j:qa):oEq (.str i) (.str j) σ=.ok (.bl (i == j)) σ:=KA (by simp[Vl,kd,Oo,vl])
theorem bB{xs:List D}{k:Int}{d:D}(h:Sm xs k=some d):Ld (.tup xs) (.int k) σ=.ok d σ:=by simp[Ld,ym,h]
theorem JK{xs:List D}{k:Int}{d:D}(h:Sm xs k=some d):Ld (.lst xs) (.int k) σ=.ok d σ:=by simp[Ld,ym,h]
@[simp] theorem U9(a:D)(r:List D):Ld (.tup (a::r)) (.int 0) σ=.ok a σ:=bB (show Sm _ ((0:Nat):Int)=_ from sw rfl)
@[simp] theorem Z9(a b:D)(r:List D):Ld (.tup (a::b::r)) (.int 1) σ=.ok b σ:=bB (show Sm _ ((1:Nat):Int)=_ from sw rfl)
@[simp] theorem yn0(a b c:D)(r:List D):Ld (.tup (a::b::c::r)) (.int 2) σ=.ok c σ:=bB (show Sm _ ((2:Nat):Int)=_ from sw rfl)
@[simp] theorem yn1(a b c d:D)(r:List D):Ld (.tup (a::b::c::d::r)) (.int 3) σ=.ok d σ:=bB (show Sm _ ((3:Nat):Int)=_ from sw rfl)
@[simp] theorem zsk(xs:List D):Vo [.tup xs] σ=.ok (.int xs.length) σ:=nr rfl
@[simp] theorem zsi(xs:List D):Vo [.lst xs] σ=.ok (.int xs.length) σ:=nr rfl
@[simp] theorem zsj(xs:List Int):Vo [.cg xs] σ=.ok (.int xs.length) σ:=by simp[Vo,ym]
@[simp] theorem G5(o:List D->M D)(fs:Ev->M (List D)):Ii o fs ρ σ=(fs ρ σ).bind o:=nr rfl
@[simp] theorem BG(n:Nat)(f:List D->M D)(dds:List D)(fs:Ev->M (List D)):Sf n f dds fs ρ σ=(fs ρ σ).bind (jt n f dds):=nr rfl
@[simp] theorem yna(f:List D->M D)(a:D):jt 1 f [] [a] σ=f [a] σ:=by unfold jt;rw[ia (by simp)];simp
@[simp] theorem ynb(f:List D->M D)(a b:D):jt 2 f [] [a,b] σ=f [a,b] σ:=by unfold jt;rw[ia (by simp)];simp
@[simp] theorem rJ(f:List D->M D)(a b c:D):jt 3 f [] [a,b,c] σ=f [a,b,c] σ:=by unfold jt;rw[ia (by simp)];simp
@[simp] theorem yf5(f:List D->M D)(a b c:D):jt 3 f [c] [a,b] σ=f [a,b,c] σ:=by unfold jt;rw[ia (by simp)];simp
@[simp] theorem ynd(f:List D->M D)(a b c d:D):jt 4 f [] [a,b,c,d] σ=f [a,b,c,d] σ:=by unfold jt;rw[ia (by simp)];simp
@[simp] theorem aN:wl ρ σ=.ok (.nx ρ) σ:=nr rfl
@[simp] theorem rh(g h:Ev->M Fl):Ec g h ρ σ=(g ρ σ).bind (Hy h):=nr rfl
@[simp] theorem Bh(h:Ev->M Fl)(ρ:Ev):Hy h (.nx ρ) σ=h ρ σ:=nr rfl
@[simp] theorem T1(h:Ev->M Fl)(d:D):Hy h (.rt d) σ=.ok (.rt d) σ:=nr rfl
@[simp] theorem yb6(h:Ev->M Fl)(ρ:Ev)(x:Xn):Hy h (.xc ρ x) σ=.ok (.xc ρ x) σ:=nr rfl
@[simp] theorem uw(h:Ev->M Fl)(ρ:Ev):Hy h (.ct ρ) σ=.ok (.ct ρ) σ:=nr rfl
noncomputable def qq(ρ:Ev)(k:α->M Fl):Out α->Out Fl
 | .ok a b=>k a b
 | .ex x b=>.ok (.xc ρ x) b
 | .bad=>.bad
@[simp] theorem Ur(ρ:Ev)(m:M α)(k:α->M Fl):xs ρ m k σ=qq ρ k (m σ):=by unfold xs qq;cases m σ<;>rfl
@[simp] theorem yq(ρ:Ev)(k:α->M Fl)(a:α):qq ρ k (.ok a σ)=k a σ:=nr rfl
@[simp] theorem ylh(ρ:Ev)(k:α->M Fl)(x:Xn):qq ρ k (.ex x σ)=.ok (.xc ρ x) σ:=nr rfl
@[simp] theorem U7(f:Ev->M D):Jf f ρ σ=qq ρ lI (f ρ σ):=Ur ..
@[simp] theorem sV(d:D):lI d σ=.ok (.rt d) σ:=nr rfl
@[simp] theorem iP(f:Ev->M D):dn f ρ σ=qq ρ (oH ρ) (f ρ σ):=Ur ..
@[simp] theorem uM(d:D):oH ρ d σ=.ok (.nx ρ) σ:=nr rfl
@[simp] theorem lV(i:Nat)(f:Ev->M D):Vg i f ρ σ=qq ρ (CB i ρ) (f ρ σ):=Ur ..
@[simp] theorem QY(i:Nat)(d:D):CB i ρ d σ=.ok (.nx (ρ.set i (some d))) σ:=nr rfl
@[simp] theorem jD(t:Ev->M Bool)(a b:Ev->M Fl):rl t a b ρ σ=qq ρ (Pj (a ρ) (b ρ)) (t ρ σ):=Ur ..
@[simp] theorem znk(c:Nat)(fs:Ev->M (List D)):Px c fs ρ σ=qq ρ (IE c ρ) (fs ρ σ):=Ur ..
@[simp] theorem zs8(c:Nat)(d:D):IE c ρ [d] σ=.ok (.xc ρ ⟨c⟩) σ:=nr rfl
@[simp] theorem yby(g:Ev->M Fl)(a:List Hd):tD g a ρ σ=(g ρ σ).bind (WE a):=nr rfl
@[simp] theorem ydf(a:List Hd)(x:Xn):WE a (.xc ρ x) σ=Fx ρ x a σ:=nr rfl
theorem SN{h:Hd}{r:List Hd}{x:Xn}(e:h.t x.cls=some true):Fx ρ x (h::r) σ=hit h ρ x σ:=by unfold Fx;rw[e]
@[simp] theorem ygt(t:Nat->Option Bool)(g:Ev->M Fl)(x:Xn):hit ⟨t,none,g⟩ ρ x σ=(g ρ σ).bind jE:=nr rfl
@[simp] theorem yid:jE (.nx ρ) σ=.ok (.nx ρ) σ:=nr rfl
@[simp] theorem mx(n:Nat)(g:Ev->M Fl)(ds:List D):run n g ds σ=Ys (g (ds.map some++List.replicate (n - ds.length) none) σ):=nr rfl
@[simp] theorem eG(d:D):Ys (.ok (.rt d) σ)=.ok d σ:=nr rfl
@[simp] theorem tR:Ys (.ok (.nx ρ) σ)=.ok .Yb σ:=nr rfl
@[simp] theorem ybn(x:Xn):Ys (.ok (.xc ρ x) σ)=.ex x σ:=nr rfl
@[simp] theorem xG(f:M D):qb f σ=Ag σ (f σ):=nr rfl
@[simp] theorem cr(f:Ev->M D):oh f ρ σ=Ag σ (f ρ σ):=nr rfl
theorem vD{k m:Nat}{σ:Oa}{d:D}(h:cl d=true):fz k σ m d=some d:=by cases m<;>(unfold fz;rw[ia h])
theorem EC{a:Oa}{d:D}(h:cl d=true)(b:a.take σ.length=σ):Ag σ (.ok d a)=.ok d σ:=by
 unfold Ag;dsimp only;rw[ia b,vD h]
@[simp] theorem zxd:Ag σ (.ex x σ)=.ex x σ:=by unfold Ag;dsimp only;rw[ia Dm]
@[simp] theorem zlp{d:D}(h:cl d=true):Ag σ (.ok d σ)=.ok d σ:=EC h Dm
theorem bP{j j':Oa}{xs:List D}(h:Nh xs=true):Ag σ (.ok (.ref σ.length) (σ++[.lst xs]++j))=.ok (.lst xs) σ:=by
 unfold Ag;dsimp only;rw[ia (by simp)];have e:fz σ.length (σ++[.lst xs]++j) 6 (.ref σ.length)=some (.lst xs):=by
  unfold fz;rw[ja (by simp[cl])];dsimp only;rw[ja (De _)];have:(σ++[Ob.lst xs]++j)[σ.length]?=some (.lst xs):=by simp
  rw[this];dsimp only;have c:∀ (ys:List D) (m:Nat),Nh ys=true->An (fz σ.length (σ++[.lst xs]++j) m) ys=some ys:=by
   intro ys m;induction ys with
   |nil=>intro _;rfl
   |cons y ys d=>
    intro b;have a:cl y=true/\Nh ys=true:=by simpa [Nh,va]using b
    unfold An;rw[vD a.1,d a.2]
  rw[c xs 5 h];rfl
 rw[e]
@[simp] theorem Y5(i:Int):cl (.int i)=true:=by simp[cl]
@[simp] theorem yme(i:Bool):cl (.bl i)=true:=by simp[cl]
@[simp] theorem yet(i:qa):cl (.str i)=true:=by simp[cl]
@[simp] theorem yer:cl .Yb=true:=by simp[cl]
@[simp] theorem yev(xs:List D):cl (.tup xs)=Nh xs:=by simp[cl]
@[simp] theorem yeq(xs:List D):cl (.lst xs)=Nh xs:=by simp[cl]
@[simp] theorem yes(n:Nat):cl (.ref n)=false:=by simp[cl]
@[simp] theorem zvr:Nh []=true:=by simp[Nh]
@[simp] theorem IX(d:D)(ds:List D):Nh (d::ds)=(cl d && Nh ds):=by simp[Nh]
theorem mw:∀ {ds:List D},(∀ d∈ds,cl d=true)->Nh ds=true
 |[],_=>by simp
 |d::ds,h=>by rw[IX,h d Qa,mw λx a=>h x (Ha _ a)];rfl
theorem eX{a:Type}{f:a->D}{l:List a}(h:∀ x,cl (f x)=true):Nh (l.map f)=true:=mw λd hd=>by obtain⟨x,_,rfl⟩:=Ra.mp hd;exact h x
@[simp] theorem zow(l:List Int):Nh (l.map D.int)=true:=eX Y5
theorem U0{xs:List D}{k:Int}(a:0<=k)(h:k<xs.length):Sm xs k=some (xs.getD k.toNat .Yb):=by
 obtain⟨n,rfl⟩:=Int.eq_ofNat_of_zero_le a;have hn:n<xs.length:=by omega
 refine sw ?_;show xs[n]?=some (xs.getD n .Yb);rw[zf,yb hn];rfl
theorem B7{a:List Int}{k:Int}(b:0<=k)(h:k<a.length):Sm (a.map D.int) k=some (.int (a.getD k.toNat 0)):=by
 rw[U0 b (by simpa using h)];have hn:k.toNat<a.length:=by omega
 simp[hn]
@[simp] theorem R9(a:D):uz [a] σ=.ok (.lst [a]) σ:=nr rfl
@[simp] theorem yok:uz [] σ=.ok (.lst []) σ:=nr rfl
@[simp] theorem yom(a b:D):uz [a,b] σ=.ok (.lst [a,b]) σ:=nr rfl
@[simp] theorem yQ(xs:List D):kg (σ++[.lst xs]) σ.length=some xs:=by simp[kg]
@[simp] theorem jI(a b:Ob):(σ++[a]).set σ.length b=σ++[b]:=by
 rw[Jr _ _ (pa _)];simp
@[simp] theorem zo8(o:D->List D->M D)(f:Ev->M D)(fs:Ev->M (List D)):Vv o f fs ρ σ=(f ρ σ).bind (Vs o (fs ρ)):=nr rfl
theorem Py{o:D->List D->M D}{m:M (List D)}{x:D}{xs:List D}(h:Ff σ x=some xs):Vs o m x σ=(m σ).bind (o x):=by unfold Vs;rw[h];rfl
theorem nB{xs:List D}{d:D}(h:xs.length<1000):yk (.ref σ.length) [d] (σ++[.lst xs])=.ok .Yb (σ++[.lst (xs++[d])]):=by
 unfold yk;simp only[yQ];rw[ia (show xs.length<Mh from h),jI]
theorem CY{neg:Bool}{w:Int}{x:D}{ws:List Int}(h:ym σ x=some (ws.map D.int)):VB neg (.int w) x σ=.ok (.bl (if neg then !(ws.any (·== w))else ws.any (·== w))) σ:=by
 have a:∀ l:List Int,(l.map D.int).all dw=true:=λl=>by simp[dw,sc]
 have b:∀ l:List Int,((l.map D.int).any λz=>zx z (.int w))=l.any (·== w):=λl=>by simp[zx,sc,vl,uA,Function.comp_def]
 unfold VB;rw[h];simp only[a,b,show dw (.int w)=true from rfl,Bool.and_self,ie]
@[simp] theorem R6(xs:List D):ym σ (.lst xs)=some xs:=nr rfl
@[simp] theorem bM(f:Ev->M D):zi f ρ σ=(f ρ σ).bind dt:=nr rfl
@[simp] theorem j1(ds:List D):dt (.tup ds) σ=.ok (.seq ds) σ:=nr rfl
@[simp] theorem XI(ds:List D):dt (.lst ds) σ=.ok (.seq ds) σ:=nr rfl
@[simp] theorem Z8(f:Ev->M D):gx f ρ σ=(f ρ σ).bind Ay:=nr rfl
theorem uE{j:Int}(h:-(2 ^ 62)<=j)(a:j<2 ^ 62):Ay (.int j) σ=.ok (.seq (Gq j.toNat)) σ:=by
 unfold Ay;dsimp only;rw[ia (by simp only[HD,Mp,va,Mb];exact⟨h,a⟩)]
@[simp] theorem zI(src:Ev->M Src)(tg:D->Ev->Option Ev)(body:Ev->M Fl):Zs src tg body ρ σ=qq ρ (Cz tg body ρ) (src ρ σ):=Ur ..
@[simp] theorem DJ(tg:D->Ev->Option Ev)(body:Ev->M Fl)(ds:List D):Cz tg body ρ (.seq ds) σ=Nk tg body ds ρ σ:=nr rfl
@[simp] theorem mD(tg:D->Ev->Option Ev)(body:Ev->M Fl):Nk tg body [] ρ σ=.ok (.nx ρ) σ:=nr rfl
theorem T3{tg:D->Ev->Option Ev}{body:Ev->M Fl}{d:D}{ds:List D}{ρ1:Ev}(h:tg d ρ=some ρ1):Nk tg body (d::ds) ρ σ=(body ρ1 σ).bind (Qt (Nk tg body ds)):=by
 show (match tg d ρ with|none=>bad|some ρ1=>Mc (body ρ1) (Qt (Nk tg body ds))) σ=_;rw[h];rfl
@[simp] theorem yu(i:Nat)(body:Ev->M Fl)(d:D)(ds:List D):Nk (Wd i) body (d::ds) ρ σ=(body (ρ.set i (some d)) σ).bind (Qt (Nk (Wd i) body ds)):=T3 rfl
@[simp] theorem Qo(k:Ev->M Fl):Qt k (.nx ρ) σ=k ρ σ:=nr rfl
@[simp] theorem zrn(k:Ev->M Fl)(x:Xn):Qt k (.xc ρ x) σ=.ok (.xc ρ x) σ:=nr rfl
theorem PB{m:M α}{a:α}{σ':Oa}(h:m σ=.ok a σ'):Wn m σ=.ok a σ':=by unfold Wn;rw[h]
end
section
variable{α β:Type}{ρ:Ev}{σ:Oa}
@[simp] theorem rU(ns:List Int):ym σ (.cg ns)=some (ns.map D.int):=nr rfl
theorem T6{ns:List Int}{k:Int}(a:0<=k)(h:k<ns.length):Ld (.cg ns) (.int k) σ=.ok (.int (ns.getD k.toNat 0)) σ:=by
 simp only[Ld,rU,B7 a h]
@[simp] theorem zse(c:BT)(i:Int):wv c (.int i) σ=.ok (.bl (match c with | .int=>true|_=>false)) σ:=nr rfl
@[simp] theorem zsf(xs:List D):wv .tuple (.tup xs) σ=.ok (.bl true) σ:=nr rfl
@[simp] theorem zla(o d:D->D->M D)(a b c:Ev->M D):CJ o d a b c ρ σ=(a ρ σ).bind (fG o d (b ρ) (c ρ)):=nr rfl
noncomputable def pl:Nat->D->Bool
 |_,.Yb=>true
 |_,.bl _=>true
 |_,.int _=>true
 |_,.str _=>true
 |n+1,.tup xs=>xs.all (pl n)
 |n+1,.lst xs=>xs.all (pl n)
 |_,_=>false
theorem GH{f:D->D->Option Bool}:∀ {xs:List D},(∀ x∈xs,f x x=some true)->Op f xs xs=some true
 |[],_=>rfl
 |x::xs,h=>by unfold Op;rw[h x Qa,GH λy a=>h y (Ha _ a)];rfl
theorem HE:∀ (n:Nat) (x:D),pl n x=true->Vl σ n x x=some true
 |0,x,h=>by cases x<;>simp[pl]at h<;>simp[Vl,kd,Oo,vl]
 |n+1,x,h=>by
  cases x with
  |Yb=>simp[Vl,kd,Oo,vl]
  |bl b=>simp[Vl,kd,Oo,vl]
  |int b=>simp[Vl,kd,Oo,vl]
  |str b=>simp[Vl,kd,Oo,vl]
  |tup xs=>
   simp only[pl,Zb]at h;unfold Vl;simp only[kd,Oo];exact GH λy a=>HE n y (h y a)
  |lst xs=>
   simp only[pl,Zb]at h;unfold Vl;simp only[kd,Oo];exact GH λy a=>HE n y (h y a)
  |_=>simp[pl]at h
theorem JC{x:D}(h:pl 8 x=true):oEq x x σ=.ok (.bl true) σ:=KA (HE 8 x h)
theorem VA{x:D}(h:pl 8 x=true):gk x x σ=.ok (.bl false) σ:=dD (HE 8 x h)
@[simp] theorem zk1(o a:D->D->M D)(b c:M D)(x:D):fG o a b c x σ=(b σ).bind (qJ o a c x):=nr rfl
@[simp] theorem zk3(o a:D->D->M D)(c:M D)(x y:D):qJ o a c x y σ=(o x y σ).bind (OH a c y):=nr rfl
@[simp] theorem zk2(a:D->D->M D)(c:M D)(y:D)(b:Bool):OH a c y (.bl b) σ=Pj (Mc c (a y)) (ret (.bl false)) b σ:=nr rfl
theorem wP{a:Ob}{d:D}(h:cl d=true):Ag σ (.ok d (σ++[a]))=.ok d σ:=EC h (by simp)
@[simp] theorem HR(l:List Int):Ut (l.map D.int)=some l:=by
 induction l with
 |nil=>rfl
 |cons x l a=>simp[Ut,a]
theorem pW{l:List Int}(h:l.length<=1000):Tz (.lst (l.map D.int)) σ=.ok (.int (yd l).length) σ:=by
 simp only[Tz,Ff,ii,HR];rw[ia (show l.length<=Mh from h)]
end
section
variable{ρ:Ev}{σ:Oa}
@[simp] theorem zo7(c n:Nat)(fn:List D->M D)(fs:Ev->M (List D)):Iq c n fn fs ρ σ=(fs ρ σ).bind (Fq c n fn):=nr rfl
theorem dH{c n:Nat}{fn:List D->M D}{ds:List D}(h:ds.length+1=n):Fq c n fn ds σ=Zy σ.length (fn (.ref σ.length::ds) (σ++[.ins c []])):=by unfold Fq;rw[ia h]
@[simp] theorem QC(c:Nat)(fn:List D->M D)(a:D):Fq c 2 fn [a] σ=Zy σ.length (fn [.ref σ.length,a] (σ++[.ins c []])):=dH rfl
@[simp] theorem gB(n:Nat):Zy n (.ok .Yb σ)=.ok (.ref n) σ:=nr rfl
@[simp] theorem iG(cs:List Nat)(f:qa)(b a:Ev->M D):Sj cs f b a ρ σ=qq ρ (iH ρ cs f a) (b ρ σ):=Ur ..
@[simp] theorem rG(cs:List Nat)(f:qa)(a:Ev->M D)(d:D):iH ρ cs f a d σ=qq ρ (vw ρ cs f d) (a ρ σ):=Ur ..
theorem TF{cs:List Nat}{f:qa}{d:D}{c:Nat}{fs:List (qa × D)}(h:cs.contains c=true)(a:fs.length<1000):vw ρ cs f d (.ref σ.length) (σ++[.ins c fs])=.ok (.nx ρ) (σ++[.ins c (vm f d fs)]):=by
 have e:bA cs f d (.ref σ.length) (σ++[.ins c fs])=.ok () (σ++[.ins c (vm f d fs)]):=by
  have:(σ++[Ob.ins c fs])[σ.length]?=some (.ins c fs):=by simp
  unfold bA;simp only[this];rw[ia (by rw[h];simpa using a)];simp
 unfold vw;rw[e]
theorem Ru{c:Nat}{ns:List qa}{ds:List D}(h:ns.length=ds.length):Pp σ (.obj c ns ds)=some (c,ns.zip ds):=by unfold Pp;dsimp only;rw[ia h]
theorem Mn{cs:List Nat}{f:qa}{x d:D}{c:Nat}{fs:List (qa × D)}(h:Pp σ x=some (c,fs))(a:cs.contains c=true)(b:fs.lookup f=some d):be cs f x σ=.ok d σ:=by
 unfold be;rw[h];dsimp only;rw[ia a,b]
@[simp] theorem tZ(tb:Mt)(n:Nat)(m:qa)(f:Ev->M D)(fs:Ev->M (List D)):Ri tb n m f fs ρ σ=(f ρ σ).bind (Zr tb n m (fs ρ)):=nr rfl
theorem BH{tb:Mt}{n:Nat}{m:qa}{fs:M (List D)}{x:D}{c:Nat}{a:List (qa × D)}{fn:List D->M D}(h:Pp σ x=some (c,a))(d:gw tb c=some fn)(b:a.lookup m=none):Zr tb n m fs x σ=(fs σ).bind (vp n fn x):=by
 unfold Zr;rw[h];dsimp only;rw[d,b];rfl
theorem DC{n:Nat}{fn:List D->M D}{x:D}{ds:List D}(h:ds.length+1=n):vp n fn x ds σ=fn (x::ds) σ:=by unfold vp;rw[ia h]
@[simp] theorem zzg(fn:List D->M D)(x:D):vp 1 fn x [] σ=fn [x] σ:=DC rfl
@[simp] theorem kY(fn:List D->M D)(x a:D):vp 2 fn x [a] σ=fn [x,a] σ:=DC rfl
@[simp] theorem zzi(fn:List D->M D)(x a b:D):vp 3 fn x [a,b] σ=fn [x,a,b] σ:=DC rfl
theorem yP{c:Nat}{fs:List (qa × D)}(h:Nh (fs.map (·.2))=true):Ag σ (.ok (.ref σ.length) (σ++[.ins c fs]))=.ok (.obj c (fs.map (·.1)) (fs.map (·.2))) σ:=by
 unfold Ag;dsimp only;rw[ia (by simp)];have e:fz σ.length (σ++[.ins c fs]) 6 (.ref σ.length)=some (.obj c (fs.map (·.1)) (fs.map (·.2))):=by
  unfold fz;rw[ja (by simp)];dsimp only;rw[ja (De _)];have:(σ++[Ob.ins c fs])[σ.length]?=some (.ins c fs):=by simp
  rw[this];dsimp only;have d:∀ (ys:List D) (m:Nat),Nh ys=true->An (fz σ.length (σ++[.ins c fs]) m) ys=some ys:=by
   intro ys m;induction ys with
   |nil=>intro _;rfl
   |cons y ys f=>
    intro b;have a:cl y=true/\Nh ys=true:=by simpa [Nh,va]using b
    unfold An;rw[vD a.1,f a.2]
  rw[d _ 5 h];rfl
 rw[e]
end
end L4
namespace L4
open PySem PySem.Spec PySem.Calls PyProof.Rows PySem.Builtin PySem.Builtin.ObjectAttr PySem.Builtin.Getset_descriptor L2
structure xq(K:W.Frag)(C:Addr):Prop where
 g:W.findIn K (.ref C) "__getattribute__" = some (some (.builtin "BaseException.__getattribute__"))
 g2:W.findIn K (.ref C) "__getattr__" = some none
 mb:W.mroIn K C (.type "BaseException")=some true
 d:W.hasDictIn K C=true
 a:W.findIn K (.ref C) "__class__" = some (some (.builtin "object.__class__"))
 n:W.specialIn K (.builtin "object.__class__") "__get__" = some (some (.builtin "getset_descriptor.__get__"))
 t:W.takesIn K (.builtin "object.__class__")=some true
 m:W.mroIn K C (.type "object")=some true
section
variable{prog:ua}{w:Ea}{A:Da}{E:Value->Shared->Prop}{s:Shared}{K:W.Frag}{C ea:Addr}{hp:Heap}{Mo:Yj}
theorem aH(p:qE C ea hp):W.Looks Mo hp (ql (.ref ea)) (.ref C):=by
 obtain⟨o,a,b⟩:=p;rw[<-b];exact(Hr a).andThen .now
theorem rY(Z:xq K C)(X:K.In hp):W.Looks Mo hp (find (.ref ea) (.ref C) "__class__") (.bind (.builtin "getset_descriptor.__get__") (.builtin "object.__class__")):=by
 have b:W.Looks Mo hp (dataDescriptor? (some (.builtin "object.__class__")) (some (.builtin "getset_descriptor.__get__"))) (some (.builtin "getset_descriptor.__get__",.builtin "object.__class__")):=(W.looks_takesIn X Z.t).andThen .now;exact(Bk X Z.a).andThen ((W.looks_specialIn X Z.n).andThen (b.andThen (W.Looks.tag .now)))
theorem wY{a:Value}{R:wn->Shared->Prop}(Z:xq K C)(X:K.In s.heap)(p:qE C ea s.heap)(h:R (.ok (.ret (.ref C))) s):codeAny (model prog w) A (.call (.builtin "getset_descriptor.__get__") ⟨[.builtin "object.__class__",.ref ea,a],[]⟩) R s:=by
 obtain⟨c,gl,b,f,os⟩:=s;have d:=aH (Mo:=model prog w) p;have e:=CF (M:=model prog w) X Z.m;refine jl vA.plain W.KF.entry_gs (vA.check _ _ _ _ _ _ _ _ W.KF.type_class (W.KF.args_gs _ _ _) ?_);unfold Xe.«getset_descriptor.__get__» descrGet;rw[W.dga_obj];refine aa (da ?_);unfold descrGetter descrCheckInstance descrNameAndClass rz;simp only[W.KF.owner_class];repeat lk
 refine⟨du _ (by decide +kernel),nc W.KF.entry_class ?_⟩;unfold Xe.«object.__class__» shownTypeOf;repeat lk
 exact h
theorem LY{Q:Option Value->Shared->Prop}(Z:xq K C)(X:K.In s.heap)(p:qE C ea s.heap)(h:Q (some (.ref C)) { s with toks:=s.toks+1 }):wpAny (model prog w) A (getAttr? (.ref ea) "__class__") Q E s:=by
 obtain⟨k,gl,f,e,os⟩:=s;have c:=aH (Mo:=model prog w) p;have d:=Bk (M:=model prog w) X Z.g;have l:=Bk (M:=model prog w) X Z.g2;have m:=rY (ea:=ea) (Mo:=model prog w) Z X;have n:=CF (M:=model prog w) X Z.mb;have i:=rn.ga.bind (.ref ea);unfold getAttr? getAttrBy? getAttrBy;refine aa (wpAny_mkText (aa (Si (Rb (aa (c.at (aa (d.at ?_))))))));show wpAny _ _ (LF _ _ _ _ _ _) _ _ _;unfold LF hookBefore callGetattribute;repeat (any_goals (first|assumption|(with_reducible refine W.Looks.at (by assumption) ?_)|wp_step))
 refine jl rn.ga.plain PySem.F.entry_bexc_ga ?_;have a:builtinKind "BaseException.__getattribute__" = some .slot:=by decide +kernel
 have b:splitId "BaseException.__getattribute__" = some ("BaseException", "__getattribute__"):=by decide +kernel
 have j:=PySem.F.args_bexc_ga (.ref ea) (.str "__class__" e);simp only[Ie,Ti,wC,a,b];refine aa ?_;unfold rz;repeat (any_goals (first|assumption|(with_reducible refine W.Looks.at (by assumption) ?_)|wp_step))
 refine wY Z X p ?_;exact da (W.handed_on rfl (da h))
theorem Ov.plain{dd:Option Addr}(p:Ov C dd ea hp):qE C ea hp:=let ⟨o,a,b,_⟩:=p;⟨o,a,b⟩
theorem r6{dd:Option Addr}(Z:xq K C):W.KitX K (.ref ea) (.ref C) (Ov C dd ea) where
 ty:=λ_ _ _ p=>aH p.plain
 it:=λ_ _ X _=>by
  obtain⟨f,a,_⟩:=Qw Z.d;unfold W.clsIn at a;split at a
  ·rename_i b
   intro i l j m k q;unfold isType loadHead;exact aa (IJ (k _ _ (X _ _ b)) (da q))
  ·cases a
 ne:=λh tp dd g n o X c=>by
  obtain⟨f,a,_⟩:=Qw Z.d;refine Bool.eq_false_iff.mpr λq=>?_;have e:C=tp:=B9 (xf.mp q);subst e;unfold W.clsIn at a;split at a
  ·rename_i b;have z:=(X _ _ b).symm.trans c;cases z
  ·cases a
 ca:=λX p k=>LY Z X p.plain k
end
noncomputable def lx(t:Nat->Option Bool)(x:D):M D:=λa=>match x with
 | .Wo c=>(match t c with|some b=>.ok (.bl b) a|none=>.bad)
 |_=>.bad
section
variable{T:Tb}{X:Cx}
noncomputable def zW(K:W.Frag)(d:V)(cv:Value):List V->Hp->VK->Prop:=λxs H Q=>∃ a C c b,xs=[.ref a,d]/\H a=some (.ext (Ov C c a))/\xq K C/\W.kitOne K (.ref C) cv=some b/\Q (.bl b) H
theorem F0{f:V}{cv:Value}(i:∀ u,vd f u->u=cv):Wm X (.builtin "isinstance") (zW X.K f cv):=by
 intro d s l H xs n Q I r h;obtain⟨a,C,k,b,rfl,g,Z,e,q⟩:=h;obtain⟨u,u2,rfl,j,c⟩:=EM r;cases i _ c;cases (show u=nb a from j);exact Re (r6 Z) I.Uj (I.Pb a _ g).1 e (λz=>nomatch z) λm=>⟨.bl b,H,I.tok _,rfl,q⟩
inductive br(X:Cx)(y:qa):V->Value->Prop where
 |own {a:Addr} (h:X.mg y=some (.ref a)):br X y (.ref a) (.ref a)
 |bt {n:String} (h:X.mg y=none) (hv:bootBuiltins y=some (.type n)) (hn:y ≠ "__name__"):br X y (.ty n) (.type n)
theorem br.pe{y:qa}{c:V}{cv:Value}{e:Se}(h:br X y c cv)(b:Gl X y)(a:(y == ("__debug__" : qa))=false):PE X (.Name y e) (tC c):=by
 cases h with
 |own h=>exact sJ b h rfl a
 |bt h d hn=>exact DR b h d rfl hn a
theorem br.rel{y:qa}{a:V}{cv:Value}(h:br X y a cv):∀ u,vd a u->u=cv:=by
 cases h with
 |own h=>exact λu q=>q
 |bt h b hn=>exact λu q=>q
theorem MR{y:qa}{L:V}{cv:Value}{t:Nat->Option Bool}{e:Ga}{f:Ev->M D}{p j i:Se}(A:FE T X e f)(B:Gl X "isinstance")(hm:X.mg "isinstance" = none)(m:Gl X y)(l:(y == ("__debug__" : qa))=false)(o:br X y L cv)
  (F:∀ c b,t c=some b->xq X.K (T.ca c)/\W.kitOne X.K (.ref (T.ca c)) cv=some b)
  (q:ma [e,.Name y j] X.env=(false,Nb e X.env)::ma [.Name y j] X.env:=by rfl) (n:(kc i (ma [.Name y j] X.env)).any (·.1)=false:=by rfl) :
  FE T X (.Call (.Name "isinstance" p) [e,.Name y j] [] i) (Je (lx t) f):=by
 intro g s J H Q I h;refine mB (F0 o.rel) B hm zF (Ss A (Ss (o.pe m l) Dv) q) (by decide) (by decide) q n g s J H Q I ?_;obtain⟨P,S,U,z,E,C⟩:=h;refine⟨P,S,U,z,E,C.bind λx Y R v Z _ e1 G r d=>?_⟩;unfold lx at d;cases x with
 |Wo c=>
  dsimp only at d;cases k:t c with
  |none=>rw[k]at d;exact d.elim
  |some b=>
   rw[k]at d;rw[Rep]at r;obtain⟨a,u,rfl,_,w,_⟩:=r;obtain⟨N,O⟩:=F c b k;exact⟨a,T.ca c,u,b,rfl,w,N,O,Kb.here d G (by rw[Rep])⟩
 |_=>exact d.elim
end
noncomputable def YC(K:W.Frag)(ca:Nat->Addr)(cv:Value)(l:List (Nat × Bool)):Prop:=∀ p∈l,xq K (ca p.1)/\W.kitOne K (.ref (ca p.1)) cv=some p.2
theorem rK{K:W.Frag}{ca:Nat->Addr}{cv:Value}:YC K ca cv []:=λ_ h=>nomatch h
theorem Ix{K:W.Frag}{ca:Nat->Addr}{cv:Value}{c:Nat}{b:Bool}{l:List (Nat × Bool)}(z:xq K (ca c))(h:W.kitOne K (.ref (ca c)) cv=some b)(r:YC K ca cv l):YC K ca cv ((c,b)::l):=λp a=>by
 rcases Fa.mp a with rfl|a
 ·exact⟨z,h⟩
 ·exact r p a
theorem IP{K:W.Frag}{ca:Nat->Addr}{cv:Value}{l:List (Nat × Bool)}(h:YC K ca cv l):∀ c b,Ht l c=some b->xq K (ca c)/\W.kitOne K (.ref (ca c)) cv=some b:=λc b e=>h (c,b) (lJ e)
section
variable{ρ:Ev}{σ:Oa}
@[simp] theorem ygu(t:Nat->Option Bool)(i:Nat)(g:Ev->M Fl)(x:Xn):hit ⟨t,some i,g⟩ ρ x σ=(g (ρ.set i (some (.Wo x.cls))) σ).bind (FD i):=nr rfl
@[simp] theorem ydi(i:Nat):FD i (.nx ρ) σ=.ok (.nx (ρ.set i none)) σ:=nr rfl
theorem aO{t:Nat->Option Bool}{c:Nat}{b:Bool}(h:t c=some b):lx t (.Wo c) σ=.ok (.bl b) σ:=by unfold lx;dsimp only;rw[h]
end
end L4
namespace L4
open PySem PySem.Spec PySem.Calls PyProof.Rows L2
section
variable{T:Tb}{X:Cx}
end
end L4
namespace HT
open PySem Builtin
open Sem (wp)
end HT
namespace L4
open PySem PySem.Spec PyProof.Rows L2
end L4
namespace HT
open PySem Builtin
open Sem (wp)
end HT
namespace L4
open PySem PySem.Spec PyProof.Rows L2
section
variable{T:Tb}{X:Cx}
end
end L4
namespace L2
open PySem PySem.Spec PyProof.Rows
section
variable{κ:Type}[DecidableEq κ]
noncomputable def Kq(kvs:List (κ × V))(k:κ):Option V:=(kvs.find? λa=>decide (a.1=k)).map (·.2)
noncomputable def Sn(kvs:List (κ × V))(k:κ)(v:V):List (κ × V):=
 if (kvs.any λa=>decide (a.1=k))=true then kvs.map (λa=>if a.1=k then (a.1,v)else a)else kvs++[(k,v)]
noncomputable def VL(kvs:List (κ × V))(k:κ):List (κ × V):=kvs.filter λa=>decide (a.1≠k)
theorem wE{p:κ × V}{r:List (κ × V)}{k:κ}(e:p.1=k):Kq (p::r) k=some p.2:=by simp[Kq,Dd,e]
theorem WC{p:κ × V}{r:List (κ × V)}{k:κ}(e:¬ p.1=k):Kq (p::r) k=Kq r k:=by simp[Kq,Dd,e]
theorem yN(k:κ):∀ kvs:List (κ × V),(kvs.any λa=>decide (a.1=k))=(Kq kvs k).isSome
 |[]=>rfl
 |p::r=>by
  rw[Oc];by_cases e:p.1=k
  ·simp only[wE e,Nd e,Bool.true_or,Option.isSome_some]
  ·rw[WC e,Cb e,Kg];exact yN k r
theorem YH(kvs:List (κ × V))(k:κ)(v:V):(Sn kvs k v).length<=kvs.length+1:=by
 unfold Sn;split
 ·rw[xa];omega
 ·rw[ib,Za,Fn];omega
theorem Np.Qk{o:Option V}{u:Option Value}(r:Np o u):o.isSome=u.isSome:=by
 cases o with
 |none=>cases u with
  |none=>rfl
  |some _=>exact(show False from r).elim
 |some _=>cases u with
  |none=>exact(show False from r).elim
  |some _=>rfl
theorem Np.getD{o:Option V}{u:Option Value}{d:V}{d':Value}(r:Np o u)(rd:vd d d'):vd (o.getD d) (u.getD d'):=by
 cases o with
 |none=>cases u with
  |none=>exact rd
  |some _=>exact(show False from r).elim
 |some _=>cases u with
  |none=>exact(show False from r).elim
  |some _=>exact r
theorem KV.val{kvs:List (κ × V)}{vs:List (κ × Value)}(r:KV kvs vs)(k:κ):Np (Kq kvs k) (mo vs k):=by
 unfold KV at r;induction r with
 |nil=>exact True.intro
 |@cons p q i c h t g=>
  obtain⟨d,f⟩:=h;by_cases e:p.1=k
  ·have a:q.1=k:=d.symm.trans e;have b:mo (q::c) k=some q.2:=by simp[mo,Dd,a]
   rw[wE e,b];exact f
  ·have a:¬ q.1=k:=λz=>e (d.trans z);have b:mo (q::c) k=mo c k:=by simp[mo,Dd,a]
   rw[WC e,b];exact g
theorem KV.any{kvs:List (κ × V)}{vs:List (κ × Value)}(r:KV kvs vs)(k:κ):(kvs.any λa=>decide (a.1=k))=vs.any λa=>decide (a.1=k):=by
 unfold KV at r;induction r with
 |nil=>rfl
 |cons h t b=>rw[Oc,Oc,b,h.1]
theorem KV.My{kvs:List (κ × V)}{vs:List (κ × Value)}(r:KV kvs vs)(k:κ){y:V}{u:Value}(f:vd y u) :
  KV (kvs.map λa=>if a.1=k then (a.1,y)else a) (vs.map λa=>if a.1=k then (a.1,u)else a):=by
 unfold KV at r ⊢;induction r with
 |nil=>exact .nil
 |@cons p q g i h t d=>
  rw[Ia,Ia];refine .cons ?_ d;obtain⟨b,c⟩:=h;by_cases e:p.1=k
  ·rw[ia e,ia (b.symm.trans e)];exact⟨b,f⟩
  ·rw[ja e,ja (λz=>e (b.trans z))];exact⟨b,c⟩
theorem KV.put{kvs:List (κ × V)}{vs:List (κ × Value)}(r:KV kvs vs)(k:κ){y:V}{u:Value}(a:vd y u):KV (Sn kvs k y) (stored vs k u):=by
 unfold Sn stored;rw[r.any k];by_cases e:(vs.any λb=>decide (b.1=k))=true
 ·rw[ia e,ia e];exact r.My k a
 ·rw[ja e,ja e];exact Paired.snoc r ⟨rfl,a⟩
theorem KV.drop{kvs:List (κ × V)}{vs:List (κ × Value)}(r:KV kvs vs)(k:κ):KV (VL kvs k) (without vs k):=by
 unfold KV at r ⊢;unfold VL without;induction r with
 |nil=>exact .nil
 |@cons p q i j h t d=>
  obtain⟨c,g⟩:=h;rw[jc,jc];by_cases e:p.1=k
  ·have a:¬ decide (p.1≠k)=true:=by simp[e]
   have b:¬ decide (q.1≠k)=true:=by simp[c.symm.trans e]
   rw[ja a,ja b];exact d
  ·have f:¬ q.1=k:=λz=>e (c.trans z);have a:decide (p.1≠k)=true:=by simp[e]
   have b:decide (q.1≠k)=true:=by simp[f]
   rw[ia a,ia b];exact .cons ⟨c,g⟩ d
theorem KV.keys{kvs:List (κ × V)}{vs:List (κ × Value)}(r:KV kvs vs):kvs.map (·.1)=vs.map (·.1):=by
 unfold KV at r;induction r with
 |nil=>rfl
 |cons h t a=>rw[Ia,Ia,a,h.1]
theorem KV.length{kvs:List (κ × V)}{vs:List (κ × Value)}(r:KV kvs vs):kvs.length=vs.length:=Paired.length r
end
theorem GD{P:ua}{w:Ea}{k:Key}{u:Value}(r:vd (kV k) u):(Nn P w).is k u=true:=by
 cases k with
 |inl i=>obtain⟨t,e⟩:=(show ∃ t,u=Bd i t from r);subst e;exact z7 P w i t
 |inr x=>obtain⟨t,e⟩:=(show ∃ t,u=rm x t from r);subst e;exact ZU P w x t
theorem eR{P:ua}{w:Ea}:∀ {a:List Key} {us:List Value},Pd (a.map kV) us->ItemsAre (Nn P w) a us
 |[],_,r=>by rw[Af]at r;cases r;exact .nil
 |k::a,_,r=>by
  rw[Ia]at r;cases r with
  |cons h t=>exact .cons (GD h) (eR t)
noncomputable abbrev KT(H:Hp):List (List Key × V)->List (List Key × Addr × Value)->Prop:=Paired λp q=>p.1=q.1/\H q.2.1=some (.tup (p.1.map kV))/\vd p.2 q.2.2
theorem KT.val{H:Hp}{kvs:List (List Key × V)}{xs:List (List Key × Addr × Value)}(r:KT H kvs xs)(k:List Key):Np (Kq kvs k) ((Rr xs k).map (·.2)):=by
 induction r with
 |nil=>exact True.intro
 |@cons p q i c h t g=>
  obtain⟨d,_,f⟩:=h;by_cases e:p.1=k
  ·have a:q.1=k:=d.symm.trans e;have b:Rr (q::c) k=some q.2:=by simp[Rr,Dd,a]
   rw[wE e,b];exact f
  ·have a:¬ q.1=k:=λz=>e (d.trans z);have b:Rr (q::c) k=Rr c k:=by simp[Rr,Dd,a]
   rw[WC e,b];exact g
theorem KT.My{H:Hp}{kvs:List (List Key × V)}{xs:List (List Key × Addr × Value)}(r:KT H kvs xs)(k:List Key){y:V}{u:Value}(g:vd y u) :
  KT H (kvs.map λb=>if b.1=k then (b.1,y)else b) (xs.map (putAt k u)):=by
 induction r with
 |nil=>exact .nil
 |@cons p q i j h t f=>
  rw[Ia,Ia];refine .cons ?_ f;obtain⟨a,c,d⟩:=h;unfold putAt;by_cases e:p.1=k
  ·rw[ia e,ia (a.symm.trans e)];exact⟨a,c,g⟩
  ·rw[ja e,ja (λz=>e (a.trans z))];exact⟨a,c,d⟩
theorem KT.put{H:Hp}{kvs:List (List Key × V)}{xs:List (List Key × Addr × Value)}(r:KT H kvs xs)(k:List Key){b:Addr}{y:V}{u:Value}(hb:H b=some (.tup (k.map kV)))(a:vd y u) :
  KT H (Sn kvs k y) (storedH xs k b u):=by
 have e:(kvs.any λc=>decide (c.1=k))=(Rr xs k).isSome:=by
  rw[yN,(r.val k).Qk,At]
 unfold Sn storedH;rw[e];by_cases q:(Rr xs k).isSome=true
 ·rw[ia q,ia q];exact r.My k a
 ·rw[ja q,ja q];exact Paired.snoc r ⟨rfl,hb,a⟩
theorem KT.keeps{H a:Hp}{kvs:List (List Key × V)}{xs:List (List Key × Addr × Value)}(r:KT H kvs xs)(c:∀ b ys,H b=some (.tup ys)->a b=some (.tup ys)):KT a kvs xs:=
 Paired.jr r λ_ _ z=>⟨z.1,c _ _ z.2.1,z.2.2⟩
section
variable{P:ua}{w:Ea}{H:Hp}{h:Heap}{a:Addr}
theorem FR{u:HO}(ok:yi P w H h)(e:Rd H a u):lj P w H h a u:=e.ok ok
theorem uv{kvs:List (Key × V)}(ok:yi P w H h)(e:Rd H a (.dK kvs)):kvs.length<=sizeLine/\(a == yg)=false/\∃ vs,KV kvs vs/\h.DictOf (Nn P w) a vs:=
 show lj P w H h a (.dK kvs)from FR ok e
theorem EH{kvs:List (Key × V)}(ok:yi P w H h)(e:H a=some (.dK kvs)):kvs.length<=sizeLine/\(a == yg)=false/\∃ vs,KV kvs vs/\h.DictOf (Nn P w) a vs:=uv ok (.inl e)
theorem wD{c:List Key}(ok:yi P w H h)(e:H a=some (.tup (c.map kV))):(Ep (Nn P w)).is h c a:=by
 obtain⟨_,b,r,o,d,f,n,g⟩:=(show lj P w H h a (.tup (c.map kV))from ok a _ e)
 exact⟨o,b.toArray,n,d,f,g,by simpa using eR r⟩
theorem VD{kvs:List (List Key × V)}(ok:yi P w H h)(e:Rd H a (.dT kvs)):kvs.length<=sizeLine/\(a == yg)=false/\
  ∃ xs,KT H kvs xs/\h.DictOfH (Ep (Nn P w)) a xs:=by
 obtain⟨z,y,xs,r,o,f,d,g,i,j,k,n⟩:=(show lj P w H h a (.dT kvs)from FR ok e)
 refine⟨z,y,xs,r,o,f,d,g,i,j,k,λx b=>?_,n⟩;have all:∀ {l:List (List Key × V)} {m:List (List Key × Addr × Value)},KT H l m->∀ x∈m,(Ep (Nn P w)).is h x.1 x.2.1:=by
  intro l m q;induction q with
  |nil=>intro x b;exact nomatch b
  |@cons p q u v c t s=>
   intro x b;rcases Fa.mp b with e|b
   ·subst e;exact wD ok (by rw[<-c.1];exact c.2.1)
   ·exact s x b
 exact all r x b
theorem AT{kvs:List (List Key × V)}(ok:yi P w H h)(e:H a=some (.dT kvs)):kvs.length<=sizeLine/\(a == yg)=false/\
  ∃ xs,KT H kvs xs/\h.DictOfH (Ep (Nn P w)) a xs:=VD ok (.inl e)
end
noncomputable def Yk(H:Hp)(a:Addr)(y:V)(r:Option V):Prop:=
 (∃ c k,Rd H a (.dK c)/\y=kV k/\r=Kq c k)\/∃ c k b,Rd H a (.dT c)/\y=.ref b/\H b=some (.tup (k.map kV))/\r=Kq c k
noncomputable def Yy(H:Hp)(a:Addr)(y v:V)(d:Hp):Prop:=
 (∃ c k,H a=some (.dK c)/\y=kV k/\c.length<sizeLine/\d=upd H a (.dK (Sn c k v)))\/
 ∃ c k b,H a=some (.dT c)/\y=.ref b/\H b=some (.tup (k.map kV))/\c.length<sizeLine/\d=upd H a (.dT (Sn c k v))
theorem Yk.k{H:Hp}{a:Addr}{kvs:List (Key × V)}{k:Key}(e:H a=some (.dK kvs)):Yk H a (kV k) (Kq kvs k):=.inl ⟨kvs,k,.inl e,rfl,rfl⟩
theorem Yk.t{H:Hp}{a b:Addr}{kvs:List (List Key × V)}{k:List Key}(e:H a=some (.dT kvs))(c:H b=some (.tup (k.map kV))):Yk H a (.ref b) (Kq kvs k):=.inr ⟨kvs,k,b,.inl e,rfl,c,rfl⟩
theorem Yy.k{H:Hp}{a:Addr}{kvs:List (Key × V)}{k:Key}{v:V}(e:H a=some (.dK kvs))(b:kvs.length<sizeLine):Yy H a (kV k) v (upd H a (.dK (Sn kvs k v))):=.inl ⟨kvs,k,e,rfl,b,rfl⟩
theorem Yy.t{H:Hp}{a b:Addr}{kvs:List (List Key × V)}{k:List Key}{v:V}(e:H a=some (.dT kvs))(c:H b=some (.tup (k.map kV)))(d:kvs.length<sizeLine) :
  Yy H a (.ref b) v (upd H a (.dT (Sn kvs k v))):=.inr ⟨kvs,k,b,e,rfl,c,d,rfl⟩
section
variable{X:Cx}{pins:List (Addr × Obj)}{σ:St}{H:Hp}{s:Shared}{a:Addr}{y v:V}{u r:Value}{o:Option V}{A:Da}{E:Value->Shared->Prop}
theorem Inv.rP(I:Inv X pins σ H s):yg<s.heap.objs.size:=by
 have h:mainGlobals<s.heap.objs.size:=(I.mod.glob.keeps I.bk).lt;exact Kr (by decide) h
theorem D2{Q:Value->Shared->Prop}(x:A.units+1<cLine)(I:Inv X pins σ H s)(g:Yk H a y (some v))(q:vd y u)(h:∀ d s',Inv X pins σ H s'->vd v d->Q d s') :
  wpAny (model X.prog X.w) A (Mi (.ref a) u) Q E s:=by
 rcases g with⟨n,k,e,i,l⟩|⟨n,k,b,e,i,r,l⟩
 ·subst i;obtain⟨z,hd,B,rel,f⟩:=uv I.Pb e;obtain⟨d,m,c⟩:=Np.some_of (v:=v) (o:=mo B k) (by rw[l];exact rel.val k);exact wpAny_getItem_of (GD q) f.mapOf m (h d _ (I.tok _) c)
 ·subst i;cases (show u=nb b from q);obtain⟨z,hd,xs,rel,f⟩:=VD I.Pb e;obtain⟨d,m,c⟩:=Np.some_of (v:=v) (o:=(Rr xs k).map (·.2)) (by rw[l];exact rel.val k);obtain⟨p,t,j⟩:=Db.mp m;refine wpAny_getItem_heap (vn x) (wD I.Pb r) f t ?_;rw[j];exact h d _ (I.tok _) c
theorem SZ{Q:Value->Shared->Prop}(m:A.units+1<cLine)(I:Inv X pins σ H s)(g:Yk H a y o)(i:vd y u)(h:∀ s',Inv X pins σ H s'->Q (.bool (!o.isSome)) s') :
  wpAny (model X.prog X.w) A (Qc .NotIn u (.ref a)) Q E s:=by
 rcases g with⟨f,k,e,d,l⟩|⟨f,k,b,e,d,j,l⟩
 ·subst d;obtain⟨z,hd,n,rel,c⟩:=uv I.Pb e;refine wpAny_notIn_of (GD i) hd c.mapOf ?_;rw[<-(rel.val k).Qk,<-l];exact h _ (I.tok _)
 ·subst d;cases (show u=nb b from i);obtain⟨z,hd,xs,rel,c⟩:=VD I.Pb e;refine wpAny_notIn_heap (vn m) (wD I.Pb j) hd c ?_;have q:=(rel.val k).Qk;rw[At]at q;rw[<-q,<-l];exact h _ (I.tok _)
theorem OE{h':Heap}{t':Nat}{ob:HO}(I:Inv X pins σ H s)(g:bC (H a))(f:Rc a s.heap h')(d:∃ q,h'.get? a=some q)(c:lj X.prog X.w (upd H a ob) h' a ob) :
  Inv X pins σ (upd H a ob) { s with heap:=h',toks:=t' }:=
 I.write (x:=a) (e:=a) g (.inl rfl) (λb q hb z=>(f.2 b hb).trans z) d c
theorem gE{P:ua}{w:Ea}{b:Hp}{h':Heap}{kvs:List (Key × V)}{vs:List (Key × Value)}(z:kvs.length<=sizeLine)(hd:(a == yg)=false)(rel:KV kvs vs)(dd:h'.DictOf (Nn P w) a vs) :
  lj P w b h' a (.dK kvs):=⟨z,hd,vs,rel,dd⟩
theorem EU{x:Hp}{Q:Unit->Shared->Prop}(R:A.units+1<cLine)(I:Inv X pins σ H s)(g:Yy H a y v x)(G:vd y u)(F:vd v r)(h:∀ s',Inv X pins σ x s'->Q () s') :
  wpAny (model X.prog X.w) A (EA (.ref a) u r) Q E s:=by
 rcases g with⟨d,k,e,n,l,m⟩|⟨d,k,b,e,n,B,l,m⟩
 ·subst n m;obtain⟨z,hd,S,rel,j⟩:=EH I.Pb e;have t:S.length<=sizeLine:=by rw[<-rel.length];exact z
  have o:(Sn d k v).length<=sizeLine:=by have:=YH d k v;omega
  refine wpAny_setItem_pairs (hsz:=t) (GD G) j λD f p=>h _ ?_;have P:∃ q,D.get? a=some q:=let ⟨q,_,_,i,_⟩:=f;⟨q,i⟩;exact OE I (by rw[e];exact True.intro) p P (gE o hd (rel.put k F) f)
 ·subst n m;cases (show u=nb b from G);obtain⟨z,hd,xs,rel,j⟩:=AT I.Pb e;have t:xs.length<=sizeLine:=by rw[<-Paired.length rel];exact z
  have o:(Sn d k v).length<=sizeLine:=by have:=YH d k v;omega
  refine wpAny_setItem_heap (hsz:=t) (vn R) (wD I.Pb B) j λD f p=>h _ ?_;obtain⟨q,K,J,i,L,M,N,_,O⟩:=f;refine OE I (by rw[e];exact True.intro) p ⟨q,i⟩ ⟨o,hd,_,(rel.put k B F).keeps λc T C=>?_,q,K,J,i,L,M,N,O⟩;rw[Ad (GG C e (λz=>nomatch z))];exact C
end
section
variable{X:Cx}{pins:List (Addr × Obj)}{σ:St}{H:Hp}{s:Shared}{a:Addr}{kvs:List (Key × V)}{k:Key}{u:Value}{A:Da}{E:Value->Shared->Prop}
end
noncomputable def DH(i:Ga):Prop:=∀ b a,aq i false b a=L9 [b,a] (Mi b a)
theorem eW{prog:ua}{w:Ea}{A:Da}{E:Value->Shared->Prop}{s:Shared}{env:Og}{b a:Ga}{k:Se}{T p:String}{Q:Value->Shared->Prop}
  (m:typeLookup (.type T) "__getitem__" = pure (some (.builtin p))) (n:DH a)
  (h:wpAny (model prog w) A (Nb b env) (λo d=>wpAny (model prog w) A (Nb a env) (λi s₂=>s₂.TypeIs o T/\wpAny (model prog w) A (Mi o i) Q E s₂) E d) E s) :
  wpAny (model prog w) A (Nb (.Subscript b a k) env) Q E s:=by
 refine jz (Eb h (λo d g=>Eb g (λi s₂ c=>?_) λ_ _ x=>x) λ_ _ x=>x);obtain⟨l,c⟩:=c;unfold Ft;refine aa ?_;rw[getitemInPython_of_ne l.not_modules];refine aa (DF l m ?_);have f:wpAny (model prog w) A (aq a false o i) (λr e=>wpAny (model prog w) A (letTemporaryGo b o r >>= λ_=>pure r) Q E e) E s₂:=by
  rw[n o i];exact wpAny_operating (Eb c (λr e j=>aa (wpAny_letTemporaryGo (da j))) λ_ _ x=>x)
 first
  |exact da (aa f)
  |exact aa (da (aa f))
  |exact aa f
theorem mV{X:Cx}{c:List (Addr × Obj)}{σ:St}{H:Hp}{s:Shared}{a:Addr}{y:V}{o:Option V}(I:Inv X c σ H s)(g:Yk H a y o):s.TypeIs (.ref a) "dict":=by
 rcases g with⟨f,k,e,_,_⟩|⟨f,k,b,e,_,_,_⟩
 ·obtain⟨_,_,h,_,d⟩:=uv I.Pb e;exact d.typeIs
 ·obtain⟨_,_,xs,_,d⟩:=VD I.Pb e;exact d.typeIs
noncomputable def j9(e ty:TE):TE:=λc H Q=>e c H λx d=>ty c d λy b=>∃ a v,x=.ref a/\Yk b a y (some v)/\Q v b
section
variable{X:Cx}{o i e value:Ga}{pos pos' tpos:Se}{td ty tv:TE}
theorem j3(p:X.A.units+1<cLine)(m:PE X o td)(l:PE X i ty)(n:DH i):PE X (.Subscript o i pos) (j9 td ty):=by
 intro b s e H Q I h;refine eW PySem.F.slot_dict_getitem.lookup n (ae (m b s e H _ I h) λu s1 ⟨x,H1,j,t,q⟩=>ae (l b s1 e H1 _ j q) λz s2 ⟨y,f,d,w,a,v,ex,g,r⟩=>?_);subst ex;obtain rfl:u=nb a:=t;exact⟨mV d g,D2 p d g w λC B k c=>⟨v,f,k,c,r⟩⟩
end
theorem sY{P:ua}{w:Ea}{H:Hp}(h:Heap)(hb:yg<h.objs.size):lj P w H (h.push { cls:=.type "dict",data:=.dict #[] }) h.objs.size (.dK []):=
 ⟨ci _,pd.mpr (Me (ra hb)),[],.nil,KJ h⟩
noncomputable def J7:TE:=λ_ H Q=>∀ p,H p=none->Q (.ref p) (upd H p (.dK []))
section
variable{X:Cx}{pos:Se}
theorem uQ:PE X (.Dict [] [] pos) J7:=λb s c H Q I h=>
 wpAny_Dict_empty ⟨.ref s.heap.objs.size,_,I.laid (a:=s.heap.objs.size) (o:=.dK []) (t':=s.toks) (λ_ _ q=>ba _ q) (pa _) (sY s.heap I.rP),rfl,h _ (I.Pb.fresh (pa _))⟩
end
section
variable{X:Cx}{pins:List (Addr × Obj)}{σ:St}{H:Hp}{s:Shared}{a:Addr}{kvs:List (Key × V)}{A:Da}{E:Value->Shared->Prop}
theorem IV{Q:Value->Shared->Prop}(I:Inv X pins σ H s)(e:Rd H a (.dK kvs))(h:∀ p s',H p=none->Inv X pins σ (upd H p (.dK kvs)) s'->Q (.ref p) s'):wpAny (model X.prog X.w) A (call (.type "dict") [.ref a]) Q E s:=by
 obtain⟨z,hd,j,rel,f⟩:=uv I.Pb e;refine kt_call_dict hd f (by rw[<-rel.length];exact z) λi c g=>?_;refine h _ _ (I.Pb.fresh (pa _)) (I.laid (a:=s.heap.objs.size) (o:=.dK kvs) (t':=s.toks) (λb q d=>?_) (pa _) (gE z (pd.mpr (Me (ra I.rP))) rel c));exact(g.2 b (ra (la d))).trans (ba _ d)
end
end L2
namespace L4
open PySem PySem.Spec PyProof.Rows L2
noncomputable def Mq:D->Option Key
 | .int i=>some (.inl i)
 | .str x=>some (.inr x)
 |_=>none
noncomputable def Zk(σ:Oa):D->Option (List (Key × D))
 | .Na b xs=>if b.length=xs.length then some (b.zip xs)else none
 | .ref n=>(match σ[n]? with
  |some (.Na a)=>some a
  |some (.Kf a)=>some a
  |_=>none)
 |_=>none
noncomputable def Fk(kvs:List (Key × D))(k:Key):Option D:=(kvs.find? λa=>decide (a.1=k)).map (·.2)
noncomputable def Nm(kvs:List (Key × D))(k:Key)(d:D):List (Key × D):=
 if kvs.any (λa=>decide (a.1=k))then kvs.map λa=>if a.1=k then (a.1,d)else a else kvs++[(k,d)]
section
variable{T:Tb}{X:Cx}{μ:List Addr}{H:Hp}
theorem jG{y:D}{v:V}{k:Key}(h:Rep T μ H y v)(e:Mq y=some k):v=kV k:=by
 cases y<;>simp[Mq]at e<;>subst e<;>rw[Rep]at h<;>exact h
theorem UC:∀ {c:List Key} {ds:List D} {kvs:List (Key × V)},kvs.map (·.1)=c->Ua T μ H ds (kvs.map (·.2))->Oh T μ H (c.zip ds) kvs
 |c,[],kvs,b,a=>by
  rw[Ua]at a;have:kvs=[]:=by simpa using a
  subst this;rw[<-b];exact .nil
 |c,d::ds,kvs,b,a=>by
  rw[Ua]at a;obtain⟨v,r,e,f,g⟩:=a;cases kvs with
  |nil=>cases e
  |cons p kvs=>
   rw[Ia]at e b;cases e;rw[<-b];exact .cons ⟨rfl,f⟩ (UC rfl g)
theorem Gz{σ:Oa}(r:Rel T μ H σ){x:D}{v:V}{kvs:List (Key × D)}(h:Rep T μ H x v)(e:Zk σ x=some kvs):∃ a vs,v=.ref a/\Rd H a (.dK vs)/\Oh T μ H kvs vs:=by
 cases x with
 |Na i xs=>
  rw[Rep]at h;obtain⟨a,vs,rfl,_,b,c,f⟩:=h;unfold Zk at e;dsimp only at e;split at e
  ·cases e;exact⟨a,vs,rfl,b,UC c f⟩
  ·cases e
 |ref n=>
  unfold Zk at e;dsimp only at e;cases q:σ[n]? with
  |none=>rw[q]at e;cases e
  |some o=>
   rw[q]at e;cases o with
   |Na d=>
    cases e;obtain⟨a,rfl,_,vs,b,c⟩:=r.at h q;exact⟨a,vs,rfl,.inl b,c⟩
   |Kf d=>
    cases e;obtain⟨a,rfl,_,g,vs,b,c⟩:=r.at h q;exact⟨a,vs,rfl,.inr ⟨g,b⟩,c⟩
   |_=>cases e
 |_=>cases e
theorem DO{kvs:List (Key × D)}{vs:List (Key × V)}(h:Oh T μ H kvs vs)(k:Key):(Fk kvs k=none/\Kq vs k=none)\/∃ d v,Fk kvs k=some d/\Kq vs k=some v/\Rep T μ H d v:=by
 unfold Oh at h;induction h with
 |nil=>exact .inl ⟨rfl,rfl⟩
 |@cons p q c j h t i=>
  obtain⟨b,g⟩:=h;by_cases e:p.1=k
  ·have a:q.1=k:=b.symm.trans e;exact .inr ⟨p.2,q.2,by unfold Fk;rw[Dd,Nd e];rfl,wE a,g⟩
  ·have a:¬ q.1=k:=λz=>e (b.trans z);have f:Fk (p::c) k=Fk c k:=by unfold Fk;rw[Dd,Cb e]
   rw[f,WC a];exact i
theorem xZ{kvs:List (Key × D)}{vs:List (Key × V)}(h:Oh T μ H kvs vs)(k:Key):(kvs.any λa=>decide (a.1=k))=(vs.any λa=>decide (a.1=k)):=by
 unfold Oh at h;induction h with
 |nil=>rfl
 |@cons p q c d h t b=>rw[Oc,Oc,b,h.1]
theorem ZN{d e:Type}{F:d->e->Prop}{f:d->d}{g:e->e}(c:∀ a b,F a b->F (f a) (g b)):∀ {l:List d} {m:List e},Paired F l m->Paired F (l.map f) (m.map g)
 |_,_,.nil=>.nil
 |_,_,.cons h t=>.cons (c _ _ h) (ZN c t)
theorem SR{d e:Type}{F:d->e->Prop}{a:d}{b:e}(c:F a b):∀ {l:List d} {m:List e},Paired F l m->Paired F (l++[a]) (m++[b])
 |_,_,.nil=>.cons c .nil
 |_,_,.cons h t=>.cons h (SR c t)
theorem ML{kvs:List (Key × D)}{vs:List (Key × V)}(h:Oh T μ H kvs vs)(k:Key){d:D}{v:V}(hd:Rep T μ H d v):Oh T μ H (Nm kvs k d) (Sn vs k v):=by
 unfold Nm Sn;rw[xZ h k];split
 ·refine ZN (λp q h=>?_) h;by_cases e:p.1=k
  ·rw[ia e,ia (h.1.symm.trans e)];exact⟨h.1,hd⟩
  ·rw[ja e,ja (λz=>e (h.1.trans z))];exact h
 ·exact SR ⟨rfl,hd⟩ h
theorem Oh.mono{μ':List Addr}{a:Hp}(e:Ext μ H μ' a){kvs:List (Key × D)}{vs:List (Key × V)}(h:Oh T μ H kvs vs):Oh T μ' a kvs vs:=Paired.jr h λ_ _ z=>⟨z.1,Rep.mono e _ _ z.2⟩
theorem _root_.L2.Yk.kr{H:Hp}{a:Addr}{kvs:List (Key × V)}{k:Key}(e:Rd H a (.dK kvs)):Yk H a (kV k) (Kq kvs k):=.inl ⟨kvs,k,e,rfl,rfl⟩
noncomputable def Yu(x y:D):M D:=λb=>match Mq y with
 |some k=>(match Zk b x with
  |some a=>(match Fk a k with
   |some d=>.ok d b
   |none=>.bad)
  |none=>.bad)
 |none=>.bad
theorem kJ{o i:Ga}{p fi:Ev->M D}{g:Se}(hu:X.A.units+9<cLine)(G:FE T X o p)(F:FE T X i fi)(L:DH i):FE T X (.Subscript o i g) (Hb Yu p fi):=by
 intro c s U H Q I h;refine j3 (by omega) G F L c s U H Q I ?_;obtain⟨μ,t,Z,q,K,J⟩:=h;refine⟨μ,t,Z,q,K,J.bind λx m l v H1 _ z S P O=>⟨l,t,m,q.mono z,S,O.bind λy n Y u H2 _ B r R b=>?_⟩⟩;unfold Yu at b;cases f:Mq y with
 |none=>rw[f]at b;exact b.elim
 |some k=>
  rw[f]at b;dsimp only at b;cases e:Zk n x with
  |none=>rw[e]at b;exact b.elim
  |some N=>
   rw[e]at b;dsimp only at b;obtain⟨a,vs,rfl,C,E⟩:=Gz r (Rep.mono B _ _ P) e;obtain rfl:=jG R f;rcases DO E k with⟨j,_⟩|⟨d,w,j,V,W⟩
   ·rw[j]at b;exact b.elim
   ·rw[j]at b;exact⟨a,w,rfl,by rw[<-V];exact Yk.kr C,Kb.here b r W⟩
noncomputable def n9:LC:=λx y v H Q=>∃ a b,x=.ref a/\Yy H a y v b/\Q b
theorem nY(l:X.A.units+9<cLine):dS X n9:=by
 intro b s p H o i v e m u Q I j f k h;obtain⟨a,c,rfl,g,q⟩:=h;obtain rfl:e=nb a:=j;exact EU (by omega) I g f k λn d=>⟨c,d,q⟩
noncomputable def Tt(ρ:Ev)(d x:D)(y:D):M Fl:=λb=>match x with
 | .ref n=>(match Mq y with
  |some k=>(match b[n]? with
   |some (.Na a)=>if a.length<Mh then .ok (.nx ρ) (b.set n (.Na (Nm a k d)))else .bad
   |_=>.bad)
  |none=>.bad)
 |_=>.bad
noncomputable def EJ(ρ:Ev)(fi:Ev->M D)(d x:D):M Fl:=xs ρ (fi ρ) (Tt ρ d x)
noncomputable def ZI(ρ:Ev)(a fi:Ev->M D)(d:D):M Fl:=xs ρ (a ρ) (EJ ρ fi d)
noncomputable def dy(f b fi:Ev->M D):Ev->M Fl:=λa=>xs a (f a) (ZI a b fi)
theorem wB{e o i:Ga}{f R fi:Ev->M D}{p b:Se}(hu:X.A.units+9<cLine)(Z:FE T X e f)(ho:FE T X o R)(hi:FE T X i fi)
  (Y:∀ v,ml (.Subscript o i b) X.env v=(do
   let t <-Yf [v] (Nb o X.env);let E <-Yf [v,t] (Nb i X.env)
   Tq b
   Yf [v,t,E] (EA t E v)
   release [v,t,E] []):=by intro _;rfl)
  (hs:MS [.Subscript o i b] e p.line X.env=pure false:=by rfl) (hw:NS [.Subscript o i b] e X.env=pure none:=by rfl)
  (W:(pf [.Subscript o i b] X.env).map (·.2)=[ml (.Subscript o i b) X.env]:=by rfl):FS T X (.Assign [.Subscript o i b] e p) (dy f R fi):=by
 intro m s V H D I hq;refine pX Z (kZ ho hi (nY hu) Y) hs hw W m s V H D I ?_;obtain⟨μ,L,σ,g,hr,hp⟩:=hq;refine⟨μ,L,σ,g,hr,hp.xs g λd N J v H1 _ j r1 q1 p1=>?_⟩;refine⟨J,L,N,g.mono j,r1,p1.xs (g.mono j) λx O K vo H2 _ r r2 q2 p2=>?_⟩;refine⟨K,L,O,(g.mono j).mono r,r2,p2.xs ((g.mono j).mono r) λy P q vi Q _ u U q3 c=>?_⟩;have hd:=Rep.mono u _ _ (Rep.mono r _ _ q1);have hx:=Rep.mono u _ _ q2;unfold Tt at c;cases x with
 |ref n=>
  dsimp only at c;cases w:Mq y with
  |none=>rw[w]at c;exact c.elim
  |some k=>
   rw[w]at c;dsimp only at c;cases B:P[n]? with
   |none=>rw[B]at c;exact c.elim
   |some ob=>
    rw[B]at c;cases ob with
    |Na h=>
     dsimp only at c;by_cases C:h.length<Mh
     ·rw[ia C]at c;obtain⟨a,rfl,hn,F,S,g2⟩:=U.at hx B;obtain rfl:=jG q3 w;have G:=U.write (o:=.dK (Sn F k v)) (ob:=.Na (Nm h k d)) hn ⟨_,Jg,by
       have ex:Ext q Q q (upd Q a (.dK (Sn F k v))):=Mw (La hn) S (λ_ z=>by cases z) (λ_ _ z=>by cases z);exact ML (Oh.mono ex g2) k (Rep.mono ex _ _ hd)⟩
      have l:F.length=h.length:=by unfold Oh at g2;exact(Paired.length g2).symm
      exact⟨a,_,rfl,Yy.k S (by rw[l];exact Aa C (by decide)),c _ (.nx V) _ G.1 G.2 (((g.mono j).mono r).mono u |>.mono G.1)⟩
     ·rw[ja C]at c;exact c.elim
    |_=>exact c.elim
 |_=>exact c.elim
noncomputable def Jp:Ev->M D:=λ_ a=>.ok (.ref a.length) (a++[.Na []])
theorem vu{b:Se}:FE T X (.Dict [] [] b) Jp:=by
 intro a s e H Q I h;obtain⟨μ,g,i,f,c,d⟩:=h;refine uQ a s e H Q I λp hn=>?_;exact d (μ++[p]) (.ref p) _ (uy hn) (c.push hn ⟨[],Jg,.nil⟩) (jF c)
theorem AW{b:Se}:FE T X (.Dict [] [] b) (eC (.Na [] [])):=by
 intro a s f H Q I h;obtain⟨μ,i,j,g,c,e⟩:=h;refine uQ a s f H Q I λp hn=>?_;exact e μ (.ref p) _ (Ik hn) (c.fresh hn) (by rw[Rep];exact⟨p,[],rfl,λhm=>(by obtain⟨u,d,_⟩:=c.mem hm;rw[hn]at d;cases d),(.inl Jg),rfl,Ua.nil⟩)
noncomputable def wM:List V->Hp->VK->Prop:=λxs H Q=>∃ a b,xs=[.ref a]/\Rd H a (.dK b)/\∀ p,H p=none->Q (.ref p) (upd H p (.dK b))
theorem gZ:Wm X (.type "dict") wM:=by
 intro b s i H xs j Q I r h;obtain⟨a,d,rfl,e,q⟩:=h;obtain⟨u,rfl,f⟩:=Bs r;cases f;exact IV I e λp g hn c=>⟨.ref p,_,c,rfl,q p hn⟩
noncomputable def Bz(ds:List D):M D:=λb=>match ds with
 |[x]=>(match Zk b x with
  |some a=>.ok (.Na (a.map (·.1)) (a.map (·.2))) b
  |none=>.bad)
 |_=>.bad
theorem TK:∀ {kvs:List (Key × D)} {vs:List (Key × V)},Oh T μ H kvs vs->vs.map (·.1)=kvs.map (·.1)/\Ua T μ H (kvs.map (·.2)) (vs.map (·.2))
 |_,_,.nil=>⟨rfl,Ua.nil⟩
 |_,_,.cons h t=>by
  obtain⟨a,b⟩:=TK t;exact⟨by rw[Ia,Ia,a,h.1],Ua.cons h.2 b⟩
theorem HV:Ot T wM Bz:=by
 intro E μ H o f s Q r p h
 match f with
 |[]=>exact h.elim
 |[x]=>
  unfold Bz at h;dsimp only at h;cases b:Zk o x with
  |none=>rw[b]at h;exact h.elim
  |some j=>
   rw[b]at h;rw[Ua]at p;obtain⟨v,q,rfl,k,d⟩:=p;rw[Ua]at d;subst d;obtain⟨a,e,rfl,g,i⟩:=Gz r k b;refine⟨a,e,rfl,g,λl hn=>?_⟩;obtain⟨m,n⟩:=TK i;exact h μ (.ref l) _ (Ik hn) (r.fresh hn) (by rw[Rep];exact⟨l,e,rfl,λhm=>(by obtain⟨u,c,_⟩:=r.mem hm;rw[hn]at c;cases c),(.inl Jg),m,Ua.mono (Ik hn) _ _ n⟩)
 |_::_::_=>exact h.elim
end
section
variable{T:Tb}{X:Cx}
structure InK(K:W.Frag)(C:Addr):Prop where
 cl:L2.Zi K C
 a:W.findIn K (.ref C) "__class__" = some (some (.builtin "object.__class__"))
 n:W.specialIn K (.builtin "object.__class__") "__get__" = some (some (.builtin "getset_descriptor.__get__"))
 t:W.takesIn K (.builtin "object.__class__")=some true
 m:W.mroIn K C (.type "object")=some true
end
section
variable{T:Tb}{X:Cx}
noncomputable def vB(ds:List D):M D:=λa=>match ds with
 |[x]=>(match x with
  | .int i=>.ok (.int i) a
  | .bl k=>.ok (.int (if k then 1 else 0)) a
  |_=>.bad)
 |_=>.bad
theorem zJ(k:Bool)(σ:Oa):vB [.bl k] σ=.ok (.int (if k then 1 else 0)) σ:=rfl
theorem WQ:Ot T (λxs H Q=>(∃ i,xs=[.int i]/\Q (.int i) H)\/∃ k,xs=[.bl k]/\Q (.int (if k then 1 else 0)) H) vB:=by
 intro E d H e xs c Q r p h
 match xs with
 |[]=>exact h.elim
 |[x]=>
  rw[Ua]at p;obtain⟨v,w,rfl,a,b⟩:=p;rw[Ua]at b;subst b;cases x with
  |int i=>rw[Rep]at a;subst a;exact .inl ⟨i,rfl,Kb.here h r (by rw[Rep])⟩
  |bl k=>rw[Rep]at a;subst a;exact .inr ⟨k,rfl,Kb.here h r (by rw[Rep])⟩
  |_=>exact h.elim
 |_::_::_=>exact h.elim
inductive OA(X:Cx):List (Option Ga)->List Ga->List (qa × qa)->Prop
 |nil:OA X [] [] []
 |cons {k v:Ga} {x y:qa} {ks:List (Option Ga)} {vs:List Ga} {l:List (qa × qa)}:PE X k (tC (.str x))->PE X v (tC (.str y))->OA X ks vs l->OA X (some k::ks) (v::vs) ((x,y)::l)
theorem OA.all{ks vs l}(h:OA X ks vs l):ks.all (·.isSome)=true/\ks.length=vs.length/\ks.length=l.length:=by
 induction h with
 |nil=>exact⟨rfl,rfl,rfl⟩
 |cons _ _ _ a=>exact⟨by simpa using a.1,by simpa using a.2.1,by simpa using a.2.2⟩
theorem zm{kvs:List (Key × V)}{k:Key}{v:V}(h:k ∉ kvs.map (·.1)):Sn kvs k v=kvs++[(k,v)]:=by
 unfold Sn;rw[ja];intro z;rw[Hg]at z;obtain⟨x,a,e⟩:=z;exact h (Ra.mpr ⟨x,a,of_decide_eq_true e⟩)
end
section
variable{T:Tb}{X:Cx}{e:Ga}{f:Ev->M D}{pos:Se}
end
end L4
namespace L4
open PySem PySem.Spec PySem.Calls PyProof.Rows L2
section
variable{T:Tb}{X:Cx}
end
end L4
namespace L4
open PySem PySem.Spec PyProof.Rows L2
noncomputable def Ry(o:D->List D->M D)(m:M (List D))(x:D):M D:=λa=>match Zk a x with
 |some _=>Mc m (o x) a
 |none=>.bad
noncomputable def sy(o:D->List D->M D)(f:Ev->M D)(fs:Ev->M (List D)):Ev->M D:=λa=>Mc (f a) (Ry o (fs a))
section
variable{T:Tb}{X:Cx}{o e:Ga}{es:List Ga}{f:Ev->M D}{fs:Ev->M (List D)}{name:qa}{apos cpos:Se}{id:String}{r:V->List V->Hp->VK->Prop}{g:D->List D->M D}
theorem bN{p:Addr}{kvs:List (Key × V)}{b:List (Addr × Obj)}{σ:St}{H:Hp}{s:Shared}(I:Inv X b σ H s)(d:Rd H p (.dK kvs)):s.TypeIs (.ref p) "dict"/\∀ a,nb p=.ref a->∃ ob,s.heap.get? a=some ob/\ob.dict=none:=by
 obtain⟨_,_,_,_,o,_,_,e,ex,_⟩:=uv I.Pb d;refine⟨⟨o,e,ex.1⟩,λa c=>?_⟩;cases c;exact⟨o,e,ex.2.1⟩
noncomputable def wW(r:V->List V->Hp->VK->Prop)(to:TE):TE:=λd H Q=>to d H λx c=>(∃ a b,x=.ref a/\Rd c a (.dK b))/\r x [] c Q
noncomputable def Z1(r:V->List V->Hp->VK->Prop)(to:TE)(t:TA):TE:=λd H Q=>to d H λx c=>(∃ a b,x=.ref a/\Rd c a (.dK b))/\t d c λxs e=>r x xs e Q
theorem sR{to:TE}(n:ti "dict")(slot:pz "dict" name id)(e:ql (.builtin id)=pure (.type "method_descriptor"))(hm:Sr X id r)(l:PE X o to)
  (c:Uc o name X.env (Nb o X.env)=Nb o X.env:=by rfl) (d:(apos.endLine == cpos.line)=true:=by rfl):PE X (.Call (.Attribute o name apos) [] [] cpos) (wW r to):=by
 intro b s g H Q I h;refine cu c d (ae (l b s g H _ I h) λv s1 ⟨x,H1,f,q,ty,p⟩=>?_);obtain⟨a,m,rfl,k⟩:=ty;cases q;obtain⟨i,j⟩:=bN f k;exact⟨"dict",id,n,slot,e,i,j,lg rfl (Es (hm b s1 g H1 (.ref a) [] (.ref a) [] Q f rfl .nil p))⟩
theorem M2{to:TE}{t:TA}(B:ti "dict")(slot:pz "dict" name id)(i:ql (.builtin id)=pure (.type "method_descriptor"))(hm:Sr X id r)(y:PE X o to)(u:PA X (e::es) t)
  (d:Uc o name X.env (Nb o X.env)=Nb o X.env:=by rfl)
  (g:((kc cpos (ma (e::es) X.env)).all (λx=>!x.1) && (ko cpos (Ni [] X.env)).all (λx=>x.1.isSome)
   && decide ((e::es).length+([]:List Oj).length+(if ([]:List Oj).isEmpty then 0 else 1)<30))=true:=by rfl)
  (f:(apos.endLine == cpos.line)=true:=by rfl) (z:ma (e::es) X.env=(false,Nb e X.env)::ma es X.env:=by rfl) (c:(kc cpos (ma es X.env)).any (·.1)=false:=by rfl) :
  PE X (.Call (.Attribute o name apos) (e::es) [] cpos) (Z1 r to t):=by
 intro b s j H Q I h;refine ev d g f rfl (ae (y b s j H _ I h) λv s1 ⟨x,H1,k,E,ty,C⟩=>?_);obtain⟨a,A,rfl,w⟩:=ty;cases E;obtain⟨p,q⟩:=bN k w;refine⟨"dict",id,B,slot,i,p,q,?_⟩;have l:=u cpos b s1 j H1 _ k C;rw[z]at l ⊢;refine lg (by show (false || (kc cpos (ma es X.env)).any (·.1))=false;rw[c]<;>rfl) (uj ?_);exact ae l λus s2 ⟨G,m,n,F,D⟩=>hm b s2 j m (.ref a) G (.ref a) us Q n rfl F D
theorem O1(O:ti "dict")(slot:pz "dict" name id)(p:ql (.builtin id)=pure (.type "method_descriptor"))(hm:Sr X id r)(M:my T r g)(J:FE T X o f)(G:FA T X (e::es) fs)
  (c:Uc o name X.env (Nb o X.env)=Nb o X.env:=by rfl)
  (i:((kc cpos (ma (e::es) X.env)).all (λx=>!x.1) && (ko cpos (Ni [] X.env)).all (λx=>x.1.isSome)
   && decide ((e::es).length+([]:List Oj).length+(if ([]:List Oj).isEmpty then 0 else 1)<30))=true:=by rfl)
  (d:(apos.endLine == cpos.line)=true:=by rfl) (n:ma (e::es) X.env=(false,Nb e X.env)::ma es X.env:=by rfl) (b:(kc cpos (ma es X.env)).any (·.1)=false:=by rfl) :
  FE T X (.Call (.Attribute o name apos) (e::es) [] cpos) (sy g f fs):=by
 intro j s S H Q I h;refine M2 O slot p hm J G c i d n b j s S H Q I ?_;obtain⟨W,A,Y,w,L,K⟩:=h;refine⟨W,A,Y,w,L,K.bind λx l q v Z _ D z y k=>?_⟩;unfold Ry at k;cases m:Zk l x with
 |none=>rw[m]at k;exact k.elim
 |some xs=>
  rw[m]at k;obtain⟨a,U,rfl,F,h2⟩:=Gz z y m;refine⟨⟨a,U,rfl,F⟩,q,A,l,w.mono D,z,k.bind λC u t V B _ E R N P=>?_⟩;exact M _ t B u x C (.ref a) V Q R (Rep.mono E _ _ y) N P
end
open Classical in
section
variable{T:Tb}{X:Cx}
end
section
variable{T:Tb}{X:Cx}
end
section
variable{T:Tb}{X:Cx}{tg iter:Ga}{f:Ev->M D}
end
section
variable{T:Tb}{X:Cx}{o e:Ga}{es:List Ga}{f:Ev->M D}{fs:Ev->M (List D)}{name:qa}{apos cpos:Se}{id:String}{r:V->List V->Hp->VK->Prop}{g:D->List D->M D}
end
noncomputable def QH:Ev->M D:=λ_ _=>.bad
noncomputable def Zt:Ev->M Fl:=λ_ _=>.bad
theorem FQ{T:Tb}{X:Cx}{e:Ga}:FE T X e QH:=λpins s st H Q I ⟨b,c,σ,_,_,a⟩=>a.elim
theorem CT{T:Tb}{X:Cx}{e:Stmt}:FS T X e Zt:=λpins s st H D I ⟨b,c,σ,_,_,a⟩=>a.elim
section
variable{X:Cx}{pins:List (Addr × Obj)}{σ:St}{H:Hp}{s:Shared}{h':Heap}
theorem NB{H:Hp}{a b:Addr}{u:HO}(e:H b=some u)(n:H a=none):b≠a:=λz=>by rw[z,n]at e;cases e
theorem _root_.L2.Inv.Ku{t':Nat}{its:List Addr}{p:Addr}{o:HO}(I:Inv X pins σ H s)(k:∀ b u,b ∉ its->s.heap.get? b=some u->h'.get? b=some u)(f:∀ b∈its,Yl X pins H b)(h:s.heap.objs.size<=p)(g:lj X.prog X.w (upd H p o) h' p o) :
  Inv X pins σ (upd H p o) { s with heap:=h',toks:=t' }:=by
 have hn:H p=none:=I.Pb.fresh h;have d:∀ b u,H b=some u->b ∉ its:=λb u e z=>by rw[(f b z).1]at e;cases e
 refine I.step (g':=s.gens) (d':=s.drawn) (ch:=its) (λb hb=>?_) (λb o _ _ a e _=>k b o a e) (λb o _ _ a e _=>⟨o.slots,k b o a e⟩) (λb u _ q n=>by rw[Ad (ra (Aa (la q) h))];exact n)
  (λb o a e=>⟨o,k b o a e⟩) (λb xs q=>by rw[Ad (NB q hn)];exact q) (λb u xs q=>by rw[Ad (NB q hn)];exact q) (λb D q=>⟨#[],by rw[Ad (NB q hn),q];simp⟩) (λm hm=>?_) (λb u e=>?_) I.bare
 ·obtain⟨B,l,C,t,x,y⟩:=f b hb;exact⟨t,l,x,y⟩
 ·obtain⟨o,j,i,A,r⟩:=hm;exact⟨o,j,i,k _ o (λz=>(f _ z).2.1 rfl) A,r⟩
 ·by_cases hb:b=p
  ·subst hb;rw[Jg]at e;cases e;exact g
  ·rw[Ad hb]at e;refine(I.Pb b u e).xk (λc v a q=>k c v ?_ q) (λc q=>by rw[Ad (NB q hn)];exact q) λc xs q=>by rw[Ad (NB q hn)];exact q
   rcases a with z|z
   ·rw[z];exact d b u e
   ·exact d c _ z
theorem _root_.L2.Inv.Bu{t':Nat}{its:List Addr}(I:Inv X pins σ H s)(k:∀ b u,b ∉ its->s.heap.get? b=some u->h'.get? b=some u)(f:∀ b∈its,Yl X pins H b):Inv X pins σ H { s with heap:=h',toks:=t' }:=by
 have d:∀ b u,H b=some u->b ∉ its:=λb u e z=>by rw[(f b z).1]at e;cases e
 refine I.step (g':=s.gens) (d':=s.drawn) (ch:=its) (λb hb=>?_) (λb o _ _ a e _=>k b o a e) (λb o _ _ a e _=>⟨o.slots,k b o a e⟩) (λb u _ q n=>n)
  (λb o a e=>⟨o,k b o a e⟩) (λb xs q=>q) (λb u xs q=>q) (λb y q=>⟨#[],by rw[q];simp⟩) (λm hm=>?_) (λb u e=>?_) I.bare
 ·obtain⟨w,i,x,j,l,p⟩:=f b hb;exact⟨j,i,l,p⟩
 ·obtain⟨o,h,g,t,r⟩:=hm;exact⟨o,h,g,k _ o (λz=>(f _ z).2.1 rfl) t,r⟩
 ·refine(I.Pb b u e).xk (λc v a q=>k c v ?_ q) (λ_ q=>q) λ_ _ q=>q;rcases a with z|z
  ·rw[z];exact d b u e
  ·exact d c _ z
end
theorem To{h:Heap}{a b:Addr}{o i:Obj}{n g:String}(e:h.get? a=some o)(f:h.get? b=some i)(c:o.cls=.type n)(d:i.cls=.type g)(hn:n≠g):a≠b:=λz=>by
 subst z;rw[e]at f;cases f;rw[c]at d;injection d with q;exact hn q
noncomputable def BM(K:W.Frag)(l:Addr):It:=
 ⟨λi H=>∃ xs x,cf K H l xs/\xs[i]?=some x,λi H v a=>∃ p x,H p=none/\v=.ref p/\(∀ xs,cf K H l xs->xs[i]?=some x)/\a=upd H p (.tup [.int i,x]),λi H=>∃ xs,cf K H l xs/\i=xs.length⟩
noncomputable def lO(K:W.Frag)(l m:Addr):It:=
 ⟨λi H=>∃ xs a x y,cf K H l xs/\cf K H m a/\xs[i]?=some x/\a[i]?=some y,λi H v b=>∃ p x y,H p=none/\v=.ref p/\(∀ xs,cf K H l xs->xs[i]?=some x)/\(∀ a,cf K H m a->a[i]?=some y)/\b=upd H p (.tup [x,y]),
  λi H=>∃ xs a,cf K H l xs/\cf K H m a/\i=min xs.length a.length⟩
theorem oZ{P:ua}{w:Ea}{K:PySem.W.Frag}{n:List Ga}{kk:Nat}{J:Se}(l e it:Addr):Turn P w K (.Tuple n kk J) (BM K l) [e,it] e (λi h=>(∃ a,IsEnum h e it i a)/\h.IsListIter it l i) where
 mem:=by simp
 obj:=λi h m b hb=>by
  obtain⟨⟨a,f⟩,o,j,c,d⟩:=m;simp only[Fa,Dc,Qh]at hb;rcases hb with rfl|rfl
  ·exact⟨_,f,λv z=>by cases z⟩
  ·exact⟨o,j,λv z=>by rw[d]at z;cases z⟩
 keep:=λi h M m k=>by
  obtain⟨⟨a,f⟩,j⟩:=m;exact⟨⟨a,k e (by simp) _ f⟩,j.at λo q=>k it (by simp) o q⟩
 item:=by
  intro X U hw S Y i G s σ H E I N m Z;subst U hw S;obtain⟨xs,x,O,hx⟩:=Z;obtain⟨g,rv,p,hz⟩:=I.list O;obtain⟨u,hu,ru⟩:=rv.get hx;obtain⟨⟨a,f⟩,j⟩:=m;obtain⟨oa,ea,ca,_⟩:=id p.isList;obtain⟨ob,L,cb,_⟩:=id j;have a1:l≠e:=To ea f ca rfl (by decide);have a2:l≠it:=To ea L ca cb (by decide);have a0:e≠it:=To f L rfl cb (by decide);have W:=WalksT.enumerate (prog:=X.prog) (w:=X.w) (A:=X.A) (I.ok.hd Y) e it l a0 a1 a2 g.toArray;have hi:i<g.toArray.size:=by
   have:=(ka.mp hu).1;simpa using this
  refine W.item i s _ E hi ⟨⟨a,f⟩,j,p.isList⟩ λT a3 M tk V hT C r hk=>?_;obtain⟨t,y,R,rfl⟩:=V;have ey:y=u:=by
   have:g.toArray[i]?=some u:=by simpa using hu
   rw[this]at R;cases R;rfl
  subst ey;refine⟨.ref T,rfl,W.go n kk J i T { s with heap:=M,toks:=tk } _ E r λh2 hS F=>?_⟩;have D:=W.apart i T M r;have B:h2.IsTuple T #[.int i t,y]:=by
   obtain⟨o,e1,c1⟩:=C;exact⟨o,F T o D e1,c1⟩
  have hn:H T=none:=I.Pb.fresh hT;refine⟨.ref T,upd H T (.tup [.int i,x]),I.Ku (o:=.tup [.int i,x]) (λb o hb q=>F b o hb (hk b o hb q)) N hT ?_,rfl,⟨T,x,hn,rfl,λys R=>by rw[I.vk R O];exact hx,rfl⟩,⟨hS.1,hS.2.1⟩,λb hb=>?_⟩
  ·exact⟨(show (2:Nat)<=sizeLine by decide),[.int i t,y],.cons ⟨t,rfl⟩ (.cons ru .nil),B⟩
  ·rw[Ad (λz=>D (by rw[<-z];exact hb))];exact(N b hb).1
 done:=by
  intro X U hw S Y i G s σ H E I N m Z;subst U hw S;obtain⟨xs,O,hx⟩:=Z;obtain⟨g,rv,p,hz⟩:=I.list O;obtain⟨⟨a,f⟩,j⟩:=m;have hl:=rv.length;exact wpAny_pyNext_enum_end (I.ok.hd Y) f j p.isList (by simp;omega) λM L=>⟨rfl,I.Bu (t':=s.toks) (λb o hb q=>L b o (λz=>hb (by simp[z])) q) N⟩
 self:=λA i s Q E m h=>by
  obtain⟨⟨a,f⟩,j⟩:=m;exact wA f h
theorem rQ{h:Heap}{l m z TI TO r s:Addr}{k1 k2:Nat}{xs ys:Array Value}{a b c d:Value}{f:Value}(u:TI≠TO)(v:r≠s)(w:h.IsList l xs)(x:h.IsList m ys)(e:IsZip h z TI TO f)(t:WJ h TI a b)(s3:WJ h TO c d)(y:h.IsListIter r l k1)(A:h.IsListIter s m k2):ZipApart z TI TO r s l m:=by
 obtain⟨B,p,n,_⟩:=w;obtain⟨C,q,o,_⟩:=x;obtain⟨D,j,g,_⟩:=y;obtain⟨E,k,i,_⟩:=A;exact⟨To t e rfl rfl (by decide),To s3 e rfl rfl (by decide),To j e g rfl (by decide),To k e i rfl (by decide),u,To t j rfl g (by decide),To t k rfl i (by decide),To s3 j rfl g (by decide),To s3 k rfl i (by decide),v,
  To p e n rfl (by decide),To p s3 n rfl (by decide),To p j n g (by decide),To p k n i (by decide),To q e o rfl (by decide),To q s3 o rfl (by decide),To q j o g (by decide),To q k o i (by decide)⟩
theorem G3{P:ua}{w:Ea}{K:PySem.W.Frag}{G:List Ga}{kk:Nat}{a1:Se}(l m z TI TO f g:Addr)(d1:TI≠TO)(d2:f≠g) :
  Turn P w K (.Tuple G kk a1) (lO K l m) [z,TI,TO,f,g] z (λi h=>IsZip h z TI TO .none/\WJ h TI (.ref f) (.ref g)/\(∃ a b,WJ h TO a b)/\h.IsListIter f l i/\h.IsListIter g m i) where
 mem:=by simp
 obj:=λi h F b hb=>by
  obtain⟨j,n,⟨a,c,r⟩,⟨o4,t,c4,d4⟩,⟨o5,B,c5,d5⟩⟩:=F;simp only[Fa,Dc,Qh]at hb;rcases hb with rfl|rfl|rfl|rfl|rfl
  ·exact⟨_,j,λv z=>by cases z⟩
  ·exact⟨_,n,λv z=>by cases z⟩
  ·exact⟨_,r,λv z=>by cases z⟩
  ·exact⟨o4,t,λv z=>by rw[d4]at z;cases z⟩
  ·exact⟨o5,B,λv z=>by rw[d5]at z;cases z⟩
 keep:=λi h h' F k=>by
  obtain⟨j,n,⟨a,c,r⟩,t,B⟩:=F;exact⟨k z (by simp) _ j,k TI (by simp) _ n,⟨a,c,k TO (by simp) _ r⟩,t.at λo q=>k f (by simp) o q,B.at λo q=>k g (by simp) o q⟩
 item:=by
  intro X hP hw hK hc i a0 s σ H E I hf F hg;subst hP hw hK;obtain⟨xs,ys,x,y,hq,C,hx,hy⟩:=hg;obtain⟨e,rv,p,Y⟩:=I.list hq;obtain⟨d,M,Z,a4⟩:=I.list C;obtain⟨u,hu,ru⟩:=rv.get hx;obtain⟨u2,S,a6⟩:=M.get hy;obtain⟨j,n,⟨a,c,r⟩,t,B⟩:=F;have D:=rQ d1 d2 p.isList Z.isList j n r t B;have W:=lz (prog:=X.prog) (w:=X.w) (A:=X.A) (I.ok.hd hc) z TI TO f g l m D e.toArray d.toArray;have hi:i<min e.toArray.size d.toArray.size:=by
   have h1:=(ka.mp hu).1;have h2:=(ka.mp S).1;simp;omega
  refine W.item i s _ E hi ⟨j,n,⟨a,c,r⟩,t,B,p.isList,Z.isList⟩ λT a7 h' tk a2 hT O J hk=>?_;obtain⟨v1,v2,U,V,rfl⟩:=a2;have e1:v1=u:=by
   have:e.toArray[i]?=some u:=by simpa using hu
   rw[this]at U;cases U;rfl
  have e2:v2=u2:=by
   have:d.toArray[i]?=some u2:=by simpa using S
   rw[this]at V;cases V;rfl
  subst e1;subst e2;refine⟨.ref T,rfl,W.go G kk a1 i T { s with heap:=h',toks:=tk } _ E J λh2 N R=>?_⟩;have a3:=W.apart i T h' J;have L:h2.IsTuple T #[v1,v2]:=by
   obtain⟨o,e1,c1⟩:=O;exact⟨o,R T o a3 e1,c1⟩
  have hn:H T=none:=I.Pb.fresh hT;have sub:∀ b,b ∉ [z,TI,TO,f,g]->b ∉ [z,TO,f,g]:=λb hb hm=>hb (by simp at hm ⊢;rcases hm with h|h|h|h<;>simp[h]);have a5:∀ b∈[z,TI,TO,f,g],b<s.heap.objs.size:=λb hb=>by
   simp only[Fa,Dc,Qh]at hb;rcases hb with rfl|rfl|rfl|rfl|rfl
   ·exact la j
   ·exact la n
   ·exact la r
   ·obtain⟨o,q,_⟩:=t;exact la q
   ·obtain⟨o,q,_⟩:=B;exact la q
  refine⟨.ref T,upd H T (.tup [x,y]),I.Ku (o:=.tup [x,y]) (λb o hb q=>R b o (sub b hb) (hk b o (sub b hb) q)) hf hT ?_,rfl,⟨T,x,y,hn,rfl,λzs Y=>by rw[I.vk Y hq];exact hx,λzs Y=>by rw[I.vk Y C];exact hy,rfl⟩,⟨N.1,N.2.1,N.2.2.1,N.2.2.2.1,N.2.2.2.2.1⟩,λb hb=>?_⟩
  ·exact⟨(show (2:Nat)<=sizeLine by decide),[v1,v2],.cons ru (.cons a6 .nil),L⟩
  ·rw[Ad (ra (Aa (a5 b hb) hT))];exact(hf b hb).1
 done:=by
  intro X hP hw hK hc i a0 s σ H E I hf F hg;subst hP hw hK;obtain⟨xs,ys,hq,C,hx⟩:=hg;obtain⟨e,rv,p,Y⟩:=I.list hq;obtain⟨d,M,Z,a4⟩:=I.list C;obtain⟨j,n,⟨a,c,r⟩,t,B⟩:=F;have D:=rQ d1 d2 p.isList Z.isList j n r t B;have W:=lz (prog:=X.prog) (w:=X.w) (A:=X.A) (I.ok.hd hc) z TI TO f g l m D e.toArray d.toArray;have hl:=rv.length;have a8:=M.length;have ei:i=min e.toArray.size d.toArray.size:=by simp;omega
  subst ei;have sub:∀ b,b ∉ [z,TI,TO,f,g]->b ∉ [z,TO,f,g]:=λb hb hm=>hb (by simp at hm ⊢;rcases hm with h|h|h|h<;>simp[h]);exact W.done s _ E ⟨j,n,⟨a,c,r⟩,t,B,p.isList,Z.isList⟩ λh' tk hk=>⟨rfl,I.Bu (t':=tk) (λb o hb q=>hk b o (sub b hb) q) hf⟩
 self:=λA i s Q E F h=>kC F.1 h
noncomputable abbrev NX:=Nat->Oa->Option (Option D)
noncomputable def lr(T:Tb)(c:List Addr)(f:Hp)(nx:NX)(J:It):Prop:=∀ a H e i,Ext c f a H->Rel T a H e->match nx i e with
 |none=>True
 |some none=>J.stop i H
 |some (some d)=>J.go i H/\∀ x b,J.eA i H x b->Ext a H a b/\Rel T a b e/\Rep T a b d x
noncomputable def z6(T:Tb)(X:Cx)(f:Ev->M NX):TI:=λb H R=>∃ a c d,qh T a H c b/\Rel T a H d/\Kb T (XE X b) (lr T) a H (f c d) R
noncomputable abbrev Pw(T:Tb)(X:Cx)(tg a:Ga)(f:Ev->M NX):Prop:=PI X tg a (z6 T X f)
noncomputable def zp(nx:NX)(tg:D->Ev->Option Ev)(body:Ev->M Fl):Nat->Nat->Ev->M Fl
 |0,_,_=>bad
 |k+1,i,c=>λb=>match nx i b with
  |none=>.bad
  |some none=>.ok (.nx c) b
  |some (some d)=>match tg d c with
   |none=>.bad
   |some a=>Mc (body a) (Qt (zp nx tg body k (i+1))) b
noncomputable def AE(tg:D->Ev->Option Ev)(body:Ev->M Fl)(ρ:Ev)(nx:NX):M Fl:=zp nx tg body 1001 0 ρ
noncomputable def Cn(src:Ev->M NX)(tg:D->Ev->Option Ev)(body:Ev->M Fl):Ev->M Fl:=λa=>xs a (src a) (AE tg body a)
section
variable{T:Tb}{X:Cx}{tgt iter:Ga}{body:List Stmt}{src:Ev->M NX}{t:D->Ev->Option Ev}{g:Ev->M Fl}{pos:Se}
theorem vv(O:Fp (model X.prog X.w) X.A X.env X.xe)(hc:X.calm=true)(hi:Pw T X tgt iter src)(hg:FG T X tgt t)(hb:ap T X body g)
  (hs:∀ x,Qg iter X.env x=pure x:=by intro _;rfl):FS T X (.For tgt iter body [] pos) (Cn src t g):=by
 intro v s st H D I hq;refine kP O hc hi hg hb hs v s st H D I ?_;obtain⟨b,e,q,K,hr,O⟩:=hq;refine⟨b,e,q,K,hr,O.xs K λnx C c J F _ Z r1 q1 p1=>?_⟩;have Q:Kb T EN (zl T) c F (zp nx t g 1001 0 e C) (ek X D):=p1;refine⟨λi m l r=>∃ b e q,Ext c F b r/\qh T b r e l/\Rel T b r q/\Kb T EN (zl T) b r (zp nx t g m i e q) (ek X D),⟨1001,c,e,C,Ext.refl _ _,K.mono Z,r1,Q⟩,?_⟩;rintro i m l r ⟨p,z,f,ex,u,V,a⟩;cases m with
 |zero=>exact a.elim
 |succ m=>
  unfold zp at a;have E:=q1 p r f i ex V;cases G:nx i f with
  |none=>simp only[G]at a;exact a.elim
  |some o=>
   cases o with
   |none=>
    simp only[G]at a E;exact .inl ⟨E,Kb.here (g:=sm.nx l) a V u⟩
   |some d=>
    simp only[G]at a E;obtain⟨N,hy⟩:=E;refine .inr ⟨N,λn j=>∃ b e q,Ext c F b j/\qh T b j e n/\Rel T b j q/\Kb T EN (zl T) b j (zp nx t g m (i+1) e q) (ek X D),λn j h=>⟨m,zb _,h⟩,λx j y=>?_⟩;obtain⟨k,W,hx⟩:=hy x j y;cases P:t d z with
    |none=>simp only[P]at a;exact a.elim
    |some B=>
     simp only[P]at a;exact⟨p,f,z,d,B,u.mono k,W,hx,P,λn L=>⟨p,B,f,L,W,(Kb.mono k a).bind λfl U R gl H4 _ e4 Y q4 p4=>tJ Y q4 p4 λS a0 M p5=>⟨R,S,U,(ex.trans k).trans e4,M,Y,p5⟩⟩⟩
end
noncomputable def Yt(a:D):NX:=λi b=>match Ff b a with
 |some xs=>(match xs[i]? with
  |some x=>some (some (.tup [.int (i:Int),x]))
  |none=>if i=xs.length then some none else none)
 |none=>none
noncomputable def ZB(a b:D):NX:=λi d=>match Ff d a with
 |some xs=>(match Ff d b with
  |some c=>(match xs[i]? with
   |some x=>(match c[i]? with
    |some y=>some (some (.tup [x,y]))
    |none=>if i=min xs.length c.length then some none else none)
   |none=>if i=min xs.length c.length then some none else none)
  |none=>none)
 |none=>none
noncomputable def ny(d:D):M NX:=λa=>match Ff a d with
 |some _=>.ok (Yt d) a
 |none=>.bad
noncomputable def lD(f:Ev->M D):Ev->M NX:=λa=>Mc (f a) ny
noncomputable def WF(a b:D):M NX:=λc=>match Ff c a with
 |some _=>(match Ff c b with
  |some _=>.ok (ZB a b) c
  |none=>.bad)
 |none=>.bad
noncomputable def DM(m:M D)(a:D):M NX:=Mc m (WF a)
noncomputable def pB(f g:Ev->M D):Ev->M NX:=λa=>Mc (f a) (DM (g a))
section
variable{T:Tb}{X:Cx}{elts:List Ga}{kk:Nat}{p0 p pos:Se}{f g:Ev->M D}
theorem S8:bootBuiltins "enumerate" = some (.type "enumerate"):=by decide +kernel
theorem HW:bootBuiltins "zip" = some (.type "zip"):=by decide +kernel
noncomputable def bX(K:W.Frag)(b:TA):TI:=λd H R=>b d H λc a=>∃ l xs,c=[.ref l]/\cf K a l xs/\R (BM K l) a
theorem G1{a:Ga}{i:TA}(n:Gl X "enumerate")(hm:X.mg "enumerate" = none)(m:PA X [a] i)(t:ma [a] X.env=[(false,Nb a X.env)]:=by rfl):PI X (.Tuple elts kk p0) (.Call (.Name "enumerate" p) [a] [] pos) (bX X.K i):=by
 intro d s y H R I h;refine Call_ (bx I n hm S8 (Oe (ae (m pos d s y H _ I h) λus s1 ⟨D,H1,f,w,v⟩=>?_) t rfl));obtain⟨l,xs,e,o,q⟩:=v;subst e;cases w with
 |cons r x=>
  cases x;cases r;obtain⟨u,C,pl,B⟩:=f.list o;refine call_enumerate_list pl.isList λA g j z k=>wA g ?_;refine⟨s1.heap.objs.size+1,[s1.heap.objs.size+1,s1.heap.objs.size],_,_,H1,rfl,f.kept (t':=s1.toks) k,oZ l _ _,⟨⟨_,g⟩,j⟩,λb hb=>?_,q⟩;have c:s1.heap.objs.size<=b:=by simp at hb;rcases hb with rfl|rfl<;>omega
  exact f.Xo c (f.Pb.fresh c)
theorem QK{e:Ga}(N:Gl X "enumerate")(hm:X.mg "enumerate" = none)(h:FE T X e f)(w:ma [e] X.env=[(false,Nb e X.env)]:=by rfl):Pw T X (.Tuple elts kk p0) (.Call (.Name "enumerate" p) [e] [] pos) (lD f):=by
 intro k s U H R I Q;refine G1 N hm (Ss h Dv w) w k s U H R I ?_;obtain⟨W,ρ,σ,M,P,O⟩:=Q;refine⟨W,ρ,σ,M,P,O.bind λd r Y v H1 _ e1 C B j=>?_⟩;unfold ny at j;cases m:Ff r d with
 |none=>rw[m]at j;exact j.elim
 |some ds=>
  rw[m]at j;obtain⟨l,V,rfl,J,h2⟩:=C.ls B m;refine⟨l,V,rfl,cf.of J,Kb.here (R:=lr T) j C λZ E t i ex D=>?_⟩;unfold Yt;cases n:Ff t d with
  |none=>trivial
  |some xs=>
   obtain⟨l',ws,F,L,u⟩:=D.ls (Rep.mono ex _ _ B) n;cases F;have b:cf X.K E l ws:=cf.of L;dsimp only;cases G:xs[i]? with
   |none=>
    dsimp only;by_cases o:i=xs.length
    ·rw[ia o];exact⟨ws,b,by rw[o];exact u.length⟩
    ·rw[ja o];trivial
   |some d'=>
    obtain⟨x,A,S⟩:=u.get G;refine⟨⟨ws,x,b,A⟩,λz H' y=>?_⟩;obtain⟨q,x',a,rfl,c,rfl⟩:=y;have g:=c ws b;rw[A]at g;cases g;refine⟨Ik a,D.fresh a,?_⟩;rw[Rep];exact⟨q,_,rfl,Jg,Ua.cons (by rw[Rep]) (Ua.cons (Rep.mono (Ik a) _ _ S) Ua.nil)⟩
noncomputable def B5(K:W.Frag)(b:TA):TI:=λe H R=>b e H λc a=>∃ l m xs d,c=[.ref l,.ref m]/\cf K a l xs/\cf K a m d/\R (lO K l m) a
theorem XZ{a b:Ga}{t:TA}(A:Gl X "zip")(hm:X.mg "zip" = none)(z:PA X [a,b] t)(C:ma [a,b] X.env=[(false,Nb a X.env),(false,Nb b X.env)]:=by rfl)(f:ma [b] X.env=[(false,Nb b X.env)]:=by rfl):PI X (.Tuple elts kk p0) (.Call (.Name "zip" p) [a,b] [] pos) (B5 X.K t):=by
 intro g s M H R I h;refine Call_ (bx I A hm HW (Oe (ae (z pos g s M H _ I h) λus s1 ⟨S,H1,c,J,F⟩=>?_) (by rw[C,f]) (by rw[f];rfl)));obtain⟨l,m,xs,T,e,B,i,q⟩:=F;subst e;cases J with
 |cons r k=>
  cases k with
  |cons G k=>
   cases k;cases r;cases G;obtain⟨E,Q,pl,P⟩:=c.list B;obtain⟨o,L,j,D⟩:=c.list i;refine call_zip_2 pl.isList j.isList λO n u v w x N y=>kC n ?_;refine⟨s1.heap.objs.size+4,[s1.heap.objs.size+4,s1.heap.objs.size+2,s1.heap.objs.size+3,s1.heap.objs.size,s1.heap.objs.size+1],_,_,H1,rfl,c.kept (t':=s1.toks) y,G3 l m (s1.heap.objs.size+4) (s1.heap.objs.size+2) (s1.heap.objs.size+3) s1.heap.objs.size (s1.heap.objs.size+1) (show (s1.heap.objs.size+2:Nat)≠s1.heap.objs.size+3 by omega) (show (s1.heap.objs.size:Nat)≠s1.heap.objs.size+1 by omega),⟨n,u,⟨_,_,v⟩,w,x⟩,λb hb=>?_,q⟩;have d:s1.heap.objs.size<=b:=by simp at hb;rcases hb with rfl|rfl|rfl|rfl|rfl<;>omega
   exact c.Xo d (c.Pb.fresh d)
theorem BW{e a:Ga}(hg:Gl X "zip")(hm:X.mg "zip" = none)(h:FE T X e f)(h':FE T X a g)(Y:ma [e,a] X.env=[(false,Nb e X.env),(false,Nb a X.env)]:=by rfl)(t:ma [a] X.env=[(false,Nb a X.env)]:=by rfl) :
  Pw T X (.Tuple elts kk p0) (.Call (.Name "zip" p) [e,a] [] pos) (pB f g):=by
 intro B s st H R I hw;refine XZ hg hm (Ss h (Ss h' Dv t) (by rw[Y,t])) Y t B s st H R I ?_;obtain⟨μ,ρ,σ,W,hr,hp⟩:=hw;refine⟨μ,ρ,σ,W,hr,hp.bind λd P O v H1 _ e1 r1 q1 p1=>⟨O,ρ,P,W.mono e1,r1,p1.bind λS D a2 v2 H2 _ e2 L q2 k=>?_⟩⟩;unfold WF at k;cases G:Ff D d with
 |none=>rw[G]at k;exact k.elim
 |some ds=>
  rw[G]at k;dsimp only at k;cases n:Ff D S with
  |none=>rw[n]at k;exact k.elim
  |some a1=>
   rw[n]at k;have C:=Rep.mono e2 _ _ q1;obtain⟨l,vs,rfl,h1,h2⟩:=L.ls C G;obtain⟨m,ws,rfl,h3,h4⟩:=L.ls q2 n;refine⟨l,m,vs,ws,rfl,cf.of h1,cf.of h3,Kb.here (R:=lr T) k L λa3 Q E i ex M=>?_⟩;unfold ZB;cases fl:Ff E d with
   |none=>trivial
   |some xs=>
    obtain⟨l',us,a,h5,U⟩:=M.ls (Rep.mono ex _ _ C) fl;cases a;dsimp only;cases J:Ff E S with
    |none=>trivial
    |some N=>
     obtain⟨m',us2,a,h7,V⟩:=M.ls (Rep.mono ex _ _ q2) J;cases a;have c:cf X.K Q l us:=cf.of h5;have j:cf X.K Q m us2:=cf.of h7;have l1:=U.length;have l2:=V.length;dsimp only;cases ei:xs[i]? with
     |none=>
      dsimp only;by_cases r:i=min xs.length N.length
      ·rw[ia r];exact⟨us,us2,c,j,by rw[r,l1,l2]⟩
      ·rw[ja r];trivial
     |some d'=>
      dsimp only;cases F:N[i]? with
      |none=>
       dsimp only;by_cases r:i=min xs.length N.length
       ·rw[ia r];exact⟨us,us2,c,j,by rw[r,l1,l2]⟩
       ·rw[ja r];trivial
      |some a0=>
       obtain⟨x,Z,rx⟩:=U.get ei;obtain⟨y,hy,ry⟩:=V.get F;refine⟨⟨us,us2,x,y,c,j,Z,hy⟩,λz H' yy=>?_⟩;obtain⟨q,x',y',b,rfl,u,o,rfl⟩:=yy;have w:=u us c;rw[Z]at w;cases w;have A:=o us2 j;rw[hy]at A;cases A;refine⟨Ik b,M.fresh b,?_⟩;rw[Rep];exact⟨q,_,rfl,Jg,Ua.cons (Rep.mono (Ik b) _ _ rx) (Ua.cons (Rep.mono (Ik b) _ _ ry) Ua.nil)⟩
end
open PySem.Builtin.Str (occurrences partsBetween subAt)
end L4
namespace L4
open PySem PySem.Spec PyProof.Rows L2
section
variable{T:Tb}{X:Cx}{a b c:Ga}{fa fb fc:Ev->M D}{pos:Se}
end
noncomputable def AH(ρ:Ev)(c:Nat)(f:qa)(x:D)(a:Int)(y:D):M Fl:=λd=>match y with
 | .int b=>(match x with
  | .ref n=>(match d[n]? with
   |some (.ins e fs)=>if (e == c && decide (fs.length<1000))=true then .ok (.nx ρ) (d.set n (.ins c (vm f (.int (a+b)) fs)))else .bad
   |_=>.bad)
  |_=>.bad)
 |_=>.bad
noncomputable def gC(ρ:Ev)(cs:List Nat)(f:qa)(d:Ev->M D)(x:D):M Fl:=λb=>match Pp b x with
 |some (c,fs)=>if cs.contains c=true then (match fs.lookup f with
  |some (.int a)=>xs ρ (d ρ) (AH ρ c f x a) b
  |_=>.bad)else .bad
 |none=>.bad
noncomputable def zG(cs:List Nat)(f:qa)(c b:Ev->M D):Ev->M Fl:=λa=>xs a (b a) (gC a cs f c)
section
variable{T:Tb}{X:Cx}
theorem OX{o e:Ga}{f:qa}{W V:Ev->M D}{N B:Se}{cs:List Nat}(hK:T.K=X.K)(hc:Al T cs f)(ho:FE T X o V)(hv:FE T X e W):FS T X (.AugAssign (.Attribute o f B) .Add e N) (zG cs f W V):=by
 intro A s st H D I hq;refine bU ho hv ZZ A s st H D I ?_;obtain⟨μ,ρ,σ,u,hr,hp⟩:=hq;refine⟨μ,ρ,σ,u,hr,hp.xs u λx E Q vo H1 _ G r1 q1 d=>?_⟩;unfold gC at d;cases J:Pp E x with
 |none=>rw[J]at d;exact d.elim
 |some p=>
  obtain⟨c,fs⟩:=p;rw[J]at d;dsimp only at d;by_cases l:cs.contains c=true
  ·rw[ia l]at d;obtain⟨a,dx,vs,rfl,h1,h2⟩:=QD r1 q1 J;cases L:fs.lookup f with
   |none=>rw[L]at d;exact d.elim
   |some y=>
    rw[L]at d;cases y with
    |int i=>
     obtain⟨w,h3,h4⟩:=(jB h2).1 _ L;obtain⟨Y,Z⟩:=hc c l;rw[hK]at Y Z;refine⟨a,_,dx,vs,w,rfl,h1,Y,Z,h3,Q,ρ,E,u.mono G,r1,d.xs (u.mono G) λz R C vz S _ U r2 q2 b=>?_⟩;unfold AH at b;cases z with
     |int j=>
      refine⟨i,j,Ws h4,Ws q2,?_⟩;have O:=Rep.mono U _ _ q1;cases x with
      |ref n=>
       dsimp only at b;cases k:R[n]? with
       |none=>rw[k]at b;exact b.elim
       |some ob=>
        rw[k]at b;cases ob with
        |lst _=>exact b.elim
        |Na _=>exact b.elim
        |Kf _=>exact b.elim
        |Kk _=>exact b.elim
        |ins F q=>
         dsimp only at b;by_cases h:(F == c && decide (q.length<1000))=true
         ·rw[ia h]at b;rw[va,Mb,xf]at h;obtain⟨v,hl⟩:=h;subst v;obtain⟨a',ea,hn,g,m,r,t⟩:=r2.at O k;cases ea;have ex:Ext C S C (upd S a (.ins (T.ca F) g (kn f (.int (i+j)) m))):=Mw (La hn) r (λ_ z=>by cases z) (λ_ _ z=>by cases z);have P:=r2.write (o:=.ins (T.ca F) g (kn f (.int (i+j)) m)) (ob:=.ins F (vm f (.int (i+j)) q)) hn ⟨g,_,Jg,aJ (by rw[Rep]) (Rs.mono ex t)⟩;exact⟨g,m,r,by rw[<-t.length];exact hl,b _ (.nx st) _ P.1 P.2 ((u.mono G).mono U |>.mono P.1)⟩
         ·rw[ja h]at b;exact b.elim
      |_=>exact b.elim
     |_=>exact b.elim
    |_=>exact d.elim
  ·rw[ja l]at d;exact d.elim
noncomputable def Cv(y x:D):M D:=λb=>match Mq y with
 |some k=>(match Zk b x with
  |some a=>.ok (.bl (!(Fk a k).isSome)) b
  |none=>.bad)
 |none=>.bad
noncomputable def ZK:R2:=λy x H Q=>∃ a o,x=.ref a/\Yk H a y o/\Q (.bl (!o.isSome)) H
theorem gP(f:X.A.units+9<cLine):Ei X (Qc .NotIn) ZK:=by
 intro b s k H y x i u Q I e d h;obtain⟨a,o,rfl,g,q⟩:=h;obtain rfl:u=nb a:=d;exact SZ (by omega) I g e λj c=>⟨.bl (!o.isSome),H,c,rfl,q⟩
theorem RK:Bm T ZK Cv:=by
 intro E o H m y x u v Q r q p h;unfold Cv at h;cases c:Mq y with
 |none=>rw[c]at h;exact h.elim
 |some k=>
  rw[c]at h;dsimp only at h;cases b:Zk m x with
  |none=>rw[b]at h;exact h.elim
  |some j=>
   rw[b]at h;obtain⟨a,l,rfl,g,i⟩:=Gz r p b;obtain rfl:=jG q c;refine⟨a,Kq l k,rfl,Yk.kr g,Kb.here h r ?_⟩;rw[Rep];rcases DO i k with⟨e,f⟩|⟨d,w,e,f,n⟩
   ·rw[e,f];rfl
   ·rw[e,f];rfl
noncomputable def Tv(T:Tb)(P:ua)(w:Ea)(mg:qa->Option Value)(base:Heap)(k:Nat)(f:Addr)(ps:List qa)(b:List Value)(fn:List D->M D):Prop:=
 ∃ a,pr T.K a ps []/\pr T.K a ps b/\mh P w T.K mg base (Wl P w) k f a ps (ip T ps.length fn)
structure rs(K:W.Frag)(C:Addr)(x qual:qa)(st:Stmt)(ps:List qa)(dv:List Value)(f:Addr):Prop where
 ex:∃ fd,(∃ (oc:Value) (od:Option Addr) (dV kV doc pm:Value) (an:Option Addr) (cdv ct:Value) (osl:Array (Option Value)),
  fd=W.fnOf x qual (Ln st) (Kj st) (qd st) dV kV doc pm an cdv ct/\K.lookup f=some ⟨oc,od,.func fd,osl⟩/\W.codeIn K cdv qual=true)/\pr K fd ps []/\pr K fd ps dv
end
section
variable{P:ua}{w:Ea}{K:W.Frag}{mg:qa->Option Value}{base:Heap}{ca:Nat->Addr}{tx:Tx}
theorem kU{k:Nat}{C f:Addr}{x qual:qa}{b:Stmt}{ps N:List qa}{d:List Value}{g:Ev->M Fl}(h:rs K C x qual b ps d f)(S:Ba N ps (qd b))
  (hb:∀ (a:Value) (A:Da) (outer:List Og) (s:Shared) (H:Hp) (E:XK),Xd k (A.deeper (Rg qual (qd b) s.heap.objs.size f a))->ap ⟨K,ca,tx⟩ (fq (Wl P w) P w K mg base N qual (qd b) f a A outer s H E) (Kj b) g) :
  Tv ⟨K,ca,tx⟩ P w mg base (k+1) f ps d (run N.length g):=by
 obtain⟨p,⟨q,r,o,kV,j,t,n,a,ct,m,rfl,l,c⟩,e,i⟩:=h.ex;exact⟨_,e,i,wz l c S (hb a)⟩
theorem Tv.hide{T:Tb}{k:Nat}{f:Addr}{ps:List qa}{a:List Value}{fn:List D->M D}(h:Tv T P w mg base k f ps a fn):Tv T P w mg base k f ps a (L4.hide fn):=by rw[Mp];exact h
theorem Tv.qb{T:Tb}{k:Nat}{f:Addr}{ps:List qa}{a:List Value}{fn:List D->M D}(h:Tv T P w mg base k f ps a fn):Tv T P w mg base k f ps a (λb=>L4.qb (fn b)):=by
 obtain⟨c,d,e,g⟩:=h;exact⟨c,d,e,IC g⟩
theorem JU{C f t:Addr}{x qual:qa}{e:Stmt}{ps:List qa}{i:List Value}{v q:Value}{od g r:Option Addr}{j u:Array (Option Value)}{kV b h a ct:Value}{p:Nat}
  (hb:∀ (t:Addr) (kV b h:Value) (g:Option Addr) (a ct:Value) (s:Shared) (o:Obj) (n:Nat) (us:List Value),s.heap.get? t=some o->o.data=.seq i.toArray n->((us++[]).length=ps.length->Zf s (W.fnOf x qual (Ln e) (Kj e) (qd e) (.ref t) kV b h g a ct) ⟨us,[]⟩ (ps.zip (us++[])))/\
   ((us++i).length=ps.length->Zf s (W.fnOf x qual (Ln e) (Kj e) (qd e) (.ref t) kV b h g a ct) ⟨us,[]⟩ (ps.zip (us++i))))
  (l:K.lookup f=some ⟨v,od,.func (W.fnOf x qual (Ln e) (Kj e) (qd e) (.ref t) kV b h g a ct),j⟩)
  (c:W.codeIn K a qual=true) (d:K.lookup t=some ⟨q,r,.seq i.toArray p,u⟩):rs K C x qual e ps i f:=
 ⟨⟨_,⟨v,od,_,kV,b,h,g,a,ct,j,rfl,l,c⟩,λs us k m=>(hb t kV b h g a ct s _ p us (k _ _ d) rfl).1 m,λs us k m=>(hb t kV b h g a ct s _ p us (k _ _ d) rfl).2 m⟩⟩
end
section
variable{T:Tb}{X:Cx}
end
section
variable{T:Tb}{X:Cx}
end
noncomputable def Hu(ix:List Nat)(ρ:Ev):Ev:=none::none::ix.map λi=>(ρ[i]?).getD none
noncomputable def Zx(ix:List Nat)(a:St):St:=none::none::ix.map λi=>(a[i]?).getD none
theorem R5{T:Tb}{μ:List Addr}{H:Hp}{ρ:Ev}{a:St}(ix:List Nat)(h:qh T μ H ρ a):qh T μ H (Hu ix ρ) (Zx ix a):=by
 have q:=LL ix h;refine⟨by simp[Hu,Zx],λi d e=>?_⟩;cases i with
 |zero=>simp[Hu]at e
 |succ j=>exact q.2 j d e
section
variable{X:Cx}{pins:List (Addr × Obj)}{st:St}{H:Hp}{s:Shared}{x z0:qa}{M':List qa}{ix:List Nat}{scope:Scope}{fp:List Addr}
theorem AX(I:Inv X pins st H s)(L:Qm X x M' ix scope)(g:∀ b∈fp,Yl X pins H b/\b<s.heap.objs.size){h':Heap}{t':Nat}{m:qa->Option Value}(K:h'.Ns s.heap.objs.size m)
  (D:∀ b o,s.heap.get? b=some o->h'.get? b=some o) :
  Inv (Kt X (x::z0::M') scope (Fi X.env scope.names []) s.heap.objs.size s H fp) [] (Zx ix st) H { s with heap:=h',toks:=t' }:=by
 have sub:∀ n c,(Fi X.env scope.names []).lookup n=some c->X.env.cells.lookup n=some c:=λn c e=>RG X.env scope.names [] n c (λ_ _ q=>by simp at q) e;have B:∀ n c,X.env.cells.lookup n=some c->c<s.heap.objs.size:=λn c e=>by obtain⟨v,z⟩:=I.cell n c e;exact z.lt
 have fresh:H s.heap.objs.size=none:=I.Pb.fresh (pa _);refine⟨⟨I.ok.mod,L.kind,I.ok.glob,I.ok.blt,pa _,λa b c r d=>I.ok.inj a b c (sub a c r) (sub b c d),λa Y=>?_,λa c h=>(by cases h),I.ok.hd,I.ok.frames,.inl rfl,λb hb=>⟨ra (g b hb).2,λa c e=>?_⟩,λb o e=>I.bs b o e,Ya I.ok.ir I.sz,λb o e hb=>?_,λb hb z=>?_,I.stack,I.ik⟩,
  rfl,I.bare,Un.kept D,⟨m,K,λi y v T E e3=>?_⟩,λa c e=>?_,fresh,λa c e=>I.eg a c (sub a c e),λp hp=>absurd (show p∈([]:List (Addr × Obj))from hp) (by simp),I.Pb.kept D,?_⟩
 ·
  have G:(scope.names.map λ(n,k)=>if (k == db && X.env.scope.kind == .function && X.env.kindOf n == some .cell)then (n,pc)else (n,k)).lookup a=some .cell\/(scope.names.map λ(n,k)=>if (k == db && X.env.scope.kind == .function && X.env.kindOf n == some .cell)then (n,pc)else (n,k)).lookup a=some .free:=Y;have Q:scope.names.lookup a=some .free:=by
   rcases G with z|z
   ·obtain⟨k0,r,d⟩:=GJ z;rcases d with d|⟨d,_⟩
    ·subst d;exact absurd rfl (xB L _ (Sv r))
    ·rw[d]at r;exact r
   ·obtain⟨k0,r,d⟩:=GJ z;rcases d with d|⟨_,d⟩
    ·rw[<-d]at r;exact r
    ·cases d
  exact TB X.env scope.names [] a (Sv Q) (cy I L _ (Sv Q) rfl)
 ·exact(g b hb).1.2.2.2.2.1 a c (sub a c e)
 ·rcases(g b hb).1.2.2.2.1 with z|z
  ·exact I.ok.iq b o e z
  ·exact absurd (Aa (la e) (Ya I.ok.ir z)) (De _)
 ·rcases Fa.mp (I.dr b z)with q|q
  ·exact(g b hb).1.2.1 q
  ·exact(g b hb).1.2.2.1 q
 ·
  cases i with
  |zero=>simp[Zx]at E
  |succ i=>
  cases i with
  |zero=>simp[Zx]at E
  |succ j=>
   have t:M'[j]?=some y:=T;have f:(ix.map λi=>(st[i]?).getD none)[j]?=some (some v):=E;rw[Ja]at f;cases F:ix[j]? with
   |none=>rw[F]at f;cases f
   |some A=>
    rw[F]at f;have C:(st[A]?).getD none=some v:=ub f;have U:st[A]?=some (some v):=by
     cases q:st[A]? with
     |none=>rw[q]at C;cases C
     |some o=>rw[q]at C;exact we some C
    have V:X.N[A]?=some y:=by
     have z:=we (λl=>l[j]?) L.at_;simp only[Ja,F,t,Ve]at z;exact ub z
    have q:=Zb.mp L.OP y (La t);simp only[va,af]at q;have R:X.env.scope.names.lookup y=some .cell\/X.env.scope.names.lookup y=some .free:=by
     rcases q.1 with z|z
     ·exact .inl (eq_of_beq z)
     ·exact .inr (eq_of_beq z)
    have O:scope.names.lookup y=some .free:=eq_of_beq q.2;obtain⟨m0,Z,J⟩:=I.loc;obtain⟨u,ru,lu⟩:=J A y v V U (by rcases R with z|z;exact .inr (.inl z);exact .inr (.inr z));refine⟨u,ru,.inr ⟨zR (env:=X.env) O,?_⟩⟩;rcases lu with⟨z,_⟩|⟨_,c,W,zc⟩
    ·rcases R with k|k
     ·rw[show X.env.kindOf y=X.env.scope.names.lookup y from rfl,k]at z;cases z
     ·rw[show X.env.kindOf y=X.env.scope.names.lookup y from rfl,k]at z;cases z
    ·obtain⟨S,w⟩:=TB X.env scope.names [] y (Sv O) (cy I L _ (Sv O) rfl);have P:=sub y S w;rw[W]at P;cases P;obtain⟨o,M,hd⟩:=zc;exact⟨c,w,o,D _ _ M,hd⟩
 ·obtain⟨v,o,M,hd⟩:=I.cell a c (sub a c e);exact⟨v,o,D _ _ M,hd⟩
 ·simp[Zx,Kt];have z:=we List.length L.at_;simpa using z
end
section
variable{T:Tb}{X:Cx}
end
noncomputable def Tf(l:List Int):List Int:=l.mergeSort λa b=>decide (a<=b)
theorem Mx(l:List Int):(Tf l).Perm l:=List.mergeSort_perm l _
theorem aE(l:List Int):(Tf l).Pairwise (·<=·):=by
 have:=List.pairwise_mergeSort (le:=λa b:Int=>decide (a<=b)) (λa b c d e=>by simp at *;omega) (λa b=>by simp;omega) l;exact this.imp λh=>by simpa using h
theorem cC:∀ {l m:List Int},l.Perm m->l.Pairwise (·<=·)->m.Pairwise (·<=·)->l=m
 |[],m,h,_,_=>by rw[List.nil_perm]at h;exact h.symm
 |a::l,[],h,_,_=>by have:=h.length_eq;simp at this
 |a::l,b::m,h,c,d=>by
  rw[List.pairwise_cons]at c d;have f:a∈b::m:=h.subset Qa;have hb:b∈a::l:=h.symm.subset Qa;have e:a=b:=by
   rcases Fa.mp f with e|f
   ·exact e
   ·rcases Fa.mp hb with e|hb
    ·exact e.symm
    ·have:=c.1 b hb;have:=d.1 a f;omega
  subst e;rw[cC (D9 h) c.2 d.2]
noncomputable def MG(K:W.Frag):List V->Hp->VK->Prop:=λxs H Q=>∃ (p:Addr) (is:List Int),xs=[.ref p]/\cf K H p (is.map V.int)/\is.length<64/\∀ l,H l=none->Q (.ref l) (upd H l (.lst ((Tf is).map V.int)))
section
variable{T:Tb}{X:Cx}
theorem TZ:Wm X (.builtin "sorted") (MG X.K):=by
 intro f s y H xs x Q I r h;obtain⟨p,is,rfl,o,b,q⟩:=h;obtain⟨u,rfl,t⟩:=Bs r;cases t;obtain⟨c,g,pl,v⟩:=I.list o;have a:=g.length;rw[xa]at a;refine sorted_ints pl.isList (hG g) (by omega) λout d i j k=>?_;obtain⟨e,m⟩:=sortedAll_at s.heap c out;have l:d=Tf is:=cC (j.trans (Mx is).symm) k (aE is);subst l;have n:=(Mx is).length_eq;exact⟨.ref (s.heap.objs.size+1),_,I.laid (t':=s.toks) (λ_ _=>sortedAll_old) (gi _) (show lj X.prog X.w _ _ _ (.lst ((Tf is).map V.int))from⟨by rw[xa,n];exact Ya (Td b) (by decide),out.toList,e,Pz i,by rw[vj];exact m⟩),rfl,q _ (I.Pb.fresh (gi _))⟩
noncomputable def sG(xs:List D):M D:=λa=>match xs with
 |[x]=>(match Ff a x with
  |some b=>(match Ut b with
   |some is=>if is.length<64 then vy ((Tf is).map D.int) a else .bad
   |none=>.bad)
  |none=>.bad)
 |_=>.bad
theorem NH{μ:List Addr}{H:Hp}:∀ a:List Int,Ua T μ H (a.map D.int) (a.map V.int)
 |[]=>Ua.nil
 |i::a=>Ua.cons (by rw[Rep]) (NH a)
theorem dX(n:T.K=X.K):Ot T (MG X.K) sG:=by
 intro E s H m xs q Q r p h
 match xs with
 |[]=>exact h.elim
 |[x]=>
  rw[Ua]at p;obtain⟨v,w,rfl,j,d⟩:=p;rw[Ua]at d;subst d;unfold sG at h;cases e:Ff m x with
  |none=>simp only[e]at h;exact h.elim
  |some k=>
   simp only[e]at h;cases a:Ut k with
   |none=>simp only[a]at h;exact h.elim
   |some is=>
    simp only[a]at h;by_cases c:is.length<64
    ·rw[ia c]at h;obtain⟨b,o,rfl,f,g⟩:=r.ls j e;obtain rfl:=yB g a;exact⟨b,is,rfl,cf.of f,c,λl i=>lA h r (NH _) i⟩
    ·rw[ja c]at h;exact h.elim
 |_::_::_=>exact h.elim
noncomputable def Mu(kvs more:List (Key × V)):List (Key × V):=more.foldl (λa b=>Sn a b.1 b.2) kvs
noncomputable def dz(kvs more:List (Key × D)):List (Key × D):=more.foldl (λa b=>Nm a b.1 b.2) kvs
theorem l4:∀ {more:List (Key × V)} {b:List (Key × Value)} {kvs:List (Key × V)} {vs:List (Key × Value)},KV more b->KV kvs vs->KV (Mu kvs more) (merged vs b):=by
 intro more;induction more with
 |nil=>intro b kvs vs a c;cases a;exact c
 |cons p more e=>
  intro b kvs vs a c;cases a with
  |cons q a=>
   obtain⟨d,f⟩:=q;have:=e a (c.put p.1 f);rw[d]at this;simpa [Mu,merged,d]using this
theorem D8:∀ (more kvs:List (Key × V)),(Mu kvs more).length<=kvs.length+more.length:=by
 intro more;induction more with
 |nil=>intro kvs;simp[Mu]
 |cons p more b=>
  intro kvs;have c:=b (Sn kvs p.1 p.2);have d:=YH kvs p.1 p.2;have a:Mu kvs (p::more)=Mu (Sn kvs p.1 p.2) more:=rfl;rw[a,Za];omega
noncomputable def QN:V->List V->Hp->VK->Prop:=λx d H Q=>∃ a b c more,x=.ref a/\d=[.ref b]/\a≠b/\H a=some (.dK c)/\Rd H b (.dK more)/\c.length+more.length<=sizeLine/\Q .Yb (upd H a (.dK (Mu c more)))
theorem V2:Sr X "dict.update" QN:=by
 intro n s J H x L v K Q I C B h;obtain⟨a,b,e,more,rfl,rfl,j,m,i,G,q⟩:=h;cases C;obtain⟨u,rfl,A⟩:=Bs B;cases A;obtain⟨z,hd,o,rel,l⟩:=EH I.Pb m;obtain⟨M,k,f,c,g⟩:=uv I.Pb i;have D:e.length=o.length:=by unfold KV at rel;exact Paired.length rel
 have E:more.length=f.length:=by unfold KV at c;exact Paired.length c
 refine pv fo l.typeIs PySem.F.entry_dict_update (PySem.F.args_dict_update_2 _ _) (meets_dict_update (Nn X.prog X.w) a b j k) ⟨o,f,l,g,by omega,λp d _ y=>?_⟩;have r:∃ q,p.get? a=some q:=let ⟨q,_,_,t,_⟩:=d;⟨q,t⟩;have hm:=D8 more e;exact⟨.Yb,_,OE I (by rw[m];exact True.intro) y r (gE (by omega) hd (l4 c rel) d),rfl,q⟩
noncomputable def apart(n:Nat):D->Bool
 | .ref m=>!(m == n)
 |_=>true
noncomputable def Ts(x:D)(xs:List D):M D:=λb=>match x,xs with
 | .ref n,[y]=>(match b[n]? with
  |some (.Na a)=>(match Zk b y with
   |some more=>if (apart n y && decide (a.length+more.length<=Mh))=true then .ok .Yb (b.set n (.Na (dz a more)))else .bad
   |none=>.bad)
  |_=>.bad)
 |_,_=>.bad
theorem iX{μ:List Addr}{H:Hp}:∀ {more:List (Key × D)} {us:List (Key × V)} {kvs:List (Key × D)} {vs:List (Key × V)},Oh T μ H more us->Oh T μ H kvs vs->Oh T μ H (dz kvs more) (Mu vs us):=by
 intro more;induction more with
 |nil=>intro us kvs vs a b;unfold Oh at a;cases a;exact b
 |cons p more c=>
  intro us kvs vs a b;unfold Oh at a;cases a with
  |cons q a=>
   have:=c a (ML b p.1 q.2);rw[q.1]at this;simpa [dz,Mu,q.1]using this
theorem zX:my T QN Ts:=by
 intro E F H G x xs v N Q r p q h;cases x with
 |ref n=>
  match xs with
  |[]=>exact h.elim
  |[y]=>
   rw[Ua]at q;obtain⟨w,z,rfl,i,C⟩:=q;rw[Ua]at C;subst C;unfold Ts at h;cases d:G[n]? with
   |none=>simp only[d]at h;exact h.elim
   |some ob=>
    cases ob with
    |Na f=>
     simp only[d]at h;cases j:Zk G y with
     |none=>simp only[j]at h;exact h.elim
     |some more=>
      simp only[j]at h;by_cases g:(apart n y && decide (f.length+more.length<=Mh))=true
      ·rw[ia g]at h;simp only[va,Mb]at g;obtain⟨a,rfl,hn,k,A,g2⟩:=r.at p d;obtain⟨b,l,rfl,J,s⟩:=Gz r i j;have K:k.length=f.length:=by unfold Oh at g2;exact(Paired.length g2).symm
       have L:l.length=more.length:=by unfold Oh at s;exact(Paired.length s).symm
       have t:a≠b:=by
        cases y with
        |ref m=>
         rw[Rep]at i;obtain⟨I,e,hm⟩:=i;cases e;intro e;subst e;have u:m=n:=pE r.nd hm hn;have:=g.1;simp[apart,u]at this
        |Na M ds=>
         rw[Rep]at i;obtain⟨I,B,e,hb,_⟩:=i;cases e;intro e;subst e;exact hb (La hn)
        |_=>cases j
       refine⟨a,b,k,l,rfl,rfl,t,A,J,by rw[K,L];exact Ya g.2 (by decide),?_⟩;have D:=r.write (o:=.dK (Mu k l)) (ob:=.Na (dz f more)) hn ⟨_,Jg,by
        have ex:Ext F H F (upd H a (.dK (Mu k l))):=Mw (La hn) A (λ_ z=>by cases z) (λ_ _ z=>by cases z);exact iX (Oh.mono ex s) (Oh.mono ex g2)⟩
       exact h _ _ _ D.1 D.2 (by rw[Rep])
      ·rw[ja g]at h;exact h.elim
    |lst O=>simp only[d]at h;exact h.elim
    |ins c fs=>simp only[d]at h;exact h.elim
    |Kf _=>simp only[d]at h;exact h.elim
    |Kk _=>simp only[d]at h;exact h.elim
  |_::_::_=>exact h.elim
 |_=>exact h.elim
end
theorem rH:bootBuiltins "sorted" = some (.builtin "sorted"):=by decide +kernel
theorem gR:∀ {a:List Key} {vs:List Value},vs.length=a.length->(∀ (j:Nat) (v:Value) (k:Key),vs[j]?=some v->a[j]?=some k->vd (kV k) v)->Pd (a.map kV) vs
 |[],[],_,_=>.nil
 |[],_::_,h,_=>by simp at h
 |_::_,[],h,_=>by simp at h
 |k::a,v::vs,h,b=>.cons (b 0 v k rfl rfl) (gR (by simpa using h) λj v k c d=>b (j+1) v k c d)
theorem uZ{P:ua}{w:Ea}{k:Key}{v:Value}(h:(Nn P w).is k v=true):vd (kV k) v:=by
 rw[aU]at h;rcases uu h with⟨i,t,rfl,rfl⟩|⟨x,t,rfl,rfl⟩
 ·exact⟨t,rfl⟩
 ·exact⟨t,rfl⟩
theorem VR:∀ {kvs:List (Key × V)} {ws:List (Key × Value)},KV kvs ws->ws.map (·.1)=kvs.map (·.1)
 |[],_,h=>by cases h;rfl
 |p::kvs,_,h=>by
  cases h with
  |cons q h=>simp only[Ia];rw[VR h,q.1]
section
variable{T:Tb}{X:Cx}
noncomputable def iA:Key->D
 | .inl i=>.int i
 | .inr x=>.str x
end
end L4
namespace L4
open PySem PySem.Spec PySem.Calls PySem.W PyProof.Rows PyProof.V
theorem o7{prog:ua}{w:Ea}{A:Da}{E:Value->Shared->Prop}{s:Shared}{R:List Value->Shared->Prop}{t:String}{r d:Addr}{n:Nat}{P:Nat->Value->Prop}{p:Heap->Prop}
  (K:KdlSrc prog w t r d n P p) (u:A.handled=none) (Pb:p s.heap) (hn:n<=sizeLine)
  (k:∀ (h':Heap) (tk:Nat) (a:Array Value),(∀ b o,s.heap.get? b=some o->h'.get? b=some o)->s.heap.objs.size<=h'.objs.size->oo P a n->R a.toList { s with heap:=h',toks:=tk }) :
  wpAny (model prog w) A (JA (.ref r)) R E s:=by
 have lt:=K.there _ Pb;let S:Addr:=s.heap.objs.size;let Z:wn->Shared->Prop:=λq m=>∃ (h':Heap) (tk:Nat) (a:Array Value) (c:Nat),q=.ok (.ret (.ref S))/\m={ s with heap:=h',toks:=tk }/\(∀ b o,s.heap.get? b=some o->h'.get? b=some o)/\
  h'.get? S=some { cls:=.type "list",dict:=none,data:=.seq a c,slots:=#[] }/\oo P a n
 have h:∀ {h':Heap} {tk c:Nat} {a:Array Value},(∀ b o,s.heap.get? b=some o->h'.get? b=some o)->h'.get? S=some { cls:=.type "list",dict:=none,data:=.seq a c,slots:=#[] }->oo P a n->R a.toList { s with heap:=h',toks:=tk }:=
  λkp g i=>k _ _ _ kp (Td (la g)) i
 have j:(s.heap.push { cls:=.type "list",data:=.seq ([]:List Value).toArray }).get? S=some { cls:=.type "list",data:=.seq #[] }:=ya _ rfl;have run:=kdl_extend (A:=A) (s:={ s with heap:=s.heap.push { cls:=.type "list",data:=.seq ([]:List Value).toArray } }) (R:=Z) K u (K.keep _ _ Pb λb _ o e=>ba _ e) S (Ud lt.1) (Ud lt.2) (.ref S) 0 j
  (λh' tk a c kp g i=>⟨h',tk,a,c,rfl,rfl,λb o e=>kp b o (ra (la e)) (ba _ e),g,i⟩) hn
 unfold JA;refine aa (Lr (nc Sw ?_));rw[Qb Em _];show wpAny _ A.in1 (O9 [] >>= λl=>again (.builtin "list.__iadd__" ⟨[l,.ref r],[]⟩)) _ _ s;refine aa (Sb (da ⟨de Qf _,nc lC ?_⟩));rw[Qb Qf _];show wpAny _ A.in1 (Qe (.ref S) (.ref r) (.ref S)) _ _ _;refine Eb run (λf m x=>?_) (λe m x=>by obtain⟨_,_,_,_,z,_⟩:=x;cases z);cases f with
 |done f=>
  obtain⟨h',tk,a,c,e,rfl,kp,g,i⟩:=x;cases e;exact aa (mn g (da (h kp g i)))
 |again v=>
  refine⟨x.1,kf x.2 λq B y=>?_⟩;obtain⟨h',tk,a,c,rfl,rfl,kp,g,i⟩:=y;exact aa (mn g (da (h kp g i)))
end L4
namespace L4
open PySem PySem.Spec PyProof.Rows L2
noncomputable def YF:List V->Hp->VK->Prop:=λxs H Q=>∃ (a:Addr) (b:List (Key × V)) (is:List Int),xs=[.ref a]/\Rd H a (.dK b)/\b.map (·.1)=is.map Sum.inl/\is.length<64/\∀ l,H l=none->Q (.ref l) (upd H l (.lst ((Tf is).map V.int)))
theorem PQ:∀ {a:List Int} {vs:List Value},Pd ((a.map (Sum.inl:Int->Key)).map kV) vs->wh vs a
 |[],_,h=>by cases h;exact .nil
 |i::a,_,h=>by
  cases h with
  |cons q h=>
   obtain⟨t,rfl⟩:=q;exact .cons i t (PQ h)
section
variable{T:Tb}{X:Cx}
theorem HZ(U:X.calm=true):Wm X (.builtin "sorted") YF:=by
 intro K s σ H xs us Q I r h;obtain⟨a,kvs,is,rfl,S,g,p,q⟩:=h;obtain⟨u,rfl,rx⟩:=Bs r;cases rx;obtain⟨z,hd,l,rel,O⟩:=uv I.Pb S;obtain⟨ep,t⟩:=O.dictAt;have F:=VR rel;have a0:l.length=kvs.length:=by have:=we List.length F;simpa using this
 have Z:kvs.length=is.length:=by have:=we List.length g;simpa using this
 have hn:l.length<=sizeLine:=by omega
 refine Fo kind_sorted E9 F9 (G9 _) ?_;unfold Xe.«sorted»;refine aa (m:=checkCount "sorted" 1 1 _) (da ?_);refine aa (o7 (A:=X.A.in1) (W.kdl_dict (knd:=Nn X.prog X.w) (kvs:=l) (ep:=ep) hd) (I.ok.hd U) t hn λn tk c kp i d=>?_);have G:c.toList.length=l.length:=by rw[Bb];exact d.1
 have J:Pd ((l.map (·.1)).map kV) c.toList:=gR (by rw[xa];exact G) λj v k P D=>by
  obtain⟨k',x,hx,y⟩:=d.2 j v (by rw[<-Xc];exact P);rw[Ja,hx]at D;cases D;exact uZ y
 rw[F,g]at J;have T:=PQ J;refine aa (Bt ?_ (by rw[G];exact hn));have f:(n.push (Wi "list" c.toList.toArray 0)).get? n.objs.size=some (Wi "list" c.toList.toArray 0):=ya _ rfl;refine aa (Rb (Nc LJ ⟨_,f,rfl⟩ EF (MJ f T (by omega) λout C L M N=>⟨_,rfl,?_⟩) (NJ _)));refine da ⟨_,rfl,?_⟩;have R:C=Tf is:=cC (M.trans (Mx is).symm) N (aE is);subst R;have B:=(Mx is).length_eq;obtain⟨e,Y⟩:=JS (out:=out) f;exact⟨.ref n.objs.size,_,I.laid (t':=tk) (λb o E=>by
  have lt:b<n.objs.size:=la (kp b o E);rw[OJ (ra lt) (by rw[mz];exact Ab lt)];exact ba _ (kp b o E)) i (show lj X.prog X.w _ _ _ (.lst ((Tf is).map V.int))from⟨by rw[xa,B];exact Ya (Td p) (by decide),out.toList,e,Pz L,by rw[vj];exact Y⟩),rfl,q _ (I.Pb.fresh i)⟩
noncomputable def ww:List (Key × D)->Option (List Int)
 |[]=>some []
 |(.inl i,_)::r=>(ww r).map (i::·)
 |_::_=>none
theorem rN{μ:List Addr}{H:Hp}:∀ {kvs:List (Key × D)} {us:List (Key × V)} {is:List Int},Oh T μ H kvs us->ww kvs=some is->us.map (·.1)=is.map Sum.inl
 |[],_,is,h,e=>by unfold Oh at h;cases h;cases e;rfl
 |(k,d)::kvs,_,is,h,e=>by
  unfold Oh at h;cases h with
  |cons q h=>
   cases k with
   |inr x=>cases e
   |inl i=>
    unfold ww at e;cases a:ww kvs with
    |none=>rw[a]at e;cases e
    |some b=>
     rw[a]at e;cases e;simp only[Ia];rw[rN h a,<-q.1]
noncomputable def IB(xs:List D):M D:=λb=>match xs with
 |[x]=>(match Zk b x with
  |some a=>(match ww a with
   |some is=>if is.length<64 then vy ((Tf is).map D.int) b else .bad
   |none=>.bad)
  |none=>.bad)
 |_=>.bad
theorem U1:Ot T YF IB:=by
 intro E o H m xs n Q r p h
 match xs with
 |[]=>exact h.elim
 |[x]=>
  rw[Ua]at p;obtain⟨v,w,rfl,j,f⟩:=p;rw[Ua]at f;subst f;unfold IB at h;cases e:Zk m x with
  |none=>simp only[e]at h;exact h.elim
  |some d=>
   simp only[e]at h;cases b:ww d with
   |none=>simp only[b]at h;exact h.elim
   |some is=>
    simp only[b]at h;by_cases c:is.length<64
    ·rw[ia c]at h;obtain⟨a,k,rfl,g,g2⟩:=Gz r j e;exact⟨a,k,is,rfl,g,rN g2 b,c,λl i=>lA h r (NH _) i⟩
    ·rw[ja c]at h;exact h.elim
 |_::_::_=>exact h.elim
noncomputable def WP(K:W.Frag):List V->Hp->VK->Prop:=λxs H Q=>MG K xs H Q\/YF xs H Q
theorem DN(d:X.calm=true):Wm X (.builtin "sorted") (WP X.K):=by
 intro a s c H xs b Q I r h;rcases h with h|h
 ·exact TZ a s c H xs b Q I r h
 ·exact HZ d a s c H xs b Q I r h
noncomputable def Lw(xs:List D):M D:=λa=>match xs with
 |[x]=>(match Ff a x with
  |some _=>sG [x] a
  |none=>IB [x] a)
 |_=>.bad
theorem CK(d:T.K=X.K):Ot T (WP X.K) Lw:=by
 intro E c H a xs b Q r p h
 match xs with
 |[]=>exact h.elim
 |[x]=>
  unfold Lw at h;cases e:Ff a x with
  |some f=>simp only[e]at h;exact .inl (dX d E c H a [x] b Q r p h)
  |none=>simp only[e]at h;exact .inr (U1 E c H a [x] b Q r p h)
 |_::_::_=>exact h.elim
end
section
variable{T:Tb}{X:Cx}
end
end L4
namespace L2
open PySem PySem.Spec PyProof.Rows
end L2
namespace L4
open PySem PySem.Spec PyProof.Rows L2
section
variable{T:Tb}{X:Cx}
inductive YG(T:Tb)(X:Cx):List (Option Ga)->List Ga->List Key->(Ev->M (List D))->Prop
 |nil:YG T X [] [] [] xb
 |cons {k v:Ga} {kk:Key} {f:Ev->M D} {ks:List (Option Ga)} {vs:List Ga} {kks:List Key} {fs:Ev->M (List D)} (hk:FE T X k (eC (iA kk))) (hv:FE T X v f) (r:YG T X ks vs kks fs):YG T X (some k::ks) (v::vs) (kk::kks) (Ta f fs)
end
section
variable{T:Tb}{X:Cx}{pins:List (Addr × Obj)}{st:St}{H:Hp}{s:Shared}
variable{N':List qa}{scope:Scope}{cl:List (qa × Addr)}{H3:Hp}{s3:Shared}{fp:List Addr}{xe:Value->Shared->Prop}
end
section
variable{T:Tb}{X:Cx}
end
section
variable{ρ:Ev}{σ:Oa}
end
end L4
namespace L4
open PySem PySem.Spec PyProof.Rows L2 Builtin Builtin.Str
section
variable{T:Tb}{X:Cx}{a b e o:Ga}{fa fb f:Ev->M D}{pos apos cpos:Se}
end
section
variable{ρ:Ev}{σ:Oa}
end
end L4
namespace L4
open PySem PySem.Spec PyProof.Rows L2
section
variable{T:Tb}{X:Cx}
end
section
variable{ρ:Ev}{σ:Oa}
end
section
variable{prog:ua}{w:Ea}{A:Da}{E:Value->Shared->Prop}{h:Heap}{g:Array jo}{d:Vw}{t:Nat}{os:OsState}
variable{nm qn:qa}{C N:Addr}{bs bm bmB:List Value}{hdct:Bool}{sn:List qa}{sub:List Value}{ab:Bool}{col:Option Bool}{dd:Option Addr}{k0 k1 k2 k3 k5:Option Value}{B newId initId:String}
end
section
variable{T:Tb}{X:Cx}{pins:List (Addr × Obj)}{st:St}{H:Hp}{s:Shared}
end
section
variable{X:Cx}
end
section
variable{prog:ua}{w:Ea}{A:Da}{E:Value->Shared->Prop}{h:Heap}{g:Array jo}{d:Vw}{t:Nat}{os:OsState}{K:W.Frag}
variable{nm qn:qa}{C N x:Addr}{bs bm bmB:List Value}{sn:List qa}{sub:List Value}{ab:Bool}{col:Option Bool}{dd:Option Addr}{k0 k1 k2 k3 k5:Option Value}{B newId sa owner:String}{name:qa}{v:Value}{o:Obj}{vs:Array Value}
end
section
variable{X:Cx}
end
section
variable{P:ua}{w:Ea}{K:W.Frag}{mg:qa->Option Value}{base:Heap}
end
section
variable{M:Yj}{A:Da}{E:Value->Shared->Prop}{s:Shared}{env:Og}
variable{nm qn:qa}{C N:Addr}{bs bm:List Value}{hdct:Bool}{sn:List qa}{sub:List Value}{ab:Bool}{col:Option Bool}{dd:Option Addr}{k0 k1 k2 k3 k5:Option Value}{newId:String}
end
section
variable{T:Tb}{X:Cx}
end
end L4
namespace L4
open PySem PySem.Spec PySem.Calls PyProof.Rows PySem.Builtin PySem.Builtin.ObjectAttr L2
section
variable{prog:ua}{w:Ea}{A:Da}{E:Value->Shared->Prop}{s:Shared}{K:W.Frag}{C ea dN:Addr}{hp:Heap}{n:Nat}{Mo:Yj}
end
section
variable{T:Tb}{X:Cx}
end
section
variable{ρ:Ev}{σ:Oa}
end
end L4
namespace HT
open PySem Builtin
open Sem (wp)
end HT
namespace L4
open PySem PySem.Spec PyProof.Rows L2
end L4
namespace L4
open PySem
noncomputable def vx(xs:Array Nat):Prop:=∀ i k:Nat,∀ a b:Nat,i<k->xs[i]?=some a->xs[k]?=some b->a<b
noncomputable def Cut(xs:Array Nat)(j p:Nat):Prop:=p<=xs.size/\(∀ i a:Nat,i<p->xs[i]?=some a->a<j)/\∀ i a:Nat,p<=i->xs[i]?=some a->j<=a
theorem oT{xs:Array Nat}(p:vx xs)(j:Nat):∀ (c b hi:Nat),hi - b<=c->b<=hi->hi<=xs.size->(∀ i a:Nat,i<b->xs[i]?=some a->a<j)->(∀ i a:Nat,hi<=i->xs[i]?=some a->j<=a)->Cut xs j (qo xs j c b hi):=by
 intro c;induction c with
 |zero=>
  intro b hi t u h k l;have e:b=hi:=by omega
  subst e;exact⟨h,k,l⟩
 |succ f r=>
  intro b hi t u h k l;unfold qo;by_cases o:b<hi
  ·rw[ia o];dsimp only;have hm:(b+hi) / 2<hi:=by omega
   have v:b<=(b+hi) / 2:=by omega
   have q:(b+hi) / 2<xs.size:=by omega
   have g:xs[(b+hi) / 2]?=some xs[(b+hi) / 2]:=pb q;have s:xs.getD ((b+hi) / 2) j=xs[(b+hi) / 2]:=by simp[Array.getD,q]
   rw[s];by_cases m:xs[(b+hi) / 2]<j
   ·rw[ia m];refine r _ _ (by omega) (by omega) h (λi a n d=>?_) l;by_cases e:i=(b+hi) / 2
    ·subst e;rw[g]at d;cases d;exact m
    ·have:=p i ((b+hi) / 2) a _ (by omega) d g;omega
   ·rw[ja m];refine r _ _ (by omega) (by omega) (by omega) k (λi a n d=>?_);by_cases e:i=(b+hi) / 2
    ·subst e;rw[g]at d;cases d;omega
    ·have:=p ((b+hi) / 2) i _ a (by omega) g d;omega
  ·rw[ja o];have e:b=hi:=by omega
   subst e;exact⟨h,k,l⟩
theorem FL{xs:Array Nat}(c:vx xs)(j:Nat):Cut xs j (ye xs j):=by
 unfold ye;exact oT c j _ _ _ (by omega) (by omega) (pa _) (λi a h=>by omega) (λi a h b=>by
  have:=(Pc.mp b).1;omega)
theorem N8{xs:Array Nat}{j p q:Nat}(a:Cut xs j p)(b:Cut xs j q):p=q:=by
 rcases Yv p q with h|h|h
 ·have f:p<xs.size:=Aa h b.1;have e:xs[p]?=some xs[p]:=pb f;have c:=b.2.1 p _ h e;have d:=a.2.2 p _ (pa _) e;omega
 ·exact h
 ·have g:q<xs.size:=Aa h a.1;have e:xs[q]?=some xs[q]:=pb g;have c:=a.2.1 q _ h e;have d:=b.2.2 q _ (pa _) e;omega
theorem WZ{xs:Array Nat}{p x:Nat}(e:p<=xs.size)(i:Nat):(Zj xs p x)[i]?=if i<p then xs[i]? else if i=p then some x else xs[i - 1]?:=by
 unfold Zj;have a:(xs.extract 0 p).size=p:=by simp;omega
 rw[Array.getElem?_append,Array.size_push,a];by_cases b:i<p
 ·rw[ia (by omega),ia b,Hs,ja (by rw[a];omega),Aq];simp;omega
 ·rw[ja b];by_cases c:i=p
  ·subst c;rw[ia (by omega),ia rfl,Hs,ia (by rw[a])]
  ·rw[ja (by omega),ja c,Aq];by_cases d:i - 1<xs.size
   ·rw[ia (by omega)];congr 1;omega
   ·rw[ja (by omega),Bq (by omega)]
theorem BY{xs:Array Nat}{p x:Nat}(m:vx xs)(l:Cut xs x p)(hn:¬ xs[p]?=some x):vx (Zj xs p x):=by
 have r:∀ i a:Nat,p<=i->xs[i]?=some a->x<a:=λi a s c=>by
  have g:=l.2.2 i a s c;rcases Nat.lt_or_ge x a with h|h
  ·exact h
  ·have e:a=x:=by omega
   subst e;by_cases o:i=p
   ·subst o;exact absurd c hn
   ·have u:=(Pc.mp c).1;have t:p<xs.size:=by omega
    have q:xs[p]?=some xs[p]:=pb t;have:=m p i _ _ (by omega) q c;have:=l.2.2 p _ (pa _) q;omega
 intro i k a b n c d;rw[WZ l.1]at c d;by_cases g:i<p
 ·rw[ia g]at c;by_cases j:k<p
  ·rw[ia j]at d;exact m i k a b n c d
  ·rw[ja j]at d;by_cases f:k=p
   ·rw[ia f]at d;cases d;exact l.2.1 i a g c
   ·rw[ja f]at d;exact m i (k - 1) a b (by omega) c d
 ·rw[ja g]at c;have j:¬ k<p:=by omega
  rw[ja j,ja (by omega)]at d;by_cases f:i=p
  ·rw[ia f]at c;cases c;exact r (k - 1) b (by omega) d
  ·rw[ja f]at c;exact m (i - 1) (k - 1) a b (by omega) c d
structure zk(b:Bool)(t:Zd):Prop where
 led:t.led = !b
 MC:vx t.place
 vI:t.dummies=#[]
theorem OM(j:Nat):bw #[] j=false:=by
 unfold bw;simp
theorem w5{b:Bool}{t:Zd}(h:zk b t)(j:Nat):t.slot j=.empty/\¬ t.place[ye t.place j]?=some j\/∃ i,t.slot j=.live i:=by
 unfold SetTable.slot;dsimp only;by_cases e:(t.place[ye t.place j]? == some j)=true
 ·rw[ia e];exact .inr ⟨_,rfl⟩
 ·rw[ja e,h.vI,OM];exact .inl ⟨rfl,by simpa using e⟩
theorem VW{b:Bool}{t:Zd}(h:zk b t)(d:Nat->Int)(k:Int):∀ (a:Nat) (p:SetTable.Probe) (m:SetTable.Met),p.dummy=none->Ug t d k a p=some m->(∃ j,m=.empty j none/\¬ t.place[ye t.place j]?=some j)\/∃ j i nx,m=.candidate j i nx:=by
 intro a;induction a with
 |zero=>intro p m _ e;unfold Ug at e;cases e
 |succ f l=>
  intro p m hd e;unfold Ug at e;rcases w5 h p.j with⟨c,hn⟩|⟨i,c⟩
  ·rw[c]at e;dsimp only at e;cases e;rw[hd];exact .inl ⟨_,rfl,hn⟩
  ·rw[c]at e;dsimp only at e;by_cases g:(d i == k)=true
   ·rw[ia g]at e;cases e;exact .inr ⟨_,_,_,rfl⟩
   ·rw[ja g]at e;refine l _ m ?_ e;unfold SetTable.advance;split
    ·exact hd
    ·exact hd
theorem aV{b:Bool}{t:Zd}(h:zk b t){a:Int}{j:Nat}{f:Bool}(e:t.freeSlot a=some (j,f)):¬ t.place[ye t.place j]?=some j:=by
 unfold SetTable.freeSlot SetTable.probe at e;cases c:Ug t (λ_=>a+1) a (10 * SetTable.turns t.mask) (t.probeStart a)with
 |none=>rw[c]at e;cases e
 |some m=>
  rw[c]at e;rcases VW h _ _ _ _ m rfl c with⟨d,rfl,hn⟩|⟨d,i,nx,rfl⟩
  ·cases e;exact hn
  ·cases e
theorem zk.put{b:Bool}{t:Zd}(h:zk b t){j:Nat}(hn:¬ t.place[ye t.place j]?=some j):zk b (t.put j).1:=by
 unfold SetTable.put;dsimp only;refine⟨h.led,BY h.MC (FL h.MC j) hn,?_⟩;rw[h.vI,OM];rfl
theorem zk.plain{b p:Bool}{t:Zd}(h:zk b t):zk b { t with plain:=p }:=⟨h.led,h.MC,h.vI⟩
theorem GY(n:Nat):vx (Array.range n):=by
 intro i k a c g b d;have e:=(Pc.mp b).1;have f:=(Pc.mp d).1;simp only[Array.size_range]at e f;simp[e]at b;simp[f]at d;omega
theorem zk.Vr{b:Bool}{t:Zd}(h:zk b t)(n:Nat):zk b (t.standIn n):=⟨h.led,GY n,rfl⟩
theorem zk.or{b:Bool}{t:Zd}(h:zk b t)(n:Nat):zk b (t.orStandIn n):=by
 unfold SetTable.orStandIn;split
 ·exact h
 ·exact h.Vr n
theorem zk.lay{b:Bool}{t:Zd}(h:zk b t)(c:Array (Int × Value))(a:Int)(x:Value):zk b (layNew t c a x).2.1:=by
 unfold layNew;cases e:t.freeSlot a with
 |none=>exact h.Vr _
 |some q=>
  obtain⟨j,d⟩:=q;dsimp only;exact(h.put (aV h e)).or _
theorem m8(m:Nat)(f:Nat->Option Nat):vx ((((List.range m).filterMap λj=>(f j).map (j,·)).map (·.1)).toArray):=by
 have p:List.Pairwise (·<·) (((List.range m).filterMap λj=>(f j).map (j,·)).map (·.1)):=by
  have n:List.Pairwise (·<·) (List.range m):=List.pairwise_lt_range;have e:((List.range m).filterMap λj=>(f j).map (j,·)).map (·.1)=(List.range m).filter λj=>(f j).isSome:=by
   rw[List.map_filterMap];rw[<-List.filterMap_eq_filter];congr 1;funext j;cases o:f j<;>simp[Option.guard,o]
  rw[e];exact n.sublist List.filter_sublist
 intro i k a c b d g;rw[df]at d g;obtain⟨q,h⟩:=ka.mp d;obtain⟨r,l⟩:=ka.mp g;rw[<-h,<-l];exact Cp.mp p i k q r b
theorem zk.QA{b:Bool}{t:Zd}(h:zk b t)(a:Array (Int × Value))(c:Nat):zk b (ro t a c).2.1:=by
 unfold ro;cases e:t.relaid (a.map (·.1)) c with
 |none=>exact h.Vr _
 |some q=>
  obtain⟨i,f⟩:=q;dsimp only;split
  ·unfold SetTable.relaid SetTable.laid at e;cases d:SetTable.layClean (SetTable.sizeAbove c - 1) (a.map (·.1))with
   |none=>rw[d]at e;cases e
   |some g=>
    rw[d]at e;cases e;exact⟨h.led,m8 _ _,rfl⟩
  ·exact h.Vr _
theorem zk.fresh(b:Bool):zk b (ku 0 0 (!b)):=⟨rfl,λi k a c _ d _=>by simp[ku]at d,rfl⟩
end L4
namespace L4
open PySem PySem.Spec PyProof.Rows
section
variable{prog:ua}{w:Ea}{K:Type}[DecidableEq K][BEq K][LawfulBEq K]{knd:KeyKind prog w K}{A:Da}{E:Value->Shared->Prop}{s:Shared}{b:Bool}{a:Addr}{k:K}{x:Value}
noncomputable def Ar(knd:KeyKind prog w K)(b:Bool)(h:Heap)(a:Addr)(S:K->Bool)(n:Nat):Prop:=
 ∃ o c d t,h.get? a=some o/\o.ExactSet/\o.data=.set c d t/\Vq knd c.toList/\(∀ k,S k=true ↔ ∃ e∈c.toList,knd.is k e.2=true)/\c.size<scanBound/\t.fits c.size=true/\c.size=n/\zk b t
theorem RM{h:Heap}{o:Obj}{m c:Array (Int × Value)}{ep:Nat}{t t':Zd}{S':K->Bool}(n:h.get? a=some o)(d:o.ExactSet)(p:o.data=.set m ep t)(f:Vq knd c.toList)
  (i:∀ k,S' k=true ↔ ∃ e∈c.toList,knd.is k e.2=true) (j:c.size<scanBound) (l:t'.fits c.size=true) (q:zk b t') :
  (h.update a (sv c t')).get? a=some { o with data:=.set c (ep+1) t' }/\Ar knd b (h.update a (sv c t')) a S' c.size:=by
 obtain⟨g,_⟩:=SetOf_store (knd:=knd) n d p f i j l;exact⟨g,_,c,ep+1,t',g,d,rfl,f,i,j,l,rfl,q⟩
theorem fM{g:Bool->Xp Unit}(L:∀ (c:Bool) (G:Shared) (p:Unit->Shared->Prop),p () G->wpAny (model prog w) A (g c) p E G){o:Obj}{I d:Array (Int × Value)}{ep:Nat}{t f:Zd}{S':K->Bool}{M:Bool}{R:Option Bool->Shared->Prop}
  (v:s.heap.get? a=some o) (x:o.ExactSet) (B:o.data=.set I ep t) (C:Vq knd d.toList) (D:∀ k,S' k=true ↔ ∃ e∈d.toList,knd.is k e.2=true) (j:d.size<scanBound) (J:f.fits d.size=true) (F:zk b f)
  (q:∀ h',Rc a s.heap h'->Ar knd b h' a S' d.size->R (some true) { s with heap:=h' }) :
  wpAny (model prog w) A (do
    storeSet a d f
    if (!M && f.tooFull)=true then do
      g (ro f d (ff d.size)).2.2
      storeSet a (ro f d (ff d.size)).1 (ro f d (ff d.size)).2.1
      pure (some true)
     else pure (some true)) R E s:=by
 refine aa (xA v B ?_ (Lg j));obtain⟨u,H⟩:=RM (knd:=knd) v x B C D j J F;have h:=Gb s.heap a (sv d f);split
 ·have i:=relayAll_perm f d (ff d.size);have m:=relayAll_fits f d (ff d.size);have n:=F.QA d (ff d.size);generalize ro f d (ff d.size)=Z at i m n ⊢;obtain⟨l,O,N⟩:=Z;dsimp only at i m n ⊢;have z:l.size=d.size:=by rw[<-Bb,i.length_eq,Bb]
  refine aa (L _ _ _ (aa (xA u rfl ?_ (Lg (by rw[z];exact j)))));obtain⟨_,r⟩:=RM (knd:=knd) (S':=S') u x rfl (C.perm i) (λk=>(D k).trans ⟨λ⟨e,he,y⟩=>⟨e,i.mem_iff.mpr he,y⟩,λ⟨e,he,y⟩=>⟨e,i.mem_iff.mp he,y⟩⟩) (by rw[z];exact j) m n;rw[z]at r;exact da (q _ (h.trans (Gb _ a _)) r)
 ·exact da (q _ h H)
theorem RX{S:K->Bool}{n:Nat}{Q:Bool->Shared->Prop}(L:knd.is k x=true)(M:x.scannable=true)(Y:Ar knd b s.heap a S n)(hn:n+1<scanBound)
  (q:∀ h',Rc a s.heap h'->Ar knd b h' a (λf=>S f || decide (f=k)) (if S k then n else n+1)->Q (!S k) { s with heap:=h' }):wpAny (model prog w) A (P9 a x (knd.hash k)) Q E s:=by
 obtain⟨o,g,X,t,r,I,u,F,G,R,J,T,U⟩:=Y;unfold P9 setAddHashedIn;refine Rb (aa (Bf r u J ?_));dsimp only;rw[byScan_of M R F];simp only[↓reduceIte];unfold setAddByScan;refine aa (aa (Ir (aa (wpAny_setScan_of L r u J F ?_))));cases V:List.findIdx? (λe=>knd.is k e.2) g.toList with
 |some j=>
  dsimp only;obtain⟨hj,pj,_⟩:=List.findIdx?_eq_some_iff_getElem.mp V;have C:S k=true:=(G k).mpr ⟨g.toList[j],Cf hj,pj⟩;refine da (da ?_);have z:=q s.heap (FF a s.heap) ⟨o,g,X,t,r,I,u,F,λf=>by
   rw[af,Mb,<-G f];exact⟨λy=>y.elim id λe=>e ▸ C,.inl⟩,R,J,by rw[C];exact T,U⟩
  rw[C]at z;obtain⟨hp,gg,dd,tk,os⟩:=s;exact z
 |none=>
  dsimp only;have C:S k=false:=by
   cases y:S k with
   |false=>rfl
   |true=>obtain⟨e,he,p⟩:=(G k).mp y;have:=List.findIdx?_eq_none_iff.mp V e he;rw[p]at this;cases this
  have H:∀ (c:Bool) {s1:Shared} {l:Unit->Shared->Prop},l () s1->wpAny (model prog w) A (match c with|true=>rule "set.scan.the-table-gave-way" | false=>pure ()) l E s1:=λc s1 l y=>by
   cases c
   ·exact da y
   ·exact Ir y
  have h:=layNew_perm t g (knd.hash k) x;have v:=layNew_fits t g (knd.hash k) x;have B:=U.lay g (knd.hash k) x;generalize layNew t g (knd.hash k) x=Z at h v B ⊢;obtain⟨d,t1,wd,gv⟩:=Z;dsimp only at h v B ⊢;rw[Array.toList_push]at h;have N:Vq knd d.toList:=(F.push L M).perm h;have O:∀ f,(S f || decide (f=k))=true ↔ ∃ e∈d.toList,knd.is f e.2=true:=mem_push_iff L G h;have W:d.size=n+1:=by rw[<-Bb,h.length_eq,ib,Bb,T];rfl
  have P:d.size<scanBound:=by omega
  have m:∀ h',Rc a s.heap h'->Ar knd b h' a (λf=>S f || decide (f=k)) d.size->Q true { s with heap:=h' }:=λh' D i=>by
   have:=q h' D;rw[C]at this;rw[W]at i;exact this i
  refine aa (H _ ?_);split
  ·refine aa ?_;rw[hashByValue_scannable 8 M];refine da (fM (b:=b) ?_ r I u N O P ?_ ?_ ?_)
   ·exact λc s1 l y=>H c y
   ·split
    ·exact v
    ·exact SetTable.fits_plain_off v
   ·split
    ·exact B
    ·exact B.plain
   ·exact λh' D i=>da (m h' D i)
  ·refine aa (da ?_);simp only[↓reduceIte];refine fM ?_ r I u N O P v B ?_
   ·exact λc s1 l y=>H c y
   ·exact λh' D i=>da (m h' D i)
end
noncomputable def bT(w:Ea):Bool:=w.params.followText "set-order"
section
variable{prog:ua}{w:Ea}{A:Da}
theorem cY{b:Bool}{h:Heap}{a:Addr}{S S':Int->Bool}{n n':Nat}(d:Ar (mf prog w) b h a S n)(e:∀ k,S k=S' k)(c:n=n'):Ar (mf prog w) b h a S' n':=by
 obtain rfl:S=S':=funext e;subst c;exact d
theorem pJ{b:Bool}{h h':Heap}{a:Addr}{S:Int->Bool}{n:Nat}(e:Ar (mf prog w) b h a S n)(k:∀ o,h.get? a=some o->h'.get? a=some o):Ar (mf prog w) b h' a S n:=by
 obtain⟨o,d,c,t,f,r⟩:=e;exact⟨o,d,c,t,k o f,r⟩
theorem uV{R:wn->Shared->Prop}{I:Addr}{r wr:List Addr}{G:Array jo->Array jo->Prop}{n:Nat}{P:Nat->Value->Prop}{St:Nat->Shared->Prop}{b:Bool}(W:WalksS prog w A.in1 I r wr G n P St)(a:Addr)(u:a ∉ r)(f:Nat->Int)(H:∀ i v,P i v->∃ t,v=.int (f i) t)(hn:n+1<scanBound) :
  ∀ (k i:Nat) (s:Shared),n - i=k->i<=n->St i s->Ar (mf prog w) b s.heap a (λy=>(ng f i).any (·== y)) (ng f i).length->
   (∀ s',Moved (a::wr) G s s'->Ar (mf prog w) b s'.heap a (λy=>(ng f n).any (·== y)) (ng f n).length->R (.ok (.ret .none)) s')->codeAny (model prog w) A (.builtin "set.update.loop" ⟨[.ref a,.ref I],[]⟩) R s:=by
 have p:a ∉ wr:=λz=>u (W.sub _ z);have sub:∀ c∈wr,c∈a::wr:=λc d=>Ha _ d;intro k;induction k with
 |zero=>
  intro i s K J j g q;obtain rfl:i=n:=by omega
  refine nc Js ?_;rw[Qb Ui _];show wpAny _ A.in1 (pyNext (.ref I) >>= _) _ _ s;refine aa (W.done s _ _ j λs' m=>?_);exact da (q s' (m.mono sub) (pJ g λo e=>m.heap a _ p e))
 |succ k L=>
  intro i s K J j g q;have lt:i<n:=by omega
  refine nc Js ?_;rw[Qb Ui _];show wpAny _ A.in1 (pyNext (.ref I) >>= _) _ _ s;refine aa (W.item i s _ _ lt j λv s' E l m=>?_);obtain⟨t,rfl⟩:=H i v E;have h:=pJ (h':=s'.heap) g λo e=>m.heap a _ p e;show wpAny _ A.in1 (Yf [Bd (f i) t] (setAdd a (.int (f i) t)) >>= _) _ _ s';unfold setAdd;refine aa (Rb (Rb (aa ((mf prog w).pyHash (k:=f i) (intKind_is _ _ _ _) ?_))));refine RX (knd:=mf prog w) (s:={ s' with toks:=s'.toks+1 }) (intKind_is _ _ _ _) rfl h (by have:=nz f i;omega) λh' x B=>?_;have C:Ar (mf prog w) b h' a (λy=>(ng f (i+1)).any (·== y)) (ng f (i+1)).length:=cY B (λy=>by rw[KS,step_any]) (by rw[KS,step_length]);refine da ⟨de Ui _,L (i+1) _ (by omega) lt (W.frame _ s' _ _ l (gi _) λc d o e=>?_) C λN M D=>?_⟩
  ·rw[x.2 c (λz:c=a=>u (by rw[<-z];exact d))];exact e
  ·refine q N (Moved.trans W.gtrans ((m.mono sub).then_heap (gi _) λc o d e=>?_) M) D;rw[x.2 c (λz:c=a=>d (by rw[z];exact Qa))];exact e
variable{E:Value->Shared->Prop}{s:Shared}
theorem F5(x:Value){Q:Value->Shared->Prop}(q:Q (.ref s.heap.objs.size) { s with heap:=s.heap.push { cls:=.type "set",dict:=none,data:=.set #[] 0 (.fresh 0 0 (!bT w)) } }) :
  codeAny (model prog w) A (.call (.builtin "set.__new__") ⟨[.type "set",x],[]⟩) (wants Q E) s:=by
 refine GF ?_;show wpAny _ A.in1 (do wC "set.__new__" ⟨[.type "set",x],[]⟩;again (.builtin "set.__new__" ⟨[.type "set",x],[]⟩)) _ _ s;refine aa (Tw (PySem.F.newCall_set_1 x) (da ⟨de Up _,nc PySem.F.entry_set_new ?_⟩));rw[Qb Up _];unfold Xe.«set.__new__» Xw;have sub:=sub_set_self;obtain⟨a,g,d,b,os⟩:=s;dsimp only
 wp_walk
 refine Dp (da ?_);dsimp only;simp only[newObj];exact aa (wpAny_alloc (da (da q)))
end
section
variable{prog:ua}{w:Ea}{A:Da}{E:Value->Shared->Prop}{s:Shared}
noncomputable abbrev Aw(w:Ea):Obj:={ cls:=.type "set",dict:=none,data:=.set #[] 0 (.fresh 0 0 (!bT w)) }
set_option maxHeartbeats 3200000 in
theorem D1{l:Addr}{items:Array Value}{ns:List Int}{Q:Value->Shared->Prop}(P:A.handled=none)(T:s.heap.IsList l items)(S:wh items.toList ns)(hb:items.size+1<scanBound)
  (q:∀ (h':Heap) (tk:Nat),Ar (mf prog w) (bT w) h' s.heap.objs.size (λy=>(ng (λi=>ns.getD i 0) items.size).any (·== y)) (ng (λi=>ns.getD i 0) items.size).length->
   (∀ b o,b<s.heap.objs.size->s.heap.get? b=some o->h'.get? b=some o)->Q (.ref s.heap.objs.size) { s with heap:=h',toks:=tk }) :
  wpAny (model prog w) A (call (.type "set") [.ref l]) Q E s:=by
 obtain⟨c,tl,C⟩:=Yc.mro;have f1:=Yc.made;have f2:=Yc.sub;refine Gr (GF (show wpAny _ _ (callAny (.type "set") _) _ _ _ from da ⟨du _ (by decide +kernel),nc PySem.F.entry_type_call ?_⟩));rw[Around.under_plain (weight_type_call_type "set" [.ref l] []) rfl];have f3:=Yc.notType;have f4:=Yc.canCreate;have f5:=PySem.F.typeCall_set_1 (.ref l);repeat (any_goals (first|assumption|wp_step))
 refine kf (F5 (.ref l) (E:=E) (Q:=λH I=>H=.ref s.heap.objs.size/\I={ s with heap:=s.heap.push (Aw w) }) ⟨rfl,rfl⟩) λr I t=>?_;cases r with
 |error e=>exact t
 |ok L=>
  cases L with
  |ret H=>
   obtain⟨rfl,rfl⟩:=t;have B:(s.heap.push (Aw w)).get? s.heap.objs.size=some (Aw w):=ya _ rfl;have tS:Jo { s with heap:=s.heap.push (Aw w) } (.ref s.heap.objs.size) "set":=⟨_,B,rfl⟩
   have i1:=Yc.init.lookup;have i2:=Yc.init.bind (.ref s.heap.objs.size);repeat (any_goals (first|assumption|wp_step))
   refine kf (jl (R:=wants (λr J=>r=.none/\∃ h' tk,J={ s with heap:=h',toks:=tk }/\Ar (mf prog w) (bT w) h' s.heap.objs.size (λy=>(ng (λi=>ns.getD i 0) items.size).any (·== y)) (ng (λi=>ns.getD i 0) items.size).length/\
     (∀ b o,b<s.heap.objs.size->s.heap.get? b=some o->h'.get? b=some o)) E) Yc.init.plain PySem.F.entry_set_init (check_set_init_1 tS ?_)) λZ J d=>?_
   ·obtain⟨⟨oc,X,Y,x⟩,gl,f,G,g⟩:=T;simp only at f g;subst f;subst g;have m:(s.heap.push (Aw w)).get? l=some { cls:=.type "list",dict:=X,data:=.seq items G,slots:=x }:=ba _ gl;have g1:=PySem.F.sub_list_set;have g2:=PySem.F.sub_list_frozenset;have g3:(Xf "list" == Xf "dict")=false:=by decide
    have h:(s.heap.push (Aw w)).IsList l items:=⟨_,m,rfl,G,rfl⟩
    unfold Xe.«set.__init__» noKeywords Yw;generalize n:pyIter=PI
    wp_walk
    subst n;refine Ki h (aa (Lr ?_));have D:l<s.heap.objs.size:=la gl;have N:A.in1.in1.in1.handled=none:=by simp[P]
    have V:l≠(s.heap.push (Aw w)).objs.size:=by rw[rc];exact ra (Ab D)
    have W:s.heap.objs.size ∉ [(s.heap.push (Aw w)).objs.size,l]:=by
     rw[rc];simp only[Fa,Dc,Qh,not_or];exact⟨ra (zb _),Ud D⟩
    refine uV (b:=bT w) ((Ck N _ l V items).toS) s.heap.objs.size W (λi=>ns.getD i 0) (λi v U=>IntsAre.int_at S i v (by rw[Xc];exact U)) hb (items.size - 0) 0 _ (by omega) (ci _) ⟨⟨_,ya _ rfl,rfl,rfl⟩,(h.push _)⟩ ?S0 ?RR;case S0=>
     exact⟨Aw w,#[],0,_,ba _ B,⟨rfl,rfl,rfl⟩,rfl,λe O=>by simp at O,λk=>by simp[LS],by decide,by rfl,by simp[LS],zk.fresh _⟩
    case RR=>
     intro s' hm a;obtain⟨h',M,K,z,u⟩:=s';obtain rfl:M=s.gens:=hm.gens;obtain rfl:K=s.drawn:=hm.drawn;obtain rfl:u=s.os:=hm.os;refine da (da ⟨rfl,h',z,rfl,a,λb o lt e=>?_⟩);refine hm.heap b o ?_ (ba _ (ba _ e));rw[rc];simp only[Fa,Dc,Qh,not_or];exact⟨ra lt,ra (Ab lt)⟩
   ·cases Z with
    |error e=>exact d
    |ok j=>
     cases j with
     |ret r=>
      obtain⟨rfl,h',tk,rfl,a,p⟩:=d;repeat (any_goals (first|assumption|wp_step))
      exact q _ _ a p
     |_=>exact d
  |_=>exact t
end
theorem Cu:pz "set_iterator" "__next__" "set_iterator.__next__":=.of (owner:="set_iterator") (n:="__next__") (by rw[HF,aw];kernel_rfl) (by decide +kernel) (by decide +kernel) (by decide +kernel) (.inl (by decide +kernel)) (by rw[Mr];kernel_rfl)
theorem aD:XJ table "set_iterator.__next__" = some Xe.«set_iterator.__next__»:=entryFor_of_tree (by kernel_rfl)
theorem QE(a:Value):YJ "set_iterator.__next__" ⟨[a],[]⟩:=by unfold YJ;kernel_rfl
theorem tV:XJ table "set.__iter__" = some Xe.«frozenset.__iter__»:=PJ (id':="frozenset.__iter__") (by kernel_rfl) (by first|rfl|decide +kernel) (by decide +kernel) (by kernel_rfl)
noncomputable def mq(h:Heap)(a:Addr)(b:Array (Int × Value))(ep:Nat)(t:Zd):Prop:=∃ o,h.get? a=some o/\o.ExactSet/\o.data=.set b ep t
noncomputable def Hq(h:Heap)(I a:Addr)(first:Value)(i n ep:Nat):Prop:=∃ o,h.get? I=some o/\o.cls=.type "set_iterator"/\o.data=.fields #[first,rawInt i,.ref a,rawInt n,rawInt ep]
section
variable{prog:ua}{w:Ea}{A:Da}{E:Value->Shared->Prop}{s:Shared}{I a:Addr}{es:Array (Int × Value)}{ep:Nat}{t:Zd}{i:Nat}
theorem Hq.ty{first:Value}{n:Nat}(h:Hq s.heap I a first i n ep):s.TypeIs (.ref I) "set_iterator":=let ⟨o,b,c,_⟩:=h;⟨o,b,c⟩
theorem N0{f:Nat}{Q:Option Value->Shared->Prop}{v:Value}{f':Nat}(c:Hq s.heap I a (rawInt f) i es.size ep)(j:mq s.heap a es ep t)(l:t.fits es.size=true)(m:a≠I)
  (hn:∀ (A:Da) (E:Value->Shared->Prop) (Q:Option (Value × Nat)->Shared->Prop),Q (some (v,f')) s->wpAny (model prog w) A (uo a f i ep) Q E s)
  (q:∀ h',Hq h' I a (rawInt f') (i+1) es.size ep->Rc I s.heap h'->Q (some v) { s with heap:=h' }):wpAny (model prog w) A (pyNext (.ref I)) Q E s:=by
 obtain⟨o,d,k,hd⟩:=id c;obtain⟨n,h,p,g⟩:=id j;unfold pyNext;refine aa (Si (Md (name:=Vd "__next__") c.ty Cu (Nc Cu c.ty aD ?_ (QE _))));unfold Xe.«set_iterator.__next__»;refine aa (da ?_);refine aa (kl d hd ?_);dsimp only[rawInt];refine aa (jg h g l ?_);rw[ja (by simp)];simp only[xg];refine aa (hn _ _ _ ?_);dsimp only;refine aa (Mg d hd (by simp) ?_);have e:=Zc (Ee (·.setIfInBounds 0 (Bd (f':Int) 0))) d (lf (Wb hd _));have b:=Wb hd (·.setIfInBounds 0 (Bd (f':Int) 0));refine aa (Mg e b (by simp) ?_);have g2:=Zc (Ee (·.setIfInBounds 1 (Bd ((i:Int)+1) 0))) e (lf (Wb b _));refine da ⟨_,rfl,da (q _ ⟨_,g2,?_,?_⟩ ((Gb ..).trans (Gb ..)))⟩
 ·rw[qm,qm];exact k
 ·rw[Wb b];simp[rawInt]
theorem gL{Q:Option Value->Shared->Prop}{first:Value}{n:Nat}{g:Heap}(h:A.handled=none)(i:Rc I s.heap g)(q:∀ h',xn I s.heap h'->Q none { s with heap:=h' }) :
  wpAny (model prog w) A.in1 (do let e <-newExc (.type "StopIteration") [];raiseNew e:Xp PySem.Fin) (λd f=>∃ v,d=Fin.done (Flow.ret v)/\wpAny (model prog w) A (pure (some v)) Q E f)
   (λe f=>wpAny (model prog w) A (do let c <-rz e (Xf "StopIteration");if c=true then pure none else throw e) Q E f) { s with heap:=g }:=by
 refine aa ?_;simp only[newExc,newTuple];refine aa (Sb (aa (m:=ZJ _ _) (Tw (a:=eb) (by first|rfl|(simp only[ZJ];rfl)) (Sb ?_ (by size_fits)))) (by size_fits));simp only[raiseNew];refine aa (wpAny_handled ?_);rw[show A.in1.handled=none from h];refine aa (da (wpAny_throw ?_));refine aa (mC (T:="StopIteration") (b:=true) ⟨_,ya _ rfl,rfl⟩ isSubtype_stop ?_);exact da (q _ ((i.extBut.push _).push _))
theorem W4{f:Nat}{Q:Option Value->Shared->Prop}(j:A.handled=none)(b:Hq s.heap I a (rawInt f) i es.size ep)(g:mq s.heap a es ep t)(h:t.fits es.size=true)
  (hn:∀ (A:Da) (E:Value->Shared->Prop) (Q:Option (Value × Nat)->Shared->Prop),Q none s->wpAny (model prog w) A (uo a f i ep) Q E s)
  (q:∀ h',xn I s.heap h'->Q none { s with heap:=h' }):wpAny (model prog w) A (pyNext (.ref I)) Q E s:=by
 obtain⟨o,c,k,hd⟩:=id b;obtain⟨l,e,m,d⟩:=id g;unfold pyNext;refine aa (Si (Md (name:=Vd "__next__") b.ty Cu (Nc Cu b.ty aD ?_ (QE _))));unfold Xe.«set_iterator.__next__»;refine aa (da (aa (kl c hd ?_)));dsimp only[rawInt];refine aa (jg e d h ?_);rw[ja (by simp)];simp only[xg];refine aa (hn _ _ _ ?_);dsimp only;refine aa (Mg c hd (by simp) ?_);exact gL (first:=.none) (n:=0) j (Gb ..) q
end
theorem sH{a:Type}:∀ (l:List a) (i:Nat) (h:i<l.length),(l[i]::l.eraseIdx i).Perm l
 |x::l,0,_=>.refl _
 |x::l,i+1,h=>by
  have:=sH l i (by simpa using h);simp only[List.getElem_cons_succ,zq];exact(List.Perm.swap _ _ _).trans (this.cons x)
theorem HN{c:Type}(nx:Nat->Nat):∀ (a k:Nat) (left:List c) (out:Array c),left.length=a->∃ ys:List c,(wo nx a k left out).toList=out.toList++ys/\ys.Perm left
 |0,k,left,out,h=>by
  obtain rfl:=Bi.mp h;exact⟨[],by unfold wo;simp,.refl _⟩
 |a+1,k,left,out,h=>by
  have b:nx k % left.length<left.length:=QJ _ (by omega);unfold wo;rw[yb b];dsimp only;obtain⟨ys,e,p⟩:=HN nx a (k+1) (left.eraseIdx (nx k % left.length)) (out.push left[nx k % left.length]) (by rw[Go b];omega);refine⟨left[nx k % left.length]::ys,by rw[e];simp,?_⟩;exact(p.cons _).trans (sH left _ b)
theorem dM{a:Type}(nx:Nat->Nat)(xs:Array a):(Ip nx xs).toList.Perm xs.toList:=by
 obtain⟨b,e,p⟩:=HN nx xs.size 0 xs.toList #[] (by simp);unfold Ip;rw[e];simpa using p
noncomputable def fB(pl:Array Nat)(i:Nat):Nat:=if i=0 then 0 else pl.getD (i - 1) 0+1
theorem xY{pl:Array Nat}(g:vx pl){i:Nat}(k:i<=pl.size):ye pl (fB pl i)=i:=by
 refine N8 (FL g _) ⟨k,λj a l b=>?_,λj a l b=>?_⟩
 ·unfold fB;rw[ja (by omega)];have c:i - 1<pl.size:=by omega
  have d:pl[i - 1]?=some pl[i - 1]:=pb c;have f:pl.getD (i - 1) 0=pl[i - 1]:=by simp[Array.getD,c]
  rw[f];by_cases e:j=i - 1
  ·subst e;rw[d]at b;cases b;omega
  ·have:=g j (i - 1) a _ (by omega) b d;omega
 ·unfold fB;by_cases h:i=0
  ·rw[ia h];omega
  ·rw[ja h];have c:i - 1<pl.size:=by omega
   have d:pl[i - 1]?=some pl[i - 1]:=pb c;have f:pl.getD (i - 1) 0=pl[i - 1]:=by simp[Array.getD,c]
   rw[f];have:=g (i - 1) j _ a (by omega) d b;omega
section
variable{prog:ua}{w:Ea}{A:Da}{E:Value->Shared->Prop}{s:Shared}{a:Addr}{es:Array (Int × Value)}{ep:Nat}{t:Zd}{i:Nat}
theorem JD{Q:Bool->Shared->Prop}(q:Q (bT w) s):wpAny (model prog w) A setsByText Q E s:=by
 unfold setsByText;exact aa (Dp (da q))
theorem ZY{Q:Option (Value × Nat)->Shared->Prop}(hb:bT w=true)(c:mq s.heap a es ep t)(b:t.fits es.size=true)(q:Q (((Ip (w.params.setOrder a ep) es)[i]?).map λe=>(e.2,0)) s):wpAny (model prog w) A (uo a 0 i ep) Q E s:=by
 obtain⟨o,g,x,d⟩:=c;unfold uo;refine aa (Bf g d b ?_);dsimp only;refine aa (JD ?_);rw[hb];simp only[ie,bne_self_eq_false,Cc,ag];refine aa ?_;unfold setWalk;refine aa (Bf g d b ?_);dsimp only;refine aa (JD ?_);rw[hb];simp only[ie];exact aa (Dp (da (da q)))
theorem j4{Q:Option (Value × Nat)->Shared->Prop}(hb:bT w=false)(h:zk (bT w) t)(r:(!t.plain && decide (es.size > 1))=false)(p:i<=es.size)(n:mq s.heap a es ep t)(f:t.fits es.size=true)(q:Q ((es[i]?).map λe=>(e.2,fB t.place (i+1))) s):wpAny (model prog w) A (uo a (fB t.place i) i ep) Q E s:=by
 obtain⟨o,g,x,d⟩:=n;have k:t.place.size=es.size:=by simp only[SetTable.fits,va,xf]at f;exact f.1
 unfold uo;refine aa (Bf g d f ?_);dsimp only;refine aa (JD ?_);rw[hb];simp only[Cc,ag];refine qg (λz=>?_) (λ_=>?_)
 ·have:(!t.plain && decide (es.size > 1))=true:=z;rw[r]at this;cases this
 ·refine aa ?_;refine qg (λz=>?_) (λ_=>da ?_)
  ·have:(!t.led && !es.isEmpty)=true:=z;rw[h.led,hb]at this;cases this
  ·rw[xY h.MC (by rw[k];exact p)];refine da ?_;by_cases j:i<es.size
   ·have c:es[i]?=some es[i]:=pb j;have b:i<t.place.size:=by rw[k];exact j
    have l:t.place[i]?=some t.place[i]:=pb b;rw[c]at q ⊢;rw[l];have m:fB t.place (i+1)=t.place[i]+1:=by unfold fB;simp[Array.getD,b]
    rw[m]at q;exact q
   ·have c:es[i]?=none:=Bq (by omega);rw[c]at q ⊢;exact q
end
section
variable{prog:ua}{w:Ea}{A:Da}{E:Value->Shared->Prop}{s:Shared}{I a p:Addr}{es:Array (Int × Value)}{ep:Nat}{t:Zd}{i:Nat}
theorem K8{M:Yj}{src:Source}{n:Nat}{Q:Nat->Shared->Prop}(hn:n≠0)(q:∀ i,i<n->∀ d',Q i { s with drawn:=d' }):wpAny M A (choose src n) Q E s:=λb a _=>⟨hn,q _ (QJ _ (Nat.pos_of_ne_zero hn)) _⟩
theorem IM{M:Yj}{b:Type}:∀ (n:Nat) (xs:List b) (s:Shared) (Q:List b->Shared->Prop),xs.length=n->(∀ ys d',ys.Perm xs->Q ys { s with drawn:=d' })->wpAny M A (drawOrder n xs) Q E s
 |0,xs,s,Q,h,q=>by
  obtain rfl:=Bi.mp h;exact da (q [] s.drawn (.refl _))
 |n+1,[],s,Q,h,q=>by cases h
 |n+1,x::xs,s,Q,h,q=>by
  unfold drawOrder;refine aa (K8 (by simp) λi a d'=>?_);rw[yb a];dsimp only;refine aa (IM n _ _ _ (by rw[Go a];simpa using h) λys c p=>da ?_);exact q _ c ((p.cons _).trans (sH (x::xs) i a))
noncomputable def cz(h:Heap)(p:Addr)(ps:List Nat):Prop:=∃ o n,h.get? p=some o/\o.data=.seq (ps.map λ(i:Nat)=>rawInt i).toArray n
theorem S7{ps:List Nat}{j:Nat}{v:Int × Value}{Q:Option Value->Shared->Prop}(b:Hq s.heap I a (.ref p) i es.size ep)(l:mq s.heap a es ep t)(g:t.fits es.size=true)(m:cz s.heap p ps)(r:ps[i]?=some j)(u:es[j]?=some v)
  (q:∀ h',Hq h' I a (.ref p) (i+1) es.size ep->Rc I s.heap h'->Q (some v.2) { s with heap:=h' }):wpAny (model prog w) A (pyNext (.ref I)) Q E s:=by
 obtain⟨o,c,n,hd⟩:=id b;obtain⟨y,f,B,d⟩:=id l;obtain⟨z,x,k,dT⟩:=m;unfold pyNext;refine aa (Si (Md (name:=Vd "__next__") b.ty Cu (Nc Cu b.ty aD ?_ (QE _))));unfold Xe.«set_iterator.__next__»;refine aa (da (aa (kl c hd ?_)));dsimp only[rawInt];refine aa (jg f d g ?_);rw[ja (by simp)];refine aa (ri k dT ?_);dsimp only;have e:(ps.map λ(i:Nat)=>rawInt i).toArray[(i:Int).toNat]?=some (.int (j:Int) 0):=by
  rw[xg,df,Ja,r];rfl
 rw[e];dsimp only;simp only[xg];unfold setNextDrawn;refine aa (aa (Bf f d g ?_));dsimp only;rw[ja (by simp)];rw[u];refine da (aa (Mg c hd (by simp) ?_));have h:=Zc (Ee (·.setIfInBounds 1 (Bd ((i:Int)+1) 0))) c (lf (Wb hd _));refine da ⟨_,rfl,da (q _ ⟨_,h,?_,?_⟩ (Gb ..))⟩
 ·rw[qm];exact n
 ·rw[Wb hd];simp[rawInt]
theorem m7{ps:List Nat}{Q:Option Value->Shared->Prop}(r:A.handled=none)(b:Hq s.heap I a (.ref p) i es.size ep)(k:mq s.heap a es ep t)(m:t.fits es.size=true)(l:cz s.heap p ps)(u:ps[i]?=none)
  (q:∀ h',xn I s.heap h'->Q none { s with heap:=h' }):wpAny (model prog w) A (pyNext (.ref I)) Q E s:=by
 obtain⟨o,c,v,hd⟩:=id b;obtain⟨y,h,B,f⟩:=id k;obtain⟨z,x,j,dT⟩:=l;unfold pyNext;refine aa (Si (Md (name:=Vd "__next__") b.ty Cu (Nc Cu b.ty aD ?_ (QE _))));unfold Xe.«set_iterator.__next__»;refine aa (da (aa (kl c hd ?_)));dsimp only[rawInt];refine aa (jg h f m ?_);rw[ja (by simp)];refine aa (ri j dT ?_);dsimp only;have e:(ps.map λ(i:Nat)=>rawInt i).toArray[(i:Int).toNat]?=none:=by
  rw[xg,df,Ja,u];rfl
 rw[e];dsimp only;refine aa (Mg c hd (by simp) ?_);have g:=Zc (Ee (·.setIfInBounds 0 (Bd 0 0))) c (lf (Wb hd _));have d:=Wb hd (·.setIfInBounds 0 (Bd 0 0));refine aa (Mg g d (by simp) ?_);exact gL (s:=s) (I:=I) (first:=.none) (n:=0) r ((Gb ..).trans (Gb ..)) q
noncomputable abbrev Ey(a:Addr)(first:Value)(n ep:Nat):Obj:={ cls:=.type "set_iterator",data:=.fields #[first,rawInt 0,.ref a,rawInt n,rawInt ep] }
noncomputable abbrev OC(ps:List Nat):Obj:={ cls:=.type "tuple",data:=.seq (ps.map λ(i:Nat)=>rawInt i).toArray }
theorem R4{Q:Value->Shared->Prop}(j:mq s.heap a es ep t)(b:t.fits es.size=true)(hz:es.size<scanBound)
  (h:(!bT w && (!t.plain && decide (es.size > 1)))=false->Q (.ref s.heap.objs.size) { s with heap:=s.heap.push (Ey a (rawInt 0) es.size ep) })
  (i:(!bT w && (!t.plain && decide (es.size > 1)))=true->∀ ps d',ps.Perm (List.range es.size)->Q (.ref (s.heap.objs.size+1)) { s with heap:=(s.heap.push (OC ps)).push (Ey a (.ref s.heap.objs.size) es.size ep),drawn:=d' }) :
  wpAny (model prog w) A (pyIter (.ref a)) Q E s:=by
 obtain⟨o,g,x,d⟩:=id j;have e:s.TypeIs (.ref a) "set":=⟨o,g,x.1⟩
 refine yA e Vp (Nc Vp e tV ?_ (PySem.F.args_set_iter_1 _));unfold Xe.«frozenset.__iter__»;refine aa (da ?_);unfold Zw;refine aa (aa (jg g d b (da ?_)));unfold setDrawn;refine aa (aa (Bf g d b ?_));dsimp only;refine aa (JD (da ?_));refine qg (λz=>?_) (λz=>?_)
 ·have c:(!bT w && (!t.plain && decide (es.size > 1)))=true:=z;refine aa (IM _ _ _ _ (by simp) λps d' f=>?_);have k:ps.length=es.size:=by rw[f.length_eq,Xh]
  refine aa (wpAny_newTuple ?_ (by rw[xa,k];exact Lg hz));refine aa (zA (ba _ g) d b ?_);unfold uC;refine aa (Sb (da ⟨_,rfl, "set_iterator",_,⟨_,ya _ rfl,rfl⟩,Cu.lookup,?_⟩) (by size_fits));have:=i c ps d' f;rw[<-rc s.heap (OC ps)]at this;exact this
 ·have c:(!bT w && (!t.plain && decide (es.size > 1)))=false:=by
   cases y:(!bT w && (!t.plain && decide (es.size > 1)))with
   |false=>rfl
   |true=>exact absurd y z
  refine aa (da ?_);refine aa (zA g d b ?_);unfold uC;refine aa (Sb (da ⟨_,rfl, "set_iterator",_,⟨_,ya _ rfl,rfl⟩,Cu.lookup,?_⟩) (by size_fits));exact h c
end
theorem fP:pz "set_iterator" "__iter__" "set_iterator.__iter__":=.of (owner:="set_iterator") (n:="__iter__") (by rw[HF,aw];kernel_rfl) (by decide +kernel) (by decide +kernel) (by decide +kernel) (by first|exact .inl (by decide +kernel)|exact .inr (by decide +kernel)) (by rw[Mr];kernel_rfl)
theorem DZ:XJ table "set_iterator.__iter__" = some Xe.«dict_keyiterator.__iter__»:=PJ (id':="dict_keyiterator.__iter__") (by kernel_rfl) (by first|rfl|decide +kernel) (by decide +kernel) (by kernel_rfl)
theorem z8(a:Value):YJ "set_iterator.__iter__" ⟨[a],[]⟩:=by unfold YJ;kernel_rfl
section
variable{prog:ua}{w:Ea}{A:Da}{I a p:Addr}{es:Array (Int × Value)}{ep:Nat}{t:Zd}
theorem fO{E:Value->Shared->Prop}{s:Shared}{first:Value}{i n:Nat}{Q:Value->Shared->Prop}(h:Hq s.heap I a first i n ep)(q:Q (.ref I) s):wpAny (model prog w) A (pyIter (.ref I)) Q E s:=by
 refine yA h.ty fP (Nc fP h.ty DZ ?_ (z8 _));show wpAny _ _ (PySem.ret (nb I)) _ _ s;exact da ⟨_,rfl, "set_iterator",_,h.ty,Cu.lookup,q⟩
theorem Hq.keep{h h':Heap}{first:Value}{i n:Nat}(x:Hq h I a first i n ep)(k:∀ o,h.get? I=some o->h'.get? I=some o):Hq h' I a first i n ep:=let ⟨o,e,r⟩:=x;⟨o,k o e,r⟩
theorem mq.keep{h h':Heap}(x:mq h a es ep t)(k:∀ o,h.get? a=some o->h'.get? a=some o):mq h' a es ep t:=let ⟨o,e,r⟩:=x;⟨o,k o e,r⟩
theorem cz.keep{h h':Heap}{ps:List Nat}(x:cz h p ps)(k:∀ o,h.get? p=some o->h'.get? p=some o):cz h' p ps:=let ⟨o,n,e,r⟩:=x;⟨o,n,k o e,r⟩
theorem pK{f:Nat->Nat}{ord:List (Int × Value)}(F:A.handled=none)(r:t.fits es.size=true)(g:a≠I)(y:ord.length=es.size)
  (hn:∀ (s:Shared) (i:Nat),mq s.heap a es ep t->i<=es.size->∀ (A:Da) (E:Value->Shared->Prop) (Q:Option (Value × Nat)->Shared->Prop),Q ((ord[i]?).map λe=>(e.2,f (i+1))) s->wpAny (model prog w) A (uo a (f i) i ep) Q E s) :
  Walks prog w A I [I,a] [I] es.size (λi v=>(ord[i]?).map (·.2)=some v) (λi h=>Hq h I a (rawInt (f i)) i es.size ep/\mq h a es ep t) where
 sub:=λb hb=>by simp at hb;simp[hb]
 frame:=λ_ _ _ c x=>⟨c.1.keep λo e=>x I (by simp) o e,c.2.keep λo e=>x a (by simp) o e⟩
 item:=λi s Q E u c d=>by
  have p:i<ord.length:=by rw[y];exact u
  have j:ord[i]?=some ord[i]:=yb p;refine N0 c.1 c.2 r g (v:=ord[i].2) (f':=f (i+1)) (λk l m q=>hn s i c.2 (Td u) k l m (by rw[j];exact q)) λn C B=>?_;exact d _ n s.toks (by rw[j];rfl) ⟨C,c.2.keep λo e=>by rw[B.2 a g];exact e⟩ λb o hb e=>by rw[B.2 b (λz=>hb (by simp[z]))];exact e
 done:=λs Q E c d=>by
  have j:ord[es.size]?=none:=by rw[<-y];simp
  exact W4 F c.1 c.2 r (λk l m q=>hn s es.size c.2 (pa _) k l m (by rw[j];exact q)) λn D=>d n s.toks λb o hb e=>D b o (λz=>hb (by simp[z])) e
 self:=λ_ _ _ _ c d=>fO c.1 d
theorem O6{ps:List Nat}(D:A.handled=none)(y:t.fits es.size=true)(n:a≠I)(r:p≠I)(q:ps.Perm (List.range es.size)) :
  Walks prog w A I [I,a,p] [I] es.size (λi v=>((ps[i]?).bind λj=>es[j]?).map (·.2)=some v) (λi h=>(Hq h I a (.ref p) i es.size ep/\mq h a es ep t)/\cz h p ps) where
 sub:=λb hb=>by simp at hb;simp[hb]
 frame:=λ_ _ _ c l=>⟨⟨c.1.1.keep λo e=>l I (by simp) o e,c.1.2.keep λo e=>l a (by simp) o e⟩,c.2.keep λo e=>l p (by simp) o e⟩
 item:=λi s Q E F c d=>by
  have m:ps.length=es.size:=by rw[q.length_eq,Xh]
  have f:i<ps.length:=by rw[m];exact F
  have g:ps[i]?=some ps[i]:=yb f;have G:ps[i]<es.size:=Aj.mp (q.mem_iff.mp (Cf f));have x:es[ps[i]]?=some es[ps[i]]:=pb G;refine S7 c.1.1 c.1.2 y c.2 g x λk B u=>?_;exact d _ k s.toks (by rw[g,ii,x];rfl) ⟨⟨B,c.1.2.keep λo e=>by rw[u.2 a n];exact e⟩,c.2.keep λo e=>by rw[u.2 p r];exact e⟩ λb o hb e=>by rw[u.2 b (λz=>hb (by simp[z]))];exact e
 done:=λs Q E c d=>by
  have m:ps.length=es.size:=by rw[q.length_eq,Xh]
  have g:ps[es.size]?=none:=by rw[<-m];simp
  exact m7 D c.1.1 c.1.2 y c.2 g λk C=>d k s.toks λb o hb e=>C b o (λz=>hb (by simp[z])) e
 self:=λ_ _ _ _ c d=>fO c.1.1 d
theorem LX{E:Value->Shared->Prop}{s:Shared}{Q:Bool->Shared->Prop}(e:s.TypeIs (.ref a) "set")(h:Q false s):wpAny (model prog w) A (Dg (.ref a)) Q E s:=by
 unfold Dg;refine aa (DF e PySem.F.slot_set_len.lookup ?_);generalize d:("set.__len__" : String)=f
 wp_delta
 rw[show splitId f=some ("set", "__len__")from by subst d;decide +kernel];subst d;refine aa (mC (T:="set") (b:=true) e (by rw[Mr];kernel_rfl) ?_);refine qg (λc=>absurd c (by decide)) (λ_=>?_);refine qg (λ_=>?_) (λc=>absurd (by decide +kernel) c);exact aa (Nj e (da h))
end
end L4
namespace L4
open PySem PySem.Spec PySem.Calls PySem.W PyProof.Rows PyProof.V
section
variable{prog:ua}{w:Ea}{A:Da}{E:Value->Shared->Prop}{s:Shared}{a:Addr}{es:Array (Int × Value)}{ep:Nat}{t:Zd}
theorem CI{B:Bool}{I S:Addr}{x:List Addr}{n v:Nat}{P:Nat->Value->Prop}{St:Nat->Heap->Prop}{R:wn->Shared->Prop}{d:Value}(W:Walks prog w A.in1 I x [I] n P St)(hn:n<=sizeLine)(j:S ∉ x)(J:s.TypeIs (.ref a) "set")(y:St 0 s.heap)
  (r:s.heap.get? S=some { cls:=.type "list",data:=.seq #[] v })
  (H:∀ h' tk g c,(∀ b o,b≠S->b≠I->s.heap.get? b=some o->h'.get? b=some o)->h'.get? S=some { cls:=.type "list",dict:=none,data:=.seq g c,slots:=#[] }->oo P g n->R (.ok (.ret d)) { s with heap:=h',toks:=tk }) :
  wpAny (model prog w) A.in1 (do
    let m <-Yf [nb I] (Dg (.ref a))
    if (m || B)=true then do
     rule "list.extend.makes-room"
     MF (.ref S)
     again (.builtin "list.extend.loop" ⟨[.ref S,.ref I,d],[]⟩)
    else again (.builtin "list.extend.loop" ⟨[.ref S,.ref I,d],[]⟩))
   (λq i=>match q with | .done f=>R (.ok f) i | .again u=>u.quiet=true/\codeAny (model prog w) A u R i) (λe i=>R (.error e) i) s:=by
 have k:∀ (h:Heap) (p tk:Nat),St 0 h->(∀ b o,b≠S->s.heap.get? b=some o->h.get? b=some o)->h.get? S=some { cls:=.type "list",data:=.seq #[] p }->codeAny (model prog w) A (.builtin "list.extend.loop" ⟨[.ref S,.ref I,d],[]⟩) R { s with heap:=h,toks:=tk }:=by
  intro h p tk t L E;refine codeAny_extend_loopS W.toS hn S j d n 0 _ #[] p rfl (ci _) t E (ItemsOf.nil _) λi g c hm C K=>?_;rw[Moved.eq_with hm];refine H i.heap i.toks g c (λb o hb G e=>hm.heap b o (λz=>?_) (L b o hb e)) C K;rcases Fa.mp z with z|z
  ·exact hb z
  ·exact G (bg.mp z)
 refine aa (Rb (LX J ?_));refine qg (λ_=>?_) (λ_=>da ⟨de Gn _,k _ v _ y (λb o _ e=>e) r⟩);refine aa (Ir (aa ?_));show wpAny _ _ (mu S (·.push .none) >>= λ_=>mu S (·.pop)) _ _ _;refine aa (Lh r rfl ?_);have g2:=Zc (Ze (·.push eb)) r rfl;refine Lh (hz:=by seq_fits) g2 rfl ?_;have D:=Zc (Ze (·.pop)) g2 rfl;have l:∀ b o,b≠S->s.heap.get? b=some o->((s.heap.update S (Ze (·.push eb))).update S (Ze (·.pop))).get? b=some o:=λb o hb e=>(og _ _ (Me hb)).trans ((og _ _ (Me hb)).trans e);exact da ⟨de Gn _,k _ _ _ (W.frame 0 _ _ y λb hb o e=>l b o (λz=>j (z ▸ hb)) e) (λb o hb e=>l b o hb e) D⟩
theorem dI{a b:Type}{f:a->Option b}{g:a->b}:∀ {l:List a},(∀ j∈l,f j=some (g j))->l.filterMap f=l.map g
 |[],_=>rfl
 |x::l,h=>by rw[Gf,h x Qa,Ia,dI λj c=>h j (Ha _ c)]
theorem F3{a:Array Value}{ord:List (Int × Value)}{n:Nat}(b:ord.length=n)(h:oo (λi v=>(ord[i]?).map (·.2)=some v) a n):a.toList=ord.map (·.2):=by
 apply Wh;intro i;rw[Xc,Ja];cases e:a[i]? with
 |none=>
  have:n<=i:=by have:=io.mp e;rw[h.1]at this;exact this
  rw[kj (by omega)];rfl
 |some v=>exact(h.2 i v e).symm
theorem QV(es:Array (Int × Value)):(List.range es.size).filterMap (λj=>(es[j]?).map (·.2))=es.toList.map (·.2):=by
 apply Wh;intro i;have e:(List.range es.size).filterMap (λj=>(es[j]?).map (·.2))=(List.range es.size).map (λj=>((es[j]?).map (·.2)).getD .none):=by
  refine dI λj b=>?_;have:=Aj.mp b;simp[this]
 rw[e,Ja,Ja];by_cases a:i<es.size
 ·simp[a]
 ·simp[a]
theorem tY{a:Array Value}{ps:List Nat}(b:ps.Perm (List.range es.size))(h:oo (λi v=>((ps[i]?).bind λj=>es[j]?).map (·.2)=some v) a es.size):a.toList.Perm (es.toList.map (·.2)):=by
 have k:ps.length=es.size:=by rw[b.length_eq,Xh]
 have e:a.toList=ps.filterMap (λj=>(es[j]?).map (·.2)):=by
  have f:ps.filterMap (λj=>(es[j]?).map (·.2))=ps.map (λj=>((es[j]?).map (·.2)).getD .none):=by
   refine dI λj g=>?_;have:=Aj.mp (b.mem_iff.mp g);simp[this]
  rw[f];apply Wh;intro i;rw[Xc,Ja];cases c:a[i]? with
  |none=>
   have:es.size<=i:=by have:=io.mp c;rw[h.1]at this;exact this
   rw[kj (by omega)];rfl
  |some v=>
   have this:((ps[i]?).bind λj=>es[j]?).map (·.2)=some v:=h.2 i v c;cases d:ps[i]? with
   |none=>rw[d]at this;cases this
   |some j=>rw[d]at this;simp only[ii]at this;rw[Ve,this];rfl
 rw[e,<-QV];exact b.filterMap _
theorem HY{R:List Value->Shared->Prop}(W:A.handled=none)(hA:mq s.heap a es ep t)(H:t.fits es.size=true)(hk:zk (bT w) t)(hz:es.size<scanBound)
  (B:∀ h' tk d' (d:Array Value),(∀ b o,s.heap.get? b=some o->h'.get? b=some o)->s.heap.objs.size<=h'.objs.size->d.toList.Perm (es.toList.map (·.2))->R d.toList { s with heap:=h',toks:=tk,drawn:=d' }) :
  wpAny (model prog w) A (JA (.ref a)) R E s:=by
 have hn:es.size<=sizeLine:=Lg hz;have M:a<s.heap.objs.size:=let ⟨_,g,_⟩:=hA;la g;let S:Addr:=s.heap.objs.size;let Z:wn->Shared->Prop:=λq m=>∃ (h':Heap) (tk:Nat) (d':Vw) (d:Array Value) (c:Nat),q=.ok (.ret (.ref S))/\m={ s with heap:=h',toks:=tk,drawn:=d' }/\(∀ b o,s.heap.get? b=some o->h'.get? b=some o)/\
  h'.get? S=some { cls:=.type "list",dict:=none,data:=.seq d c,slots:=#[] }/\d.toList.Perm (es.toList.map (·.2))
 let s1:Shared:={ s with heap:=s.heap.push { cls:=.type "list",data:=.seq ([]:List Value).toArray } }
 have P:s1.heap.get? S=some { cls:=.type "list",data:=.seq #[] }:=ya _ rfl;have n:mq s1.heap a es ep t:=hA.keep λo e=>ba _ e;have J:s1.heap.objs.size=S+1:=rc ..;have run:wpAny (model prog w) A.in1 (Qe (.ref S) (.ref a) (.ref S)) (λB m=>match B with | .done f=>Z (.ok f) m | .again c'=>c'.quiet=true/\codeAny (model prog w) A c' Z m) (λe m=>Z (.error e) m) s1:=by
  have Q:s1.TypeIs (.ref a) "set":=let ⟨o,g,x,_⟩:=n;⟨o,g,x.1⟩;unfold Qe;refine aa (Nj (T:="set") Q ?_);have ns:El (.ref S) (.ref a)=false:=by simp only[El,pd];exact Ud M
  have n1:(Xf "set" == Xf "list")=false:=by decide
  have n2:(Xf "set" == Xf "tuple")=false:=by decide
  simp only[ns,n1,n2,Bool.or_false,Cc,ag];refine aa (R4 n H hz (λV=>?_) (λV ps d' I=>?_))
  ·have O:Hq (s1.heap.push (Ey a (rawInt 0) es.size ep)) s1.heap.objs.size a (rawInt 0) 0 es.size ep:=⟨_,ya _ rfl,rfl,rfl⟩
   have h:mq (s1.heap.push (Ey a (rawInt 0) es.size ep)) a es ep t:=n.keep λo e=>ba _ e;have r:Jo { s1 with heap:=s1.heap.push (Ey a (rawInt 0) es.size ep) } (.ref a) "set":=let ⟨o,g,x,_⟩:=h;⟨o,g,x.1⟩;have L:a≠s1.heap.objs.size:=by rw[J];exact ra (Ab M)
   have K:S ∉ [s1.heap.objs.size,a]:=by rw[J];simp only[Fa,Dc,Qh,not_or];exact⟨ra (zb _),Ud M⟩
   have out:∀ (ord:List (Int × Value)),ord.length=es.size->ord.Perm es.toList->∀ h' tk d c,(∀ b o,b≠S->b≠s1.heap.objs.size->(s1.heap.push (Ey a (rawInt 0) es.size ep)).get? b=some o->h'.get? b=some o)->h'.get? S=some { cls:=.type "list",dict:=none,data:=.seq d c,slots:=#[] }->
     oo (λi v=>(ord[i]?).map (·.2)=some v) d es.size->Z (.ok (.ret (.ref S))) { s1 with heap:=h',toks:=tk }:=λord D I h' tk d c k g u=>⟨h',tk,s.drawn,d,c,rfl,rfl,λb o e=>by
      have N:=la e;exact k b o (ra N) (by rw[J];exact ra (Ab N)) (ba _ (ba _ e)),g,by rw[F3 D u];exact I.map _⟩
   cases hb:bT w with
   |true=>
    have D:(Ip (w.params.setOrder a ep) es).toList.length=es.size:=by rw[(dM _ _).length_eq,Bb]
    exact CI (pK (f:=λ_=>0) (ord:=(Ip (w.params.setOrder a ep) es).toList) W H L D λm i C _ A' E' Q' Y=>ZY hb C H (by rw[<-Xc];exact Y)) hn K r ⟨O,h⟩ (ba _ P) (out _ D (dM _ _))
   |false=>
    have I:(!t.plain && decide (es.size > 1))=false:=by rw[hb]at V;simpa using V
    have D:es.toList.length=es.size:=Bb;exact CI (pK (f:=fB t.place) (ord:=es.toList) W H L D λm i C hi A' E' Q' Y=>j4 hb hk I hi C H (by rw[<-Xc];exact Y)) hn K r ⟨O,h⟩ (ba _ P) (out _ D (.refl _))
  ·let G:Heap:=(s1.heap.push (OC ps)).push (Ey a (.ref s1.heap.objs.size) es.size ep);have X:∀ b o,s1.heap.get? b=some o->G.get? b=some o:=λb o e=>ba _ (ba _ e);have z2:(s1.heap.push (OC ps)).objs.size=s1.heap.objs.size+1:=rc ..;have O:Hq G (s1.heap.objs.size+1) a (.ref s1.heap.objs.size) 0 es.size ep:=⟨_,by rw[<-z2];exact ya _ rfl,rfl,rfl⟩
   have h:mq G a es ep t:=n.keep λo e=>X a o e;have U:cz G s1.heap.objs.size ps:=⟨_,_,ba _ (ya _ rfl),rfl⟩
   have r:Jo { s1 with heap:=G,drawn:=d' } (.ref a) "set":=let ⟨o,g,x,_⟩:=h;⟨o,g,x.1⟩;refine CI (s:={ s1 with heap:=G,drawn:=d' }) (O6 (p:=s1.heap.objs.size) W H (by rw[J];exact ra (Ab (Ab M))) (ra (zb _)) I) hn (by rw[J];simp only[Fa,Dc,Qh,not_or];exact⟨ra (Ab (zb _)),Ud M,ra (zb _)⟩) r ⟨⟨O,h⟩,U⟩ (X _ _ P) λh' tk d c k g u=>⟨h',tk,d',d,c,rfl,rfl,λb o e=>?_,g,tY I u⟩
   have N:=la e;exact k b o (ra N) (by rw[J];exact ra (Ab (Ab N))) (X b o (ba _ e))
 have j:∀ {h':Heap} {tk c:Nat} {d':Vw} {d:Array Value},(∀ b o,s.heap.get? b=some o->h'.get? b=some o)->h'.get? S=some { cls:=.type "list",dict:=none,data:=.seq d c,slots:=#[] }->d.toList.Perm (es.toList.map (·.2))->R d.toList { s with heap:=h',toks:=tk,drawn:=d' }:=λkp g u=>B _ _ _ _ kp (Td (la g)) u;unfold JA;refine aa (Lr (nc Sw ?_));rw[Qb Em _];show wpAny _ A.in1 (O9 [] >>= λl=>again (.builtin "list.__iadd__" ⟨[l,.ref a],[]⟩)) _ _ s;refine aa (Sb (da ⟨de Qf _,nc lC ?_⟩));rw[Qb Qf _];show wpAny _ A.in1 (Qe (.ref S) (.ref a) (.ref S)) _ _ _;refine Eb run (λf m x=>?_) (λe m x=>by obtain⟨_,_,_,_,_,z,_⟩:=x;cases z);cases f with
 |done f=>
  obtain⟨h',tk,d',d,c,e,rfl,kp,g,u⟩:=x;cases e;exact aa (mn g (da (j kp g u)))
 |again c1=>
  refine⟨x.1,kf x.2 λq s2 y=>?_⟩;obtain⟨h',tk,d',d,c,rfl,rfl,kp,g,u⟩:=y;exact aa (mn g (da (j kp g u)))
end
end L4
namespace L4
open PySem PySem.Spec PyProof.Rows L2
theorem L1(ns:List Int):(yd ns).Nodup:=by
 unfold yd;have h:∀ (l c:List Int),c.Nodup->(l.foldl qz c).Nodup:=by
  intro l;induction l with
  |nil=>intro c h;exact h
  |cons x l g=>
   intro c h;rw[Cd];refine g _ ?_;unfold qz;split
   ·exact h
   ·rename_i f
    rw[iv];refine⟨h,by simp,λa d b hb=>?_⟩;rw[bg]at hb;intro e;subst e;subst hb;exact f (Hg.mpr ⟨_,d,by simp⟩)
 exact h ns [] Vx
theorem SQ{d:Type}[DecidableEq d]:∀ {l1 l2:List d},l1.Nodup->(∀ x∈l1,x∈l2)->l2.length<=l1.length->l1.Perm l2
 |[],l2,_,_,h=>by
  have:l2=[]:=Bi.mp (Nat.le_zero.mp h);subst this;exact .refl _
 |x::l1,l2,hn,a,f=>by
  rw[fh]at hn;have b:=a x Qa;have p:=List.perm_cons_erase b;have g:=SQ (l1:=l1) (l2:=l2.erase x) hn.2 (λy c=>(List.mem_erase_of_ne (show y≠x from λe=>hn.1 (by rw[<-e];exact c))).mpr (a y (Ha _ c))) (by rw[List.length_erase_of_mem b];simp at f;omega);exact(g.cons x).trans p.symm
theorem JO:∀ {prog:ua} {w:Ea} {l:List (Int × Value)},Vq (mf prog w) l->∃ c,wh (l.map (·.2)) c/\c.length=l.length/\∀ k,k∈c ↔ ∃ e∈l,(mf prog w).is k e.2=true
 |prog,w,[],_=>⟨[],.nil,rfl,λk=>by simp⟩
 |prog,w,e::l,h=>by
  obtain⟨c,g,i,j⟩:=JO (λx a=>h x (.tail _ a):Vq (mf prog w) l);obtain⟨⟨k,d,_⟩,_⟩:=h e (.head _);have b:=d;obtain⟨t,f⟩:=au d;refine⟨k::c,by rw[Ia,f];exact .cons k t g,by simp[i],λm=>?_⟩;rw[Fa,j m];constructor
  ·rintro (rfl|⟨x,a,q⟩)
   ·exact⟨e,.head _,b⟩
   ·exact⟨x,.tail _ a,q⟩
  ·rintro ⟨x,a,q⟩;rcases Fa.mp a with rfl|a
   ·exact .inl ((mf prog w).inj _ _ _ q b)
   ·exact .inr ⟨x,a,q⟩
theorem OV{l g:List Value}(p:g.Perm l):∀ {is:List Int},wh l is->∃ a,wh g a/\a.Perm is:=by
 induction p with
 |nil=>intro is h;exact⟨is,h,.refl _⟩
 |cons x p k=>
  intro is h;cases h with
  |cons n t h=>obtain⟨a,b,c⟩:=k h;exact⟨n::a,.cons n t b,c.cons n⟩
 |swap x y l=>
  intro is h;cases h with
  |cons n t h=>
   cases h with
   |cons m u h=>exact⟨m::n::_,.cons m u (.cons n t h),.swap _ _ _⟩
 |trans q r d e=>
  intro is h;obtain⟨o,b,c⟩:=e h;obtain⟨f,i,j⟩:=d b;exact⟨f,i,j.trans c⟩
noncomputable def cA(P:ua)(w:Ea)(ns:List Int)(a:Addr):Heap->Prop:=λh=>Ar (mf P w) (bT w) h a (λk=>(yd ns).any (·== k)) (yd ns).length
theorem BV{P:ua}{w:Ea}{ns:List Int}{a:Addr}:∀ b h2:Heap,cA P w ns a b->(∀ u,b.get? a=some u->h2.get? a=some u)->cA P w ns a h2:=λb h2 x k=>pJ x k
section
variable{T:Tb}{X:Cx}
noncomputable def B8(X:Cx):List V->Hp->VK->Prop:=λxs H Q=>∃ (p:Addr) (ns:List Int),xs=[.ref p]/\cf X.K H p (ns.map V.int)/\ns.length<64/\∀ l,H l=none->Q (.ref l) (upd H l (.ext (cA X.prog X.w ns l)))
theorem L6(j:X.calm=true):Wm X (.type "set") (B8 X):=by
 intro f s y H xs z Q I r h;obtain⟨p,ns,rfl,m,l,q⟩:=h;obtain⟨u,rfl,n⟩:=Bs r;cases n;obtain⟨a,i,pl,x⟩:=I.list m;have d:a.length=ns.length:=by rw[<-i.length,xa]
 refine D1 (I.ok.hd j) pl.isList (ns:=ns) (hG i) (by rw[na,d];exact FM (Ya (Td l) (by decide))) λv t c k=>?_;rw[show a.toArray.size=ns.length by rw[na,d],XG]at c;refine⟨.ref s.heap.objs.size,_,I.laid (t':=t) (o:=.ext (cA X.prog X.w ns s.heap.objs.size)) (λb o e=>k b o (la e) e) (pa _) ?_,rfl,q _ (I.Pb.fresh (pa _))⟩;exact⟨c,let ⟨o,_,_,_,g,_⟩:=c;⟨o,g⟩,BV⟩
theorem E7{a:List (Addr × Obj)}{b:St}{H:Hp}{s:Shared}(I:Inv X a b H s)(d':Vw):Inv X a b H { s with drawn:=d' }:=⟨I.ok,I.os,I.bare,I.base,I.loc,I.cell,I.free,I.eg,I.pin,I.Pb,I.len⟩
noncomputable def NV(X:Cx):List V->Hp->VK->Prop:=λxs H Q=>∃ (a:Addr) (ns:List Int),xs=[.ref a]/\H a=some (.ext (cA X.prog X.w ns a))/\ns.length<64/\(yd ns).length<=ns.length/\∀ l,H l=none->Q (.ref l) (upd H l (.lst ((Tf (yd ns)).map V.int)))
theorem wV(U:X.calm=true):Wm X (.builtin "sorted") (NV X):=by
 intro B s σ H xs us Q I r h;obtain⟨a,ns,rfl,S,R,W,q⟩:=h;obtain⟨u,rfl,rx⟩:=Bs r;cases rx;obtain⟨⟨o,k,ep,t,J,g2,K,L,M,y,N,O,P⟩,_,_⟩:=I.Pb a _ S;obtain⟨is,i1,i2,i3⟩:=JO L;have Z:is.Perm (yd ns):=(SQ (L1 ns) (λx hx=>(i3 x).mpr ((M x).mp (Hg.mpr ⟨x,hx,by simp⟩))) (by rw[i2,Bb,O];exact pa _)).symm;have g:k.size<64:=by omega
 have hn:k.size<=sizeLine:=Lg y;refine Fo kind_sorted E9 F9 (G9 _) ?_;unfold Xe.«sorted»;refine aa (m:=checkCount "sorted" 1 1 _) (da ?_);refine aa (HY (A:=X.A.in1) (I.ok.hd U) ⟨o,J,g2,K⟩ N P y λj tk F d kp i c=>?_);obtain⟨a0,T,n⟩:=OV c i1;have z:d.toList.length=k.size:=by rw[c.length_eq,xa,Bb]
 refine aa (Bt ?_ (by rw[z];exact hn));have f:(j.push (Wi "list" d.toList.toArray 0)).get? j.objs.size=some (Wi "list" d.toList.toArray 0):=ya _ rfl;refine aa (Rb (Nc LJ ⟨_,f,rfl⟩ EF (MJ f T (by rw[z];exact g) λout p C D E=>⟨_,rfl,?_⟩) (NJ _)));refine da ⟨_,rfl,?_⟩;have G:p=Tf (yd ns):=cC (D.trans (n.trans (Z.trans (Mx _).symm))) E (aE _);subst G;have l:=(Mx (yd ns)).length_eq;obtain⟨e,Y⟩:=JS (out:=out) f;exact⟨.ref j.objs.size,_,(E7 I F).laid (t':=tk) (λb o v=>by
  have lt:b<j.objs.size:=la (kp b o v);rw[OJ (ra lt) (by rw[mz];exact Ab lt)];exact ba _ (kp b o v)) i (show lj X.prog X.w _ _ _ (.lst ((Tf (yd ns)).map V.int))from⟨by rw[xa,l];exact Ya (show (yd ns).length<=1000 by omega) (by decide),out.toList,e,Pz C,by rw[vj];exact Y⟩),rfl,q _ (I.Pb.fresh i)⟩
noncomputable def Fv(x:D):M D:=λa=>match (Ff a x).bind Ut with
 |some ns=>if ns.length<64 then vy ((Tf (yd ns)).map D.int) a else .bad
 |none=>.bad
theorem yz(ns:List Int):(yd ns).length<=ns.length:=by rw[<-XG];exact nz _ _
theorem OR{μ:List Addr}{H:Hp}:∀ (a:List Int),Ua T μ H (a.map D.int) (a.map V.int)
 |[]=>Ua.nil
 |i::a=>Ua.cons (by rw[Rep]) (OR a)
theorem qG{e:Ga}{f:Ev->M D}{p j m b:Se}(hK:T.K=X.K)(z:X.calm=true)(O:Gl X "sorted")(hm:X.mg "sorted" = none)(r:Gl X "set")(t:X.mg "set" = none)(N:FE T X e f)
  (A:ma [e] X.env=(false,Nb e X.env)::ma [] X.env:=by rfl) (x:(kc b (ma [] X.env)).any (·.1)=false:=by rfl)
  (i:ma [.Call (.Name "set" j) [e] [] b] X.env=(false,Nb (.Call (.Name "set" j) [e] [] b) X.env)::ma [] X.env:=by rfl) (g:(kc m (ma [] X.env)).any (·.1)=false:=by rfl) :
  FE T X (.Call (.Name "sorted" p) [.Call (.Name "set" j) [e] [] b] [] m) (Je Fv f):=by
 intro k s U H Q I h;refine mB (wV z) O hm L4.rH (Ss (gH (L6 z) r t rfl (Ss N Dv A) (by decide) (by decide) A x) Dv i) (by decide) (by decide) i g k s U H Q I ?_;obtain⟨V,Y,Z,L,R,P⟩:=h;refine⟨V,Y,Z,L,R,P.bind λd y W v H1 _ e1 B S c=>?_⟩;unfold Fv at c;cases q:(Ff y d).bind Ut with
 |none=>rw[q]at c;exact c.elim
 |some ns=>
  rw[q]at c;dsimp only at c;by_cases n:ns.length<64
  ·rw[ia n]at c;obtain⟨ys,C,E⟩:=Wf.mp q;obtain⟨a,vs,rfl,G,J⟩:=B.ls S C;have F:=yB J E;subst F;refine⟨a,ns,rfl,cf.of G,n,λl hn=>⟨l,ns,rfl,Jg,n,yz ns,λl2 u=>?_⟩⟩;have j:=Kb.mono (Ik (o:=.ext (cA X.prog X.w ns l)) hn) c;exact lA j (B.fresh hn) (OR _) u
  ·rw[ja n]at c;exact c.elim
noncomputable def Zo:V->List V->Hp->VK->Prop:=λx xs H Q=>∃ (a:Addr) (b:List (Key × V)),x=.ref a/\xs=[]/\H a=some (.dK b)/\Q .Yb (upd H a (.dK []))
theorem rq:Sr X "dict.clear" Zo:=by
 intro e s p H x t v r Q I o n h;obtain⟨a,m,rfl,rfl,d,q⟩:=h;cases o;cases n;obtain⟨z,hd,f,rel,c⟩:=EH I.Pb d;have l:f.length<=sizeLine:=by rw[<-rel.length];exact z
 refine pv PySem.F.slot_dict_clear c.typeIs PySem.F.entry_dict_clear (PySem.F.args_dict_clear_1 _) (meets_dict_clear (Nn X.prog X.w) a) ⟨f,c,l,λg b k=>?_⟩;have i:∃ q,g.get? a=some q:=let ⟨q,_,_,j,_⟩:=b;⟨q,j⟩;exact⟨.Yb,_,OE I (by rw[d];exact True.intro) k i (gE (by simp) hd .nil b),rfl,q⟩
end
section
variable{X:Cx}{pins:List (Addr × Obj)}{σ:St}{H:Hp}{s:Shared}
theorem _root_.L2.Inv.freeze{a:Addr}{kvs:List (Key × V)}{od:Obj}(I:Inv X pins σ H s)(hd:H a=some (.dK kvs))(e:s.heap.get? a=some od):Inv X pins σ (upd H a (.qb od (.dK kvs))) s:=by
 have ne:∀ b u,H b=some u->u≠.dK kvs->b≠a:=λb u q n z=>by rw[z,hd]at q;exact n (ub q).symm
 refine I.step (g':=s.gens) (d':=s.drawn) (t':=s.toks) (h':=s.heap) (ch:=[]) (λ_ z=>nomatch z) (λb o _ _ _ q _=>q) (λb o _ _ _ q _=>⟨o.slots,q⟩) (λb o _ q n=>?_) (λb o _ q=>⟨o,q⟩)
  (λb xs q=>by rw[Ad (ne b _ q (λz=>by cases z))];exact q) (λb u xs q=>by rw[Ad (ne b _ q (λz=>by cases z))];exact q) (λb d q=>⟨#[],by rw[Ad (ne b _ q (λz=>by cases z)),q];simp⟩) (λm hm=>hm) (λb u q=>?_) I.bare
 ·rw[Ad (λz=>by rw[z,hd]at n;cases n)];exact n
 ·by_cases hb:b=a
  ·subst hb;rw[Jg]at q;cases q;exact⟨e,I.Pb b _ hd⟩
  ·rw[Ad hb]at q;exact(I.Pb b u q).xk (λc v _ z=>z) (λc z=>by rw[Ad (ne c _ z (λy=>by cases y))];exact z) λc xs z=>by rw[Ad (ne c _ z (λy=>by cases y))];exact z
theorem Yz{a:Addr}{kvs:List (Key × V)}{od:Obj}(I:Inv X pins σ H s)(hd:H a=some (.qb od (.dK kvs))):∃ vs b ep,KV kvs vs/\od.data=.dict b ep/\s.heap.DictAt (Nn X.prog X.w) a vs ep:=by
 obtain⟨e,_,_,vs,rel,o,b,ep,d,ex,c,r⟩:=I.Pb a _ hd;rw[e]at d;cases d;exact⟨vs,b,ep,rel,c,od,b,e,ex,c,r⟩
end
noncomputable def Itm(d:Addr)(od:Obj)(kvs:List (Key × V)):It:=
 ⟨λi H=>H d=some (.qb od (.dK kvs))/\∃ x,kvs[i]?=some x,λi H v a=>∃ p k x,H p=none/\v=.ref p/\kvs[i]?=some (k,x)/\a=upd H p (.tup [kV k,x]),λi H=>H d=some (.qb od (.dK kvs))/\i=kvs.length⟩
theorem OG{c:Type}:∀ {kvs:List (c × V)} {vs:List (c × Value)} (r:KV kvs vs) (i:Nat) {k:c} {x:V},kvs[i]?=some (k,x)->∃ u,vs[i]?=some (k,u)/\vd x u
 |_,_,.nil,i,_,_,h=>by simp at h
 |_,_,.cons (b:=q) a b,0,k,x,h=>by
  simp only[Ci,gh]at h;obtain⟨d,e⟩:=a;rw[h]at d e;exact⟨q.2,by simp only[Ci,gh];exact qS d.symm rfl,e⟩
 |_,_,.cons a b,i+1,k,x,h=>by
  simp only[Cq]at h ⊢;exact OG b i h
theorem rL{P:ua}{w:Ea}{k:Key}{v:Value}(h:(Nn P w).is k v=true):vd (kV k) v:=by
 rcases uu (k:=k) (v:=v) h with⟨i,t,rfl,rfl⟩|⟨x,t,rfl,rfl⟩
 ·exact⟨t,rfl⟩
 ·exact⟨t,rfl⟩
theorem P4{P:ua}{w:Ea}{K:W.Frag}{j:List Ga}{kk:Nat}{M:Se}(d it:Addr)(od:Obj)(kvs:List (Key × V))(a0:d≠it){U:Array ju}{ep:Nat}(n:od.data=.dict U ep) :
  Turn P w K (.Tuple j kk M) (Itm d od kvs) [it] it (λi h=>∃ ok f,IsItemIter h it d i kvs.length ep ok f) where
 mem:=by simp
 obj:=λi h c b hb=>by
  obtain⟨ok,f,a⟩:=c;obtain rfl:b=it:=by simpa using hb
  exact⟨_,a,λv z=>by cases z⟩
 keep:=λi h N c k=>by
  obtain⟨ok,f,a⟩:=c;exact⟨ok,f,k it (by simp) _ a⟩
 item:=by
  intro X D L C O i r s σ H E I t c G;subst D L C;obtain⟨hd,⟨k,x⟩,S⟩:=G;obtain⟨vs,B,y,rel,g,hm⟩:=Yz I hd;rw[n]at g;cases g;obtain⟨u,hu,ru⟩:=OG rel i S;obtain⟨ok,f,a⟩:=c;rw[rel.length]at a;refine wpAny_pyNext_items_item a hm hu λe N m ho Z a1 hk=>?_;have l:s.heap.objs.size≠it:=Ud (la a);refine⟨.ref s.heap.objs.size,rfl,wpAny_letOwnedTupleGo_items ho λY J p=>?_⟩;have hn:H s.heap.objs.size=none:=I.Pb.fresh (pa _);have F:Y.get? s.heap.objs.size=some { cls:=.type "tuple",data:=.seq #[e,u] }:=p.extBut _ _ l Z;refine⟨.ref s.heap.objs.size,upd H s.heap.objs.size (.tup [kV k,x]),I.Ku (t':=s.toks) (o:=.tup [kV k,x]) (its:=[it]) (λb o hb q=>p.extBut b o (λz=>hb (by simp[z])) (hk b o (λz=>hb (by simp[z])) q)) t (pa _) ?_,rfl,⟨_,k,x,hn,rfl,S,rfl⟩,⟨e,u,by rw[rel.length];exact J⟩,λb hb=>?_⟩
  ·exact⟨(show (2:Nat)<=sizeLine by decide),[e,u],.cons (rL m) (.cons ru .nil),⟨_,F,rfl,_,rfl⟩⟩
  ·obtain rfl:b=it:=by simpa using hb
   rw[Ad (λz=>l z.symm)];exact(t b hb).1
 done:=by
  intro X D L C O i r s σ H E I t c G;subst D L C;obtain⟨hd,R⟩:=G;obtain⟨vs,B,y,rel,g,hm⟩:=Yz I hd;rw[n]at g;cases g;obtain⟨ok,f,a⟩:=c;rw[rel.length]at a R;exact wpAny_pyNext_items_end (I.ok.hd O) a hm (by rw[R];simp) λN T=>⟨rfl,I.Bu (t':=s.toks) (its:=[it]) (λb o hb q=>T b o (λz=>hb (by simp[z])) q) t⟩
 self:=λA i s Q E c h=>by
  obtain⟨ok,f,a⟩:=c;exact W.kcp_self a h
noncomputable def tm(l a:Addr):Heap->Prop:=λh=>h.IsItemsView l a
noncomputable def lX:V->List V->Hp->VK->Prop:=λx xs H Q=>∃ a b,x=.ref a/\xs=[]/\Rd H a (.dK b)/\∀ l,H l=none->Q (.ref l) (upd H l (.ext (tm l a)))
theorem Lz{H:Hp}{a:Addr}{o:HO}(h:H a=some o):upd H a o=H:=by
 funext b;unfold upd;split
 ·next e=>rw[e,h]
 ·rfl
theorem eF(h:Heap)(o:Obj)(a:o.data≠.freed):(h.push o).get? h.objs.size=some o:=by
 obtain⟨c,d,x,b⟩:=o;simp[Heap.get?,Heap.push];cases x<;>first|rfl|exact absurd rfl a
section
variable{T:Tb}{X:Cx}{elts:List Ga}{kk:Nat}{p0:Se}
theorem fL:Sr X "dict.items" lX:=by
 intro f s t H x y v u Q I l j h;obtain⟨a,i,rfl,rfl,g,q⟩:=h;cases l;cases j;obtain⟨z,hd,m,rel,d⟩:=uv I.Pb g;refine pv Yh d.typeIs PySem.F.entry_dict_items (PySem.F.args_dict_items_1 _) (meets_dict_items (Nn X.prog X.w) a hd) ⟨⟨m,d⟩,?_⟩;refine⟨.ref s.heap.objs.size,_,I.laid (t':=s.toks) (o:=.ext (tm s.heap.objs.size a)) (λb o e=>ba _ e) (pa _) ?_,rfl,q _ (I.Pb.fresh (pa _))⟩;refine⟨⟨_,eF _ _ (λz=>by cases z),rfl,rfl⟩,⟨_,eF _ _ (λz=>by cases z)⟩,λn r p k=>?_⟩;obtain⟨o,e,c⟩:=p;exact⟨o,k o e,c⟩
noncomputable def O8(e:TE):TI:=λf H R=>e f H λv c=>∃ l a b,v=.ref l/\c l=some (.ext (tm l a))/\Rd c a (.dK b)/\∀ d,c a=some (.dK b)\/c a=some (.qb d (.dK b))->R (Itm a d b) (upd c a (.qb d (.dK b)))
theorem OK{f:Ga}{p:TE}(y:PE X f p):PI X (.Tuple elts kk p0) f (O8 p):=by
 intro i s r H R I h;refine ae (y i s r H _ I h) λv s1 ⟨x,H1,j,D,C⟩=>?_;obtain⟨l,a,c,rfl,A,d,q⟩:=C;cases D;obtain⟨g,n,k⟩:∃ g,(H1 a=some (.dK c)\/H1 a=some (.qb g (.dK c)))/\Inv X i r (upd H1 a (.qb g (.dK c))) s1:=by
  rcases d with d|⟨g,d⟩
  ·obtain⟨_,_,E,rel,o,w,u,e,_⟩:=j.Pb a _ d;exact⟨o,.inl d,j.freeze d e⟩
  ·exact⟨g,.inr d,by rw[Lz d];exact j⟩
 obtain⟨E,w,u,rel,t,hm⟩:=Yz k Jg;have B:s1.heap.IsItemsView l a:=(j.Pb l _ A).1;have m:a≠s1.heap.objs.size:=ra hm.lt_size;refine wpAny_pyIter_items B hm ?_;refine⟨s1.heap.objs.size,[s1.heap.objs.size],_,Itm a g c,_,rfl,k.kept (t':=s1.toks) (λb o e=>ba _ e),P4 a _ g c m t,⟨.none,.none,by rw[rel.length];exact eF _ _ (λz=>by cases z)⟩,λb hb=>?_,q g n⟩;obtain rfl:b=s1.heap.objs.size:=by simpa using hb
 exact k.Xo (pa _) (k.Pb.fresh (pa _))
noncomputable def Tr(a:List (Key × D)):NX:=λi _=>match a[i]? with
 |some p=>some (some (.tup [iA p.1,p.2]))
 |none=>if i=a.length then some none else none
noncomputable def wI(d:D):M NX:=λb=>match d with
 | .Na a xs=>if a.length=xs.length then .ok (Tr (a.zip xs)) b else .bad
 |_=>.bad
noncomputable def xx(f:Ev->M D):Ev->M NX:=λa=>Mc (f a) wI
theorem ZF{μ:List Addr}{H:Hp}(k:Key):Rep T μ H (iA k) (kV k):=by
 cases k<;>(unfold iA kV;rw[Rep])
theorem aQ{μ:List Addr}{H:Hp}{a:Addr}{od:Obj}{kvs:List (Key × V)}(c:H a=some (.dK kvs)):Ext μ H μ (upd H a (.qb od (.dK kvs))):=by
 have ne:∀ b u,H b=some u->u≠.dK kvs->b≠a:=λb u q n z=>by rw[z,c]at q;exact n (ub q).symm
 refine⟨⟨[],by simp⟩,λp xs h=>by rw[Ad (ne p _ h (λz=>by cases z))];exact h,λp o u h=>by rw[Ad (ne p _ h (λz=>by cases z))];exact h,λp o h n=>⟨?_,n⟩⟩;by_cases e:p=a
 ·subst e;rw[c]at h;cases h;exact⟨_,Jg,.inr (.inl ⟨od,kvs,rfl,rfl⟩)⟩
 ·exact⟨o,by rw[Ad e];exact h,.inl rfl⟩
theorem RD{c d:Type}{R:c->d->Prop}:∀ {xs:List c} {ys:List d},Paired R xs ys->∀ (i:Nat) {x:c},xs[i]?=some x->∃ y,ys[i]?=some y/\R x y
 |_,_,.nil,i,_,h=>by simp at h
 |_,_,.cons a b,0,x,h=>by
  simp only[Ci,gh]at h ⊢;subst h;exact⟨_,rfl,a⟩
 |_,_,.cons a b,i+1,x,h=>by
  simp only[Cq]at h ⊢;exact RD b i h
theorem QI{e:Ga}{f:Ev->M D}{j k:Se}(h:FE T X e f)(m:Uc e "items" X.env (Nb e X.env)=Nb e X.env:=by rfl)(o:(j.endLine == k.line)=true:=by rfl) :
  Pw T X (.Tuple elts kk p0) (.Call (.Attribute e "items" j) [] [] k) (xx f):=by
 intro G s st H R I hw;refine OK (sR Zh Yh Ho fL h m o) G s st H R I ?_;obtain⟨μ,ρ,σ,hE,hr,hp⟩:=hw;refine⟨μ,ρ,σ,hE,hr,hp.bind λd σ1 c v g _ e1 r1 Z w=>?_⟩;unfold wI at w;cases d with
 |Na J xs=>
  dsimp only at w;by_cases W:J.length=xs.length
  ·rw[ia W]at w;rw[Rep]at Z;obtain⟨a,kvs,rfl,hn,n,N,O⟩:=Z;refine⟨⟨a,kvs,rfl,n⟩,a,kvs,rfl,rfl,n,λl t=>?_⟩;have P:a≠l:=by rcases n with n|⟨_,n⟩<;>exact Ko n t
   have L:Rd (upd g l (.ext (tm l a))) a (.dK kvs):=by unfold Rd;rw[Ad P];exact n
   refine⟨l,a,kvs,rfl,Jg,L,λod A=>?_⟩;have x1:Ext c g c (upd g l (.ext (tm l a))):=Ik t;have x:Rel T c (upd g l (.ext (tm l a))) σ1:=r1.fresh t;obtain⟨x2,Q⟩:Ext c g c (upd (upd g l (.ext (tm l a))) a (.qb od (.dK kvs)))/\Rel T c (upd (upd g l (.ext (tm l a))) a (.qb od (.dK kvs))) σ1:=by
    rcases A with A|A
    ·have y:=aQ (μ:=c) (od:=od) A;exact⟨x1.trans y,x.keep y (λb hb=>Ad (λz=>hn (by rw[<-z];exact hb))) (x.tb.out (λb hb=>Ad hb) (.inr ⟨_,A⟩))⟩
    ·rw[Lz A];exact⟨x1,x⟩
   have h3:upd (upd g l (.ext (tm l a))) a (.qb od (.dK kvs)) a=some (.qb od (.dK kvs)):=Jg;generalize upd (upd g l (.ext (tm l a))) a (.qb od (.dK kvs))=H3 at *;refine Kb.here (R:=lr T) (Kb.mono x2 w) Q λS U a0 i ex r2=>?_;have V:U a=some (.qb od (.dK kvs)):=ex.qb _ _ _ h3;have E:Oh T S U (J.zip xs) kvs:=Oh.mono (x2.trans ex) (UC N O);unfold Tr;cases ei:(J.zip xs)[i]? with
   |none=>
    dsimp only;by_cases K:i=(J.zip xs).length
    ·rw[ia K];exact⟨V,by rw[K];exact Paired.length E⟩
    ·rw[ja K];trivial
   |some p=>
    obtain⟨q,Y,C,rx⟩:=RD E i ei;refine⟨⟨V,q,Y⟩,λz H' y=>?_⟩;obtain⟨r,k',x',u,rfl,B,rfl⟩:=y;rw[Y]at B;cases B;dsimp only at C rx;refine⟨Ik u,r2.fresh u,?_⟩;rw[Rep,C];exact⟨r,_,rfl,Jg,Ua.cons (ZF _) (Ua.cons (Rep.mono (Ik u) _ _ rx) Ua.nil)⟩
  ·rw[ja W]at w;exact w.elim
 |_=>exact w.elim
end
noncomputable def ij(nx:NX)(n:Nat)(tg:D->Ev->Option Ev)(fi:Ev->M Bool)(fe:Ev->M D):Nat->Nat->Ev->M Unit
 |0,_,_=>bad
 |k+1,i,e=>λb=>match nx i b with
  |none=>.bad
  |some none=>.ok () b
  |some (some d)=>match tg d e with
   |none=>.bad
   |some a=>Mc (Wn (fi a)) (λc=>if c=true then Mc (Wn (fe a)) λy=>Mc (yk (.ref n) [y]) λ_=>ij nx n tg fi fe k (i+1) a else ij nx n tg fi fe k (i+1) a) b
noncomputable def KC(tg:D->Ev->Option Ev)(fi:Ev->M Bool)(fe:Ev->M D)(ρ:Ev)(nx:NX):M D:=λa=>
 Mc (ij nx a.length tg fi fe 1001 0 ρ) (λ_=>ret (.ref a.length)) (a++[.lst []])
noncomputable def Rj(src:Ev->M NX)(ix:List Nat)(tg:D->Ev->Option Ev)(fi:Ev->M Bool)(fe:Ev->M D):Ev->M D:=λa=>Mc (src a) (KC tg fi fe (Hu ix a))
section
variable{T:Tb}{X:Cx}
theorem ZQ{E:XK}{a5 W a3:Ga}{a6:List Ga}{scope:Scope}{b2:Se}{x z0:qa}{M':List qa}{ix:List Nat}{tg:D->Ev->Option Ev}{fi:Ev->M Bool}{fe:Ev->M D}
  {b0:List (Addr × Obj)} {st:St} {R:Hp} {s3:Shared} {t:Heap} {t':Nat} {m:qa->Option Value} {fp:List Addr} {it D0:Addr} {tn:Nat->Heap->Prop} {J:It} {nx:NX} {G:List Addr} {b6:Oa} {ρ:Ev} {n:Nat} {Q:VK}
  (hc:X.calm=true) (L:Qm X x M' ix scope)
  (d1:∀ cl C s₀ H₀ ex,FG T (Kt X (x::z0::M') scope cl C s₀ H₀ ex) a3 tg)
  (c8:∀ cl C s₀ H₀ ex,XA T (Kt X (x::z0::M') scope cl C s₀ H₀ ex) a6 fi)
  (b9:∀ cl C s₀ H₀ ex,FE T (Kt X (x::z0::M') scope cl C s₀ H₀ ex) a5 fe)
  (I3:Inv X b0 st R s3) (c0:∀ b∈fp,Yl X b0 R b/\b<s3.heap.objs.size) (d0:t.Ns s3.heap.objs.size m) (kp:∀ b o,s3.heap.get? b=some o->t.get? b=some o)
  (TT:Turn X.prog X.w X.K a3 J fp it tn) (a9:tn 0 t) (so:lr T G R nx J) (hE:qh T G R ρ st) (r3:Rel T G R b6) (hn:G[n]?=some D0)
  (p3:Kb T E (Rep T) G R (Mc (ij nx n tg fi fe 1001 0 (Hu ix ρ)) (λ_=>ret (.ref n)) b6) Q) {RR:wn->Shared->Prop}
  (c6:∀ (s6:Shared) (j:Hp) (m6:qa->Option Value),s6.heap.Ns s3.heap.objs.size m6->j s3.heap.objs.size=none->Un (qj X.stack) fp R j s3.heap s6.heap->s6.os=s3.os->yi X.prog X.w j s6.heap->Pg s6.gens->Q (.ref D0) j->RR (.ok .next) s6) :
  codeAny (model X.prog X.w) X.A (.compStart (.ListComp a5 [⟨a3,W,a6,0⟩] scope b2) 0 (.ref it) (.ref D0) (compEnvC scope (Fi X.env scope.names []) s3.heap.objs.size X.env))
   RR { s3 with heap:=t,toks:=t' }:=by
 have I4:=AX (z0:=z0) (h':=t) (t':=t') I3 L c0 d0 kp;let Y:Cx:=Kt X (x::z0::M') scope (Fi X.env scope.names []) s3.heap.objs.size s3 R fp;have a2:∀ {j:Hp},(∀ b∈fp,j b=none)->∀ b∈fp,Yl Y [] j b:=fun {j} hn b hb=>⟨hn b hb,(I4.ok.ly b hb).1,I4.ok.oq b hb,.inl hb,(I4.ok.ly b hb).2,λp hp=>absurd (show p∈([]:List (Addr × Obj))from hp) (by simp)⟩
 have Nk:codeAny (model X.prog X.w) X.A (.compLoop (.ListComp a5 [⟨a3,W,a6,0⟩] scope b2) 0 (.ref it) (.ref D0) Y.env) RR { s3 with heap:=t,toks:=t' }:=by
  refine codeAny_loop rfl (λk s'=>∃ i f j σ' q B,Inv Y [] B j s'/\tn i s'.heap/\(∀ b∈fp,j b=none)/\Ext G R f j/\qh T f j q B/\Rel T f j σ'/\
   Kb T E (Rep T) f j (Mc (ij nx n tg fi fe k i q) (λ_=>ret (.ref n)) σ') Q) ?_ 1001 ⟨0,G,R,b6,Hu ix ρ,Zx ix st,I4,a9,λb hb=>(c0 b hb).1.1,Ext.refl _ _,R5 ix hE,r3,p3⟩
  rintro k s' ⟨i,f,j,σ',q,B,I',c2,b7,ex',hE',r',p'⟩;show wpAny _ X.A ((compTurn (.ListComp a5 [⟨a3,W,a6,0⟩] scope b2) 0 (.ref it) (.ref D0) Y.env).onRaise (λx=>do Cg x Y.env;theTreesLotGoes x)) _ _ s';refine wpAny_noted ?_;rw[compTurn_list];refine Eb (E:=λ_ _=>False) ?_ (λ_ _ z=>z) (λ_ _ z=>z.elim);refine aa (wt ?_);cases k with
  |zero=>exact p'.elim
  |succ k=>
   have a8:=so f j σ' i ex' r';cases en:nx i σ' with
   |none=>
    have e1:ij nx n tg fi fe (k+1) i q σ'=.bad:=by unfold ij;simp only[en]
    rw[MD (m':=bad) e1]at p';exact p'.elim
   |some od=>
    rw[en]at a8;cases od with
    |none=>
     have e1:ij nx n tg fi fe (k+1) i q σ'=.ok () σ':=by unfold ij;simp only[en]
     rw[MD (m':=ret ()) e1]at p';refine aa (ae (TT.done Y rfl rfl rfl hc i [] s' B j (λ_ _=>False) I' (a2 b7) c2 a8) λr s6 ⟨er,I6⟩=>?_);subst er;refine da ?_;obtain⟨m6,c9,_⟩:=I6.loc;exact c6 s6 j m6 c9 I6.free I6.base I6.os I6.Pb I6.bare (Kb.here p' r' (by rw[Rep];exact⟨_,rfl,ex'.get hn⟩))
    |some d=>
     refine aa (ae (TT.item Y rfl rfl rfl hc i [] s' B j (λ_ _=>False) I' (a2 b7) c2 a8.1) λr s6 ⟨u,er,h6⟩=>?_);subst er;refine aa (ae h6 λ_ s7 ⟨xv,H7,I7,r7,y7,b5,c7⟩=>?_);obtain⟨b1,d2,hd⟩:=a8.2 xv H7 y7;replace p':=Kb.mono b1 p';replace hE':=hE'.mono b1;replace ex':=ex'.trans b1;replace r':=d2;cases et:tg d q with
     |none=>
      have e1:ij nx n tg fi fe (k+1) i q σ'=.bad:=by unfold ij;simp only[en,et]
      rw[MD (m':=bad) e1]at p';exact p'.elim
     |some h=>
      have e1:ij nx n tg fi fe (k+1) i q σ'=Mc (Wn (fi h)) (λc=>if c=true then Mc (Wn (fe h)) λy=>Mc (yk (.ref n) [y]) λ_=>ij nx n tg fi fe k (i+1) h else ij nx n tg fi fe k (i+1) h) σ':=by
       conv=>lhs;unfold ij
       simp only[en,et]
      rw[MD e1,gG]at p';have c4:=I7.pinned (a2 c7) (TT.obj _ _ b5);refine aa (ae (d1 _ _ _ _ _ _ s7 B H7 xv u (λF H8=>H8=H7/\qh T f H7 h F) c4 r7 ⟨f,σ',q,d,h,hE',r',hd,et,λF V=>⟨rfl,V⟩⟩) λ_ s8 ⟨F,H8,I8,c5,V⟩=>?_);subst c5;refine aa (ae (c8 _ _ _ _ _ _ s8 F H8 (λc H9=>∃ N P,Ext f H8 N H9/\Rel T N H9 P/\Kb T E (Rep T) N H9 (Mc (if c=true then Mc (Wn (fe h)) λy=>Mc (yk (.ref n) [y]) λ_=>ij nx n tg fi fe k (i+1) h else ij nx n tg fi fe k (i+1) h) (λ_=>ret (.ref n)) P) Q) I8
       ⟨f,h,σ',V,r',p'.wu λc P N c' H9 _ e9 r9 q9 p9=>by cases q9;exact⟨N,P,e9,r9,p9⟩⟩) λc s9 ⟨H9,I9,N,P,e9,r9,p9⟩=>?_)
      have U:∀ {a1:Shared} {l:Hp} {a:List Addr} {g:Oa},Inv Y ([]++dB fp s7.heap) F l a1->Ext f H8 a l->Rel T a l g->Kb T E (Rep T) a l (Mc (ij nx n tg fi fe k (i+1) h) (λ_=>ret (.ref n)) g) Q->
        ∃ m,m<k+1/\∃ i f j σ' q B,Inv Y [] B j a1/\tn i a1.heap/\(∀ b∈fp,j b=none)/\Ext G R f j/\qh T f j q B/\Rel T f j σ'/\Kb T E (Rep T) f j (Mc (ij nx n tg fi fe m i q) (λ_=>ret (.ref n)) σ') Q:=by
       intro a1 l a g S O a0 Z;refine⟨k,zb _,i+1,a,l,g,h,F,S.uk,TT.keep _ _ _ b5 (λb hb o e=>(S.pin (b,o) (Ma _ (Ma _ (mE hb e)))).1),λb hb=>?_,ex'.trans O,V.mono O,a0,Z⟩;obtain⟨o,e,_⟩:=TT.obj _ _ b5 b hb;exact(S.pin (b,o) (Ma _ (Ma _ (mE hb e)))).2.1
      cases c with
      |false=>
       rw[ja Va]at p9;exact da ⟨rfl,U I9 e9 r9 p9⟩
      |true=>
       rw[ia rfl,gG]at p9;refine aa (aa (ae (b9 _ _ _ _ _ _ s9 F H9 (λv I=>∃ y s H,Ext f H8 s I/\Rel T s I H/\Rep T s I y v/\Kb T E (Rep T) s I (Mc (yk (.ref n) [y]) (λ_=>Mc (ij nx n tg fi fe k (i+1) h) (λ_=>ret (.ref n))) H) Q) I9
        ⟨N,h,P,V.mono e9,r9,p9.wu λy H s v I _ a4 b4 b3 a7=>⟨y,s,H,e9.trans a4,b4,b3,by rw[gG]at a7;exact a7⟩⟩) λw d3 ⟨v,I,c3,c1,y,s,H,a4,b4,b3,a7⟩=>?_))
       have b8:=t6 (Q:=λ_ l=>∃ a g,Ext f H8 a l/\Rel T a l g/\Kb T E (Rep T) a l (Mc (ij nx n tg fi fe k (i+1) h) (λ_=>ret (.ref n)) g) Q) b4 ((ex'.trans a4).get hn) b3
        (a7.bind λ_ g a d4 l _ O a0 d5 Z=>⟨a,g,a4.trans O,a0,Z⟩)
       refine aa (ae (Dz (X:=Y) _ d3 F I (.ref D0) [v] (.ref D0) [w] _ c3 rfl (.cons c1 .nil) b8) λ_ a1 ⟨d4,l,S,_,a,g,O,a0,Z⟩=>?_);exact da (da ⟨rfl,U S O a0 Z⟩)
 exact codeAny_compStart_list Nk (TT.self X.A 0 _ _ _ a9 Nk)
theorem su{w g u:Ga}{K:List Ga}{scope:Scope}{a1:Se}{x z0:qa}{M':List qa}{ix:List Nat}{src:Ev->M NX}{tg:D->Ev->Option Ev}{fi:Ev->M Bool}{fe:Ev->M D}
  (hc:X.calm=true) (L:Qm X x M' ix scope) (F:Pw T X u g src)
  (Z:∀ cl C s₀ H₀ ex,FG T (Kt X (x::z0::M') scope cl C s₀ H₀ ex) u tg)
  (U:∀ cl C s₀ H₀ ex,XA T (Kt X (x::z0::M') scope cl C s₀ H₀ ex) K fi)
  (A:∀ cl C s₀ H₀ ex,FE T (Kt X (x::z0::M') scope cl C s₀ H₀ ex) w fe)
  (hs:∀ y,Qg g X.env y=pure y:=by intro _;rfl) :
  FE T X (.ListComp w [⟨u,g,K,0⟩] scope a1) (Rj src ix tg fi fe):=by
 intro m s st H Q I h;obtain⟨O,ρ,σ,hE,hr,hp⟩:=h;rw[eval_ListComp];refine Ct (use:=none) rfl hs (NG X.env scope (cy I L)) L.kind (λy hy e=>?_) ?_
 ·have q:=Zb.mp L.names y hy;rw[e]at q;simp only[Sq,di,Kg]at q;exact eq_of_beq q
 have h1:=F m s st H (λJ j=>∃ nx c d,Ext O H c j/\Rel T c j d/\lr T c j nx J/\Kb T (XE X st) (Rep T) c j (Mc (ij nx d.length tg fi fe 1001 0 (Hu ix ρ)) (λ_=>ret (.ref d.length)) (d++[Ob.lst []])) Q) I
  ⟨O,ρ,σ,hE,hr,hp.bind λnx a3 a2 J H1 _ e1 r1 q1 p1=>⟨nx,a2,a3,e1,r1,q1,p1⟩⟩
 refine ae h1 λv s1 h2=>ae h2 λa4 a h3=>?_;obtain⟨it,fp,tn,J,j,rfl,I2,TT,N,f2,nx,c,d,P,r2,so,p2⟩:=h3;refine Sb (ll (xB L) (by intro y hy;simp at hy) (λG k l=>?_) L.kind);have I3:=I2.Oy (ys:=[]) (its:=[]) (t':=a.toks) .nil (by simp);have z:j a.heap.objs.size=none:=I2.Pb.fresh (pa _);have r3:=r2.push (p:=a.heap.objs.size) (o:=.lst []) (ob:=.lst []) z ⟨[],Jg,Ua.nil⟩;have t:Ext c j (c++[a.heap.objs.size]) (upd j a.heap.objs.size (.lst [])):=uy z;have Y:a.heap.objs.size<(a.heap.push { cls:=.type "list",data:=.seq ([]:List Value).toArray }).objs.size:=by rw[rc];exact zb _
 have kp:∀ b o,(a.heap.push { cls:=.type "list",data:=.seq ([]:List Value).toArray }).get? b=some o->G.get? b=some o:=λb o e=>l.extBut b o (ra (la e)) (ba _ e);have f:∀ b∈fp,Yl X m (upd j a.heap.objs.size (.lst [])) b/\b<(a.heap.push { cls:=.type "list",data:=.seq ([]:List Value).toArray }).objs.size:=λb hb=>by
  obtain⟨o,e,_⟩:=TT.obj 0 _ N b hb;have lt:=la e;exact⟨⟨by rw[Ad (ra lt)];exact(f2 b hb).1,(f2 b hb).2⟩,Kr lt Y⟩
 refine ZQ (s3:={ a with heap:=a.heap.push { cls:=.type "list",data:=.seq ([]:List Value).toArray },toks:=a.toks }) (n:=d.length) (D0:=a.heap.objs.size) hc L Z U A I3 f k kp TT (TT.keep 0 _ _ N λb hb o e=>kp b o (ba _ e))
  (λO H σ i ex r=>so O H σ i (t.trans ex) r) ((hE.mono P).mono t) r3 (by rw[<-r2.len];simp) (p2.mono t) (λs6 H' m6 V R a0 W B S hq=>⟨m6,V,λh7 E=>?_⟩)
 have hu:=fX a0 E (pa _);have I7:=L2.Inv.Du (s':={ s6 with heap:=h7 }) (ch:=fp) I3 W hu (AV B E R) S (λb hb=>⟨(f b hb).1.2.2.2.1,(f b hb).1.2.1,(f b hb).1.2.2.2.2.1,(f b hb).1.2.2.2.2.2⟩);exact⟨.ref a.heap.objs.size,H',I7,rfl,hq⟩
end
noncomputable def xD(K:W.Frag)(mg:qa->Option Value)(x:qa)(ss:List qa):Prop:=∃ a,mg x=some (.ref a)/\UB K a ss
noncomputable def ay:List Value->List qa->Bool
 |[],[]=>true
 | .str y _::a,x::ss=>(y == x) && ay a ss
 |_,_=>false
noncomputable def FH(K:W.Frag)(a:Addr)(ss:List qa):Bool:=match K.lookup a with
 |some o=>(o.cls == .type "tuple") && (match o.data with
  | .seq b _=>decide (b.size<=sizeLine) && ay b.toList ss
  |_=>false)
 |none=>false
theorem JM:∀ {vs:List Value} {ss:List qa},ay vs ss=true->Pd (ss.map V.str) vs
 |[],[],_=>.nil
 |[],_::_,h=>by simp[ay]at h
 |v::vs,[],h=>by cases v<;>simp[ay]at h
 |v::vs,x::ss,h=>by
  cases v with
  |str y t=>
   simp only[ay,va]at h;obtain rfl:=eq_of_beq h.1;exact .cons ⟨t,rfl⟩ (JM h.2)
  |_=>simp[ay]at h
theorem UB.of{K:W.Frag}{a:Addr}{ss:List qa}(h:FH K a ss=true):UB K a ss:=by
 unfold FH at h;cases e:K.lookup a with
 |none=>rw[e]at h;cases h
 |some o=>
  rw[e]at h;simp only[va]at h;obtain⟨f,b⟩:=h;cases c:o.data with
  |seq d n=>
   rw[c]at b;simp only[va,Mb]at b;exact⟨o,d,n,e,eq_of_beq f,c,b.1,JM b.2⟩
  |_=>rw[c]at b;cases b
section
variable{T:Tb}{X:Cx}{e:Ga}{f:Ev->M D}{x:qa}{p pos:Se}{ss:List qa}
end
section
variable{T:Tb}{X:Cx}
end
theorem U8{K:W.Frag}{mg:qa->Option Value}{h:Heap}{x:qa}{C:Addr}{ss:List qa}(X:K.In h)(G:h.Ns mainGlobals mg)(a:W.nsIn K mainGlobals x=some (some (.ref C)))(b:FH K C ss=true):xD K mg x ss:=⟨C,zt X G a,UB.of b⟩
section
variable{T:Tb}{X:Cx}
end
section
variable{T:Tb}{X:Cx}
end
section
variable{prog:ua}{w:Ea}{A:Da}{E:Value->Shared->Prop}{l q I S:Addr}{n:Nat}{P:Nat->Value->Prop}{R:wn->Shared->Prop}{Q:Value->Shared->Prop}
theorem B1(G:Nat->Value->Int->Shared->Prop)(hh:A.handled=none)(Y:l≠I)(H:S≠I)(a6:l≠S)
  (hl:∀ j d a s,G j d a s->∃ vs:List Value,vs.length=n/\(∀ (j:Nat) v,vs[j]?=some v->P j v)/\s.heap.IsList l vs.toArray)
  (B:∀ j d a s h' tk,G j d a s->(∀ b o,b≠I->b≠S->s.heap.get? b=some o->h'.get? b=some o)->G j d a { s with heap:=h',toks:=tk })
  (a4:∀ j d a s v oI oS,G j d a s->P j v->s.heap.get? I=some oI->s.heap.get? S=some oS->(∀ v,oI.data≠.cell v)->(∀ v,oS.data≠.cell v)->
   wpAny (model prog w) A.in1 (call (.ref q) [v]) (λx s'=>∃ k t,x=.int k t/\s'.heap.get? I=some oI/\s'.heap.get? S=some oS/\G (j+1) (if k<a then v else d) (if k<a then k else a) s') (λ_ _=>False) s)
  (hR:∀ d a s,G n d a s->R (.ok (.ret d)) s) :
  ∀ (r j:Nat) (s:Shared) (d:Value) (a:Int) (tb:Tok) (c:Nat),n - j=r->j<=n->G j d a s->s.heap.get? S=some (Wi "list" #[d,.int a tb] c)->s.heap.IsListIter I l j->
   codeAny (model prog w) A (.builtin "min.loop" ⟨[.ref I,.ref q,.ref S],[]⟩) R s:=by
 have p:(toString "min"++toString ".loop" : String) = "min.loop":=by decide
 intro r;induction r with
 |zero=>
  intro j s d a tb c hr hj g U hit;have V:j=n:=by omega
  obtain⟨vs,O,a2,K⟩:=hl j d a s g;have W:=Ck (prog:=prog) (w:=w) (A:=A.in1) hh I l Y vs.toArray;have N:vs.toArray.size=n:=(na ..).trans O;refine nc si ?_;rw[Qb Kc _];show wpAny _ A.in1 (xC (.ref S) >>= _) _ _ _;refine aa (ri U rfl ?_);show wpAny _ A.in1 (tryCatch (pyNext (.ref I)) _ >>= _) _ _ _;refine aa (Ng (W.done _ _ _ ⟨by rw[N,<-V];exact hit,K⟩ λh' a3 J=>?_));have m:∀ b o,b≠I->s.heap.get? b=some o->h'.get? b=some o:=λb o n e=>J b o (by simpa using n) e;have D:=m S _ H U;have s1:=Gb h' S (Ze λ_=>(#[]:Array Value));show wpAny _ A.in1 (mu S (λ_=>#[]) >>= _) _ _ _;refine aa ?_;refine Lh D rfl (aa (Wp (da ?_)));subst V;exact hR d a _ (B _ _ _ s _ _ g λb o n1 n2 e=>by rw[s1.2 b n2];exact m b o n1 e)
 |succ r ih=>
  intro j s d a tb c hr hj g U hit;have L:j<n:=by omega
  obtain⟨vs,O,a2,K⟩:=hl j d a s g;have W:=Ck (prog:=prog) (w:=w) (A:=A.in1) hh I l Y vs.toArray;have N:vs.toArray.size=n:=(na ..).trans O;refine nc si ?_;rw[Qb Kc _];show wpAny _ A.in1 (xC (.ref S) >>= _) _ _ _;refine aa (ri U rfl ?_);show wpAny _ A.in1 (tryCatch (pyNext (.ref I)) _ >>= _) _ _ _;refine aa (Ng (W.item j _ _ _ (by rw[N];exact L) ⟨hit,K⟩ λv h' a3 hP a1 J=>?_));have m:∀ b o,b≠I->s.heap.get? b=some o->h'.get? b=some o:=λb o n e=>J b o (by simpa using n) e;have hv:P j v:=a2 j v (by simpa using hP);obtain⟨Q,Z,a0,M⟩:=id a1.1;have g1:=B _ _ _ s h' a3 g λb o n1 n2 e=>m b o n1 e;have D:=m S _ H U;show wpAny _ A.in1 (tryCatch (Yf [v] (call (.ref q) [v])) _ >>= _) _ _ _;refine aa (Ng (Rb (Eb (a4 j d a _ v Q _ g1 hv Z D (λv z=>by rw[M]at z;cases z) (λv z=>by cases z)) (λx u he=>?_) λ_ _ hF=>hF.elim)));obtain⟨y,C,rfl,T,E,g2⟩:=he;have X:u.heap.IsListIter I l (j+1):=⟨Q,T,a0,M⟩
  show wpAny _ A.in1 (tryCatch (Yf [v,.int y C] (richCompare .Lt (.int y C) (.int a tb) >>= _)) _ >>= _) _ _ _;refine aa (Ng (Rb (aa (CmpOf.ints_lt (prog:=prog) (w:=w) (A:=A.in1) (P:=λ(i:Nat) v=>∃ t,v=.int (if i=0 then y else a) t) (λi=>if i=0 then y else a) (λi v h=>h) 0 1 _ _ _ _ _ ⟨C,rfl⟩ ⟨tb,rfl⟩ ?_))));refine aa (Rb (Wc ?_));refine aa (Wp (da ?_));show wpAny _ _ _ _ _ _;by_cases f:y<a
  ·have s1:=Gb u.heap S (Ze λ_=>#[v,.int y C]);obtain⟨c2,a5⟩:∃ c2,(u.heap.update S (Ze λ_=>#[v,.int y C])).get? S=some (Wi "list" #[v,.int y C] c2):=⟨_,IF E λ_=>#[v,.int y C]⟩
   rw[ia f,ia f]at g2;simp only[f,decide_true,ie,Wx,ag];refine aa ?_;refine Lh E rfl (aa (Wp ?_));rw[p];refine da ⟨de Kc _,ih (j+1) _ v y C c2 (by omega) L (B _ _ _ u _ _ g2 λb o n1 n2 e=>by rw[s1.2 b n2];exact e) a5 ⟨Q,(s1.2 I H.symm).trans T,a0,M⟩⟩
  ·rw[ja f,ja f]at g2;simp only[f,decide_false,Cc,ag,ie,Wx];refine aa (Wp ?_);rw[p];exact da ⟨de Kc _,ih (j+1) _ d a tb c (by omega) L (B _ _ _ u _ _ g2 λb o _ _ e=>e) E X⟩
theorem B3(V:Shared->Prop)(G:Addr->Addr->Nat->Value->Int->Shared->Prop){s:Shared}(hh:A.handled=none)(g0:V s){vs:List Value}(a8:vs.length=n)(a7:∀ (j:Nat) v,vs[j]?=some v->P j v)(i:s.heap.IsList l vs.toArray)(M:0<n)
  (Y:∀ s h' tk,V s->(∀ b o,s.heap.get? b=some o->h'.get? b=some o)->V { s with heap:=h',toks:=tk })
  (first:∀ (I S:Addr) (f:Shared) v oI m,s.heap.objs.size<=I->s.heap.objs.size<=S->S≠I->(∃ s0,V s0/\(∀ b o,b≠I->s0.heap.get? b=some o->f.heap.get? b=some o)/\(f={ s0 with heap:=f.heap,toks:=f.toks }))->P 0 v->f.heap.get? I=some oI->f.heap.get? S=some m->(∀ v,oI.data≠.cell v)->(∀ v,m.data≠.cell v)->
   wpAny (model prog w) A.in1 (call (.ref q) [v]) (λx p=>∃ k t,x=.int k t/\p.heap.get? I=some oI/\p.heap.get? S=some m/\G I S 1 v k p) (λ_ _=>False) f)
  (hl:∀ I S j c a s,G I S j c a s->∃ vs:List Value,vs.length=n/\(∀ (j:Nat) v,vs[j]?=some v->P j v)/\s.heap.IsList l vs.toArray)
  (L:∀ I S j c a s h' tk,G I S j c a s->(∀ b o,b≠I->b≠S->s.heap.get? b=some o->h'.get? b=some o)->G I S j c a { s with heap:=h',toks:=tk })
  (U:∀ I S j c a s v oI m,G I S j c a s->P j v->s.heap.get? I=some oI->s.heap.get? S=some m->(∀ v,oI.data≠.cell v)->(∀ v,m.data≠.cell v)->
   wpAny (model prog w) A.in1 (call (.ref q) [v]) (λx p=>∃ k t,x=.int k t/\p.heap.get? I=some oI/\p.heap.get? S=some m/\G I S (j+1) (if k<a then v else c) (if k<a then k else a) p) (λ_ _=>False) s)
  (hQ:∀ I S c a s,G I S n c a s->Q c s) :
  wpAny (model prog w) A (call (.builtin "min") [.ref l] [(Vd "key",.ref q)]) Q E s:=by
 have d:(toString "min"++toString ".loop" : String) = "min.loop":=by decide
 obtain⟨ol,a5,_⟩:=id i;have K:l<s.heap.objs.size:=la a5;refine kmk_tree PySem.F.kind_min PySem.F.plain_min PySem.F.entry_min (kmk_min_key _ _) ?_;show wpAny _ A.in1 (yj "min" ["key", "default"] 0 ⟨[],[(Vd "key",.ref q)]⟩ >>= _) _ _ s;refine aa (Tw (show yj "min" ["key", "default"] 0 ⟨[],[(Vd "key",.ref q)]⟩=pure [some (.ref q),none]from rfl) ?_);refine aa (da ?_);refine aa (Ki i ?_);refine aa (Bt ?_ (ci _));rw[d];have hS:(s.heap.push { cls:=.type "list_iterator",data:=.fields #[.ref l,.int 0 0] }).objs.size=s.heap.objs.size+1:=mz ..;have J:l≠s.heap.objs.size:=ra K;have h:(s.heap.push { cls:=.type "list_iterator",data:=.fields #[.ref l,.int 0 0] }).objs.size≠s.heap.objs.size:=by rw[hS];exact Ud (zb _)
 have a3:l≠(s.heap.push { cls:=.type "list_iterator",data:=.fields #[.ref l,.int 0 0] }).objs.size:=by rw[hS];exact ra (Ab K)
 have C:s.heap.objs.size<=(s.heap.push { cls:=.type "list_iterator",data:=.fields #[.ref l,.int 0 0] }).objs.size:=by rw[hS];exact gi _
 refine da ⟨de Kc _,?_⟩;have gI:((s.heap.push { cls:=.type "list_iterator",data:=.fields #[.ref l,.int 0 0] }).push (Wi "list" #[] 0)).get? s.heap.objs.size=some { cls:=.type "list_iterator",data:=.fields #[.ref l,.int 0 0] }:=
  ba _ (ya _ rfl)
 have gS:((s.heap.push { cls:=.type "list_iterator",data:=.fields #[.ref l,.int 0 0] }).push (Wi "list" #[] 0)).get? (s.heap.push { cls:=.type "list_iterator",data:=.fields #[.ref l,.int 0 0] }).objs.size=some (Wi "list" #[] 0):=ya _ rfl;have H:∀ b o,s.heap.get? b=some o->((s.heap.push { cls:=.type "list_iterator",data:=.fields #[.ref l,.int 0 0] }).push (Wi "list" #[] 0)).get? b=some o:=λb o e=>ba _ (ba _ e);generalize (s.heap.push { cls:=.type "list_iterator",data:=.fields #[.ref l,.int 0 0] }).objs.size=S at *;generalize ((s.heap.push { cls:=.type "list_iterator",data:=.fields #[.ref l,.int 0 0] }).push (Wi "list" #[] 0))=hp at *;have W:=Ck (prog:=prog) (w:=w) (A:=A.in1) hh s.heap.objs.size l J vs.toArray;have a6:vs.toArray.size=n:=(na ..).trans a8;refine nc si ?_;rw[Qb Kc _];show wpAny _ A.in1 (xC (.ref _) >>= _) _ _ _;refine aa (ri gS rfl ?_);show wpAny _ A.in1 (tryCatch (pyNext (.ref s.heap.objs.size)) _ >>= _) _ _ _;refine aa (Ng (W.item 0 _ _ _ (by rw[a6];exact M) ⟨⟨_,gI,rfl,rfl⟩,i.at λo e=>H _ _ e⟩ λv h' a9 hP R a2=>?_));have D:∀ b o,b≠s.heap.objs.size->hp.get? b=some o->h'.get? b=some o:=λb o n e=>a2 b o (by simpa using n) e;have hv:P 0 v:=a7 0 v (by simpa using hP);obtain⟨T,N,a4,O⟩:=id R.1;have a0:=D S _ h gS;show wpAny _ A.in1 (tryCatch (Yf [v] (call (.ref q) [v])) _ >>= _) _ _ _;refine aa (Ng (Rb (Eb (first s.heap.objs.size S _ v T _ (pa _) C h ⟨{ s with heap:=hp,toks:=s.toks },Y s hp _ g0 H,λb o n e=>D b o n e,rfl⟩ hv N a0 (λv z=>by rw[O]at z;cases z) (λv z=>by cases z)) (λx r he=>?_) λ_ _ hF=>hF.elim)));obtain⟨u,y,rfl,Z,B,g2⟩:=he;have f:=Gb r.heap S (Ze λ_=>#[v,.int u y]);obtain⟨X,a1⟩:∃ X,(r.heap.update S (Ze λ_=>#[v,.int u y])).get? S=some (Wi "list" #[v,.int u y] X):=⟨_,IF B λ_=>#[v,.int u y]⟩
 show wpAny _ A.in1 (mu S (λ_=>#[v,.int u y]) >>= _) _ _ _;refine aa ?_;refine Lh B rfl ?_;rw[d];exact da ⟨de Kc _,B1 (G _ _) hh J h a3 (hl _ _) (L _ _) (U _ _) (λc a s g=>hQ _ _ c a s g) _ 1 _ v u y X rfl M (L _ _ _ _ _ r _ _ g2 λb o n1 n2 e=>by rw[f.2 b n2];exact e) a1 ⟨T,(f.2 _ h.symm).trans Z,a4,O⟩⟩
end
noncomputable def uB(X:Cx)(A:Da)(a:List qa)(qual:qa)(scope:Scope)(q:Addr)(cd:Value)(cl:List (qa × Addr))(s₀:Shared)(H₀:Hp):Cx:=
 { X with A:=A.deeper (W.envX qual scope s₀.heap.objs.size q cd cl),N:=a,s₀:=s₀,H₀:=H₀,env:=W.envX qual scope s₀.heap.objs.size q cd cl,outer:=X.stack,stack:=W.envX qual scope s₀.heap.objs.size q cd cl::X.stack,ex:=[],fn:=λ_=>false,calm:=true,pn:=[],xe:=λ_ _=>False }
noncomputable def uJ(ix:List Nat)(d:D)(ρ:Ev):Ev:=some d::ix.map λi=>(ρ[i]?).getD none
noncomputable def QB(ix:List Nat)(v:V)(a:St):St:=some v::ix.map λi=>(a[i]?).getD none
theorem y2{T:Tb}{μ:List Addr}{H:Hp}{ρ:Ev}{a:St}{d:D}{v:V}(ix:List Nat)(h:qh T μ H ρ a)(hd:Rep T μ H d v):qh T μ H (uJ ix d ρ) (QB ix v a):=by
 have z:=(LL ix h).set 0 hd;exact z
section
variable{X:Cx}{pins:List (Addr × Obj)}{st:St}{H:Hp}{s:Shared}{x:qa}{M':List qa}{ix:List Nat}{scope:Scope}{A:Da}{qual:qa}{q:Addr}{cd:Value}{v:V}{u:Value}
theorem DV(I:Inv X pins st H s)(L:Qm X x M' ix scope)(hx:scope.names.lookup x=some .local)(Y:A.frames=some X.stack)(E:A.handled=none)(rv:vd v u){h':Heap}{t':Nat}{m:qa->Option Value}(G:h'.Ns s.heap.objs.size m)(hm:m x=some u)
  (B:∀ b o,s.heap.get? b=some o->h'.get? b=some o) :
  Inv (uB X A (x::M') qual scope q cd (Fi X.env scope.names []) s H) [] (QB ix v st) H { s with heap:=h',toks:=t' }:=by
 have sub:∀ n c,(Fi X.env scope.names []).lookup n=some c->X.env.cells.lookup n=some c:=λn c e=>RG X.env scope.names [] n c (λ_ _ q=>by simp at q) e;have fresh:H s.heap.objs.size=none:=I.Pb.fresh (pa _);have g:∀ b:Addr,b ∉ (uB X A (x::M') qual scope q cd (Fi X.env scope.names []) s H).ex:=λb z=>absurd (show b∈([]:List Addr)from z) (by simp);refine⟨⟨I.ok.mod,L.kind,rfl,rfl,pa _,λa b c V W=>I.ok.inj a b c (sub a c V) (sub b c W),λa Z=>?_,λa c h=>(by cases h),λ_=>E,Rq Y,.inr ⟨rfl,rfl⟩,λb hb=>absurd hb (g b),λb o e=>I.bs b o e,Ya I.ok.ir I.sz,λb o e=>g b,λb hb=>absurd hb (g b),I.stack,I.ik⟩,
  rfl,I.bare,Un.kept B,⟨m,G,λi y v' M O e3=>?_⟩,λa c e=>?_,fresh,λa c e=>I.eg a c (sub a c e),λp hp=>absurd (show p∈([]:List (Addr × Obj))from hp) (by simp),I.Pb.kept B,?_⟩
 ·have D:scope.names.lookup a=some .cell\/scope.names.lookup a=some .free:=Z;rcases D with z|z
  ·exact absurd rfl (xB L _ (Sv z))
  ·exact TB X.env scope.names [] a (Sv z) (cy I L _ (Sv z) rfl)
 ·cases i with
  |zero=>
   have f:some x=some y:=M;have d:some (some v)=some (some v'):=O;cases f;cases d;exact⟨u,rv,.inl ⟨hx,hm⟩⟩
  |succ j=>
   have f:M'[j]?=some y:=M;have d:(ix.map λi=>(st[i]?).getD none)[j]?=some (some v'):=O;rw[Ja]at d;cases C:ix[j]? with
   |none=>rw[C]at d;cases d
   |some t=>
    rw[C]at d;have w:(st[t]?).getD none=some v':=ub d;have S:st[t]?=some (some v'):=by
     cases q:st[t]? with
     |none=>rw[q]at w;cases w
     |some o=>rw[q]at w;exact we some w
    have T:X.N[t]?=some y:=by
     have z:=we (λl=>l[j]?) L.at_;simp only[Ja,C,f,Ve]at z;exact ub z
    have q:=Zb.mp L.OP y (La f);simp only[va,af]at q;have Q:X.env.scope.names.lookup y=some .cell\/X.env.scope.names.lookup y=some .free:=by
     rcases q.1 with z|z
     ·exact .inl (eq_of_beq z)
     ·exact .inr (eq_of_beq z)
    have K:scope.names.lookup y=some .free:=eq_of_beq q.2;obtain⟨m0,a0,F⟩:=I.loc;obtain⟨u2,ru,lu⟩:=F t y v' T S (by rcases Q with z|z;exact .inr (.inl z);exact .inr (.inr z));refine⟨u2,ru,.inr ⟨.inr K,?_⟩⟩;rcases lu with⟨z,_⟩|⟨_,c,U,zc⟩
    ·rcases Q with k|k
     ·rw[show X.env.kindOf y=X.env.scope.names.lookup y from rfl,k]at z;cases z
     ·rw[show X.env.kindOf y=X.env.scope.names.lookup y from rfl,k]at z;cases z
    ·obtain⟨R,r⟩:=TB X.env scope.names [] y (Sv K) (cy I L _ (Sv K) rfl);have P:=sub y R r;rw[U]at P;cases P;obtain⟨o,J,hd⟩:=zc;exact⟨c,r,o,B _ _ J,hd⟩
 ·obtain⟨v,o,J,hd⟩:=I.cell a c (sub a c e);exact⟨v,o,B _ _ J,hd⟩
 ·have z:=we List.length L.at_;simp[QB,uB];simpa using z
theorem wX{name:qa}{a:Arguments}{body:Ga}{B d:Value}{c:Addr}{t:TE}{Q:VK}(I:Inv X pins st H s)(L:Qm X x M' ix scope)(D:scope.names.lookup x=some .local)(K:A.frames=some X.stack)(n:A.handled=none)(m:A.depth<recursionLimit)
  (M:s.heap.get? q=some (W.kla_obj name qual a body scope (Fi X.env scope.names []) B c d)) (k:s.heap.CodeRec (.ref c) qual)
  (f:bindArgs (W.kla_fn name qual a body scope (Fi X.env scope.names []) B (.ref c) d) ⟨[u],[]⟩=pure [(x,u)]) (l:scope.isCoroutine=false) (h:scope.isGenerator=false) (R:vd v u)
  (hb:PE (uB X A (x::M') qual scope q (.ref c) (Fi X.env scope.names []) s H) body t) (O:t (QB ix v st) H Q) :
  wpAny (model X.prog X.w) A (call (.ref q) [u]) (λr E=>CE X.stack X.prog X.w H s Q r E) (λ_ _=>False) s:=by
 refine Gr (W.kla_callFunE (o:=W.kla_obj name qual a body scope (Fi X.env scope.names []) B c d) m M rfl l h rfl k ?_);rw[f];refine da (ll (xB L) (λy P=>?_) (λj p i=>⟨?_,?_⟩) L.kind)
 ·have e:y=(x,u):=by simpa using P
  subst e;exact D
 ·exact(I.nolimit).fresh _ i
 ·have g:∀ b o,s.heap.get? b=some o->j.get? b=some o:=λb o e=>i.extBut b o (ra (la e)) (ba _ e);show codeAny _ _ (.expr body (W.envX qual scope s.heap.objs.size q (.ref c) (Fi X.env scope.names []))) _ _;refine W.kla_codeExpr ?_;have G:=DV (A:=A) (qual:=qual) (q:=q) (cd:=.ref c) (t':=s.toks+1) I L D K n R p (by simp) g;refine Eb (hb [] _ (QB ix v st) H Q G O) (λT E z=>?_) λ_ _ z=>z.elim;obtain⟨S,F,J,C,N⟩:=z;exact⟨S,F,J.os,J.bare,J.base,J.Pb,C,N⟩
end
noncomputable def dC(K:W.Frag)(c P:Addr):Bool:=match K.lookup c with
 |some o=>(match o.cls,o.data with
  | .type n,.fields a=>n == "code" && (match (a[11]?:Option Value)with|some (.ref p)=>p == P|_=>false) && (match a.getD 11 .none with | .ref p=>p == P|_=>false) && (match a.getD 18 .none with | .str _ _=>true|_=>false) &&
   (match a.getD 7 .none with | .int _ _=>true|_=>false) && (match a.getD 9 .none with | .bool _=>true|_=>false) && (match a.getD 10 .none with | .int _ _=>true|_=>false) && (c != P)
  |_,_=>false)
 |none=>false
theorem N3{K:W.Frag}{h:Heap}{c P:Addr}(X:K.In h)(e:dC K c P=true):W.CodeHd h c P:=by
 unfold dC at e;split at e
 ·next o u=>
  split at e
  ·next n F t hd=>
   simp only[va]at e;obtain⟨⟨⟨⟨⟨⟨⟨j,a⟩,b⟩,d⟩,f⟩,g⟩,i⟩,k⟩:=e;split at a;case h_2=>cases a
   next G l=>
   split at b;case h_2=>cases b
   next H m=>
   split at d;case h_2=>cases d
   next y C p=>
   split at f;case h_2=>cases f
   next z D q=>
   split at g;case h_2=>cases g
   next A r=>
   split at i;case h_2=>cases i
   next B E s=>
   have w:=eq_of_beq a;have x:=eq_of_beq b;subst w;subst x;have v:=eq_of_beq j;subst v;exact⟨o,F,y,C,z,D,A,B,E,X _ _ u,t,hd,l,m,p,q,r,s,by simpa using k⟩
  ·cases e
 ·cases e
theorem O7{X:Cx}{d:List (Addr × Obj)}{A:St}{H:Hp}{s:Shared}{P c':Addr}{ps more:Array Value}{qual:qa}{h':Heap}{tk:Nat}(I:Inv X d A H s)(a:H P=some (.mm ps))(m:xn P s.heap h')(h:s.heap.objs.size<=c')(J:c'<h'.objs.size)
  (i:Xt qual c' h') (j:h'.get? P=some (W.tabObj (ps++more))) :
  Inv X d A (upd (upd H P (.mm (ps++more))) c' (.ext (Xt qual c'))) { s with heap:=h',toks:=tk }:=by
 have f:H c'=none:=I.Pb.fresh h;have r:c'≠P:=λz=>by rw[z,a]at f;cases f
 have p:∀ b,H b=none->b≠P:=λb n z=>by rw[z,a]at n;cases n
 have l:∀ b u,H b=some u->b≠P->upd (upd H P (.mm (ps++more))) c' (.ext (Xt qual c')) b=some u:=λb u e n=>by
  rw[Ad (Ko e f),Ad n];exact e
 have L:upd (upd H P (.mm (ps++more))) c' (.ext (Xt qual c')) P=some (.mm (ps++more)):=by rw[Ad r.symm,Jg]
 refine I.un (h':=h') (t':=tk) ⟨λb o e n _ _=>m b o (p b n) e,λb o e n _ _=>⟨o.slots,m b o (p b n) e⟩,λb o e n _=>?_,λb o e _=>?_,λb xs e=>l b _ e (λz=>by rw[z,a]at e;cases e),λb o u e=>l b _ e (λz=>by rw[z,a]at e;cases e),λb N e=>?_⟩ λb u e=>?_
 ·have:b≠c':=λz=>by subst z;exact absurd (la e) (jv.mpr h)
  rw[Ad this,Ad (p b n)];exact n
 ·by_cases hb:b=P
  ·subst hb;exact⟨_,j⟩
  ·exact⟨o,m b o hb e⟩
 ·by_cases hb:b=P
  ·subst hb;rw[a]at e;cases e;exact⟨more,L⟩
  ·exact⟨#[],by rw[Array.append_empty];exact l b _ e hb⟩
 ·by_cases g:b=c'
  ·subst g;rw[Jg]at e;cases e;obtain⟨o,M,t,x,E,F⟩:=i;exact⟨⟨o,M,t,x,E,F⟩,⟨o,x⟩,λa1 a2 ⟨K,w,t',B,C,D⟩ k=>⟨K,w,t',k _ B,C,D⟩⟩
  ·rw[Ad g]at e;by_cases hb:b=P
   ·subst hb;rw[Jg]at e;cases e;exact j
   ·rw[Ad hb]at e;refine(I.Pb b u e).xk (λc v G q=>m c v ?_ q) (λc q=>l c _ q (λz=>by rw[z,a]at q;cases q)) λc xs q=>l c _ q (λz=>by rw[z,a]at q;cases q);rcases G with z|z
    ·rw[z];exact hb
    ·intro y;rw[y,a]at z;cases z
section
variable{T:Tb}{X:Cx}{pins:List (Addr × Obj)}{st:St}{H:Hp}{s:Shared}{μ:List Addr}{σ:Oa}{x:qa}{M':List qa}{ix:List Nat}{scope:Scope}{params:Arguments}{body:Ga}{pos:Se}{c:Addr}{t:Tab}
structure wx(T:Tb)(X:Cx)(t:Tab)(c:Addr)(pos:Se):Prop where
 mem:t∈T.tx.Im
 inj:∀ t'∈T.tx.Im,t'.P=t.P->t'=t
 code:X.env.code=.ref c
 hd:dC X.K c t.P=true
 line:t.line=pos.line
 col:t.col=pos.col
 qual:t.qual=X.env.qual++"<lambda>"
 bm:X.mg "__builtins__" = some (.ref T.tx.bm)
 bb:T.tx.bm≠builtinsNs
theorem F6(I:Inv X pins st H s)(L:Qm X x M' ix scope)(r:Rel T μ H σ)(f:wx T X t c pos)(G:defaultsOf params X.env=([],[])) :
  wpAny (model X.prog X.w) X.A (Nb (.Lambda params body scope pos) X.env) (λv s'=>∃ q d g m,v=.ref q/\Inv X ((q,W.kla_obj "<lambda>" t.qual params body scope (Fi X.env scope.names []) ((X.mg "__name__").getD .none) d g)::pins) st m s'/\Ext μ H μ m/\Rel T μ m σ/\d ∉ μ/\m d=some (.ext (Xt t.qual d))) X.xe s:=by
 obtain⟨⟨b2,b4,U⟩,S,ps,B,a8⟩:=r.tb t f.mem;have i:s.heap.get? t.P=some (W.tabObj ps):=I.Pb _ _ B;have k:s.heap.Ns mainGlobals X.mg:=I.ok.mod.glob.keeps I.bk;have a6:mainGlobals≠t.P:=λz=>by
  obtain⟨o,es,ep,e,hd,_⟩:=k;rw[z,i]at e;cases e;cases hd
 obtain⟨_,⟨ob,Q,o2,o3,o4⟩,_⟩:=I.Pb _ _ U;have E:T.tx.bm≠t.P:=λz=>by rw[z,i]at Q;cases Q;cases o2
 have V:T.tx.bm≠mainGlobals:=λz=>by
  obtain⟨o,es,ep,e,hd,_⟩:=k;rw[z,e]at Q;cases Q;rw[hd]at o4;cases o4
 have hB:s.heap.BuiltinsAt X.mg t.P:=⟨T.tx.bm,ob,f.bm,f.bb,V,E,Q,o2,o3,o4⟩
 have F:=NG X.env scope (cy I L);have C:W.CodeHd s.heap c t.P:=(N3 I.ok.mod.Dx f.hd).keeps I.bk;have pinned:∀ {h':Heap} {tk:Nat} {m:Hp} {o:Obj},Inv X pins st m { s with heap:=h',toks:=tk }->o.isFreed=false->(∀ v,o.data≠.cell v)->Inv X ((h'.objs.size,o)::pins) st m { s with heap:=h'.push o,toks:=tk }:=fun {h' tk m o} J hf hc=>by
  have J2:=J.kept (h':=h'.push o) (t':=tk) λb u e=>ba _ e;refine J2.ej λp l=>?_;rcases Fa.mp l with rfl|l
  ·exact⟨ya _ hf,J.Pb.fresh (pa _),Ud J.lt,J.WB (pa _),hc⟩
  ·exact J2.pin p (Ma _ l)
 refine W.kla_eval G ?_;rw[<-f.qual];rcases a8 with rfl|⟨R,rfl,Y,Z⟩
 ·refine W.kla_makeFunction (mg:=X.mg) F I.ok.glob k f.code C i trivial rfl a6 hB λd g h' tk hx K a7 M a9=>?_;have a0:Xt t.qual d h':=by
   obtain⟨c2,o,vs,tt,e,h1,h2,h3⟩:=M;cases e;exact⟨o,vs,tt,h1,h2,h3⟩
  have J:=O7 (tk:=tk) I B hx K a7 a0 a9;have j:H d=none:=I.Pb.fresh K;have b0:d≠t.P:=λz=>by rw[z,B]at j;cases j
  have y:d ∉ μ:=λz=>by obtain⟨u,O,_⟩:=r.mem z;rw[j]at O;cases O
  have D:∀ b u,H b=some u->b≠t.P->upd (upd H t.P (.mm (#[]++#[rawInt pos.line,rawInt pos.col,.ref d]))) d (.ext (Xt t.qual d)) b=some u:=λb u e n=>by
   rw[Ad (Ko e j),Ad n];exact e
  have uP:upd (upd H t.P (.mm (#[]++#[rawInt pos.line,rawInt pos.col,.ref d]))) d (.ext (Xt t.qual d)) t.P=some (.mm (#[]++#[rawInt pos.line,rawInt pos.col,.ref d])):=by rw[Ad b0.symm,Jg]
  have uc:upd (upd H t.P (.mm (#[]++#[rawInt pos.line,rawInt pos.col,.ref d]))) d (.ext (Xt t.qual d)) d=some (.ext (Xt t.qual d)):=Jg;have e:Ext μ H μ (upd (upd H t.P (.mm (#[]++#[rawInt pos.line,rawInt pos.col,.ref d]))) d (.ext (Xt t.qual d))):=by
   refine⟨⟨[],by simp⟩,λp xs h=>D p _ h (λz=>by rw[z,B]at h;cases h),λp o u h=>D p _ h (λz=>by rw[z,B]at h;cases h),λp o h n=>⟨?_,n⟩⟩;by_cases l:p=t.P
   ·subst l;rw[B]at h;cases h;exact⟨_,uP,.inr (.inr ⟨_,_,rfl,rfl⟩)⟩
   ·exact⟨o,D p o h l,.inl rfl⟩
  refine⟨_,d,g,_,rfl,pinned J rfl (λv z=>by cases z),e,r.keep e (λa ha=>?_) λt' N=>?_,y,uc⟩
  ·obtain⟨u,O,_⟩:=r.mem ha;rw[O];exact D a u O λz=>S (by rw[<-z];exact ha)
  ·obtain⟨⟨a1,b1,a2⟩,a3,qs,a4,a5⟩:=r.tb t' N;refine⟨⟨a1,b1,D _ _ a2 E⟩,a3,?_⟩;by_cases l:t'.P=t.P
   ·have et:=f.inj t' N l;subst et;exact⟨_,uP,.inr ⟨d,by rw[f.line,f.col];rfl,y,uc⟩⟩
   ·refine⟨qs,D _ _ a4 l,a5.imp id λ⟨c3,z1,z2,z3⟩=>⟨c3,z1,z2,D _ _ z3 (λz=>by rw[z,B]at z3;cases z3)⟩⟩
 ·refine W.kla_makeFunctionHit (mg:=X.mg) (cv:=.ref R) F I.ok.glob k f.code C i ?_ ?_ hB λg h' tk hk b3=>?_
  ·exact trivial
  ·rw[f.line,f.col];show codeAmong pos [rawInt pos.line,rawInt pos.col,.ref R]=_;simp[codeAmong,rawInt]
  ·have J:=I.kept (h':=h') (t':=tk) hk;exact⟨_,R,g,H,rfl,pinned J rfl (λv z=>by cases z),Ext.refl _ _,r,Y,Z⟩
end
noncomputable def Bx(fe:Ev->M D)(Eg:Ev):List D->D->Int->M D
 |[],b,_=>ret b
 |d::ds,b,a=>Mc (Wn (fe (some d::Eg))) λk=>match k with
  | .int k=>if k<a then Bx fe Eg ds d k else Bx fe Eg ds b a
  |_=>bad
noncomputable def qy(fe:Ev->M D)(Eg:Ev)(ds:List D):M D:=match ds with
 |[.lst (x::xs)]=>Mc (Wn (fe (some x::Eg))) λk=>match k with
  | .int k=>Bx fe Eg xs x k
  |_=>bad
 |_=>bad
noncomputable def HI(ix:List Nat)(fe:Ev->M D)(fs:Ev->M (List D)):Ev->M D:=λa=>Mc (fs a) (qy fe (ix.map λi=>(a[i]?).getD none))
theorem aM{X:Cx}{a:List (Addr × Obj)}{t:St}{H:Hp}{s:Shared}{h':Heap}{t':Nat}{i j:Addr}(I:Inv X a t H s)(k:∀ b o,b≠i->b≠j->s.heap.get? b=some o->h'.get? b=some o)(g:Yl X a H i)(l:Yl X a H j):Inv X a t H { s with heap:=h',toks:=t' }:=by
 have f:∀ b u,H b=some u->b≠i/\b≠j:=λb u e=>⟨(λz=>by rw[z,g.1]at e;cases e),(λz=>by rw[z,l.1]at e;cases e)⟩
 have p:∀ {b:Addr},b ∉ [i,j]->b≠i/\b≠j:=fun {b} h=>⟨λz=>h (by simp[z]),λz=>h (by simp[z])⟩
 refine I.step (g':=s.gens) (d':=s.drawn) (ch:=[i,j]) (λb hb=>?_) (λb o _ _ d e _=>k b o (p d).1 (p d).2 e) (λb o _ _ d e _=>⟨o.slots,k b o (p d).1 (p d).2 e⟩) (λ_ _ _ _ n=>n)
  (λb o d e=>⟨o,k b o (p d).1 (p d).2 e⟩) (λ_ _ e=>e) (λ_ _ _ e=>e) (λb A e=>⟨#[],by rw[e];simp⟩) (λm hm=>?_) (λb u e=>?_) I.bare
 ·have e:b=i\/b=j:=by simpa using hb
  rcases e with rfl|rfl
  ·exact⟨g.2.2.2.1,g.2.1,g.2.2.2.2.1,g.2.2.2.2.2⟩
  ·exact⟨l.2.2.2.1,l.2.1,l.2.2.2.2.1,l.2.2.2.2.2⟩
 ·obtain⟨o,x,w,y,r⟩:=hm;exact⟨o,x,w,k _ o (Me g.2.1) (Me l.2.1) y,r⟩
 ·refine(I.Pb b u e).xk (λc v d q=>?_) (λ_ q=>q) λ_ _ q=>q;rcases d with z|z
  ·rw[z]at q ⊢;exact k b v (f b u e).1 (f b u e).2 q
  ·exact k c v (f c _ z).1 (f c _ z).2 q
section
variable{T:Tb}{X:Cx}
theorem vZ{e body:Ga}{f:Arguments}{scope:Scope}{b1 a5 kp p:Se}{x:qa}{M':List qa}{ix:List Nat}{fs:Ev->M (List D)}{fe:Ev->M D}{t:Tab}{c:Addr}{k:Nat}
  (K:Xd (k+2) X.A) (L:Qm X x M' ix scope) (hx:scope.names.lookup x=some .local) (Lm:wx T X t c b1) (hg:Gl X "min") (hm:X.mg "min" = none)
  (c1:defaultsOf f X.env=([],[])) (d1:scope.isCoroutine=false) (c2:scope.isGenerator=false)
  (b5:∀ (cl:List (qa × Addr)) (pm cd G u:Value),bindArgs (W.kla_fn "<lambda>" t.qual f body scope cl pm cd G) ⟨[u],[]⟩=pure [(x,u)])
  (ha:FA T X [e] fs)
  (hb:∀ (A:Da) (q:Addr) (cd:Value) (s₀:Shared) (H₀:Hp),Xd k (A.deeper (W.envX t.qual scope s₀.heap.objs.size q cd (Fi X.env scope.names [])))->FE T (uB X A (x::M') t.qual scope q cd (Fi X.env scope.names []) s₀ H₀) body fe)
  (he:kc a5 (ma [e] X.env)=(false,Nb e X.env)::kc a5 (ma [] X.env):=by rfl)
  (a8:(kc a5 (ma [e] X.env)).any (·.1)=false:=by rfl) :
  FE T X (.Call (.Name "min" p) [e] [⟨some "key",.Lambda f body scope b1,kp⟩] a5) (HI ix fe fs):=by
 intro l s st H Q I h;refine jf (bx I hg hm (show bootBuiltins "min" = some (.builtin "min")from rfl) ?_);obtain⟨μ,ρ,σ,hE,hr,hp⟩:=h;refine callWith_kw (ae (ha a5 l s st H (λvs H1=>∃ E a7 ds,Ext μ H E H1/\Rel T E H1 a7/\Ua T E H1 ds vs/\Kb T (XE X st) (Rep T) E H1 (qy fe (ix.map λi=>(ρ[i]?).getD none) ds a7) Q) I ⟨μ,ρ,σ,hE,hr,hp.bind λds a7 E vs H1 _ e1 r1 q1 p1=>⟨E,a7,ds,e1,r1,q1,p1⟩⟩) λus s1 ⟨vs,H1,I1,rv,E,a7,ds,e1,r1,q1,p1⟩=>kws_cons (ae (F6 I1 L r1 Lm c1) λlv s2 ⟨q,c',G,Y,c5,I2,e2,r2,c8,c9⟩=>kws_nil ?_)) he a8;subst c5;show wpAny _ _ (call (.builtin "min") us [(Vd "key",.ref q)]) _ _ _;have c6:qh T E Y ρ st:=(hE.mono e1).mono e2;generalize b7:(ix.map λi=>(ρ[i]?).getD none)=Eg at *;obtain⟨Z,xs,rfl⟩:∃ Z xs,ds=[.lst (Z::xs)]:=by
  unfold qy at p1;split at p1
  ·exact⟨_,_,rfl⟩
  ·exact p1.elim
 rw[Ua]at q1;obtain⟨v0,rr,rfl,q2,q3⟩:=q1;rw[Ua]at q3;subst q3;rw[Rep]at q2;obtain⟨a,ws,rfl,c0,c7,d3⟩:=q2;obtain⟨u0,rfl,d4⟩:=Pd.one rv;obtain rfl:u0=.ref a:=d4;have p2:=Kb.mono e2 p1;have b0:Y a=some (.lst ws):=(e2.xi _ _ c7 c0).1;have a4:Ua T E Y (Z::xs) ws:=Ua.mono e2 _ _ d3;have a0:(Z::xs).length=ws.length:=a4.length;have lst:∀ {H':Hp} {s':Shared} {pn:List (Addr × Obj)},Inv X pn st H' s'->H' a=some (.lst ws)->∃ N:List Value,N.length=ws.length/\(∀ (j:Nat) v,N[j]?=some v->∃ w,ws[j]?=some w/\vd w v)/\s'.heap.IsList a N.toArray:=fun {H' s' pn} J z=>by
  obtain⟨_,N,n,rv,ho⟩:=J.Pb _ _ z;refine⟨N,rv.length.symm,λj v hv=>?_,⟨_,ho,rfl,⟨_,rfl⟩⟩⟩;have hj:j<ws.length:=by rw[rv.length];exact(ka.mp hv).1
  obtain⟨u,hu,ru⟩:=rv.get (i:=j) (x:=ws[j]) (by simp[hj]);rw[hv]at hu;cases hu;exact⟨ws[j],by simp[hj],ru⟩
 have one:∀ {C:List Addr} {H':Hp} {F:Oa} {s':Shared} {d:D} {w:V} {v:Value} {I S:Addr} {oI oS:Obj} {kk:Int->M D},Inv X ((q,W.kla_obj "<lambda>" t.qual f body scope (Fi X.env scope.names []) ((X.mg "__name__").getD .none) c' G)::l) st H' s'->Ext E Y C H'->Rel T C H' F->Rep T C H' d w->vd w v->
   Yl X ((q,W.kla_obj "<lambda>" t.qual f body scope (Fi X.env scope.names []) ((X.mg "__name__").getD .none) c' G)::l) H' I->Yl X ((q,W.kla_obj "<lambda>" t.qual f body scope (Fi X.env scope.names []) ((X.mg "__name__").getD .none) c' G)::l) H' S->
   s'.heap.get? I=some oI->s'.heap.get? S=some oS->(∀ v,oI.data≠.cell v)->(∀ v,oS.data≠.cell v)->
   Kb T (XE X st) (Rep T) C H' (Mc (Wn (fe (some d::Eg))) (λk=>match k with | .int k=>kk k|_=>bad) F) Q->
   wpAny (model X.prog X.w) X.A.in1 (call (.ref q) [v]) (λy s''=>∃ k t',y=.int k t'/\s''.heap.get? I=some oI/\s''.heap.get? S=some oS/\∃ m B r,Inv X ((q,W.kla_obj "<lambda>" t.qual f body scope (Fi X.env scope.names []) ((X.mg "__name__").getD .none) c' G)::l) st B s''/\Ext C H' m B/\Rel T m B r/\
    Yl X ((q,W.kla_obj "<lambda>" t.qual f body scope (Fi X.env scope.names []) ((X.mg "__name__").getD .none) c' G)::l) B I/\Yl X ((q,W.kla_obj "<lambda>" t.qual f body scope (Fi X.env scope.names []) ((X.mg "__name__").getD .none) c' G)::l) B S/\Kb T (XE X st) (Rep T) m B (kk k r) Q) (λ_ _=>False) s':=by
  intro C H' F s' d w v I S oI oS kk J ex r' rd d5 fI fS gI gS cI cS po;generalize c3:W.kla_obj "<lambda>" t.qual f body scope (Fi X.env scope.names []) ((X.mg "__name__").getD .none) c' G=O at *;have b6:s'.heap.CodeRec (.ref c') t.qual:=by
   obtain⟨⟨o,d6,tt,h1,h2,h3⟩,_⟩:=J.Pb _ _ (ex.xi _ _ c9 c8).1;exact⟨c',o,d6,tt,rfl,h1,h2,h3⟩
  have hq:=(J.pin (q,O) (Ma _ (.head _))).1;have J2:Inv X ((I,oI)::(S,oS)::(q,O)::l) st H' s':=J.ej λp hp=>by
   rcases Fa.mp hp with rfl|hp
   ·exact⟨gI,fI.1,fI.2.1,fI.2.2.1,cI⟩
   ·rcases Fa.mp hp with rfl|hp
    ·exact⟨gS,fS.1,fS.2.1,fS.2.2.1,cS⟩
    ·exact J.pin p (Ma _ hp)
  have hd:X.A.in1.handled=none:=K.hd;refine Eb (wX (A:=X.A.in1) (t:=tF T _ fe) (v:=w) (Q:=λy B=>∃ k m r,y=.int k/\Ext C H' m B/\Rel T m B r/\Kb T (XE X st) (Rep T) m B (kk k r) Q) J2 L hx J.ok.frames hd (Xd.in1 K).depth (by rw[<-c3]at hq;exact hq) b6 (b5 _ _ _ _ _) d1 c2 d5 (hb _ _ _ _ _ ((Xd.in1 K).deeper _)) ⟨C,uJ ix d ρ,F,y2 ix (c6.mono ex) rd,r',?_⟩) (λy s'' d0=>?_) λ_ _ z=>z
  ·unfold uJ;rw[b7];refine po.wu λy r m g B _ b2 b8 c4 a9=>?_;cases y with
   |int k=>
    rw[Rep]at c4;exact⟨k,m,r,c4,b2,b8,a9⟩
   |_=>exact a9.elim
  ·obtain⟨yv,B,J3,ry,k,m,r,rfl,b2,b8,a9⟩:=J2.after d0;obtain⟨t',rfl⟩:=ry;have pI:=J3.pin (I,oI) (Ma _ (.head _));have pS:=J3.pin (S,oS) (Ma _ (.tail _ (.head _)));have J4:Inv X ((q,O)::l) st B s'':=J3.ej λp hp=>J3.pin p (Ma _ (.tail _ (.tail _ hp)));exact⟨k,t',rfl,pI.1,pS.1,m,B,r,J4,b2,b8,⟨pI.2.1,fI.2⟩,⟨pS.2.1,fS.2⟩,a9⟩
 obtain⟨N,hn,hP,d2⟩:=lst I2 b0;generalize c3:W.kla_obj "<lambda>" t.qual f body scope (Fi X.env scope.names []) ((X.mg "__name__").getD .none) c' G=O at *;refine B3 (n:=ws.length) (P:=λj v=>∃ w,ws[j]?=some w/\vd w v) (λs'=>Inv X ((q,O)::l) st Y s')
  (λI S j vb kb s'=>Yl X ((q,O)::l) Y I/\Yl X ((q,O)::l) Y S/\∃ C H' F b wb,Inv X ((q,O)::l) st H' s'/\Ext E Y C H'/\Rel T C H' F/\Rep T C H' b wb/\vd wb vb/\Yl X ((q,O)::l) H' I/\Yl X ((q,O)::l) H' S/\Kb T (XE X st) (Rep T) C H' (Bx fe Eg ((Z::xs).drop j) b kb F) Q)
  K.hd I2 hn hP d2 (by rw[<-a0];simp) (λs0 h' tk g k=>g.kept k) ?_ ?_ ?_ ?_ ?_
 ·
  intro I S s3 v oI oS hI hS d7 ⟨s0,g0,hk,es⟩ ⟨w,hw,a6⟩ gI gS cI cS;have fI:Yl X ((q,O)::l) Y I:=I2.Xo hI (I2.Pb.fresh hI);have fS:Yl X ((q,O)::l) Y S:=I2.Xo hS (I2.Pb.fresh hS);have J:Inv X ((q,O)::l) st Y s3:=by
   rw[es];exact aM g0 (λb o n _ e=>hk b o n e) fI fS
  have rd:∃ w',ws[0]?=some w'/\Rep T E Y Z w':=a4.get (i:=0) rfl;obtain⟨w',a3,rd⟩:=rd;rw[hw]at a3;cases a3;refine Eb (one (kk:=λk=>Bx fe Eg xs Z k) J (Ext.refl _ _) r2 rd a6 fI fS gI gS cI cS p2) (λy s4 z=>?_) λ_ _ z=>z;obtain⟨k,t',rfl,b3,b4,m,B,r,J4,e4,r4,f1,f2,p4⟩:=z;exact⟨k,t',rfl,b3,b4,fI,fS,m,B,r,Z,w,J4,e4,r4,Rep.mono e4 _ _ rd,a6,f1,f2,p4⟩
 ·intro I S j vb kb s' ⟨_,_,C,H',F,b,wb,J,ex,r',rb,U,f1,f2,p'⟩;exact lst J (ex.xi _ _ b0 c0).1
 ·intro I S j vb kb s' h' tk ⟨a1,a2,C,H',F,b,wb,J,ex,r',rb,U,f1,f2,p'⟩ k;exact⟨a1,a2,C,H',F,b,wb,aM J k f1 f2,ex,r',rb,U,f1,f2,p'⟩
 ·intro I S j vb kb s' v oI oS ⟨a1,a2,C,H',F,b,wb,J,ex,r',rb,U,f1,f2,p'⟩ ⟨w,hw,a6⟩ gI gS cI cS;have hj:j<(Z::xs).length:=by rw[a0];exact(ka.mp hw).1
  obtain⟨w',a3,rd⟩:=a4.get (i:=j) (d:=(Z::xs)[j]) (by rw[yb hj]);rw[hw]at a3;cases a3;rw[Ef hj]at p';generalize (Z::xs)[j]=d at *;generalize d8:(Z::xs).drop (j+1)=b9 at *;unfold Bx at p';refine Eb (one (kk:=λk=>if k<kb then Bx fe Eg b9 d k else Bx fe Eg b9 b kb) J ex r' (Rep.mono ex _ _ rd) a6 f1 f2 gI gS cI cS p') (λy s4 z=>?_) λ_ _ z=>z;obtain⟨k,t',rfl,b3,b4,m,B,r,J4,e4,r4,f3,f4,p4⟩:=z;refine⟨k,t',rfl,b3,b4,a1,a2,m,B,r,?_⟩;by_cases hk:k<kb
  ·rw[ia hk]at p4;rw[ia hk,ia hk];exact⟨d,w,J4,ex.trans e4,r4,Rep.mono (ex.trans e4) _ _ rd,a6,f3,f4,p4⟩
  ·rw[ja hk]at p4;rw[ja hk,ja hk];exact⟨b,wb,J4,ex.trans e4,r4,Rep.mono e4 _ _ rb,U,f3,f4,p4⟩
 ·intro I S vb kb s' ⟨_,_,C,H',F,b,wb,J,ex,r',rb,U,f1,f2,p'⟩;rw[<-a0,List.drop_length]at p';have q':Q wb H':=Kb.here (R:=Rep T) p' r' rb;exact⟨wb,H',J.ej (λp hp=>J.pin p (Ma _ (.tail _ hp))),U,q'⟩
end
noncomputable def Hw(K:W.Frag)(x:qa):Addr:=((W.tabIn K x).getD (0,0)).1
noncomputable def Kx(K:W.Frag)(x:qa):Addr:=((W.tabIn K x).getD (0,0)).2
noncomputable def ew(K:W.Frag):Addr:=match W.nsIn K mainGlobals "__builtins__" with
 |some (some (.ref a))=>a
 |_=>0
theorem V3{K:W.Frag}{x:qa}(h:(W.tabIn K x).isSome=true):W.tabIn K x=some (Hw K x,Kx K x):=by
 unfold Hw Kx;cases e:W.tabIn K x with
 |none=>rw[e]at h;cases h
 |some p=>rfl
noncomputable def jH(K:W.Frag)(xs:List qa):Bool:=
 W.noTabs K && (match W.nsIn K mainGlobals "__builtins__" with
  |some (some (.ref a))=>(K.lookup a).isNone && (a != builtinsNs)
  |_=>false) && xs.all λx=>(W.tabIn K x).isSome && dC K (Hw K x) (Kx K x)
structure Cw(K:W.Frag)(xs:List qa):Prop where
 no:W.noTabs K=true
 bm:W.nsIn K mainGlobals "__builtins__" = some (some (.ref (ew K)))
 bk:K.lookup (ew K)=none
 bb:ew K≠builtinsNs
 tab:∀ x∈xs,W.tabIn K x=some (Hw K x,Kx K x)
 hd:∀ x∈xs,dC K (Hw K x) (Kx K x)=true
theorem M1{K:W.Frag}{xs:List qa}(h:jH K xs=true):Cw K xs:=by
 unfold jH at h;rw[va,va]at h;obtain⟨⟨g,b⟩,e⟩:=h;split at b
 ·next a f=>
  have c:ew K=a:=by unfold ew;rw[f]
  rw[va]at b;refine⟨g,by rw[c];exact f,by rw[c];exact Option.isNone_iff_eq_none.mp b.1,by rw[c];simpa using b.2,λx d=>?_,λx d=>?_⟩
  ·have z:=Zb.mp e x d;rw[va]at z;exact V3 z.1
  ·have z:=Zb.mp e x d;rw[va]at z;exact z.2
 ·cases b
noncomputable def fJ(K:W.Frag)(mg:qa->Option Value)(x:qa)(c:Stmt)(ps:List qa):Prop:=
 ∃ f a,mg x=some (.ref f)/\fx K x x c f a/\(∀ b:List Value,b.length=ps.length->bindArgs a ⟨b,[]⟩=pure (ps.zip b))/\a.code=.ref (Hw K x)
theorem aZ{K:W.Frag}{mg:qa->Option Value}{h:Heap}{x:qa}{a:Stmt}{ps xs:List qa}(X:K.In h)(G:h.Ns mainGlobals mg)(d:Df K mg x a ps)(g:Cw K xs)(i:x∈xs):fJ K mg x a ps:=by
 obtain⟨f,m,hm,F,hb⟩:=d;obtain⟨n,o,kV,c,p,l,b,ct,k,rfl,j,e⟩:=F.ex;exact⟨f,_,hm,F,hb,W.law_code X G (g.tab x i) hm (X _ _ j) rfl⟩
theorem K7{P:ua}{w:Ea}{K:W.Frag}{mg:qa->Option Value}{base:Heap}{ca:Nat->Addr}{tx:Tx}{k:Nat}{x:qa}{a:Stmt}{ps N:List qa}{g:Ev->M Fl}(h:fJ K mg x a ps)(S:Ba N ps (qd a))
  (hb:∀ (f:Addr) (A:Da) (outer:List Og) (s:Shared) (H:Hp) (E:XK),Xd k (A.deeper (Rg x (qd a) s.heap.objs.size f (.ref (Hw K x))))->ap ⟨K,ca,tx⟩ (fq (Wl P w) P w K mg base N x (qd a) f (.ref (Hw K x)) A outer s H E) (Kj a) g) :
  ud ⟨K,ca,tx⟩ P w mg base (k+1) x ps (run N.length g):=by
 obtain⟨f,o,hm,F,c,j⟩:=h;obtain⟨p,q,kV,i,r,n,b,ct,m,rfl,l,d⟩:=F.ex;have e:b=.ref (Hw K x):=j;subst e;exact⟨f,_,hm,F.kp,c,wz l d S (hb f)⟩
theorem TX{P:ua}{w:Ea}{K:W.Frag}{mg mb:qa->Option Value}{k:Nat}{fa a:Addr}{fd:Yd}{x:qa}{s₁:Shared}{vs:List Value}{ns:List Int}{ca:Nat->Addr}{tx:Tx}{fn:List D->M D}{ob:Obj}
  (KX:K.In s₁.heap) (a8:s₁.heap.Ns mainGlobals mg) (hb:s₁.heap.Ns builtinsNs mb) (a4:∀ x:qa,x ≠ "__name__"->mb x=bootBuiltins x) (S:s₁.heap.NoLimit) (hg:s₁.gens=#[])
  (C:s₁.heap.get? a=some { cls:=.type "list",data:=.seq vs.toArray }) (hi:wh vs ns) (hl:ns.length<=63) (hr:Xd k Tg)
  (hK:W.noTabs K=true) (i:s₁.heap.get? tx.bm=some ob) (Q:ob.cls=.type "module") (a5:ob.dict=some builtinsNs) (J:ob.data=.plain) (a3:K.lookup tx.bm=none)
  (O:∀ t∈tx.Im,∃ c,W.CodeHd s₁.heap c t.P/\s₁.heap.get? t.P=some (W.tabObj #[]))
  (F:∀ base:Heap,mh P w K mg base (Wl P w) k fa fd [x] (ip ⟨K,ca,tx⟩ 1 fn)) (I:∀ (s:Shared) (u:Value),Zf s fd ⟨[u],[]⟩ [(x,u)])
  (tr:∀ ns:List Int,ns.length<=63->∃ σ,fn [.cg ns] []=.ok (.bl true) σ) :
  codeAny (model P w) Tg (.call (.ref fa) ⟨[.ref a],[]⟩) (λr y=>r=.ok (.ret (.bool true))/\OldK s₁.heap y.heap/\y.os=s₁.os/\Pg y.gens) s₁:=by
 have rv:=Pz hi;have T:=hi.length;have R:ns.length<=sizeLine:=Ya hl (by decide);have A:∀ G:Bool,(G=true->K.lookup a=none)->(G=false->K.lookup a=some { cls:=.type "list",data:=.seq vs.toArray })->
   codeAny (model P w) Tg (.call (.ref fa) ⟨[.ref a],[]⟩) (λr y=>r=.ok (.ret (.bool true))/\OldK s₁.heap y.heap/\y.os=s₁.os/\Pg y.gens) s₁:=by
  intro G a6 a7;obtain⟨H,c1,c2,c3,U⟩:∃ H:Hp,(∀ t∈tx.Im,H t.P=some (.mm #[]))/\(H tx.bm=some (.qb ob (.ext (CD tx.bm))))/\(G=true->H a=some (.qb { cls:=.type "list",data:=.seq vs.toArray } (.lst (ns.map V.int))))/\
    ∀ b u,H b=some u->(u=.mm #[]/\∃ t∈tx.Im,b=t.P)\/(b=tx.bm/\u=.qb ob (.ext (CD tx.bm)))\/(b=a/\G=true/\u=.qb { cls:=.type "list",data:=.seq vs.toArray } (.lst (ns.map V.int))):=by
   refine⟨λb=>if b=tx.bm then some (.qb ob (.ext (CD tx.bm)))else if b=a then (if G=true then some (.qb { cls:=.type "list",data:=.seq vs.toArray } (.lst (ns.map V.int)))else none)else if b∈tx.Im.map (·.P)then some (.mm #[])else none,λt f=>?_,ia rfl,λh=>?_,λb u e=>?_⟩
   ·obtain⟨c,_,j⟩:=O t f;have n1:t.P≠tx.bm:=λz=>by rw[z,i]at j;cases j;cases Q
    have n2:t.P≠a:=λz=>by rw[z,C]at j;cases j
    dsimp only;rw[ja n1,ja n2,ia (Ra.mpr ⟨t,f,rfl⟩)]
   ·have n1:a≠tx.bm:=λz=>by rw[z,i]at C;cases C;cases J
    dsimp only;rw[ja n1,ia rfl,ia h]
   ·dsimp only at e;split at e
    ·next a1=>cases e;exact .inr (.inl ⟨a1,rfl⟩)
    ·split at e
     ·next a2=>
      split at e
      ·next h=>cases e;exact .inr (.inr ⟨a2,h,rfl⟩)
      ·cases e
     ·split at e
      ·next hm=>cases e;obtain⟨t,f,rfl⟩:=Ra.mp hm;exact .inl ⟨rfl,t,f,rfl⟩
      ·cases e
  have Pb:yi P w H s₁.heap:=λb u e=>by
   rcases U b u e with⟨rfl,t,f,rfl⟩|⟨rfl,rfl⟩|⟨rfl,_,rfl⟩
   ·obtain⟨c,_,j⟩:=O t f;exact j
   ·exact⟨i,⟨ob,i,Q,a5,J⟩,⟨ob,i⟩,λh1 Z ⟨o,e1,B⟩ k=>⟨o,k _ e1,B⟩⟩
   ·exact⟨C,by rw[xa];exact R,vs,_,rv,C⟩
  have g:∀ {b:Addr} {o:Obj},s₁.heap.get? b=some o->H b=none->(Xr s₁.heap H).get? b=some o:=λe n=>CP e n;have b0:∀ {b:Addr} {o:Obj} {Y:Array ju} {X:Nat},s₁.heap.get? b=some o->o.data=.dict Y X->H b=none:=fun {b o Y X} e d=>by
   cases q:H b with
   |none=>rfl
   |some u=>
    rcases U b u q with⟨_,t,f,rfl⟩|⟨rfl,_⟩|⟨rfl,_,_⟩
    ·obtain⟨c,_,j⟩:=O t f;rw[j]at e;cases e;cases d
    ·rw[i]at e;cases e;rw[J]at d;cases d
    ·rw[C]at e;cases e;cases d
  have N:∀ {b:Addr} {m:qa->Option Value},s₁.heap.Ns b m->(Xr s₁.heap H).Ns b m:=fun {b m} ⟨o,Y,X,e,d,r⟩=>⟨o,Y,X,g e (b0 e d),d,r⟩
  have a0:K.In (Xr s₁.heap H):=λb o e=>g (KX b o e) (by
   cases q:H b with
   |none=>rfl
   |some u=>
    rcases U b u q with⟨_,t,f,rfl⟩|⟨rfl,_⟩|⟨rfl,h,_⟩
    ·obtain⟨c,_,j⟩:=O t f;have B:=KX _ _ e;rw[j]at B;cases B;have Z:=Zb.mp hK (t.P,_) (W.mem_of_lookupK e);exact absurd (show false=true from Z) Va
    ·rw[a3]at e;cases e
    ·rw[a6 h]at e;cases e)
  have hM:Mod K mg (Xr s₁.heap H):=⟨a0,N a8,⟨mb,N hb,a4⟩,let ⟨mc,h1,Z⟩:=S;⟨mc,N h1,Z⟩⟩
  have e0:Nl P w K mg (Xr s₁.heap H) Tg [] s₁ H:=⟨rfl,hM,λb o e=>aL e,Cr (oP _ _),trivial,λb hb=>absurd (show b∈([]:List Addr)from hb) (by simp),Pb,.of_eq hg⟩
  have hS:NC K H a ns:=by
   cases G with
   |true=>exact .inl ⟨_,c3 rfl⟩
   |false=>exact .inr ⟨_,vs.toArray,_,a7 rfl,rfl,rfl,rfl,by rw[na,T];exact R,by simpa using rv⟩
  obtain⟨σ,ef⟩:=tr ns hl;have a9:ip ⟨K,ca,tx⟩ 1 fn [.ref a] H (λv _=>v=.bl true) λ_ _ _=>False:=by
   refine⟨[],[],[.cg ns],Ua.cons (by rw[Rep];exact⟨a,rfl,hS⟩) Ua.nil,rfl,⟨rfl,Vx,λn o q=>by simp at q,λt f=>⟨⟨by simp,ob,c2⟩,by simp,#[],c1 t f,.inl rfl⟩⟩,?_⟩;rw[ef];intro b1 v H' _ _ r;rw[Rep]at r;exact r
  refine kf ((F _).run Tg [] s₁ H ⟨[.ref a],[]⟩ [.ref a] [.ref a] _ _ hr e0 (I s₁ (.ref a)) (.cons rfl .nil) a9) λr y h=>?_;cases r with
  |error e=>obtain⟨_,_,_,_,z⟩:=h;exact z.elim
  |ok f2=>
   cases f2 with
   |next=>exact False.elim h
   |brk=>exact False.elim h
   |cont=>exact False.elim h
   |ret u=>
    obtain⟨v,H',os,bare,un,p,r',q⟩:=h;have q':v=.bl true:=q;subst q';obtain rfl:u=wf true:=r';have E:∀ b o,s₁.heap.get? b=some o->(¬ ∃ t∈tx.Im,b=t.P)->y.heap.get? b=some o:=λb o e n=>by
     cases q:H b with
     |none=>exact un.keep b o e q (by intro z;exact absurd (show b∈([]:List Addr)from z) (by simp)) (by simp)
     |some u=>
      rcases U b u q with⟨_,z⟩|⟨rfl,rfl⟩|⟨rfl,_,rfl⟩
      ·exact absurd z n
      ·obtain⟨B,_⟩:=p _ _ (un.nh _ _ _ q);rw[i]at e;cases e;exact B
      ·obtain⟨B,_⟩:=p _ _ (un.nh _ _ _ q);rw[C]at e;cases e;exact B
    have l:∀ t∈tx.Im,∃ ps,y.heap.get? t.P=some (W.tabObj ps):=λt f=>by
     obtain⟨more,z⟩:=un.Uh _ _ (c1 t f);exact⟨_,p _ _ z⟩
    refine⟨rfl,⟨λb o e=>?_,λb o e=>?_⟩,os,bare⟩
    ·by_cases hb:∃ t∈tx.Im,b=t.P
     ·obtain⟨t,f,rfl⟩:=hb;obtain⟨c,hc,j⟩:=O t f;obtain⟨ps,L⟩:=l t f;rw[j]at e;cases e;exact .inr (.inl ⟨(hc.tab j).isCodeTable,rfl,#[],ps,rfl,by rw[Array.empty_append];exact L⟩)
     ·exact .inl (E b o e hb)
    ·by_cases hb:∃ t∈tx.Im,b=t.P
     ·obtain⟨t,f,rfl⟩:=hb;obtain⟨ps,L⟩:=l t f;exact⟨_,L⟩
     ·exact⟨o,E b o e hb⟩
 cases hk:K.lookup a with
 |some o=>
  have e:=KX a o hk;rw[C]at e;cases e;exact A false (λh=>by cases h) λ_=>hk
 |none=>exact A true (λ_=>hk) λh=>by cases h
theorem dU{l:W.OpenLaw}{q:ua}{i:List qa}{L:(qa->Option Value)->Heap->Prop}{B:Ea->Heap->Prop}{d:DefRec}{K:TJ->W.Frag}{k:Nat}{x:qa}{fn:List D->M D}(xs:List qa)
  (hn:l.most=some 63) (v:d.params.defaults=[]) (hr:Xd k Tg) (hY:∀ (w:Ea) (h:Heap),B w h->(K w.params).In h)
  (hK:∀ w:Ea,jH (K w.params) xs=true) (n:(xs.all λx=>((recsOf q).find? λe=>e.name == x).isSome)=true)
  (F:∀ (w:Ea) (mg:qa->Option Value) (h:Heap),(K w.params).In h->h.Ns mainGlobals mg->Cw (K w.params) xs->∃ ca Im,(∀ t∈Im,∃ x∈xs,t.P=Kx (K w.params) x)/\RF ⟨K w.params,ca,⟨Im,ew (K w.params)⟩⟩ l.prog w mg k d.name [x] fn)
  (tr:∀ ns:List Int,ns.length<=63->∃ σ,fn [.cg ns] []=.ok (.bl true) σ) :
  W.WalkO q i L B l.row.toRowW d [] (λf J=>PySem.call f J):=by
 refine Att.yl hn v λw s₀ I mg mb fa o pm cd U a J ns G Y ho hd a0 A m c j hg=>?_;have p:=hY w _ Y;have TT:=M1 (hK w);obtain⟨ca,Im,hP,f0,V,E,X,Z⟩:=F w mg _ p G.T.g TT;rw[A]at E;cases E;obtain⟨bm,ob,N,b2,O,Q,R,S⟩:=G.T.bmain;have C:=zt p G.T.g TT.bm;rw[N]at C;cases C;refine TX (tx:=⟨Im,ew (K w.params)⟩) (ca:=ca) (ob:=ob) p G.T.g G.T.b G.T.builtins G.T.nolimit hg m c j hr TT.no O Q R S TT.bk (λt ht=>?_) Z (λs u=>.of_eq (X [u] rfl)) tr;obtain⟨y,H,e⟩:=hP t ht;have z:=Zb.mp n y H;obtain⟨d',r⟩:=ue.mp z;have:=W.tab_of G.T p r (TT.tab y H);rw[e];exact⟨_,this.1,this.2⟩
noncomputable def fy(x:D)(xs:List D):M D:=λa=>match x,xs with
 | .ref n,[y]=>(match kg a n with
  |some b=>(match Ff a y with
   |some zs=>if b.length+zs.length<=Mh then .ok .Yb (a.set n (.lst (b++zs)))else .bad
   |none=>.bad)
  |none=>.bad)
 |_,_=>.bad
section
variable{T:Tb}
theorem YZ:my T cQ fy:=by
 intro E t H u x xs v c Q r p q h;cases x with
 |ref n=>
  match xs with
  |[]=>exact h.elim
  |[y]=>
   rw[Ua]at q;obtain⟨w,z,rfl,B,l⟩:=q;rw[Ua]at l;subst l;unfold fy at h;cases d:kg u n with
   |none=>simp only[d]at h;exact h.elim
   |some s=>
    simp only[d]at h;cases e:Ff u y with
    |none=>simp only[e]at h;exact h.elim
    |some zs=>
     simp only[e]at h;by_cases f:s.length+zs.length<=Mh
     ·rw[ia f]at h;obtain⟨a,c,rfl,hn,i,j⟩:=r.lst p d;obtain⟨b,g,rfl,A,k⟩:=r.ls B e;have m:=r.write (o:=.lst (c++g)) (ob:=.lst (s++zs)) hn ⟨_,Jg,by
       have ex:Ext t H t (upd H a (.lst (c++g))):=Mw (La hn) i (λ_ z=>by cases z) (λ_ _ z=>by cases z);exact Ua.append (Ua.mono ex _ _ j) (Ua.mono ex _ _ k)⟩
      exact⟨a,b,c,g,rfl,rfl,i,A,by rw[<-j.length,<-k.length];exact kx f,h _ _ _ m.1 m.2 (by rw[Rep])⟩
     ·rw[ja f]at h;exact h.elim
  |_::_::_=>exact h.elim
 |_=>exact h.elim
end
section
variable{T:Tb}{X:Cx}
noncomputable def Fz(x:D)(xs:List D):M D:=λa=>match x,xs with
 | .ref n,[]=>(match kg a n with
  |some _=>.ok .Yb (a.set n (.lst []))
  |none=>.bad)
 |_,_=>.bad
theorem F8:my T L2.Zo Fz:=by
 intro E j H f x xs v c Q r p q h;cases x with
 |ref n=>
  match xs with
  |[]=>
   rw[Ua]at q;subst q;unfold Fz at h;cases b:kg f n with
   |none=>simp only[b]at h;exact h.elim
   |some i=>
    simp only[b]at h;obtain⟨a,c,rfl,hn,e,g⟩:=r.lst p b;have d:=r.write (o:=.lst []) (ob:=.lst []) hn ⟨_,Jg,Ua.nil⟩;exact⟨a,c,rfl,rfl,e,h _ _ _ d.1 d.2 (by rw[Rep])⟩
  |_::_=>exact h.elim
 |_=>cases xs<;>exact h.elim
theorem D4{o:Ga}{f:Ev->M D}{name:qa}{n:String}{r:V->List V->Hp->VK->Prop}{g:D->List D->M D}{b c:Se}(E:ti "list")(slot:pz "list" name n)(m:ql (.builtin n)=pure (.type "method_descriptor"))(hm:Sr X n r)(C:my T r g)(z:FE T X o f)
  (d:Uc o name X.env (Nb o X.env)=Nb o X.env:=by rfl) (e:(b.endLine == c.line)=true:=by rfl):FE T X (.Call (.Attribute o name b) [] [] c) (Vv g f xb):=by
 intro i s F H Q I h;refine sT E slot m hm z d e i s F H Q I ?_;obtain⟨J,K,L,y,B,A⟩:=h;refine⟨J,K,L,y,B,A.bind λx k p v u _ N t q j=>?_⟩;unfold Vs at j;cases l:Ff k x with
 |none=>rw[l]at j;exact j.elim
 |some xs=>
  rw[l]at j;obtain⟨a,G,rfl,w,O⟩:=t.ls q l;exact⟨.inl ⟨rfl,G,cf.of w⟩,C _ p u k x [] (.ref a) [] Q t q Ua.nil j⟩
end
section
variable{X:Cx}{pins:List (Addr × Obj)}{st:St}{H:Hp}{s:Shared}{x z0 z1:qa}{M':List qa}{ix:List Nat}{scope:Scope}{fp:List Addr}
end
section
variable{T:Tb}{X:Cx}
end
section
variable{T:Tb}{X:Cx}{pins:List (Addr × Obj)}{st:St}{H:Hp}{s:Shared}{μ:List Addr}{σ:Oa}
end
section
variable{T:Tb}{X:Cx}
end
section
variable{T:Tb}{X:Cx}{x y:qa}{p pos:Se}{ss:List qa}
theorem i9(d:Gl X x)(b:xD T.K X.mg x ss)(hd:(x == ("__debug__" : qa))=false:=by decide):FE T X (.Name x p) (eC (.gt ss)):=by
 obtain⟨a,hm,c⟩:=b;exact gA (sJ d hm (v:=.ref a) rfl hd) λ_ _=>by rw[Rep];exact⟨a,rfl,c⟩
theorem ud.alias{P:ua}{w:Ea}{mg:qa->Option Value}{base:Heap}{k:Nat}{ps:List qa}{fn:List D->M D}(h:ud T P w mg base k x ps fn)(e:mg y=mg x):ud T P w mg base k y ps fn:=by
 obtain⟨f,a,b,c⟩:=h;exact⟨f,a,e.trans b,c⟩
end
section
variable{T:Tb}{μ μ':List Addr}{H H':Hp}{σ:Oa}{a:Addr}
mutual
theorem Rep.chg(j:∀ b,b≠a->H' b=H b)(l:a∈μ)(r:∀ xs,H a≠some (.tup xs))(s:∀ o xs,H a≠some (.qb o (.lst xs))):∀ (d:D) (v:V),Rep T μ H d v->Rep T μ H' d v
 | .Yb,v,h=>by simpa [Rep]using h
 | .bl b,v,h=>by simpa [Rep]using h
 | .int i,v,h=>by simpa [Rep]using h
 | .str x,v,h=>by simpa [Rep]using h
 | .tup ds,v,h=>by
  rw[Rep]at h ⊢;obtain⟨p,m,g,e,k⟩:=h;exact⟨p,m,g,by rw[j p (λz=>r _ (by rw[<-z];exact e))];exact e,Ua.chg j l r s ds m k⟩
 | .cg ns,v,h=>by
  rw[Rep]at h ⊢;obtain⟨p,g,e⟩:=h;refine⟨p,g,?_⟩;rcases e with⟨o,e⟩|e
  ·exact .inl ⟨o,by rw[j p (λz=>s _ _ (by rw[<-z];exact e))];exact e⟩
  ·exact .inr e
 | .ref n,v,h=>by rw[Rep]at h ⊢;exact h
 | .lst ds,v,h=>by
  rw[Rep]at h ⊢;obtain⟨p,m,g,f,e,k⟩:=h;exact⟨p,m,g,f,by rw[j p (λz=>f (by rw[z];exact l))];exact e,Ua.chg j l r s ds m k⟩
 | .Na E ds,v,h=>by
  rw[Rep]at h ⊢;obtain⟨p,m,g,f,e,t,k⟩:=h;exact⟨p,m,g,f,by unfold Rd at e ⊢;rw[j p (λz=>f (by rw[z];exact l))];exact e,t,Ua.chg j l r s ds _ k⟩
 | .obj c ns ds,v,h=>by
  rw[Rep]at h ⊢;obtain⟨p,A,m,g,f,e,t,k⟩:=h;exact⟨p,A,m,g,f,by rw[j p (λz=>f (by rw[z];exact l))];exact e,t,Ua.chg j l r s ds _ k⟩
 | .Wo c,v,h=>by
  rw[Rep]at h ⊢;obtain⟨p,y,g,f,e,k⟩:=h;refine⟨p,y,g,f,by rw[j p (λz=>f (by rw[z];exact l))];exact e,λn q=>?_⟩;obtain⟨u,B,w,C⟩:=k n q;exact⟨u,B,w,by rw[j u (λz=>w (by rw[z];exact l))];exact C⟩
 | .gt ss,v,h=>by rw[Rep]at h ⊢;exact h
theorem Ua.chg(g:∀ b,b≠a->H' b=H b)(f:a∈μ)(c:∀ xs,H a≠some (.tup xs))(e:∀ o xs,H a≠some (.qb o (.lst xs))):∀ (ds:List D) (vs:List V),Ua T μ H ds vs->Ua T μ H' ds vs
 |[],vs,h=>by simpa [Ua]using h
 |d::ds,vs,h=>by
  rw[Ua]at h ⊢;obtain⟨v,r,i,j,k⟩:=h;exact⟨v,r,i,Rep.chg g f c e d v j,Ua.chg g f c e ds r k⟩
end
theorem yD{c:Type}(g:∀ b,b≠a->H' b=H b)(f:a∈μ)(d:∀ xs,H a≠some (.tup xs))(e:∀ o xs,H a≠some (.qb o (.lst xs))){xs:List (c × D)}{ys:List (c × V)}(h:Paired (λ(p:c × D) (q:c × V)=>p.1=q.1/\Rep T μ H p.2 q.2) xs ys) :
  Paired (λ(p:c × D) (q:c × V)=>p.1=q.1/\Rep T μ H' p.2 q.2) xs ys:=L2.Paired.jr h λp q z=>⟨z.1,Rep.chg g f d e _ _ z.2⟩
theorem Ap.chg(d:∀ b,b≠a->H' b=H b)(i:a∈μ)(f:∀ xs,H a≠Option.some (.tup xs))(g:∀ o xs,H a≠Option.some (.qb o (.lst xs))){b:Addr}(hb:b≠a):∀ {o:Ob},Ap T μ H b o->Ap T μ H' b o
 | .lst ds,⟨e,h,r⟩=>⟨e,(d b hb).trans h,Ua.chg d i f g _ _ r⟩
 | .Na j,⟨e,h,r⟩=>⟨e,(d b hb).trans h,yD d i f g r⟩
 | .ins c fs,⟨k,e,h,r⟩=>⟨k,e,(d b hb).trans h,yD d i f g r⟩
 | .Kf j,⟨l,e,h,r⟩=>⟨l,e,(d b hb).trans h,yD d i f g r⟩
 | .Kk m,⟨e,h,r⟩=>⟨e,(d b hb).trans h,r⟩
theorem Rel.chg(r:Rel T μ H σ)(e:∀ b,b≠a->H' b=H b){n:Nat}(hn:μ[n]?=some a)(f:∀ xs,H a≠some (.tup xs))(g:∀ o xs,H a≠some (.qb o (.lst xs))){ob:Ob}(j:Ap T μ H' a ob):Rel T μ H' (σ.set n ob):=by
 have d:=La hn;refine⟨by simp[r.len],r.nd,λm x h=>?_,r.tb.out e (.inl d)⟩;rw[cc]at h;by_cases hm:n=m
 ·subst hm;rw[ia rfl]at h;split at h
  ·cases h;exact⟨a,hn,j⟩
  ·cases h
 ·rw[ja hm]at h;obtain⟨b,c,i⟩:=r.obs m x h;exact⟨b,c,i.chg e d f g (λz=>hm (by subst z;exact pE r.nd hn c))⟩
end
theorem _root_.L2.Inv.Nw{X:Cx}{d:List (Addr × Obj)}{g:St}{H:Hp}{s:Shared}{a:Addr}{od:Obj}{kvs:List (Key × V)}(I:Inv X d g H s)(hd:H a=some (.qb od (.dK kvs)))(h:∀ o u,X.H₀ a≠some (.qb o u)):Inv X d g (upd H a (.dK kvs)) s:=by
 have ne:∀ b u,H b=some u->(∀ o w,u≠.qb o w)->b≠a:=λb u q n z=>by rw[z,hd]at q;exact n _ _ (ub q).symm
 refine⟨I.ok,I.os,I.bare,⟨I.base.keep,I.base.slot,λb o e n j=>?_,I.base.there,λb xs e=>?_,λb o u e=>?_,λb k e=>?_⟩,I.loc,I.cell,?_,λx c e=>?_,λp i=>?_,λb u e=>?_,I.len⟩
 ·have:=I.base.free b o e n j;rw[Ad (λz=>by rw[z,hd]at this;cases this)];exact this
 ·have:=I.base.pi b xs e;rw[Ad (ne b _ this (λ_ _ z=>by cases z))];exact this
 ·have:=I.base.nh b o u e;rw[Ad (λz=>h o u (by rw[<-z];exact e))];exact this
 ·obtain⟨more,this⟩:=I.base.Uh b k e;exact⟨more,by rw[Ad (ne b _ this (λ_ _ z=>by cases z))];exact this⟩
 ·rw[Ad (λz=>by have:=I.free;rw[z,hd]at this;cases this)];exact I.free
 ·have:=I.eg x c e;rw[Ad (λz=>by rw[z,hd]at this;cases this)];exact this
 ·obtain⟨l,f,m⟩:=I.pin p i;exact⟨l,by rw[Ad (λz=>by rw[z,hd]at f;cases f)];exact f,m⟩
 ·by_cases hb:b=a
  ·subst hb;rw[Jg]at e;cases e;exact(I.Pb b _ hd).2
  ·rw[Ad hb]at e;refine(I.Pb b u e).xk (λc v _ z=>z) (λc z=>?_) λc xs z=>?_
   ·rw[Ad (ne c _ z (λ_ _ y=>by cases y))];exact z
   ·rw[Ad (ne c _ z (λ_ _ y=>by cases y))];exact z
section
variable{T:Tb}{X:Cx}{elts:List Ga}{kk:Nat}{p0:Se}
theorem SH{μ:List Addr}{H:Hp}{a:Addr}{od:Obj}{kvs:List (Key × V)}{f:List (Key × D)}(o:H a=some (.qb od (.dK kvs)))(s:Oh T μ H f kvs):lr T μ H (Tr f) (Itm a od kvs):=by
 intro h j u i ex t;have k:j a=some (.qb od (.dK kvs)):=ex.qb _ _ _ o;have e:Oh T h j f kvs:=Oh.mono ex s;unfold Tr;cases n:f[i]? with
 |none=>
  dsimp only;by_cases g:i=f.length
  ·rw[ia g];exact⟨k,by rw[g];exact Paired.length e⟩
  ·rw[ja g];trivial
 |some p=>
  obtain⟨q,l,d,m⟩:=RD e i n;refine⟨⟨k,q,l⟩,λz v y=>?_⟩;obtain⟨r,w,x,b,rfl,c,rfl⟩:=y;rw[l]at c;cases c;dsimp only at d m;refine⟨Ik b,t.fresh b,?_⟩;rw[Rep,d];exact⟨r,_,rfl,Jg,Ua.cons (ZF _) (Ua.cons (Rep.mono (Ik b) _ _ m) Ua.nil)⟩
noncomputable def mF(d:D):M NX:=λb=>match d with
 | .Na c xs=>if c.length=xs.length then .ok (Tr (c.zip xs)) b else .bad
 | .ref n=>(match b[n]? with
  |some (.Na a)=>.ok (Tr a) (b.set n (.Kf a))
  |some (.Kf a)=>.ok (Tr a) b
  |_=>.bad)
 |_=>.bad
noncomputable def Wu(f:Ev->M D):Ev->M NX:=λa=>Mc (f a) mF
theorem nD{e:Ga}{f:Ev->M D}{u w:Se}(h:FE T X e f)(C:Uc e "items" X.env (Nb e X.env)=Nb e X.env:=by rfl)(E:(u.endLine == w.line)=true:=by rfl) :
  Pw T X (.Tuple elts kk p0) (.Call (.Attribute e "items" u) [] [] w) (Wu f):=by
 intro N s st H R I hw;refine OK (sR Zh Yh Ho fL h C E) N s st H R I ?_;obtain⟨μ,ρ,σ,hE,hr,hp⟩:=hw;refine⟨μ,ρ,σ,hE,hr,hp.bind λd σ1 c v j _ e1 P V p=>?_⟩;unfold mF at p;cases d with
 |Na ks xs=>
  dsimp only at p;by_cases Y:ks.length=xs.length
  ·rw[ia Y]at p;rw[Rep]at V;obtain⟨a,i,rfl,hn,q,S,U⟩:=V;refine⟨⟨a,i,rfl,q⟩,a,i,rfl,rfl,q,λl g=>?_⟩;have t:a≠l:=by rcases q with q|⟨_,q⟩<;>exact Ko q g
   have Q:Rd (upd j l (.ext (tm l a))) a (.dK i):=by unfold Rd;rw[Ad t];exact q
   refine⟨l,a,i,rfl,Jg,Q,λod m=>?_⟩;have A:Ext c j c (upd j l (.ext (tm l a))):=Ik g;have k:Rel T c (upd j l (.ext (tm l a))) σ1:=P.fresh g;obtain⟨Z,W⟩:Ext c j c (upd (upd j l (.ext (tm l a))) a (.qb od (.dK i)))/\Rel T c (upd (upd j l (.ext (tm l a))) a (.qb od (.dK i))) σ1:=by
    rcases m with m|m
    ·have y:=aQ (μ:=c) (od:=od) m;exact⟨A.trans y,k.keep y (λb hb=>Ad (λz=>hn (by rw[<-z];exact hb))) (k.tb.out (λb hb=>Ad hb) (.inr ⟨_,m⟩))⟩
    ·rw[Lz m];exact⟨A,k⟩
   exact Kb.here (R:=lr T) (Kb.mono Z p) W (SH Jg (Oh.mono Z (UC S U)))
  ·rw[ja Y]at p;exact p.elim
 |ref n=>
  dsimp only at p;cases O:σ1[n]? with
  |none=>rw[O]at p;exact p.elim
  |some o=>
   rw[O]at p;obtain⟨a,rfl,hn,L⟩:=P.at V O;cases o with
   |Na i=>
    obtain⟨vs,B,G⟩:=L;have q:Rd j a (.dK vs):=.inl B;refine⟨⟨a,vs,rfl,q⟩,a,vs,rfl,rfl,q,λl g=>?_⟩;have t:a≠l:=Ko B g;have r:upd j l (.ext (tm l a)) a=some (.dK vs):=by rw[Ad t];exact B
    refine⟨l,a,vs,rfl,Jg,.inl r,λod _=>?_⟩;have A:Ext c j c (upd j l (.ext (tm l a))):=Ik g;have k:Rel T c (upd j l (.ext (tm l a))) σ1:=P.fresh g;have K:Ext c (upd j l (.ext (tm l a))) c (upd (upd j l (.ext (tm l a))) a (.qb od (.dK vs))):=Mw (La hn) r (λ_ z=>by cases z) (λ_ _ z=>by cases z);have x:Oh T c (upd (upd j l (.ext (tm l a))) a (.qb od (.dK vs))) i vs:=Oh.mono (A.trans K) G;have wr:=k.write (o:=.qb od (.dK vs)) (ob:=.Kf i) hn ⟨od,vs,Jg,x⟩ (λkv z=>by rw[O]at z;cases z);exact Kb.here (R:=lr T) (Kb.mono (A.trans K) p) wr.2 (SH Jg x)
   |Kf i=>
    obtain⟨J,vs,B,G⟩:=L;have q:Rd j a (.dK vs):=.inr ⟨J,B⟩;refine⟨⟨a,vs,rfl,q⟩,a,vs,rfl,rfl,q,λl g=>?_⟩;have t:a≠l:=Ko B g;have r:upd j l (.ext (tm l a)) a=some (.qb J (.dK vs)):=by rw[Ad t];exact B
    refine⟨l,a,vs,rfl,Jg,.inr ⟨J,r⟩,λod m=>?_⟩;have A:Ext c j c (upd j l (.ext (tm l a))):=Ik g;have k:Rel T c (upd j l (.ext (tm l a))) σ1:=P.fresh g;rcases m with m|m
    ·rw[r]at m;cases m
    ·rw[Lz m];exact Kb.here (R:=lr T) (Kb.mono A p) k (SH m (Oh.mono A G))
   |_=>exact p.elim
 |_=>exact p.elim
noncomputable def HB{c:Type}(ok:c->Bool)(n:Nat):Out c->Out c
 | .ok a σ=>if ok a=true then (match σ[n]? with
  |some (.Kf b)=>.ok a (σ.set n (.Na b))
  |_=>.bad)else .bad
 |_=>.bad
noncomputable def eD{α:Type}(ok:α->Bool)(m:M D)(g:M α):M α:=λa=>match m a with
 | .ok (.ref n) _=>(match a[n]? with
  |some (.Na _)=>HB ok n (g a)
  |_=>g a)
 |_=>g a
noncomputable def fD:Fl->Bool
 | .xc _ _=>false
 |_=>true
noncomputable def kt(f:Ev->M D)(g:Ev->M Fl):Ev->M Fl:=λa=>eD fD (f a) (g a)
theorem w1{μ μ':List Addr}{H b:Hp}{a:Addr}{d vs:List (Key × V)}{od:Obj}(ex:Ext μ H μ' b)(c:a∈μ)(e:H a=some (.dK d))(hz:b a=some (.qb od (.dK vs))):Ext μ H μ' (upd b a (.dK vs)):=by
 refine⟨ex.pre,λp xs h=>?_,λp o u h=>?_,λp o h n=>?_⟩
 ·rw[Ad (λz=>by rw[z,e]at h;cases h)];exact ex.tup p xs h
 ·rw[Ad (λz=>by rw[z,e]at h;cases h)];exact ex.qb p o u h
 ·rw[Ad (λz=>n (by rw[z];exact c))];exact ex.keep p o h n
theorem VV{l s:Type}{E:XK}{R:List Addr->Hp->l->s->Prop}{ok:l->Bool}{μ:List Addr}{H:Hp}{n:Nat}{a:Addr}{q:List (Key × V)}{o:Out l}{Q:s->Hp->Prop}(hn:μ[n]?=some a)(y:H a=some (.dK q))
  (w:∀ (μ':List Addr) (c:Hp) (d:l) (g:s) (od:Obj) (vs:List (Key × V)),a∈μ'->c a=some (.qb od (.dK vs))->ok d=true->R μ' c d g->R μ' (upd c a (.dK vs)) d g) (h:Kb T E R μ H (HB ok n o) Q) :
  Kb T E R μ H o (λg c=>∃ od vs,c a=some (.qb od (.dK vs))/\Q g (upd c a (.dK vs))/\∃ μ' d,ok d=true/\R μ' c d g):=by
 cases o with
 |bad=>exact h
 |ex x k=>exact h.elim
 |ok d k=>
  unfold HB at h;dsimp only at h;by_cases Pb:ok d=true
  ·rw[ia Pb]at h;cases m:k[n]? with
   |none=>rw[m]at h;exact h.elim
   |some B=>
    rw[m]at h;cases B with
    |Kf A=>
     intro μ' g c ex r v;obtain⟨C,i,od,vs,j,p⟩:=r.obs n _ m;have e:=ex.get hn;rw[e]at i;cases i;have f:a∈μ':=La e;have u:∀ b,b≠a->upd c a (.dK vs) b=c b:=λb hb=>Ad hb;have t:∀ xs,c a≠some (.tup xs):=λxs z=>by rw[j]at z;cases z
     have g2:∀ o xs,c a≠some (.qb o (.lst xs)):=λo xs z=>by rw[j]at z;cases z
     exact⟨od,vs,j,h μ' g _ (w1 ex (La hn) y j) (r.chg u e t g2 ⟨vs,Jg,yD u f t g2 p⟩) (w μ' c d g od vs f j Pb v),μ',d,Pb,v⟩
    |_=>exact h.elim
  ·rw[ja Pb]at h;exact h.elim
theorem YD{μ':List Addr}{c:Hp}{a:Addr}{od:Obj}{vs:List (Key × V)}(e:a∈μ')(hz:c a=some (.qb od (.dK vs)))(d:D)(v:V)(h:Rep T μ' c d v):Rep T μ' (upd c a (.dK vs)) d v:=
 Rep.chg (λb hb=>Ad hb) e (λxs z=>by rw[hz]at z;cases z) (λo xs z=>by rw[hz]at z;cases z) d v h
theorem YA{s:Stmt}{f:Ev->M D}{g:Ev->M Fl}(h:FS T X s g):FS T X s (kt f g):=by
 intro p sh P H D I l;obtain⟨G,K,L,N,F,x⟩:=l;have plain:Kb T EN (zl T) G H (g K L) (ek X D)->wpAny (model X.prog X.w) X.A (exec s X.env) (SP X p D) X.xe sh:=λq=>h p sh P H D I ⟨G,K,L,N,F,q⟩;unfold kt eD at x;split at x
 ·rename_i n _ _
  split at x
  ·rename_i S Q
   obtain⟨a,hn,V,O,_⟩:=F.obs n _ Q;have E:∀ o u,X.H₀ a≠some (.qb o u):=λo u z=>by have:=I.base.nh a o u z;rw[O]at this;cases this
   have q:=VV hn O (λJ e d gl k c r j Pb m=>by
    cases d with
    |xc _ _=>cases Pb
    |nx C=>cases gl<;>first|exact m.elim|exact⟨m.1,λi d q=>let ⟨v,y,B⟩:=m.2 i d q;⟨v,y,YD r j _ _ B⟩⟩
    |bk C=>cases gl<;>first|exact m.elim|exact⟨m.1,λi d q=>let ⟨v,y,B⟩:=m.2 i d q;⟨v,y,YD r j _ _ B⟩⟩
    |ct C=>cases gl<;>first|exact m.elim|exact⟨m.1,λi d q=>let ⟨v,y,B⟩:=m.2 i d q;⟨v,y,YD r j _ _ B⟩⟩
    |rt W=>cases gl<;>first|exact m.elim|exact YD r j _ _ m) x
   refine Eb (h p sh P H ⟨λb e=>∃ k c,e a=some (.qb k (.dK c))/\D.nx b (upd e a (.dK c)),λv e=>∃ k c,e a=some (.qb k (.dK c))/\D.rt v (upd e a (.dK c)),λb e=>∃ k c,e a=some (.qb k (.dK c))/\D.bk b (upd e a (.dK c)),λb e=>∃ k c,e a=some (.qb k (.dK c))/\D.ct b (upd e a (.dK c))⟩ I ⟨G,K,L,N,F,q.imp λgl e z=>?_⟩) (λR Y z=>?_) λ_ _ z=>z
   ·obtain⟨k,c,j,l,J,d,Pb,m⟩:=z;cases gl with
    |nx b=>exact⟨k,c,j,l⟩
    |rt v=>exact⟨k,c,j,l⟩
    |bk b=>exact⟨k,c,j,l⟩
    |ct b=>exact⟨k,c,j,l⟩
    |xc b cls fd=>cases d<;>first|exact m.elim|cases Pb
   ·cases R with
    |next=>obtain⟨b,e,t,k,c,j,l⟩:=z;exact⟨b,_,t.Nw j E,l⟩
    |brk=>obtain⟨b,e,t,k,c,j,l⟩:=z;exact⟨b,_,t.Nw j E,l⟩
    |cont=>obtain⟨b,e,t,k,c,j,l⟩:=z;exact⟨b,_,t.Nw j E,l⟩
    |ret u=>obtain⟨v,b,e,t,U,k,c,j,l⟩:=z;exact⟨v,b,_,t.Nw j E,U,l⟩
  ·exact plain x
 ·exact plain x
end
end L4
namespace L4
open PySem PySem.Spec PyProof.Rows L2
noncomputable def sE(d:Addr)(od:Obj)(kvs:List (Key × V)):It:=
 ⟨λi H=>H d=some (.qb od (.dK kvs))/\∃ x,kvs[i]?=some x,λi H v a=>a=H/\∃ k x,v=kV k/\kvs[i]?=some (k,x),λi H=>H d=some (.qb od (.dK kvs))/\i=kvs.length⟩
theorem HX{P:ua}{w:Ea}{K:W.Frag}{tg:Ga}(d it:Addr)(od:Obj)(kvs:List (Key × V))(a0:d≠it){Y:Array ju}{ep:Nat}(l:od.data=.dict Y ep) :
  Turn P w K tg (sE d od kvs) [it] it (λi h=>h.IsKeyIter it d i kvs.length ep) where
 mem:=by simp
 obj:=λi h a b hb=>by
  obtain rfl:b=it:=by simpa using hb
  obtain⟨o,e,c,q⟩:=a;exact⟨o,e,λv z=>by rw[q]at z;cases z⟩
 keep:=λi h n a k=>a.at λo e=>k it (by simp) o e
 item:=by
  intro X G M F O i f s S H E I p a J;subst G M F;obtain⟨hd,⟨k,x⟩,R⟩:=J;obtain⟨vs,t,r,rel,g,hm⟩:=Yz I hd;rw[l]at g;cases g;obtain⟨u,hu,ru⟩:=OG rel i R;rw[rel.length]at a;obtain⟨y,A,Z,B,C,D⟩:=p it (by simp);refine wpAny_pyNext_dict_item a hm hu λN n j m L=>?_;have T:Inv X f S H { s with heap:=n }:=I.turned (t':=s.toks) (λb o hb e=>L.extBut b o hb e) y A B C D;obtain⟨o,e,c,q⟩:=id m;exact⟨N,rfl,eE (s:={ s with heap:=n }) e c q (by decide) ⟨kV k,H,T,rL j,⟨rfl,k,x,rfl,R⟩,by rw[rel.length];exact m,λb hb=>(p b hb).1⟩⟩
 done:=by
  intro X G M F O i f s S H E I p a J;subst G M F;obtain⟨hd,Q⟩:=J;obtain⟨vs,t,r,rel,g,hm⟩:=Yz I hd;rw[l]at g;cases g;rw[rel.length]at a Q;obtain⟨y,A,Z,B,C,D⟩:=p it (by simp);exact wpAny_pyNext_dict_end (I.ok.hd O) a hm (by rw[Q];simp) λn U=>⟨rfl,I.turned (t':=s.toks) (λb o hb e=>U b o hb e) y A B C D⟩
 self:=λ_ _ _ _ _ a h=>wpAny_pyIter_keyiter a h
noncomputable def Jy(a:List (Key × D)):NX:=λi _=>match a[i]? with
 |some p=>some (some (iA p.1))
 |none=>if i=a.length then some none else none
noncomputable def ID(d:D):M NX:=λb=>match d with
 | .ref n=>(match b[n]? with
  |some (.Na a)=>.ok (Jy a) (b.set n (.Kf a))
  |some (.Kf a)=>.ok (Jy a) b
  |_=>.bad)
 |_=>.bad
noncomputable def cE(f:Ev->M D):Ev->M NX:=λa=>Mc (f a) ID
section
variable{T:Tb}{X:Cx}{tg:Ga}
theorem KR{μ:List Addr}{H:Hp}{a:Addr}{od:Obj}{kvs:List (Key × V)}{e:List (Key × D)}(m:H a=some (.qb od (.dK kvs)))(n:Oh T μ H e kvs):lr T μ H (Jy e) (sE a od kvs):=by
 intro g h r i ex o;have j:h a=some (.qb od (.dK kvs)):=ex.qb _ _ _ m;have d:Oh T g h e kvs:=Oh.mono ex n;unfold Jy;cases l:e[i]? with
 |none=>
  dsimp only;by_cases f:i=e.length
  ·rw[ia f];exact⟨j,by rw[f];exact Paired.length d⟩
  ·rw[ja f];trivial
 |some p=>
  obtain⟨q,k,c,u⟩:=RD d i l;refine⟨⟨j,q,k⟩,λz s y=>?_⟩;obtain⟨rfl,t,v,rfl,b⟩:=y;rw[k]at b;cases b;dsimp only at c;exact⟨Ext.refl _ _,o,by rw[c];exact ZF _⟩
noncomputable def jW(e:TE):TI:=λf H R=>e f H λv c=>∃ a b,v=.ref a/\Rd c a (.dK b)/\∀ d,c a=some (.dK b)\/c a=some (.qb d (.dK b))->R (sE a d b) (upd c a (.qb d (.dK b)))
theorem X8{f:Ga}{n:TE}(w:PE X f n):PI X tg f (jW n):=by
 intro i s p H R I h;refine ae (w i s p H _ I h) λv s1 ⟨x,H1,j,B,A⟩=>?_;obtain⟨a,c,rfl,d,q⟩:=A;cases B;obtain⟨_,y,_⟩:=uv j.Pb d;obtain⟨g,m,k⟩:∃ g,(H1 a=some (.dK c)\/H1 a=some (.qb g (.dK c)))/\Inv X i p (upd H1 a (.qb g (.dK c))) s1:=by
  rcases d with d|⟨g,d⟩
  ·obtain⟨_,_,C,rel,o,u,t,e,_⟩:=j.Pb a _ d;exact⟨o,.inl d,j.freeze d e⟩
  ·exact⟨g,.inr d,by rw[Lz d];exact j⟩
 obtain⟨C,u,t,rel,r,hm⟩:=Yz k Jg;have l:a≠s1.heap.objs.size:=ra hm.lt_size;refine wpAny_pyIter_dict y hm ?_;refine⟨s1.heap.objs.size,[s1.heap.objs.size],_,sE a g c,_,rfl,k.kept (t':=s1.toks) (λb o e=>ba _ e),HX a _ g c l r,by rw[rel.length];exact⟨_,eF _ _ (λz=>by cases z),rfl,rfl⟩,λb hb=>?_,q g m⟩;obtain rfl:b=s1.heap.objs.size:=by simpa using hb
 exact k.Xo (pa _) (k.Pb.fresh (pa _))
theorem i5{e:Ga}{f:Ev->M D}(h:FE T X e f):Pw T X tg e (cE f):=by
 intro r s G H R I E;refine X8 h r s G H R I ?_;obtain⟨K,L,N,A,C,B⟩:=E;refine⟨K,L,N,A,C,B.bind λd y k v u _ O x F b=>?_⟩;unfold ID at b;cases d with
 |ref n=>
  dsimp only at b;cases t:y[n]? with
  |none=>rw[t]at b;exact b.elim
  |some o=>
   rw[t]at b;obtain⟨a,rfl,hn,p⟩:=x.at F t;cases o with
   |Na j=>
    obtain⟨vs,m,i⟩:=p;refine⟨a,vs,rfl,.inl m,λq _=>?_⟩;have l:Ext k u k (upd u a (.qb q (.dK vs))):=Mw (La hn) m (λ_ z=>by cases z) (λ_ _ z=>by cases z);have c:Oh T k (upd u a (.qb q (.dK vs))) j vs:=Oh.mono l i;have J:=x.write (o:=.qb q (.dK vs)) (ob:=.Kf j) hn ⟨q,vs,Jg,c⟩ (λP z=>by rw[t]at z;cases z);exact Kb.here (R:=lr T) (Kb.mono l b) J.2 (KR Jg c)
   |Kf j=>
    obtain⟨w,vs,m,i⟩:=p;refine⟨a,vs,rfl,.inr ⟨w,m⟩,λq g=>?_⟩;rcases g with g|g
    ·rw[m]at g;cases g
    ·rw[Lz g];exact Kb.here (R:=lr T) b x (KR g i)
   |_=>exact b.elim
 |_=>exact b.elim
end
noncomputable def MB(x y:D):M D:=λa=>match Ff a x,Ff a y with
 |some xs,some b=>if xs.length+b.length<=Mh then vy (xs++b) a else .bad
 |_,_=>.bad
section
variable{T:Tb}{X:Cx}
theorem E5:Ei X (He .Add) (rD T MB):=by
 intro b s z H v u B A Q I w t h;obtain⟨E,G,i,x,y,r,n,o,a⟩:=h;unfold MB at a;cases c:Ff i x with
 |none=>rw[c]at a;exact a.elim
 |some xs=>
  cases d:Ff i y with
  |none=>rw[c,d]at a;exact a.elim
  |some F=>
   rw[c,d]at a;dsimp only at a;by_cases e:xs.length+F.length<=Mh
   ·rw[ia e]at a;obtain⟨p,C,rfl,j,f⟩:=r.ls n c;obtain⟨q,D,rfl,k,g⟩:=r.ls o d;exact TQ b s z H _ _ B A Q I w t ⟨p,q,C,D,rfl,rfl,j,k,by rw[<-f.length,<-g.length];exact kx e,λl m=>lA a r (Ua.append f g) m⟩
   ·rw[ja e]at a;exact a.elim
theorem xw{a:List Stmt}:ap T X a Zt:=λpins s st H D I ⟨c,d,σ,_,_,b⟩=>b.elim
end
open Classical in
noncomputable def dR(μ μ' b:List Addr):Prop:=(∃ r,μ'=μ++r)/\(∀ (n:Nat) (a:Addr),μ[n]?=some a->b[n]?=some a)/\∀ a∈b,a∈μ'
section
variable{T:Tb}{μ μ' μ2:List Addr}{H H':Hp}{σ σ':Oa}
mutual
theorem kI.down(e:dR μ μ' μ2):∀ (d:D) (v0 v:V),Rep T μ H d v0->Rep T μ' H' d v->Rep T μ2 H' d v
 | .Yb,v0,v,_,h=>by simpa [Rep]using h
 | .bl b,v0,v,_,h=>by simpa [Rep]using h
 | .int i,v0,v,_,h=>by simpa [Rep]using h
 | .str x,v0,v,_,h=>by simpa [Rep]using h
 | .tup ds,v0,v,c,h=>by
  rw[Rep]at h c ⊢;obtain⟨p,m,g,f,j⟩:=h;obtain⟨I,l,_,_,w⟩:=c;exact⟨p,m,g,f,jq.down e ds l m w j⟩
 | .cg ns,v0,v,_,h=>by rw[Rep]at h ⊢;exact h
 | .ref n,v0,v,c,h=>by
  rw[Rep]at h c ⊢;obtain⟨a,g,f⟩:=h;obtain⟨b,_,t⟩:=c;refine⟨a,g,?_⟩;have j:=e.2.1 _ _ t;obtain⟨⟨r,rfl⟩,_⟩:=e;rw[Xa (ka.mp t).1]at f;rw[t]at f;cases f;exact j
 | .lst ds,v0,v,c,h=>by
  rw[Rep]at h c ⊢;obtain⟨a,m,g,f,j,o⟩:=h;obtain⟨_,l,_,_,_,s⟩:=c;exact⟨a,m,g,λz=>f (e.2.2 _ z),j,jq.down e ds l m s o⟩
 | .Na G ds,v0,v,c,h=>by
  rw[Rep]at h c ⊢;obtain⟨a,m,g,f,j,u,o⟩:=h;obtain⟨_,l,_,_,_,_,s⟩:=c;exact⟨a,m,g,λz=>f (e.2.2 _ z),j,u,jq.down e ds _ _ s o⟩
 | .obj k ns ds,v0,v,c,h=>by
  rw[Rep]at h c ⊢;obtain⟨a,B,m,g,f,j,u,o⟩:=h;obtain⟨_,_,l,_,_,_,_,s⟩:=c;exact⟨a,B,m,g,λz=>f (e.2.2 _ z),j,u,jq.down e ds _ _ s o⟩
 | .Wo k,v0,v,_,h=>by
  rw[Rep]at h ⊢;obtain⟨a,A,g,f,j,o⟩:=h;exact⟨a,A,g,λz=>f (e.2.2 _ z),j,λn q=>let ⟨y,C,E,F⟩:=o n q;⟨y,C,λz=>E (e.2.2 _ z),F⟩⟩
 | .gt ss,v0,v,_,h=>by rw[Rep]at h ⊢;exact h
theorem jq.down(e:dR μ μ' μ2):∀ (ds:List D) (a vs:List V),Ua T μ H ds a->Ua T μ' H' ds vs->Ua T μ2 H' ds vs
 |[],a,vs,_,h=>by simpa [Ua]using h
 |d::ds,a,vs,c,h=>by
  rw[Ua]at h c ⊢;obtain⟨v,r,g,i,j⟩:=h;obtain⟨l,k,_,b,f⟩:=c;exact⟨v,r,g,kI.down e d l v b i,jq.down e ds k r f j⟩
end
end
end L4
namespace L4
open PySem PySem.Spec PyProof.Rows L2
section
variable{P:ua}{w:Ea}{K:W.Frag}{mg:qa->Option Value}{base:Heap}{T:Tb}
end
section
variable{T:Tb}{X:Cx}
end
section
variable{T:Tb}{X:Cx}{tg:Ga}
end
section
variable{T:Tb}{X:Cx}
end
noncomputable def GE(dds ds:List D):M (List D):=ret (ds++dds)
noncomputable def qw(dds:List D)(fs:Ev->M (List D)):Ev->M (List D):=λa=>Mc (fs a) (GE dds)
section
variable{T:Tb}{X:Cx}
theorem DX{k c:Nat}{ps:List qa}{a:List Value}{dvs:List V}{dds:List D}{fn:List D->M D}{x:qa}{p b:Se}{e:Ga}{g:List Ga}{fs:Ev->M (List D)}{f:Addr}{C:Yd}(hm:X.mg x=some (.ref (T.ca c)))(l:Mk T.K (T.ca c) f)(hb:pr T.K C ps a)
  (E:mh X.prog X.w T.K X.mg X.base (Wl X.prog X.w) k f C ps (ip T ps.length fn)) (U:Pd dvs a) (n:∀ μ H,Ua T μ H dds dvs) (J:T.K=X.K) (S:Xd (k+1) X.A) (O:Gl X x)
  (L:FA T X (e::g) fs) (m:(x == ("__debug__" : qa))=false:=by decide) (N:ma (e::g) X.env=(false,Nb e X.env)::ma g X.env:=by rfl) (t:(kc b (ma g X.env)).any (·.1)=false:=by rfl) :
  FE T X (.Call (.Name x p) (e::g) [] b) (Iq c ps.length fn (qw dds fs)):=by
 rw[J]at l E hb;intro h s y H Q I R;obtain⟨μ,i,σ,G,u,P⟩:=R;have o:Kb T (XE X y) (Rep T) μ H (Mc (fs i) (λds=>Fq c ps.length fn (ds++dds)) σ) Q:=by
  have:Iq c ps.length fn (qw dds fs) i σ=Mc (fs i) (λds=>Fq c ps.length fn (ds++dds)) σ:=by
   unfold Iq qw GE Mc;cases fs i σ<;>rfl
  rw[<-this];exact P
 refine jf (Kz I O hm ?_ m);refine on (h₀:=X.base) I.ok.mod.Dx l.kp (ae (L b h s y H (λz d=>∀ x j,d x=none->d j=none->j≠x->ip T ps.length fn (.ref x::(z++dvs)) (upd (upd d j (.own x)) x (.ins (T.ca c) j [])) (λv F=>v=.Yb/\Q (.ref x) F) (XE X y)) I ⟨μ,i,σ,G,u,o.bind λds a1 a0 z d _ e1 r1 Y Z=>?_⟩) λus s1 ⟨z,d,B,r,q⟩=>⟨B.Uj,?_⟩) N t
 ·have:=JP r1 (Ua.append Y (n _ _)) Z;rw[Vf]at this;exact this
 ·exact qR (ds:=a) (dvs:=dvs) l E S hb U B r q
theorem dE{k c:Nat}{ps:List qa}{l a:List Value}{dvs:List V}{dds:List D}{fn:List D->M D}{x:qa}{p d:Se}{e:Ga}{b:List Ga}{fs:Ev->M (List D)}{f:Addr}(hm:X.mg x=some (.ref (T.ca c)))(o:Mk T.K (T.ca c) f)(h:Tv T X.prog X.w X.mg X.base k f ps l fn)(hd:a=[]\/a=l)(v:Pd dvs a)(i:∀ μ H,Ua T μ H dds dvs)(n:T.K=X.K)(u:Xd (k+1) X.A)(t:Gl X x)
  (q:FA T X (e::b) fs) (g:(x == ("__debug__" : qa))=false:=by decide) (s:ma (e::b) X.env=(false,Nb e X.env)::ma b X.env:=by rfl) (j:(kc d (ma b X.env)).any (·.1)=false:=by rfl) :
  FE T X (.Call (.Name x p) (e::b) [] d) (Iq c ps.length fn (qw dds fs)):=by
 obtain⟨y,hb,r,m⟩:=h;exact DX hm o (by rcases hd with rfl|rfl<;>assumption) m v i n u t q g s j
end
structure iC(P:ua)(w:Ea)(K:W.Frag)(mg:qa->Option Value)(base:Heap)(k:Nat)(f:Addr)(fd:Yd)(ps:List qa)(sp:Sp):Prop where
 len:∀ vs H Q E,sp vs H Q E->vs.length=ps.length
 run:∀ (A:Da) (outer:List Og) (s:Shared) (H:Hp) (args:Args) (us:List Value) (vs:List V) (Q:VK) (E:XK),Xd k { A with handled:=none }->Nl P w K mg base A outer s H->Zf s fd args (ps.zip us)->Pd vs us->sp vs H Q E->
  codeAny (model P w) A (.call (.ref f) args) (CR (Wl P w) outer P w H s Q E) s
section
variable{P:ua}{w:Ea}{K:W.Frag}{mg:qa->Option Value}{base:Heap}{ca:Nat->Addr}{tx:Tx}{T:Tb}{k:Nat}{f:Addr}{ps:List qa}
noncomputable def yH(T:Tb)(P:ua)(w:Ea)(mg:qa->Option Value)(base:Heap)(k:Nat)(x:qa)(ps:List qa)(fn:List D->M D):Prop:=
 ∃ f b,mg x=some (.ref f)/\W.keepIn T.K (.ref f)=true/\(∀ a:List Value,a.length=ps.length->bindArgs b ⟨a,[]⟩=pure (ps.zip a))/\iC P w T.K mg base k f b ps (ip T ps.length fn)
theorem yH.hide{k:Nat}{x:qa}{ps:List qa}{fn:List D->M D}(h:yH T P w mg base k x ps fn):yH T P w mg base k x ps (L4.hide fn):=by rw[Mp];exact h
end
section
variable{T:Tb}{X:Cx}
open Classical in
open Classical in
end
section
variable{T:Tb}{X:Cx}
open Classical in
theorem LW{c:List Addr}{f:Hp}{src:Src}{J:It}(h:tw T c f src J):lr T c f src.nx J:=λk H g i ex r=>by
 have q:=h k H g i ex r;cases e:src.nx i g with
 |none=>trivial
 |some o=>
  rw[e]at q;cases o with
  |none=>exact q
  |some d=>exact⟨q.1,λx j y=>let ⟨a,b⟩:=q.2 x j y;by subst a;exact⟨Ext.refl _ _,r,b⟩⟩
noncomputable def uH(s:Src):M NX:=ret s.nx
noncomputable def toN(f:Ev->M Src):Ev->M NX:=λa=>Mc (f a) uH
theorem Yr{tg a:Ga}{f:Ev->M Src}(h:FI T X tg a f):Pw T X tg a (toN f):=by
 intro b s l H R I g;obtain⟨m,o,p,c,e,d⟩:=g;exact h b s l H R I ⟨m,o,p,c,e,d.bind λsrc q n J r _ t k j i=>Kb.here i k (LW j)⟩
theorem YE{B j u:Ga}{G:List Ga}{scope:Scope}{P K py:Se}{x y z0:qa}{i:Nat}{M':List qa}{ix:List Nat}{src:Ev->M NX}{tg:D->Ev->Option Ev}{fi:Ev->M Bool}{fe:Ev->M D}
  (hN:X.N.Nodup) (hi:X.N[i]?=some y) (hx:Loc X.env.scope y)
  (hc:X.calm=true) (L:Qm X x M' ix scope) (Z:Pw T X u j src)
  (b6:∀ cl C s₀ H₀ ex,FG T (Kt X (x::z0::M') scope cl C s₀ H₀ ex) u tg)
  (a9:∀ cl C s₀ H₀ ex,XA T (Kt X (x::z0::M') scope cl C s₀ H₀ ex) G fi)
  (W:∀ cl C s₀ H₀ ex,FE T (Kt X (x::z0::M') scope cl C s₀ H₀ ex) B fe)
  (hs:∀ y,Qg j X.env y=pure y:=by intro _;rfl)
  (b4:xj (.ListComp B [⟨u,j,G,0⟩] scope P) (some (.Name y py)) K.line X.env=pure true:=by rfl)
  (hf:X.fn y=true\/X.env.scope.names.lookup y=some .local:=by first|exact .inl rfl|exact .inr rfl|assumption) :
  FS T X (.Assign [.Name y py] (.ListComp B [⟨u,j,G,0⟩] scope P) K) (Vg i (Rj src ix tg fi fe)):=by
 intro t s R H D I h;obtain⟨μ,ρ,σ,hE,hr,b2⟩:=h;have hp:Kb T (XE X R) (Rep T) μ H (Rj src ix tg fi fe ρ σ) (λv U=>D.nx (R.set i (some v)) U):=b2.xs hE λd a5 a4 v U _ e1 r1 q1 p1=>Kb.here (g:=sm.nx (R.set i (some v))) p1 r1 ((hE.mono e1).set i q1);rw[exec_Assign_Name_used _ _ _ _ b4];refine aa (wt (aa ?_));show wpAny _ X.A (do let _ <-comprehension (.ListComp B [⟨u,j,G,0⟩] scope P) scope X.env _ (O9 []) false (Nb j X.env) (some (ml (.Name y py) X.env))) _ _ s;refine aa (Eb (Ct (use:=some (ml (.Name y py) X.env)) (Q:=λ_ s'=>SP X t D .next s') rfl hs (NG X.env scope (cy I L)) L.kind (λy hy e=>?_)
  ?_) (λ_ s' hq=>da (da hq)) λ_ _ e=>e)
 ·have q:=Zb.mp L.names y hy;rw[e]at q;simp only[Sq,di,Kg]at q;exact eq_of_beq q
 have h1:=Z t s R H (λJ w=>∃ nx k l,Ext μ H k w/\Rel T k w l/\lr T k w nx J/\Kb T (XE X R) (Rep T) k w (Mc (ij nx l.length tg fi fe 1001 0 (Hu ix ρ)) (λ_=>ret (.ref l.length)) (l++[Ob.lst []])) (λv U=>D.nx (R.set i (some v)) U)) I
  ⟨μ,ρ,σ,hE,hr,hp.bind λnx a5 a4 J U _ e1 r1 q1 p1=>⟨nx,a4,a5,e1,r1,q1,p1⟩⟩
 refine ae h1 λv s1 h2=>ae h2 λb9 f h3=>?_;obtain⟨it,fp,tn,J,w,rfl,I2,TT,a3,f2,nx,k,l,a6,r2,so,p2⟩:=h3;refine Sb (ll (xB L) (by intro y hy;simp at hy) (λa0 E F=>?_) L.kind);have S:=I2.Oy (ys:=[]) (its:=[]) (t':=f.toks) .nil (by simp);have V:w f.heap.objs.size=none:=I2.Pb.fresh (pa _);have r3:=r2.push (p:=f.heap.objs.size) (o:=.lst []) (ob:=.lst []) V ⟨[],Jg,Ua.nil⟩;have O:Ext k w (k++[f.heap.objs.size]) (upd w f.heap.objs.size (.lst [])):=uy V;have b5:f.heap.objs.size<(f.heap.push { cls:=.type "list",data:=.seq ([]:List Value).toArray }).objs.size:=by rw[rc];exact zb _
 have kp:∀ b o,(f.heap.push { cls:=.type "list",data:=.seq ([]:List Value).toArray }).get? b=some o->a0.get? b=some o:=λb o e=>F.extBut b o (ra (la e)) (ba _ e);have m:∀ b∈fp,Yl X t (upd w f.heap.objs.size (.lst [])) b/\b<(f.heap.push { cls:=.type "list",data:=.seq ([]:List Value).toArray }).objs.size:=λb hb=>by
  obtain⟨o,e,_⟩:=TT.obj 0 _ a3 b hb;have lt:=la e;exact⟨⟨by rw[Ad (ra lt)];exact(f2 b hb).1,(f2 b hb).2⟩,Kr lt b5⟩
 refine ZQ (s3:={ f with heap:=f.heap.push { cls:=.type "list",data:=.seq ([]:List Value).toArray },toks:=f.toks }) (n:=l.length) (D0:=f.heap.objs.size) hc L b6 a9 W S m E kp TT (TT.keep 0 _ _ a3 λb hb o e=>kp b o (ba _ e))
  (λμ H σ i ex r=>so μ H σ i (O.trans ex) r) ((hE.mono a6).mono O) r3 (by rw[<-r2.len];simp) (p2.mono O) (λs6 H' m6 b0 a7 b7 b1 Y a8 hq=>?_)
 have I6:=L2.Inv.Du (s':=s6) (ch:=fp) S b1 b7 Y a8 (λb hb=>⟨(m b hb).1.2.2.2.1,(m b hb).1.2.1,(m b hb).1.2.2.2.2.1,(m b hb).1.2.2.2.2.2⟩);have a2:X.env.locals<(f.heap.push { cls:=.type "list",data:=.seq ([]:List Value).toArray }).objs.size:=S.lt;have a1:∀ z c,X.env.cells.lookup z=some c->c<(f.heap.push { cls:=.type "list",data:=.seq ([]:List Value).toArray }).objs.size:=λz c e=>by
  obtain⟨v,q⟩:=S.cell z c e;exact q.lt
 show wpAny _ X.A (ml (.Name y py) X.env (.ref f.heap.objs.size)) _ _ s6;refine nA (PK (v:=.ref f.heap.objs.size) I6 hN hi hx rfl (λs7 I7 ⟨a,sb,ha⟩=>?_) hf);have b8:a≠(f.heap.push { cls:=.type "list",data:=.seq ([]:List Value).toArray }).objs.size:=by
  rcases ha with rfl|ha
  ·exact ra a2
  ·exact ra (a1 _ _ ha)
 refine⟨m6,b0.sameBut sb (Me b8),λh8 b3=>?_⟩;refine⟨R.set i (some (.ref f.heap.objs.size)),H',?_,hq⟩;exact I7.turned (t':=s7.toks) (it:=(f.heap.push { cls:=.type "list",data:=.seq ([]:List Value).toArray }).objs.size) (λb o hb e=>(b3.2 b hb).trans e) a7 (Ud a2) (.inr (Ya S.sz (pa _))) (λz c e=>ra (a1 z c e)) (λp hp=>ra (la (S.pin p hp).1))
end
end L4
set_option maxHeartbeats 0
namespace K41
open PySem PySem.Spec PyProof.Rows L2 L4
noncomputable def top(i:Nat):Stmt:=PySem.Challenge.pw_sidebook_k41_a_keeping_hand_begins.main.body.getD i (.Pass ⟨0,0,0,0⟩)
noncomputable def uD(K:W.Frag):Tab:=⟨Kx K "paper",238,27, "paper.<locals>.<lambda>"⟩
noncomputable def tx(K:W.Frag):Tx:=⟨[uD K],ew K⟩
theorem pN(K:W.Frag):uD K∈(tx K).Im:=(.head _)
theorem vV(K:W.Frag):∀ t∈(tx K).Im,∃ x∈[("paper" : qa)],t.P=Kx K x:=by
 intro t a;have h:t∈[uD K]:=a;simp only[Fa,Dc,Qh]at h;rcases h with rfl
 ·exact⟨"paper",by simp,rfl⟩
structure Txt(K:W.Frag)(mg:qa->Option Value)(ca:Nat->Addr):Prop where
 gb:Df K mg "_law_cell_at" (top 95) ["_law_script", "_law_k"]
 Nf:Df K mg "_law_pots" (top 96) ["_law_script"]
 ug:Df K mg "is_whole" (top 8) ["thing"]
 Lb:Df K mg "is_between" (top 9) ["thing", "least", "most"]
 vf:Df K mg "check_span" (top 75) ["hand", "every", "pots"]
 ec:jd K (ca 9) "learn" "Keeper.learn" (Ge (top 79) 2) ["self", "words"] (ca 25)
 Jd:jd K (ca 9) "hold" "Keeper.hold" (Ge (top 79) 1) ["self", "account", "claim", "seen"] (ca 24)
 vg:Df K mg "are_ties" (top 29) ["thing"]
 tf:Df K mg "are_shares" (top 28) ["thing"]
 Mf:Df K mg "is_number" (top 14) ["thing"]
 rg:Df K mg "is_stand" (top 30) ["thing"]
 Xi:cD K mg "stand" (top 31) ["number", "shares", "ties"] [.none]
 cj:Df K mg "first" (top 32) ["left", "right"]
 ar:jd K (ca 5) "__init__" "Account.__init__" (Ge (top 47) 0) ["self", "pot", "side", "mine", "grant", "may", "strikes"] (ca 15)
 ce:Df K mg "first_account" (top 50) ["pot", "side", "left", "right"]
 Zl:rs K (ca 9) "__init__" "Keeper.__init__" (Ge (top 79) 0) ["self", "hand", "every", "pots", "words"] [.none] (ca 23)
 Ae:Df K mg "_law_refused" (top 97) ["_law_hand", "_law_every", "_law_pots_here"]
 Pa:jd K (ca 9) "words" "Keeper.words" (Ge (top 79) 3) ["self"] (ca 26)
 lb:jd K (ca 9) "account" "Keeper.account" (Ge (top 79) 6) ["self", "pot"] (ca 29)
 me:Df K mg "_law_no_pot" (top 98) ["_law_keeper", "_law_pot"]
 ge:jd K (ca 6) "word" "Calm.word" (Ge (top 48) 0) ["self"] (ca 18)
 Ce:jd K (ca 7) "word" "Waiting.word" (Ge (top 49) 0) ["self"] (ca 20)
 yc:Df K mg "_law_account_right" (top 99) ["_law_account", "_law_pot", "_law_side", "_law_coins"]
 qc:jd K (ca 14) "next_day" "Book.next_day" (Ge (top 93) 3) ["self"] (ca 63)
 vc:jd K (ca 14) "check_pot" "Book.check_pot" (Ge (top 93) 1) ["self", "pot"] (ca 61)
 eh:Df K mg "is_word" (top 12) ["thing"]
 ee:jd K (ca 14) "show" "Book.show" (Ge (top 93) 4) ["self", "pot", "word"] (ca 64)
 Ed:jd K (ca 14) "today" "Book.today" (Ge (top 93) 2) ["self"] (ca 62)
 ic:jd K (ca 14) "all_shown" "Book.all_shown" (Ge (top 93) 13) ["self"] (ca 73)
 dc:jd K (ca 14) "made_of" "Book.made_of" (Ge (top 93) 14) ["self"] (ca 74)
 Xb:jd K (ca 9) "strike_all" "Keeper.strike_all" (Ge (top 79) 20) ["self", "book"] (ca 43)
 lc:jd K (ca 9) "show_all" "Keeper.show_all" (Ge (top 79) 22) ["self", "book"] (ca 45)
 Ac:jd K (ca 9) "lay_all" "Keeper.lay_all" (Ge (top 79) 23) ["self", "book"] (ca 46)
 Gd:jd K (ca 9) "look" "Keeper.look" (Ge (top 79) 19) ["self", "book"] (ca 42)
 Ub:jd K (ca 9) "looked" "Keeper.looked" (Ge (top 79) 4) ["self"] (ca 27)
 Le:Df K mg "read_stand" (top 57) ["view", "pot", "one"]
 Of:Df K mg "read_pots" (top 58) ["view"]
 ke:Df K mg "all_choices" (top 59) ["readings"]
 Be:Df K mg "lots_by_word" (top 61) ["reads"]
 Rh:Df K mg "sum_of" (top 66) ["reads", "by_word", "fates", "every"]
 je:Df K mg "least_paper" (top 67) ["reads", "chosen", "every"]
 Jc:Df K mg "chosen_readings" (top 60) ["readings", "chosen"]
 oi:fJ K mg "paper" (top 68) ["view"]
 dj:Df K mg "worth" (top 70) ["view"]
 Te:Df K mg "stands_told" (top 76) ["account", "claim"]
 Xq:jd K (ca 8) "__init__" "View.__init__" (Ge (top 53) 0) ["self", "every", "look", "words", "pots"] (ca 22)
 wc:jd K (ca 9) "view_by" "Keeper.view_by" (Ge (top 79) 7) ["self", "accounts"] (ca 30)
 Fc:jd K (ca 9) "view" "Keeper.view" (Ge (top 79) 8) ["self"] (ca 31)
 Vb:jd K (ca 9) "worth" "Keeper.worth" (Ge (top 79) 9) ["self"] (ca 32)
 uf:Df K mg "_law_looks" (top 100) ["_law_keeper", "_law_book", "_law_words"]
 wg:Df K mg "is_hand" (top 11) ["thing"]
 Ue:Df K mg "makes_a_pot" (top 88) ["thing"]
 ze:Df K mg "checked_pots" (top 89) ["pots"]
 Po:jd K (ca 10) "__init__" "Claim.__init__" (Ge (top 81) 0) ["self", "whole"] (ca 47)
 gf:Df K mg "whole_of" (top 90) ["made"]
 mr:jd K (ca 14) "__init__" "Book.__init__" (Ge (top 93) 0) ["self", "pots"] (ca 60)
 Ic:jd K (ca 9) "given" "Keeper.given" (Ge (top 79) 5) ["self"] (ca 28)
 Gc:jd K (ca 9) "paper" "Keeper.paper" (Ge (top 79) 10) ["self"] (ca 33)
 Km:Df K mg "law" (top 101) ["_law_script"]
 kh:mg "worth_worth" = mg "worth"
 dg:mg "paper_worth" = mg "paper"
 Uu:mg "all" = none
 Zq:mg "bool" = none
 sr:mg "dict" = none
 zh:mg "enumerate" = none
 kq:mg "int" = none
 gd:mg "isinstance" = none
 ui:mg "len" = none
 mi:mg "list" = none
 Lu:mg "min" = none
 aj:mg "range" = none
 Do:mg "set" = none
 lh:mg "sorted" = none
 Wr:mg "sum" = none
 bj:mg "tuple" = none
 xu:mg "zip" = none
 ur:xD K mg "HELD" ["held"]
 Lf:∃ t,mg "MOST_COIN" = some (.int 1000000000000 t)
 Zg:∃ t,mg "MOST_EVERY" = some (.int 50 t)
 Dh:∃ t,mg "MOST_HAND" = some (.int 3 t)
 zg:∃ t,mg "MOST_NUMBER" = some (.int 1000000 t)
 ki:∃ t,mg "MOST_POT" = some (.int 2 t)
 rf:∃ t,mg "MOST_SHARE" = some (.int 2000000000000 t)
 Ah:∃ t,mg "MOST_TIES" = some (.int 6 t)
 Eh:∃ t,mg "MOST_WAIT" = some (.int 100 t)
 Ch:∃ t,mg "MOST_WORD" = some (.int 59 t)
 dq:mg "BookError" = some (.ref (ca 0))
 jx:W.excIn K (ca 0) px "ValueError.__new__" = true
 Ps:mg "NoStand" = some (.ref (ca 1))
 ut:W.excIn K (ca 1) px "ValueError.__new__" = true
 Pi:mg "NoDeed" = some (.ref (ca 2))
 Ym:W.excIn K (ca 2) px "ValueError.__new__" = true
 gn:mg "NoSpan" = some (.ref (ca 4))
 gq:W.excIn K (ca 4) px "ValueError.__new__" = true
 Lj:W.exmOne K (.ref (ca 0)) (.ref (ca 2))=some false
 Ej:W.exmOne K (.ref (ca 0)) (.ref (ca 4))=some false
 Pl:W.exmOne K (.ref (ca 2)) (.ref (ca 2))=some true
 fm:W.exmOne K (.ref (ca 2)) (.ref (ca 4))=some false
 gm:W.exmOne K (.ref (ca 4)) (.ref (ca 2))=some false
 Il:W.exmOne K (.ref (ca 4)) (.ref (ca 4))=some true
 Jk:W.exmOne K (.ref (ca 1)) (.ref (ca 2))=some false
 Lk:W.exmOne K (.ref (ca 1)) (.ref (ca 4))=some false
 yo:L4.xq K (ca 4)
 Bo:L4.xq K (ca 2)
 Jm:L4.xq K (ca 1)
 fk:L4.xq K (ca 0)
 Di:W.kitOne K (.ref (ca 0)) (.ref (ca 0))=some true
 Ij:W.kitOne K (.ref (ca 0)) (.ref (ca 2))=some false
 Jj:W.kitOne K (.ref (ca 2)) (.ref (ca 0))=some true
 am:W.kitOne K (.ref (ca 2)) (.ref (ca 2))=some true
 Cj:W.kitOne K (.ref (ca 4)) (.ref (ca 0))=some true
 Ul:W.kitOne K (.ref (ca 4)) (.ref (ca 2))=some false
 mj:W.kitOne K (.ref (ca 1)) (.ref (ca 0))=some true
 Vk:W.kitOne K (.ref (ca 1)) (.ref (ca 2))=some false
 Fb:L2.Zi K (ca 9)
 Hm:L2.Qd K (ca 9) "hand"
 km:L2.Qd K (ca 9) "every"
 um:L2.Zi K (ca 8)
 Pn:L2.Qd K (ca 8) "every"
 sj:L2.Qd K (ca 9) "last_look"
 ck:L2.Qd K (ca 8) "last_look"
 Rm:L2.Qd K (ca 9) "gave"
 dm:L2.Qd K (ca 9) "known"
 ao:L2.Qd K (ca 8) "known"
 Bj:L2.Qd K (ca 9) "accounts"
 Bg:L2.Zi K (ca 14)
 Fm:L2.Qd K (ca 14) "claims"
 Uk:L2.Qd K (ca 9) "claims"
 ln:L2.Qd K (ca 9) "seen"
 im:L2.Qd K (ca 9) "asked"
 oj:L2.Qd K (ca 9) "finishing"
 Rl:L2.Od K (ca 9) "learn" (ca 25)
 Hf:L2.Zi K (ca 7)
 jn:L2.Qd K (ca 7) "pot"
 ni:L2.Zi K (ca 6)
 lq:L2.Qd K (ca 6) "pot"
 sg:L2.Zi K (ca 5)
 Zm:L2.Qd K (ca 5) "pot"
 cn:L2.Od K (ca 9) "hold" (ca 24)
 wq:L2.Zi K (ca 13)
 Vn:L2.Qd K (ca 13) "side"
 Lo:L2.Zi K (ca 12)
 xp:L2.Qd K (ca 12) "side"
 Xl:L2.Qd K (ca 7) "side"
 So:L2.Qd K (ca 6) "side"
 lm:L2.Qd K (ca 5) "side"
 Jl:L2.Qd K (ca 7) "mine"
 Yo:L2.Qd K (ca 6) "mine"
 cm:L2.Qd K (ca 5) "mine"
 Sk:L2.Qd K (ca 7) "grant"
 bo:L2.Qd K (ca 6) "grant"
 Rk:L2.Qd K (ca 5) "grant"
 Pm:L2.Qd K (ca 7) "may"
 vq:L2.Qd K (ca 6) "may"
 Vm:L2.Qd K (ca 5) "may"
 Mj:L2.Qd K (ca 7) "strikes"
 Ll:L2.Qd K (ca 6) "strikes"
 Gj:L2.Qd K (ca 5) "strikes"
 xy:mg "Calm" = some (.ref (ca 6))
 pw:L2.Mk K (ca 6) (ca 15)
 jk:mg "Keeper" = some (.ref (ca 9))
 fj:L2.Mk K (ca 9) (ca 23)
 Hl:L2.Od K (ca 9) "words" (ca 26)
 wk:L2.Od K (ca 9) "account" (ca 29)
 Tl:L2.Od K (ca 7) "word" (ca 20)
 yp:L2.Od K (ca 6) "word" (ca 18)
 pq:L2.Qd K (ca 14) "day"
 tq:L2.Qd K (ca 12) "day"
 Pk:L2.Od K (ca 14) "next_day" (ca 63)
 jp:L2.Qd K (ca 14) "pots"
 Ro:L2.Qd K (ca 8) "pots"
 dk:L2.Od K (ca 14) "check_pot" (ca 61)
 Jn:L2.Qd K (ca 14) "shown"
 pp:L2.Od K (ca 14) "show" (ca 64)
 Qn:L2.Od K (ca 14) "today" (ca 62)
 rk:L2.Od K (ca 14) "all_shown" (ca 73)
 Ol:L2.Od K (ca 14) "made_of" (ca 74)
 Qi:L2.Od K (ca 9) "strike_all" (ca 43)
 Hj:L2.Od K (ca 9) "show_all" (ca 45)
 pk:L2.Od K (ca 9) "lay_all" (ca 46)
 Um:L2.Od K (ca 9) "look" (ca 42)
 Xk:L2.Od K (ca 9) "looked" (ca 27)
 Vy:mg "View" = some (.ref (ca 8))
 Bw:L2.Mk K (ca 8) (ca 22)
 qk:L2.Od K (ca 9) "view_by" (ca 30)
 bn:L2.Od K (ca 9) "view" (ca 31)
 jm:L2.Od K (ca 9) "worth" (ca 32)
 Xm:L2.Qd K (ca 13) "whole"
 Kn:L2.Qd K (ca 12) "whole"
 cw:L2.Zi K (ca 11)
 Yn:L2.Qd K (ca 11) "whole"
 ou:L2.Zi K (ca 10)
 Om:L2.Qd K (ca 10) "whole"
 zy:mg "Held" = some (.ref (ca 11))
 fw:L2.Mk K (ca 11) (ca 47)
 By:mg "Book" = some (.ref (ca 14))
 iw:L2.Mk K (ca 14) (ca 60)
 Kl:L2.Od K (ca 9) "given" (ca 28)
 Sl:L2.Od K (ca 9) "paper" (ca 33)
 tb:Cw K ["paper"]
 B6:mg "__builtins__" = some (.ref (ew K))
 WI:∀ t∈(tx K).Im,∀ t'∈(tx K).Im,t'.P=t.P->t'=t
seal L2.PE L2.PS L2.ts L2.PT L2.PW L2.PA L2.PI L2.PG
section
variable{P:ua}{w:Ea}{K:W.Frag}{mg:qa->Option Value}{base:Heap}{ca:Nat->Addr}
theorem fg{N P:List qa}{sc:Scope}(a:sc.kind=.function)(b:sc.isCoroutine=false)(c:sc.isGenerator=false)(h:N.Nodup/\N.take P.length=P/\(∀ x∈P,sc.names.lookup x=some .local\/sc.names.lookup x=some .cell)/\∀ y∈sc.names,y.2≠.free):Ba N P sc:=⟨a,b,c,h.1,h.2.1,h.2.2.1,h.2.2.2⟩
noncomputable abbrev BD(x q:qa)(s:Stmt)(ps:List qa):Prop:=∀ (kV b c:Value) (an:Option Addr) (a ct:Value) (us:List Value),us.length=ps.length->bindArgs (W.fnOf x q (Ln s) (Kj s) (qd s) .none kV b c an a ct) ⟨us,[]⟩=pure (ps.zip us)
noncomputable abbrev MP:Stmt:=top 95
noncomputable def xN:Ev->M Fl:=
 (Ec (rl (eT (Hb oLt (wa 1) (Ii Vo (Ta (wa 0) xb)))) (Jf (Hb Ld (wa 0) (wa 1))) wl) (Jf (eC (.int 0))))
noncomputable def gb:List D->M D:=hide λa=>qb (run 2 xN a)
theorem QW:Ba ["_law_script", "_law_k"] ["_law_script", "_law_k"] (qd MP):=fg rfl rfl rfl (by decide +kernel)
theorem O2:BD "_law_cell_at" "_law_cell_at" MP ["_law_script", "_law_k"]:=
 λ_ _ _ _ _ _ b a=>match b,a with|[_,_],_=>rfl
theorem Hx(a:Txt K mg ca):ud ⟨K,ca,tx K⟩ P w mg base 1 "_law_cell_at" ["_law_script", "_law_k"] gb:=
 ud.hide (ud.qb (sk a.gb QW λ_ _ _ _ _ _ _ b=>
  (Vc (Am (Tj qF SD (za 1) (As Fw (ow rfl) rfl a.ui sd (jb (za 0) gc)) (Hh _)) (Fd (Rf (Xg Yg (ah rfl) (za 0) (za 1) (λ_ _=>rfl)))) wm)
  (Fd (Rf Sc)))))
noncomputable abbrev GP:Stmt:=top 96
noncomputable abbrev sF:Ev->M Fl:=(Ec (Vg 3 (Sf 2 gb [] (Ta (wa 0) (Ta (Hb zj (eC (.int 4)) (Hb jA (eC (.int 3)) (wa 2))) xb)))) (Ec (Vg 4 (Hb Jq (wa 3) (eC (.int 4)))) (Ec (Vg 5 (Hb Jq (Hb zj (Hb zj (wa 4) (eC (.int 1))) (Hb Jq (Hb bF (wa 3) (eC (.int 4))) (eC (.int 3)))) (eC (.int 4)))) (Ec (Vg 6 (Hb Jq (Sf 2 gb [] (Ta (wa 0) (Ta (Hb zj (eC (.int 5)) (Hb jA (eC (.int 3)) (wa 2))) xb))) (Hb zj (Hb Gx (eC (.int 10)) (eC (.int 12))) (eC (.int 1))))) (Ec (Vg 7 (Hb Jq (Sf 2 gb [] (Ta (wa 0) (Ta (Hb zj (eC (.int 6)) (Hb jA (eC (.int 3)) (wa 2))) xb))) (Hb zj (Hb Gx (eC (.int 10)) (eC (.int 12))) (eC (.int 1))))) (dn (Vv yk (wa 1) (Ta (Yq (Ta (wa 4) (Ta (wa 5) (Ta (wa 6) (Ta (wa 7) (Ta (Hb zj (eC (.int 1)) (Hb Jq (Hb bF (wa 3) (eC (.int 12))) (eC (.int 100)))) xb)))))) xb))))))))
noncomputable def GM:Ev->M Fl:=
 (Ec (Vg 1 (jw xb)) (Ec (Zs (gx (Hb zj (eC (.int 1)) (Hb Jq (Sf 2 gb [] (Ta (wa 0) (Ta (eC (.int 0)) xb))) (eC (.int 3))))) (Wd 2) sF) (Jf (wa 1))))
noncomputable def Nf:List D->M D:=hide λa=>qb (run 8 GM a)
theorem cx:Ba ["_law_script", "_law_pots_here", "_law_k", "_law_cell", "_law_left", "_law_right", "_law_one", "_law_other"] ["_law_script"] (qd GP):=fg rfl rfl rfl (by decide +kernel)
theorem R3:BD "_law_pots" "_law_pots" GP ["_law_script"]:=
 λ_ _ _ _ _ _ b a=>match b,a with|[_],_=>rfl
theorem f8(a:Txt K mg ca):ud ⟨K,ca,tx K⟩ P w mg base 2 "_law_pots" ["_law_script"] Nf:=
 ud.hide (ud.qb (sk a.Nf cx λ_ _ _ _ _ _ _ b=>
  (Vc (Sh (i:=1) cx.nd rfl (Or.inl rfl) (Ny gc))
  (Vc (Tu Hn rfl (gF rfl a.aj (ai (lp rfl) Gg Sc (ai Au nu (dh (Hx a) rfl (b.mono (by decide)) rfl (jb (za 0) (jb Sc gc))) Sc))) (uh (i:=2) cx.nd rfl (Or.inl rfl)) (Vc (Sh (i:=3) cx.nd rfl (Or.inl rfl) (dh (Hx a) rfl (b.mono (by decide)) rfl (jb (za 0) (jb (ai (lp rfl) Gg Sc (ai OI cH Sc (za 2))) gc))))
  (Vc (Sh (i:=4) cx.nd rfl (Or.inl rfl) (ai Au nu (za 3) Sc))
  (Vc (Sh (i:=5) cx.nd rfl (Or.inl rfl) (ai Au nu (ai (lp rfl) Gg (ai (lp rfl) Gg (za 4) Sc) (ai Au nu (ai xQ TR (za 3) Sc) Sc)) Sc))
  (Vc (Sh (i:=6) cx.nd rfl (Or.inl rfl) (ai Au nu (dh (Hx a) rfl (b.mono (by decide)) rfl (jb (za 0) (jb (ai (lp rfl) Gg Sc (ai OI cH Sc (za 2))) gc))) (ai (lp rfl) Gg (ai CM vP Sc Sc) Sc)))
  (Vc (Sh (i:=7) cx.nd rfl (Or.inl rfl) (ai Au nu (dh (Hx a) rfl (b.mono (by decide)) rfl (jb (za 0) (jb (ai (lp rfl) Gg Sc (ai OI cH Sc (za 2))) gc))) (ai (lp rfl) Gg (ai CM vP Sc Sc) Sc)))
  (Fd (uq (Oz Bc qe re Dz Rz (za 1) (jb (Vu (jb (za 4) (jb (za 5) (jb (za 6) (jb (za 7) (jb (ai (lp rfl) Gg Sc (ai Au nu (ai xQ TR (za 3) Sc) Sc)) gc)))))) gc))))))))))
  (Fd (Rf (za 1)))))))
noncomputable abbrev bK:Stmt:=top 8
noncomputable def VN:Ev->M Fl:=
 (Jf (zn (Je (wv .int) (wa 0)) (DD (Je (wv .bool) (wa 0)))))
noncomputable def ug:List D->M D:=hide λa=>qb (run 1 VN a)
theorem jY:Ba ["thing"] ["thing"] (qd bK):=fg rfl rfl rfl (by decide +kernel)
theorem ZV:BD "is_whole" "is_whole" bK ["thing"]:=
 λ_ _ _ _ _ _ b a=>match b,a with|[_],_=>rfl
theorem XV(a:Txt K mg ca):ud ⟨K,ca,tx K⟩ P w mg base 1 "is_whole" ["thing"] ug:=
 ud.hide (ud.qb (sk a.ug jY λ_ _ _ _ _ _ _ b=>
  (Fd (Rf (Ao (aA .int (za 0) rfl a.gd rfl a.kq RJ) (lw (wQ (aA .bool (za 0) rfl a.gd rfl a.Zq boot_bool))))))))
noncomputable abbrev KM:Stmt:=top 9
noncomputable def eK:Ev->M Fl:=
 (Jf (zn (Sf 1 ug [] (Ta (wa 0) xb)) (CJ oLe oLe (wa 1) (wa 0) (wa 2))))
noncomputable def Lb:List D->M D:=hide λa=>qb (run 3 eK a)
theorem mU:Ba ["thing", "least", "most"] ["thing", "least", "most"] (qd KM):=fg rfl rfl rfl (by decide +kernel)
theorem j7:BD "is_between" "is_between" KM ["thing", "least", "most"]:=
 λ_ _ _ _ _ _ b a=>match b,a with|[_,_,_],_=>rfl
theorem Av(a:Txt K mg ca):ud ⟨K,ca,tx K⟩ P w mg base 2 "is_between" ["thing", "least", "most"] Lb:=
 ud.hide (ud.qb (sk a.Lb mU λ_ _ _ _ _ _ _ b=>
  (Fd (Rf (Ao (dh (XV a) rfl (b.mono (by decide)) rfl (jb (za 0) gc)) (lw (RW sO VQ sO VQ (za 1) (za 0) (za 2))))))))
noncomputable abbrev XN:Stmt:=top 75
noncomputable abbrev FB:Ev->M Fl:=(rl (rB (eT (Hb (VB false) (wa 0) (Hz (wa 3) none (some (eC (.int 2)))))) (eT (Hb oLt (Hb Ld (wa 3) (eC (.int 4))) (Hb zj (wa 1) (eC (.int 1)))))) (Px 4 (Ta (eC (.str "a pot waits too short for this hand")) xb)) wl)
noncomputable def NL:Ev->M Fl:=
 (Ec (rl (Vt (eT (Sf 3 Lb [] (Ta (wa 1) (Ta (eC (.int 1)) (Ta (eC (.int 50)) xb)))))) (Px 4 (Ta (eC (.str "no hand looks each so many days")) xb)) wl) (Zs (zi (wa 2)) (Wd 3) FB))
noncomputable def vf:List D->M D:=hide λa=>qb (run 4 NL a)
theorem lK:Ba ["hand", "every", "pots", "made"] ["hand", "every", "pots"] (qd XN):=fg rfl rfl rfl (by decide +kernel)
theorem cT:BD "check_span" "check_span" XN ["hand", "every", "pots"]:=
 λ_ _ _ _ _ _ b a=>match b,a with|[_,_,_],_=>rfl
theorem Q3(a:Txt K mg ca):ud ⟨K,ca,tx K⟩ P w mg base 3 "check_span" ["hand", "every", "pots"] vf:=
 ud.hide (ud.qb (sk a.vf lK λ_ _ _ _ _ _ _ b=>
  (Vc (Am (Uv (Ju (dh (Av a) rfl (b.mono (by decide)) rfl (jb (za 1) (jb Sc (jb (tu (u:=.int 50 (a.Zg).choose) rfl (a.Zg).choose_spec ⟨_,rfl⟩) gc)))))) (Fd (zz 4 Lc rfl a.gq a.gn rfl rfl (jb qt gc))) wm)
  (Fd (Tu Hn rfl (Zn rfl (za 2)) (uh (i:=3) lK.nd rfl (Or.inl rfl)) (Fd (Am (L2.PW.pt (mH (Tj lW (wT rfl false) (za 0) (lE rfl (za 3) lG (BB Sc)) rfl) (QG (Tj qF SD (Xg Yg (ah rfl) (za 3) Sc (λ_ _=>rfl)) (ai (lp rfl) Gg (za 1) Sc) (Hh _))))) (Fd (zz 4 Lc rfl a.gq a.gn rfl rfl (jb qt gc))) wm)))))))
theorem gX(a:Txt K mg ca):Al ⟨K,ca,tx K⟩ [9] "hand":=(Gh (T:=⟨K,ca,tx K⟩) (c:=9) a.Fb a.Hm Co)
theorem RE(a:Txt K mg ca):Al ⟨K,ca,tx K⟩ [8,9] "every":=(Gh (T:=⟨K,ca,tx K⟩) (c:=8) a.um a.Pn (Gh (T:=⟨K,ca,tx K⟩) (c:=9) a.Fb a.km Co))
theorem iB(a:Txt K mg ca):Al ⟨K,ca,tx K⟩ [8,9] "last_look":=(Gh (T:=⟨K,ca,tx K⟩) (c:=8) a.um a.ck (Gh (T:=⟨K,ca,tx K⟩) (c:=9) a.Fb a.sj Co))
theorem fK(a:Txt K mg ca):Al ⟨K,ca,tx K⟩ [9] "gave":=(Gh (T:=⟨K,ca,tx K⟩) (c:=9) a.Fb a.Rm Co)
theorem fF(a:Txt K mg ca):Al ⟨K,ca,tx K⟩ [8,9] "known":=(Gh (T:=⟨K,ca,tx K⟩) (c:=8) a.um a.ao (Gh (T:=⟨K,ca,tx K⟩) (c:=9) a.Fb a.dm Co))
theorem zw(a:Txt K mg ca):Al ⟨K,ca,tx K⟩ [9] "accounts":=(Gh (T:=⟨K,ca,tx K⟩) (c:=9) a.Fb a.Bj Co)
theorem TC(a:Txt K mg ca):Al ⟨K,ca,tx K⟩ [9,14] "claims":=(Gh (T:=⟨K,ca,tx K⟩) (c:=9) a.Fb a.Uk (Gh (T:=⟨K,ca,tx K⟩) (c:=14) a.Bg a.Fm Co))
theorem mI(a:Txt K mg ca):Al ⟨K,ca,tx K⟩ [9] "seen":=(Gh (T:=⟨K,ca,tx K⟩) (c:=9) a.Fb a.ln Co)
theorem Y3(a:Txt K mg ca):Al ⟨K,ca,tx K⟩ [9] "asked":=(Gh (T:=⟨K,ca,tx K⟩) (c:=9) a.Fb a.im Co)
theorem V4(a:Txt K mg ca):Al ⟨K,ca,tx K⟩ [9] "finishing":=(Gh (T:=⟨K,ca,tx K⟩) (c:=9) a.Fb a.oj Co)
noncomputable abbrev BQ:Stmt:=Ge (top 79) 2
noncomputable abbrev Gw:Ev->M Fl:=(dy (eC (.bl true)) (Je (be [8,9] "known") (wa 0)) (wa 2))
noncomputable def IK:Ev->M Fl:=
 (Zs (zi (wa 1)) (Wd 2) Gw)
noncomputable def ec:List D->M D:=hide (run 3 IK)
theorem sQ:Ba ["self", "words", "word"] ["self", "words"] (qd BQ):=fg rfl rfl rfl (by decide +kernel)
theorem S3:BD "learn" "Keeper.learn" BQ ["self", "words"]:=
 λ_ _ _ _ _ _ b a=>match b,a with|[_,_],_=>rfl
theorem O4(a:Txt K mg ca):Ke ⟨K,ca,tx K⟩ P w mg base 1 (ca 25) ["self", "words"] ec:=
 Ke.hide (Bl a.ec sQ λ_ _ _ _ _ _ b=>
  (Fd (Tu Hn rfl (Zn rfl (za 1)) (uh (i:=2) sQ.nd rfl (Or.inl rfl)) (Fd (wB (Ph b) Wq (bi rfl (fF a) (za 0)) (za 2))))))
theorem lQ(a:Txt K mg ca):xm ⟨K,ca,tx K⟩ P w mg base 1 "learn" ["self", "words"] [(9,ec)]:=(yn (T:=⟨K,ca,tx K⟩) (c:=9) a.Fb a.Rl (O4 a) (by decide) Tn)
theorem UA(a:Txt K mg ca):Al ⟨K,ca,tx K⟩ [5,6,7] "pot":=(Gh (T:=⟨K,ca,tx K⟩) (c:=5) a.sg a.Zm (Gh (T:=⟨K,ca,tx K⟩) (c:=6) a.ni a.lq (Gh (T:=⟨K,ca,tx K⟩) (c:=7) a.Hf a.jn Co)))
noncomputable abbrev nN:Stmt:=Ge (top 79) 1
noncomputable def oR:Ev->M Fl:=
 (Ec (dy (wa 1) (Je (be [9] "accounts") (wa 0)) (Je (be [5,6,7] "pot") (wa 1))) (Ec (dy (wa 2) (Je (be [9,14] "claims") (wa 0)) (Je (be [5,6,7] "pot") (wa 1))) (dy (wa 3) (Je (be [9] "seen") (wa 0)) (Je (be [5,6,7] "pot") (wa 1)))))
noncomputable def Jd:List D->M D:=hide (run 4 oR)
theorem o9:Ba ["self", "account", "claim", "seen"] ["self", "account", "claim", "seen"] (qd nN):=fg rfl rfl rfl (by decide +kernel)
theorem NT:BD "hold" "Keeper.hold" nN ["self", "account", "claim", "seen"]:=
 λ_ _ _ _ _ _ b a=>match b,a with|[_,_,_,_],_=>rfl
theorem J0(a:Txt K mg ca):Ke ⟨K,ca,tx K⟩ P w mg base 1 (ca 24) ["self", "account", "claim", "seen"] Jd:=
 Ke.hide (Bl a.Jd o9 λ_ _ _ _ _ _ b=>
  (Vc (wB (Ph b) (za 1) (bi rfl (zw a) (za 0)) (bi rfl (UA a) (za 1)))
  (Vc (wB (Ph b) (za 2) (bi rfl (TC a) (za 0)) (bi rfl (UA a) (za 1)))
  (Fd (wB (Ph b) (za 3) (bi rfl (mI a) (za 0)) (bi rfl (UA a) (za 1)))))))
theorem N5(a:Txt K mg ca):xm ⟨K,ca,tx K⟩ P w mg base 1 "hold" ["self", "account", "claim", "seen"] [(9,Jd)]:=(yn (T:=⟨K,ca,tx K⟩) (c:=9) a.Fb a.cn (J0 a) (by decide) Tn)
noncomputable abbrev BL:Stmt:=top 29
noncomputable def cL:Ev->M Fl:=
 (Ec (rl (Qs (Vt (eT (Je (wv .tuple) (wa 0)))) (eT (Hb XC (Ii Vo (Ta (wa 0) xb)) (eC (.int 6))))) (Jf (eC (.bl false))) wl) (Ec (rl (Vt (eT (Ii JE (Ta (oh (Rj (toN (zi (wa 0))) [] (Wd 0) Yi QH)) xb)))) (Jf (eC (.bl false))) wl) (Jf (Hb oEq (Je Tz (oh (Rj (toN (zi (wa 0))) [] (Wd 0) Yi QH))) (Ii Vo (Ta (wa 0) xb))))))
noncomputable def vg:List D->M D:=hide λa=>qb (run 1 cL a)
theorem y0:Ba ["thing"] ["thing"] (qd BL):=fg rfl rfl rfl (by decide +kernel)
theorem QX:BD "are_ties" "are_ties" BL ["thing"]:=
 λ_ _ _ _ _ _ b a=>match b,a with|[_],_=>rfl
theorem B0(a:Txt K mg ca):ud ⟨K,ca,tx K⟩ P w mg base 1 "are_ties" ["thing"] vg:=
 ud.hide (ud.qb (sk a.vg y0 λ_ _ _ _ _ _ _ b=>
  (Vc (Am (L2.PW.pt (Nv (Uv (Ju (aA .tuple (za 0) rfl a.gd rfl a.bj Nr))) (oy (Tj mG cG (As Fw (ow rfl) rfl a.ui sd (jb (za 0) gc)) (tu (u:=.int 6 (a.Ah).choose) rfl (a.Ah).choose_spec ⟨_,rfl⟩) (Hh _))))) (Fd (Rf Wq)) wm)
  (Vc (Am (Uv (Ju (As (n7 rfl) (L0 rfl) rfl a.Uu boot_all (jb (Mm (su (x:="tie") (z0:="0") (M':=[]) (ix:=[]) rfl ⟨rfl,rfl,rfl,rfl,rfl,rfl⟩ (Yr (Zn rfl (za 0))) (λ_ _ _ _ _=>uh (i:=0) (by show List.Nodup (("tie"::"0"::[]):List qa);decide +kernel) rfl (Or.inl rfl)) (λ_ _ _ _ _=>Us) (λ_ _ _ _ _=>FQ))) gc)))) (Fd (Rf Wq)) wm)
  (Fd (Rf (Nq (Oq (Ph b)) Gg (oY rfl rfl rfl a.ui rfl a.Do (Mm (su (x:="tie") (z0:="0") (M':=[]) (ix:=[]) rfl ⟨rfl,rfl,rfl,rfl,rfl,rfl⟩ (Yr (Zn rfl (za 0))) (λ_ _ _ _ _=>uh (i:=0) (by show List.Nodup (("tie"::"0"::[]):List qa);decide +kernel) rfl (Or.inl rfl)) (λ_ _ _ _ _=>Us) (λ_ _ _ _ _=>FQ)))) (As Fw (ow rfl) rfl a.ui sd (jb (za 0) gc)) (Hh _))))))))
noncomputable abbrev cN:Stmt:=top 28
noncomputable def mL:Ev->M Fl:=
 (Jf (zn (Je (wv .tuple) (wa 0)) (zn (Hb oEq (Ii Vo (Ta (wa 0) xb)) (eC (.int 2))) (zn (Sf 3 Lb [] (Ta (Hb Ld (wa 0) (eC (.int 0))) (Ta (eC (.int 0)) (Ta (eC (.int 2000000000000)) xb)))) (Sf 3 Lb [] (Ta (Hb Ld (wa 0) (eC (.int 1))) (Ta (eC (.int 0)) (Ta (eC (.int 2000000000000)) xb))))))))
noncomputable def tf:List D->M D:=hide λa=>qb (run 1 mL a)
theorem Z6:Ba ["thing"] ["thing"] (qd cN):=fg rfl rfl rfl (by decide +kernel)
theorem kT:BD "are_shares" "are_shares" cN ["thing"]:=
 λ_ _ _ _ _ _ b a=>match b,a with|[_],_=>rfl
theorem qU(a:Txt K mg ca):ud ⟨K,ca,tx K⟩ P w mg base 3 "are_shares" ["thing"] tf:=
 ud.hide (ud.qb (sk a.tf Z6 λ_ _ _ _ _ _ _ b=>
  (Fd (Rf (Ao (aA .tuple (za 0) rfl a.gd rfl a.bj Nr) (Ao (Nq (Oq (Ph b)) Gg (As Fw (ow rfl) rfl a.ui sd (jb (za 0) gc)) Sc (Hh _)) (Ao (dh (Av a) rfl (b.mono (by decide)) rfl (jb (Xg Yg (ah rfl) (za 0) Sc (λ_ _=>rfl)) (jb Sc (jb (tu (u:=.int 2000000000000 (a.rf).choose) rfl (a.rf).choose_spec ⟨_,rfl⟩) gc)))) (lw (dh (Av a) rfl (b.mono (by decide)) rfl (jb (Xg Yg (ah rfl) (za 0) Sc (λ_ _=>rfl)) (jb Sc (jb (tu (u:=.int 2000000000000 (a.rf).choose) rfl (a.rf).choose_spec ⟨_,rfl⟩) gc))))))))))))
noncomputable abbrev uR:Stmt:=top 14
noncomputable def DP:Ev->M Fl:=
 (Jf (Sf 3 Lb [] (Ta (wa 0) (Ta (eC (.int 0)) (Ta (eC (.int 1000000)) xb)))))
noncomputable def Mf:List D->M D:=hide λa=>qb (run 1 DP a)
theorem T8:Ba ["thing"] ["thing"] (qd uR):=fg rfl rfl rfl (by decide +kernel)
theorem m3:BD "is_number" "is_number" uR ["thing"]:=
 λ_ _ _ _ _ _ b a=>match b,a with|[_],_=>rfl
theorem oW(a:Txt K mg ca):ud ⟨K,ca,tx K⟩ P w mg base 3 "is_number" ["thing"] Mf:=
 ud.hide (ud.qb (sk a.Mf T8 λ_ _ _ _ _ _ _ b=>
  (Fd (Rf (dh (Av a) rfl (b.mono (by decide)) rfl (jb (za 0) (jb Sc (jb (tu (u:=.int 1000000 (a.zg).choose) rfl (a.zg).choose_spec ⟨_,rfl⟩) gc))))))))
noncomputable abbrev jS:Stmt:=top 30
noncomputable def LO:Ev->M Fl:=
 (Jf (zn (Je (wv .tuple) (wa 0)) (zn (Hb oEq (Ii Vo (Ta (wa 0) xb)) (eC (.int 3))) (zn (Sf 1 Mf [] (Ta (Hb Ld (wa 0) (eC (.int 0))) xb)) (zn (Sf 1 tf [] (Ta (Hb Ld (wa 0) (eC (.int 1))) xb)) (Sf 1 vg [] (Ta (Hb Ld (wa 0) (eC (.int 2))) xb)))))))
noncomputable def rg:List D->M D:=hide λa=>qb (run 1 LO a)
theorem uX:Ba ["thing"] ["thing"] (qd jS):=fg rfl rfl rfl (by decide +kernel)
theorem A6:BD "is_stand" "is_stand" jS ["thing"]:=
 λ_ _ _ _ _ _ b a=>match b,a with|[_],_=>rfl
theorem D6(a:Txt K mg ca):ud ⟨K,ca,tx K⟩ P w mg base 4 "is_stand" ["thing"] rg:=
 ud.hide (ud.qb (sk a.rg uX λ_ _ _ _ _ _ _ b=>
  (Fd (Rf (Ao (aA .tuple (za 0) rfl a.gd rfl a.bj Nr) (Ao (Nq (Oq (Ph b)) Gg (As Fw (ow rfl) rfl a.ui sd (jb (za 0) gc)) Sc (Hh _)) (Ao (dh (oW a) rfl (b.mono (by decide)) rfl (jb (Xg Yg (ah rfl) (za 0) Sc (λ_ _=>rfl)) gc)) (Ao (dh (qU a) rfl (b.mono (by decide)) rfl (jb (Xg Yg (ah rfl) (za 0) Sc (λ_ _=>rfl)) gc)) (lw (dh (B0 a) rfl (b.mono (by decide)) rfl (jb (Xg Yg (ah rfl) (za 0) Sc (λ_ _=>rfl)) gc)))))))))))
noncomputable abbrev Ly:Stmt:=top 31
noncomputable def YO:Ev->M Fl:=
 (Ec (Vg 3 (Yq (Ta (wa 0) (Ta (wa 1) (Ta (DB (eT (Hb ox (wa 2) (eC .Yb))) (Yq xb) (wa 2)) xb))))) (Ec (rl (Vt (eT (Sf 1 rg [] (Ta (wa 3) xb)))) (Px 1 (Ta (eC (.str "number, shares and ties make no stand")) xb)) wl) (Jf (wa 3))))
noncomputable def Xi:List D->M D:=hide λa=>qb (run 4 YO a)
theorem LQ:Ba ["number", "shares", "ties", "made"] ["number", "shares", "ties"] (qd Ly):=fg rfl rfl rfl (by decide +kernel)
theorem K5(t:Addr)(kV b g:Value)(d:Option Addr)(a ct:Value)(s:Shared)(o:Obj)(n:Nat)(us:List Value)(e:s.heap.get? t=some o)(f:o.data=.seq ([eb]:List Value).toArray n) :
  ((us++[]).length=(["number", "shares", "ties"]:List qa).length->Zf s (W.fnOf "stand" "stand" (Ln Ly) (Kj Ly) (qd Ly) (.ref t) kV b g d a ct) ⟨us,[]⟩ ((["number", "shares", "ties"]:List qa).zip (us++[])))/\
  ((us++[eb]).length=(["number", "shares", "ties"]:List qa).length->Zf s (W.fnOf "stand" "stand" (Ln Ly) (Kj Ly) (qd Ly) (.ref t) kV b g d a ct) ⟨us,[]⟩ ((["number", "shares", "ties"]:List qa).zip (us++[eb]))):=
 ⟨λc=>match us,(show us.length=3 by simpa using c)with|[_,_,_],_=>Wg rfl e f rfl rfl,λc=>match us,(show us.length=2 by simpa using c)with|[_,_],_=>Wg rfl e f rfl rfl⟩
theorem P7(a:Txt K mg ca):Nu ⟨K,ca,tx K⟩ P w mg base 5 "stand" ["number", "shares", "ties"] [eb] Xi:=
 Nu.hide (Nu.qb (cZ a.Xi LQ λ_ _ _ _ _ _ _ b=>
  (Vc (Sh (i:=3) LQ.nd rfl (Or.inl rfl) (Vu (jb (za 0) (jb (za 1) (jb (vR (Tj TH uG (za 2) oE (Hh _)) (Vu gc) (za 2)) gc)))))
  (Vc (Am (Uv (Ju (dh (D6 a) rfl (b.mono (by decide)) rfl (jb (za 3) gc)))) (Fd (zz 1 Lc rfl a.ut a.Ps rfl rfl (jb qt gc))) wm)
  (Fd (Rf (za 3)))))))
noncomputable abbrev XP:Stmt:=top 32
noncomputable def MK:Ev->M Fl:=
 (Jf (Sf 3 Xi [.Yb] (Ta (eC (.int 0)) (Ta (Yq (Ta (wa 0) (Ta (wa 1) xb))) xb))))
noncomputable def cj:List D->M D:=hide λa=>qb (run 2 MK a)
theorem e8:Ba ["left", "right"] ["left", "right"] (qd XP):=fg rfl rfl rfl (by decide +kernel)
theorem v5:BD "first" "first" XP ["left", "right"]:=
 λ_ _ _ _ _ _ b a=>match b,a with|[_,_],_=>rfl
theorem U2(a:Txt K mg ca):ud ⟨K,ca,tx K⟩ P w mg base 6 "first" ["left", "right"] cj:=
 ud.hide (ud.qb (sk a.cj e8 λ_ _ _ _ _ _ _ b=>
  (Fd (Rf (VX (P7 a) rfl (b.mono (by decide)) rfl XF WG (jb Sc (jb (Vu (jb (za 0) (jb (za 1) gc))) gc)))))))
theorem DI(a:Txt K mg ca):Al ⟨K,ca,tx K⟩ [5,6,7,12,13] "side":=(Gh (T:=⟨K,ca,tx K⟩) (c:=5) a.sg a.lm (Gh (T:=⟨K,ca,tx K⟩) (c:=6) a.ni a.So (Gh (T:=⟨K,ca,tx K⟩) (c:=7) a.Hf a.Xl (Gh (T:=⟨K,ca,tx K⟩) (c:=12) a.Lo a.xp (Gh (T:=⟨K,ca,tx K⟩) (c:=13) a.wq a.Vn Co)))))
theorem qN(a:Txt K mg ca):Al ⟨K,ca,tx K⟩ [5,6,7] "mine":=(Gh (T:=⟨K,ca,tx K⟩) (c:=5) a.sg a.cm (Gh (T:=⟨K,ca,tx K⟩) (c:=6) a.ni a.Yo (Gh (T:=⟨K,ca,tx K⟩) (c:=7) a.Hf a.Jl Co)))
theorem kO(a:Txt K mg ca):Al ⟨K,ca,tx K⟩ [5,6,7] "grant":=(Gh (T:=⟨K,ca,tx K⟩) (c:=5) a.sg a.Rk (Gh (T:=⟨K,ca,tx K⟩) (c:=6) a.ni a.bo (Gh (T:=⟨K,ca,tx K⟩) (c:=7) a.Hf a.Sk Co)))
theorem JH(a:Txt K mg ca):Al ⟨K,ca,tx K⟩ [5,6,7] "may":=(Gh (T:=⟨K,ca,tx K⟩) (c:=5) a.sg a.Vm (Gh (T:=⟨K,ca,tx K⟩) (c:=6) a.ni a.vq (Gh (T:=⟨K,ca,tx K⟩) (c:=7) a.Hf a.Pm Co)))
theorem HP(a:Txt K mg ca):Al ⟨K,ca,tx K⟩ [5,6,7] "strikes":=(Gh (T:=⟨K,ca,tx K⟩) (c:=5) a.sg a.Gj (Gh (T:=⟨K,ca,tx K⟩) (c:=6) a.ni a.Ll (Gh (T:=⟨K,ca,tx K⟩) (c:=7) a.Hf a.Mj Co)))
noncomputable abbrev GK:Stmt:=Ge (top 47) 0
noncomputable def wO:Ev->M Fl:=
 (Ec (Sj [5,6,7] "pot" (wa 1) (wa 0)) (Ec (Sj [5,6,7,12,13] "side" (wa 2) (wa 0)) (Ec (Sj [5,6,7] "mine" (wa 3) (wa 0)) (Ec (Sj [5,6,7] "grant" (wa 4) (wa 0)) (Ec (Sj [5,6,7] "may" (oh (Ii Bn (Ta (wa 5) xb))) (wa 0)) (Sj [5,6,7] "strikes" (oh (Ii Bn (Ta (wa 6) xb))) (wa 0)))))))
noncomputable def ar:List D->M D:=hide (run 7 wO)
theorem P8:Ba ["self", "pot", "side", "mine", "grant", "may", "strikes"] ["self", "pot", "side", "mine", "grant", "may", "strikes"] (qd GK):=fg rfl rfl rfl (by decide +kernel)
theorem zY:BD "__init__" "Account.__init__" GK ["self", "pot", "side", "mine", "grant", "may", "strikes"]:=
 λ_ _ _ _ _ _ b a=>match b,a with|[_,_,_,_,_,_,_],_=>rfl
theorem qT(a:Txt K mg ca):Ke ⟨K,ca,tx K⟩ P w mg base 1 (ca 15) ["self", "pot", "side", "mine", "grant", "may", "strikes"] ar:=
 Ke.hide (Bl a.ar P8 λ_ _ _ _ _ _ b=>
  (Vc (ul rfl (UA a) (za 0) (za 1))
  (Vc (ul rfl (DI a) (za 0) (za 2))
  (Vc (ul rfl (qN a) (za 0) (za 3))
  (Vc (ul rfl (kO a) (za 0) (za 4))
  (Vc (ul rfl (JH a) (za 0) (Mm (Qv Sy (jy rfl) rfl a.mi wj (jb (za 5) gc))))
  (Fd (ul rfl (HP a) (za 0) (Mm (Qv Sy (jy rfl) rfl a.mi wj (jb (za 6) gc)))))))))))
noncomputable abbrev FN:Stmt:=top 50
noncomputable def xM:Ev->M Fl:=
 (Ec (Vg 4 (Sf 2 cj [] (Ta (wa 2) (Ta (wa 3) xb)))) (Jf (oh (Iq 6 7 ar (Ta (wa 0) (Ta (wa 1) (Ta (wa 4) (Ta (eC .Yb) (Ta (Rn (Ta (wa 4) xb)) (Ta (Rn xb) xb))))))))))
noncomputable def ce:List D->M D:=hide λa=>qb (run 5 xM a)
theorem fN:Ba ["pot", "side", "left", "right", "mine"] ["pot", "side", "left", "right"] (qd FN):=fg rfl rfl rfl (by decide +kernel)
theorem RT:BD "first_account" "first_account" FN ["pot", "side", "left", "right"]:=
 λ_ _ _ _ _ _ b a=>match b,a with|[_,_,_,_],_=>rfl
theorem j5(a:Txt K mg ca):ud ⟨K,ca,tx K⟩ P w mg base 7 "first_account" ["pot", "side", "left", "right"] ce:=
 ud.hide (ud.qb (sk a.ce fN λ_ _ _ _ _ _ _ b=>
  (Vc (Sh (i:=4) fN.nd rfl (Or.inl rfl) (dh (U2 a) rfl (b.mono (by decide)) rfl (jb (za 2) (jb (za 3) gc))))
  (Fd (Rf (Mm (XD (c:=6) (ps:=["self", "pot", "side", "mine", "grant", "may", "strikes"]) ⟨_,a.xy,a.pw,qT a⟩ rfl (b.mono (by decide)) rfl (jb (za 0) (jb (za 1) (jb (za 4) (jb oE (jb (bq (jb (za 4) gc)) (jb (bq gc) gc)))))))))))))
noncomputable abbrev Xy:Stmt:=Ge (top 79) 0
noncomputable abbrev SA:Ev->M Fl:=(rl (eT (Hb oEq (Hb Ld (wa 6) (wa 7)) (wa 1))) (dn (Ri [(9,Jd)] 4 "hold" (wa 0) (Ta (Sf 4 ce [] (Ta (wa 5) (Ta (wa 7) (Ta (Hb Ld (wa 6) (eC (.int 2))) (Ta (Hb Ld (wa 6) (eC (.int 3))) xb))))) (Ta (eC (.gt ["held"])) (Ta (eC (.Na [] [])) xb))))) wl)
noncomputable abbrev OB:Ev->M Fl:=(Zs (zi (Yq (Ta (eC (.int 0)) (Ta (eC (.int 1)) xb)))) (Wd 7) SA)
noncomputable def hH:Ev->M Fl:=
 (Ec (dn (Sf 3 vf [] (Ta (wa 1) (Ta (wa 2) (Ta (wa 3) xb))))) (Ec (Sj [9] "hand" (wa 1) (wa 0)) (Ec (Sj [8,9] "every" (wa 2) (wa 0)) (Ec (Sj [8,9] "last_look" (eC (.int 0)) (wa 0)) (Ec (Sj [9] "gave" (eC (.int 0)) (wa 0)) (Ec (Sj [8,9] "known" Jp (wa 0)) (Ec (Sj [9] "accounts" Jp (wa 0)) (Ec (Sj [9,14] "claims" Jp (wa 0)) (Ec (Sj [9] "seen" Jp (wa 0)) (Ec (Sj [9] "asked" Jp (wa 0)) (Ec (Sj [9] "finishing" Jp (wa 0)) (Ec (dn (Ri [(9,ec)] 2 "learn" (wa 0) (Ta (DB (eT (Hb ox (wa 4) (eC .Yb))) (Rn xb) (wa 4)) xb))) (Cn (lD (wa 3)) (cq 2 (Fj (Wd 5) (Fj (Wd 6) Lq))) OB)))))))))))))
noncomputable def Zl:List D->M D:=hide (run 8 hH)
theorem yE:Ba ["self", "hand", "every", "pots", "words", "pot", "made", "side"] ["self", "hand", "every", "pots", "words"] (qd Xy):=fg rfl rfl rfl (by decide +kernel)
theorem H5(t:Addr)(kV b g:Value)(d:Option Addr)(a ct:Value)(s:Shared)(o:Obj)(n:Nat)(us:List Value)(e:s.heap.get? t=some o)(f:o.data=.seq ([eb]:List Value).toArray n) :
  ((us++[]).length=(["self", "hand", "every", "pots", "words"]:List qa).length->Zf s (W.fnOf "__init__" "Keeper.__init__" (Ln Xy) (Kj Xy) (qd Xy) (.ref t) kV b g d a ct) ⟨us,[]⟩ ((["self", "hand", "every", "pots", "words"]:List qa).zip (us++[])))/\
  ((us++[eb]).length=(["self", "hand", "every", "pots", "words"]:List qa).length->Zf s (W.fnOf "__init__" "Keeper.__init__" (Ln Xy) (Kj Xy) (qd Xy) (.ref t) kV b g d a ct) ⟨us,[]⟩ ((["self", "hand", "every", "pots", "words"]:List qa).zip (us++[eb]))):=
 ⟨λc=>match us,(show us.length=5 by simpa using c)with|[_,_,_,_,_],_=>Wg rfl e f rfl rfl,λc=>match us,(show us.length=4 by simpa using c)with|[_,_,_,_],_=>Wg rfl e f rfl rfl⟩
theorem zC(a:Txt K mg ca):Tv ⟨K,ca,tx K⟩ P w mg base 8 (ca 23) ["self", "hand", "every", "pots", "words"] [eb] Zl:=
 Tv.hide (kU a.Zl yE λ_ _ _ _ _ _ b=>
  (Vc (uq (dh (Q3 a) rfl (b.mono (by decide)) rfl (jb (za 1) (jb (za 2) (jb (za 3) gc)))))
  (Vc (ul rfl (gX a) (za 0) (za 1))
  (Vc (ul rfl (RE a) (za 0) (za 2))
  (Vc (ul rfl (iB a) (za 0) Sc)
  (Vc (ul rfl (fK a) (za 0) Sc)
  (Vc (ul rfl (fF a) (za 0) vu)
  (Vc (ul rfl (zw a) (za 0) vu)
  (Vc (ul rfl (TC a) (za 0) vu)
  (Vc (ul rfl (mI a) (za 0) vu)
  (Vc (ul rfl (Y3 a) (za 0) vu)
  (Vc (ul rfl (V4 a) (za 0) vu)
  (Vc (uq (Wt (k:=1) (ps:=["self", "words"]) rfl (za 0) (lQ a) (b.mono (by decide)) (jb (vR (Tj TH uG (za 4) oE (Hh _)) (bq gc) (za 4)) gc)))
  (Fd (vv Hn rfl (QK rfl a.zh (za 3)) (Pv rfl (xo (uh (i:=5) yE.nd rfl (Or.inl rfl)) (xo (uh (i:=6) yE.nd rfl (Or.inl rfl)) Jv))) (Fd (Tu Hn rfl (Zn rfl (Vu (jb Sc (jb Sc gc)))) (uh (i:=7) yE.nd rfl (Or.inl rfl)) (Fd (Am (Tj (Oq (Ph b)) Gg (Xg Yg (ah rfl) (za 6) (za 7) (λ_ _=>rfl)) (za 1) (Hh _)) (Fd (uq (Wt (k:=1) (ps:=["self", "account", "claim", "seen"]) rfl (za 0) (N5 a) (b.mono (by decide)) (jb (dh (j5 a) rfl (b.mono (by decide)) rfl (jb (za 5) (jb (za 7) (jb (Xg Yg (ah rfl) (za 6) Sc (λ_ _=>rfl)) (jb (Xg Yg (ah rfl) (za 6) Sc (λ_ _=>rfl)) gc))))) (jb (i9 (ss:=["held"]) rfl a.ur) (jb AW gc)))))) wm)))))))))))))))))))
noncomputable abbrev eN:Stmt:=top 97
noncomputable def mO:Ev->M Fl:=
 (Ec (Vg 3 (eC (.str ""))) (Ec (Vg 4 (eC (.bl true))) (Ec (tD (dn (Iq 9 5 Zl (qw [.Yb] (Ta (wa 0) (Ta (wa 1) (Ta (wa 2) xb)))))) (⟨(Ht [(0,false),(1,false),(2,false),(4,true)]),some 5,(Ec (Vg 3 (eC (.str "span"))) (Vg 4 (zn (Je (lx (Ht [(0,true),(1,true),(2,true),(4,true)])) (wa 5)) (DD (Je (lx (Ht [(0,false),(1,false),(2,true),(4,false)])) (wa 5))))))⟩::[])) (Jf (zn (wa 4) (Hb oEq (wa 3) (eC (.str "span"))))))))
noncomputable def Ae:List D->M D:=hide λa=>qb (run 6 mO a)
theorem Nz:Ba ["_law_hand", "_law_every", "_law_pots_here", "_law_word", "_law_fits", "e"] ["_law_hand", "_law_every", "_law_pots_here"] (qd eN):=fg rfl rfl rfl (by decide +kernel)
theorem P3:BD "_law_refused" "_law_refused" eN ["_law_hand", "_law_every", "_law_pots_here"]:=
 λ_ _ _ _ _ _ b a=>match b,a with|[_,_,_],_=>rfl
theorem C3(a:Txt K mg ca):ud ⟨K,ca,tx K⟩ P w mg base 10 "_law_refused" ["_law_hand", "_law_every", "_law_pots_here"] Ae:=
 ud.hide (ud.qb (sk a.Ae Nz λ_ _ _ _ _ _ _ b=>
  (Vc (Sh (i:=3) Nz.nd rfl (Or.inl rfl) qt)
  (Vc (Sh (i:=4) Nz.nd rfl (Or.inl rfl) Wq)
  (Vc (uO rfl rfl (λ_ _ d=>(Fd (uq (dE (c:=9) (ps:=["self", "hand", "every", "pots", "words"]) a.jk a.fj (zC a) (.inr rfl) XF WG rfl (b.mono (by decide)) rfl (jb (za 0) (jb (za 1) (jb (za 2) gc))))))) (.Iu (i:=5) rfl (by decide) (.inl a.gn) (ZL (Lx a.Ej (Lx a.Lk (Lx a.fm (Lx a.Il qQ))))) Nz.nd rfl rfl (λ_=>(Vc (Sh (i:=3) Nz.nd rfl (Or.inl rfl) qt)
  (Fd (Sh (i:=4) Nz.nd rfl (Or.inl rfl) (Ao (MR (t:=Ht [(0,true),(1,true),(2,true),(4,true)]) (za 5) rfl a.gd rfl (by decide) (.own a.dq) (IP (Ix a.fk a.Di (Ix a.Jm a.mj (Ix a.Bo a.Jj (Ix a.yo a.Cj rK)))))) (lw (wQ (MR (t:=Ht [(0,false),(1,false),(2,true),(4,false)]) (za 5) rfl a.gd rfl (by decide) (.own a.Pi) (IP (Ix a.fk a.Ij (Ix a.Jm a.Vk (Ix a.Bo a.am (Ix a.yo a.Ul rK))))))))))))) .nil))
  (Fd (Rf (Ao (za 4) (lw (Nq (Oq (Ph b)) Gg (za 3) qt (Hh _)))))))))))
noncomputable abbrev LP:Stmt:=Ge (top 79) 3
noncomputable def zQ:Ev->M Fl:=
 (Jf (Ii Lw (Ta (Je (be [8,9] "known") (wa 0)) xb)))
noncomputable def Pa:List D->M D:=hide (run 1 zQ)
theorem T5:Ba ["self"] ["self"] (qd LP):=fg rfl rfl rfl (by decide +kernel)
theorem OY:BD "words" "Keeper.words" LP ["self"]:=
 λ_ _ _ _ _ _ b a=>match b,a with|[_],_=>rfl
theorem X1(a:Txt K mg ca):Ke ⟨K,ca,tx K⟩ P w mg base 1 (ca 26) ["self"] Pa:=
 Ke.hide (Bl a.Pa T5 λ_ _ _ _ _ _ b=>
  (Fd (Rf (As (DN rfl) (CK rfl) rfl a.lh L4.rH (jb (bi rfl (fF a) (za 0)) gc)))))
theorem Zz(a:Txt K mg ca):xm ⟨K,ca,tx K⟩ P w mg base 1 "words" ["self"] [(9,Pa)]:=(yn (T:=⟨K,ca,tx K⟩) (c:=9) a.Fb a.Hl (X1 a) (by decide) Tn)
noncomputable abbrev lP:Stmt:=Ge (top 79) 6
noncomputable def JI:Ev->M Fl:=
 (Ec (rl (eT (Hb Cv (wa 1) (Je (be [9] "accounts") (wa 0)))) (Px 2 (Ta (eC (.str "the hand isn't in this pot")) xb)) wl) (Jf (Hb Yu (Je (be [9] "accounts") (wa 0)) (wa 1))))
noncomputable def lb:List D->M D:=hide λa=>qb (run 2 JI a)
theorem P1:Ba ["self", "pot"] ["self", "pot"] (qd lP):=fg rfl rfl rfl (by decide +kernel)
theorem gT:BD "account" "Keeper.account" lP ["self", "pot"]:=
 λ_ _ _ _ _ _ b a=>match b,a with|[_,_],_=>rfl
theorem PX(a:Txt K mg ca):Ke ⟨K,ca,tx K⟩ P w mg base 1 (ca 29) ["self", "pot"] lb:=
 Ke.hide (Ke.qb (Bl a.lb P1 λ_ _ _ _ _ _ b=>
  (Vc (Am (Tj (gP (Ph b)) RK (za 1) (bi rfl (zw a) (za 0)) rfl) (Fd (zz 2 Lc rfl a.Ym a.Pi rfl rfl (jb qt gc))) wm)
  (Fd (Rf (kJ (Ph b) (bi rfl (zw a) (za 0)) (za 1) (λ_ _=>rfl)))))))
theorem YP(a:Txt K mg ca):xm ⟨K,ca,tx K⟩ P w mg base 1 "account" ["self", "pot"] [(9,lb)]:=(yn (T:=⟨K,ca,tx K⟩) (c:=9) a.Fb a.wk (PX a) (by decide) Tn)
noncomputable abbrev MQ:Stmt:=top 98
noncomputable def YK:Ev->M Fl:=
 (Ec (Vg 2 (eC (.bl false))) (Ec (tD (dn (Ri [(9,lb)] 2 "account" (wa 0) (Ta (wa 1) xb))) (⟨(Ht [(0,false),(1,false),(2,true),(4,false)]),none,(Vg 2 (eC (.bl true)))⟩::[])) (Jf (wa 2))))
noncomputable def me:List D->M D:=hide λa=>qb (run 3 YK a)
theorem QF:Ba ["_law_keeper", "_law_pot", "_law_refused_here"] ["_law_keeper", "_law_pot"] (qd MQ):=fg rfl rfl rfl (by decide +kernel)
theorem e6:BD "_law_no_pot" "_law_no_pot" MQ ["_law_keeper", "_law_pot"]:=
 λ_ _ _ _ _ _ b a=>match b,a with|[_,_],_=>rfl
theorem TV(a:Txt K mg ca):ud ⟨K,ca,tx K⟩ P w mg base 2 "_law_no_pot" ["_law_keeper", "_law_pot"] me:=
 ud.hide (ud.qb (sk a.me QF λ_ _ _ _ _ _ _ c=>
  (Vc (Sh (i:=2) QF.nd rfl (Or.inl rfl) Wq)
  (Vc (uO rfl rfl (λ_ _ b=>(Fd (uq (Wt (k:=1) (ps:=["self", "pot"]) rfl (za 0) (YP a) (c.mono (by decide)) (jb (za 1) gc))))) (.cons rfl (by decide) (.inl a.Pi) (ZL (Lx a.Lj (Lx a.Jk (Lx a.Pl (Lx a.gm qQ))))) (λ_=>(Fd (Sh (i:=2) QF.nd rfl (Or.inl rfl) Wq))) .nil))
  (Fd (Rf (za 2)))))))
noncomputable abbrev xO:Stmt:=Ge (top 48) 0
noncomputable def iQ:Ev->M Fl:=
 (Jf (eC (.str "calm")))
noncomputable def ge:List D->M D:=hide λa=>qb (run 1 iQ a)
theorem yX:Ba ["self"] ["self"] (qd xO):=fg rfl rfl rfl (by decide +kernel)
theorem i0:BD "word" "Calm.word" xO ["self"]:=
 λ_ _ _ _ _ _ b a=>match b,a with|[_],_=>rfl
theorem wU(a:Txt K mg ca):Ke ⟨K,ca,tx K⟩ P w mg base 1 (ca 18) ["self"] ge:=
 Ke.hide (Ke.qb (Bl a.ge yX λ_ _ _ _ _ _ b=>
  (Fd (Rf qt))))
noncomputable abbrev gK:Stmt:=Ge (top 49) 0
noncomputable def OW:Ev->M Fl:=
 (Jf (eC (.str "waiting")))
noncomputable def Ce:List D->M D:=hide λa=>qb (run 1 OW a)
theorem j0:Ba ["self"] ["self"] (qd gK):=fg rfl rfl rfl (by decide +kernel)
theorem m4:BD "word" "Waiting.word" gK ["self"]:=
 λ_ _ _ _ _ _ b a=>match b,a with|[_],_=>rfl
theorem J8(a:Txt K mg ca):Ke ⟨K,ca,tx K⟩ P w mg base 1 (ca 20) ["self"] Ce:=
 Ke.hide (Ke.qb (Bl a.Ce j0 λ_ _ _ _ _ _ b=>
  (Fd (Rf qt))))
theorem qZ(a:Txt K mg ca):xm ⟨K,ca,tx K⟩ P w mg base 1 "word" ["self"] [(6,ge),(7,Ce)]:=(yn (T:=⟨K,ca,tx K⟩) (c:=6) a.ni a.yp (wU a) (by decide) (yn (T:=⟨K,ca,tx K⟩) (c:=7) a.Hf a.Tl (J8 a) (by decide) Tn))
noncomputable abbrev XM:Stmt:=top 99
noncomputable def lM:Ev->M Fl:=
 (Ec (Vg 4 (Yq (Ta (eC (.int 0)) (Ta (wa 3) (Ta (Yq xb) xb))))) (Ec (rl (Qs (eT (Hb gk (Je (be [5,6,7] "pot") (wa 0)) (wa 1))) (Qs (eT (Hb gk (Je (be [5,6,7,12,13] "side") (wa 0)) (wa 2))) (Qs (eT (Hb gk (Ri [(6,ge),(7,Ce)] 1 "word" (wa 0) xb) (eC (.str "calm")))) (eT (Hb gk (Je (be [5,6,7] "strikes") (wa 0)) (Rn xb)))))) (Jf (eC (.bl false))) wl) (Jf (zn (Hb oEq (Je (be [5,6,7] "mine") (wa 0)) (wa 4)) (zn (Hb oEq (Je (be [5,6,7] "may") (wa 0)) (Rn (Ta (wa 4) xb))) (Hb ox (Je (be [5,6,7] "grant") (wa 0)) (eC .Yb)))))))
noncomputable def yc:List D->M D:=hide λa=>qb (run 5 lM a)
theorem dL:Ba ["_law_account", "_law_pot", "_law_side", "_law_coins", "_law_one"] ["_law_account", "_law_pot", "_law_side", "_law_coins"] (qd XM):=fg rfl rfl rfl (by decide +kernel)
theorem d9:BD "_law_account_right" "_law_account_right" XM ["_law_account", "_law_pot", "_law_side", "_law_coins"]:=
 λ_ _ _ _ _ _ b a=>match b,a with|[_,_,_,_],_=>rfl
theorem g4(a:Txt K mg ca):ud ⟨K,ca,tx K⟩ P w mg base 2 "_law_account_right" ["_law_account", "_law_pot", "_law_side", "_law_coins"] yc:=
 ud.hide (ud.qb (sk a.yc dL λ_ _ _ _ _ _ _ b=>
  (Vc (Sh (i:=4) dL.nd rfl (Or.inl rfl) (Vu (jb Sc (jb (za 3) (jb (Vu gc) gc)))))
  (Vc (Am (L2.PW.pt (Nv (Tj (Pq (Ph b)) Gg (bi rfl (UA a) (za 0)) (za 1) (Hh _)) (Nv (Tj (Pq (Ph b)) Gg (bi rfl (DI a) (za 0)) (za 2) (Hh _)) (Nv (Tj (Pq (Ph b)) Gg (bp (k:=1) (ps:=["self"]) rfl (za 0) (qZ a) (b.mono (by decide))) qt (Hh _)) (oy (Tj (Pq (Ph b)) Gg (bi rfl (HP a) (za 0)) (bq gc) (Hh _))))))) (Fd (Rf Wq)) wm)
  (Fd (Rf (Ao (Nq (Oq (Ph b)) Gg (bi rfl (qN a) (za 0)) (za 4) (Hh _)) (Ao (Nq (Oq (Ph b)) Gg (bi rfl (JH a) (za 0)) (bq (jb (za 4) gc)) (Hh _)) (lw (Nq TH uG (bi rfl (kO a) (za 0)) oE (Hh _)))))))))))
theorem AD(a:Txt K mg ca):Al ⟨K,ca,tx K⟩ [12,14] "day":=(Gh (T:=⟨K,ca,tx K⟩) (c:=12) a.Lo a.tq (Gh (T:=⟨K,ca,tx K⟩) (c:=14) a.Bg a.pq Co))
noncomputable abbrev RL:Stmt:=Ge (top 93) 3
noncomputable def tQ:Ev->M Fl:=
 (zG [12,14] "day" (eC (.int 1)) (wa 0))
noncomputable def qc:List D->M D:=hide (run 1 tQ)
theorem f6:Ba ["self"] ["self"] (qd RL):=fg rfl rfl rfl (by decide +kernel)
theorem G4:BD "next_day" "Book.next_day" RL ["self"]:=
 λ_ _ _ _ _ _ b a=>match b,a with|[_],_=>rfl
theorem g5(a:Txt K mg ca):Ke ⟨K,ca,tx K⟩ P w mg base 1 (ca 63) ["self"] qc:=
 Ke.hide (Bl a.qc f6 λ_ _ _ _ _ _ b=>
  (Fd (OX rfl (AD a) (za 0) Sc)))
theorem N6(a:Txt K mg ca):xm ⟨K,ca,tx K⟩ P w mg base 1 "next_day" ["self"] [(14,qc)]:=(yn (T:=⟨K,ca,tx K⟩) (c:=14) a.Bg a.Pk (g5 a) (by decide) Tn)
theorem Uy(a:Txt K mg ca):Al ⟨K,ca,tx K⟩ [8,14] "pots":=(Gh (T:=⟨K,ca,tx K⟩) (c:=8) a.um a.Ro (Gh (T:=⟨K,ca,tx K⟩) (c:=14) a.Bg a.jp Co))
noncomputable abbrev AK:Stmt:=Ge (top 93) 1
noncomputable def dQ:Ev->M Fl:=
 (rl (Vt (eT (Sf 3 Lb [] (Ta (wa 1) (Ta (eC (.int 0)) (Ta (Hb AI (Ii Vo (Ta (Je (be [8,14] "pots") (wa 0)) xb)) (eC (.int 1))) xb)))))) (Px 2 (Ta (eC (.str "the book hasn't this pot")) xb)) wl)
noncomputable def vc:List D->M D:=hide λa=>qb (run 2 dQ a)
theorem WT:Ba ["self", "pot"] ["self", "pot"] (qd AK):=fg rfl rfl rfl (by decide +kernel)
theorem t2:BD "check_pot" "Book.check_pot" AK ["self", "pot"]:=
 λ_ _ _ _ _ _ b a=>match b,a with|[_,_],_=>rfl
theorem XS(a:Txt K mg ca):Ke ⟨K,ca,tx K⟩ P w mg base 3 (ca 61) ["self", "pot"] vc:=
 Ke.hide (Ke.qb (Bl a.vc WT λ_ _ _ _ _ _ b=>
  (Fd (Am (Uv (Ju (dh (Av a) rfl (b.mono (by decide)) rfl (jb (za 1) (jb Sc (jb (ai eS rM (As Fw (ow rfl) rfl a.ui sd (jb (bi rfl (Uy a) (za 0)) gc)) Sc) gc)))))) (Fd (zz 2 Lc rfl a.Ym a.Pi rfl rfl (jb qt gc))) wm))))
theorem hW(a:Txt K mg ca):xm ⟨K,ca,tx K⟩ P w mg base 3 "check_pot" ["self", "pot"] [(14,vc)]:=(yn (T:=⟨K,ca,tx K⟩) (c:=14) a.Bg a.dk (XS a) (by decide) Tn)
noncomputable abbrev mM:Stmt:=top 12
noncomputable def eQ:Ev->M Fl:=
 (Jf (Sf 3 Lb [] (Ta (wa 0) (Ta (eC (.int 0)) (Ta (eC (.int 59)) xb)))))
noncomputable def eh:List D->M D:=hide λa=>qb (run 1 eQ a)
theorem I0:Ba ["thing"] ["thing"] (qd mM):=fg rfl rfl rfl (by decide +kernel)
theorem IY:BD "is_word" "is_word" mM ["thing"]:=
 λ_ _ _ _ _ _ b a=>match b,a with|[_],_=>rfl
theorem J1(a:Txt K mg ca):ud ⟨K,ca,tx K⟩ P w mg base 3 "is_word" ["thing"] eh:=
 ud.hide (ud.qb (sk a.eh I0 λ_ _ _ _ _ _ _ b=>
  (Fd (Rf (dh (Av a) rfl (b.mono (by decide)) rfl (jb (za 0) (jb Sc (jb (tu (u:=.int 59 (a.Ch).choose) rfl (a.Ch).choose_spec ⟨_,rfl⟩) gc))))))))
theorem UD(a:Txt K mg ca):Al ⟨K,ca,tx K⟩ [14] "shown":=(Gh (T:=⟨K,ca,tx K⟩) (c:=14) a.Bg a.Jn Co)
noncomputable abbrev WO:Stmt:=Ge (top 93) 4
noncomputable def tN:Ev->M Fl:=
 (Ec (dn (Ri [(14,vc)] 2 "check_pot" (wa 0) (Ta (wa 1) xb))) (Ec (rl (Vt (eT (Sf 1 eh [] (Ta (wa 2) xb)))) (Px 2 (Ta (eC (.str "there is no such word")) xb)) wl) (rl (eT (Hb Cv (wa 2) (Hb Ld (Je (be [14] "shown") (wa 0)) (wa 1)))) (dy (Je (be [12,14] "day") (wa 0)) (Hb Ld (Je (be [14] "shown") (wa 0)) (wa 1)) (wa 2)) wl)))
noncomputable def ee:List D->M D:=hide (run 3 tN)
theorem qX:Ba ["self", "pot", "word"] ["self", "pot", "word"] (qd WO):=fg rfl rfl rfl (by decide +kernel)
theorem m9:BD "show" "Book.show" WO ["self", "pot", "word"]:=
 λ_ _ _ _ _ _ b a=>match b,a with|[_,_,_],_=>rfl
theorem EZ(a:Txt K mg ca):Ke ⟨K,ca,tx K⟩ P w mg base 4 (ca 64) ["self", "pot", "word"] ee:=
 Ke.hide (Bl a.ee qX λ_ _ _ _ _ _ b=>
  (Vc (uq (Wt (k:=3) (ps:=["self", "pot"]) rfl (za 0) (hW a) (b.mono (by decide)) (jb (za 1) gc)))
  (Vc (Am (Uv (Ju (dh (J1 a) rfl (b.mono (by decide)) rfl (jb (za 2) gc)))) (Fd (zz 2 Lc rfl a.Ym a.Pi rfl rfl (jb qt gc))) wm)
  (Fd (Am (Tj (gP (Ph b)) RK (za 2) (Xg Yg (ah rfl) (bi rfl (UD a) (za 0)) (za 1) (λ_ _=>rfl)) rfl) (Fd (wB (Ph b) (bi rfl (AD a) (za 0)) (Xg Yg (ah rfl) (bi rfl (UD a) (za 0)) (za 1) (λ_ _=>rfl)) (za 2))) wm)))))
theorem iY(a:Txt K mg ca):xm ⟨K,ca,tx K⟩ P w mg base 4 "show" ["self", "pot", "word"] [(14,ee)]:=(yn (T:=⟨K,ca,tx K⟩) (c:=14) a.Bg a.pp (EZ a) (by decide) Tn)
noncomputable abbrev BO:Stmt:=Ge (top 93) 2
noncomputable def RO:Ev->M Fl:=
 (Jf (Je (be [12,14] "day") (wa 0)))
noncomputable def Ed:List D->M D:=hide λa=>qb (run 1 RO a)
theorem jU:Ba ["self"] ["self"] (qd BO):=fg rfl rfl rfl (by decide +kernel)
theorem T4:BD "today" "Book.today" BO ["self"]:=
 λ_ _ _ _ _ _ b a=>match b,a with|[_],_=>rfl
theorem SU(a:Txt K mg ca):Ke ⟨K,ca,tx K⟩ P w mg base 1 (ca 62) ["self"] Ed:=
 Ke.hide (Ke.qb (Bl a.Ed jU λ_ _ _ _ _ _ b=>
  (Fd (Rf (bi rfl (AD a) (za 0))))))
theorem V1(a:Txt K mg ca):xm ⟨K,ca,tx K⟩ P w mg base 1 "today" ["self"] [(14,Ed)]:=(yn (T:=⟨K,ca,tx K⟩) (c:=14) a.Bg a.Qn (SU a) (by decide) Tn)
noncomputable abbrev qM:Stmt:=Ge (top 93) 13
noncomputable def iN:Ev->M Fl:=
 (Ec (Vg 1 Jp) (Ec (Zs (zi (Je (be [14] "shown") (wa 0))) (Wd 2) (dn (sy Ts (wa 1) (Ta (wa 2) xb)))) (Jf (oh (Ii Lw (Ta (wa 1) xb))))))
noncomputable def ic:List D->M D:=hide λa=>qb (run 3 iN a)
theorem tH:Ba ["self", "words", "shown"] ["self"] (qd qM):=fg rfl rfl rfl (by decide +kernel)
theorem l3:BD "all_shown" "Book.all_shown" qM ["self"]:=
 λ_ _ _ _ _ _ b a=>match b,a with|[_],_=>rfl
theorem Q8(a:Txt K mg ca):Ke ⟨K,ca,tx K⟩ P w mg base 1 (ca 73) ["self"] ic:=
 Ke.hide (Ke.qb (Bl a.ic tH λ_ _ _ _ _ _ b=>
  (Vc (Sh (i:=1) tH.nd rfl (Or.inl rfl) vu)
  (Vc (Tu Hn rfl (Zn rfl (bi rfl (UD a) (za 0))) (uh (i:=2) tH.nd rfl (Or.inl rfl)) (Fd (uq (O1 Zh fo PySem.F.type_dict_update V2 zX (za 1) (jb (za 2) gc)))))
  (Fd (Rf (Mm (As (DN rfl) (CK rfl) rfl a.lh L4.rH (jb (za 1) gc)))))))))
theorem UV(a:Txt K mg ca):xm ⟨K,ca,tx K⟩ P w mg base 1 "all_shown" ["self"] [(14,ic)]:=(yn (T:=⟨K,ca,tx K⟩) (c:=14) a.Bg a.rk (Q8 a) (by decide) Tn)
noncomputable abbrev nO:Stmt:=Ge (top 93) 14
noncomputable def WR:Ev->M Fl:=
 (Jf (oh (Ii Bn (Ta (Je (be [8,14] "pots") (wa 0)) xb))))
noncomputable def dc:List D->M D:=hide λa=>qb (run 1 WR a)
theorem QZ:Ba ["self"] ["self"] (qd nO):=fg rfl rfl rfl (by decide +kernel)
theorem E4:BD "made_of" "Book.made_of" nO ["self"]:=
 λ_ _ _ _ _ _ b a=>match b,a with|[_],_=>rfl
theorem AY(a:Txt K mg ca):Ke ⟨K,ca,tx K⟩ P w mg base 1 (ca 74) ["self"] dc:=
 Ke.hide (Ke.qb (Bl a.dc QZ λ_ _ _ _ _ _ b=>
  (Fd (Rf (Mm (Qv Sy (jy rfl) rfl a.mi wj (jb (bi rfl (Uy a) (za 0)) gc)))))))
theorem wZ(a:Txt K mg ca):xm ⟨K,ca,tx K⟩ P w mg base 1 "made_of" ["self"] [(14,dc)]:=(yn (T:=⟨K,ca,tx K⟩) (c:=14) a.Bg a.Ol (AY a) (by decide) Tn)
noncomputable abbrev KP:Stmt:=Ge (top 79) 20
noncomputable def rO:Ev->M Fl:=
 (Ec (Vg 2 (jw xb)) (Ec (Vg 3 (oh (Rj (toN (zi (Ri [(14,dc)] 1 "made_of" (wa 1) xb))) [] (Wd 0) Yi (Hb Ld (wa 0) (eC (.int 4)))))) (Ec (kt (Je (be [9] "accounts") (wa 0)) (Cn (Wu (Je (be [9] "accounts") (wa 0))) (cq 2 (Fj (Wd 4) (Fj (Wd 5) Lq))) Zt)) (Jf (wa 2)))))
noncomputable def Xb:List D->M D:=hide λa=>qb (run 7 rO a)
theorem RA:Ba ["self", "book", "deeds", "waits", "pot", "account", "claim"] ["self", "book"] (qd KP):=fg rfl rfl rfl (by decide +kernel)
theorem SV:BD "strike_all" "Keeper.strike_all" KP ["self", "book"]:=
 λ_ _ _ _ _ _ b a=>match b,a with|[_,_],_=>rfl
theorem R8(a:Txt K mg ca):Ke ⟨K,ca,tx K⟩ P w mg base 2 (ca 43) ["self", "book"] Xb:=
 Ke.hide (Ke.qb (Bl a.Xb RA λ_ _ _ _ _ _ b=>
  (Vc (Sh (i:=2) RA.nd rfl (Or.inl rfl) (Ny gc))
  (Vc (fE (YE (i:=3) RA.nd rfl (Or.inl rfl) (x:="made") (z0:="0") (M':=[]) (ix:=[]) rfl ⟨rfl,rfl,rfl,rfl,rfl,rfl⟩ (Yr (Zn rfl (bp (k:=1) (ps:=["self"]) rfl (za 1) (wZ a) (b.mono (by decide))))) (λ_ _ _ _ _=>uh (i:=0) (by show List.Nodup (("made"::"0"::[]):List qa);decide +kernel) rfl (Or.inl rfl)) (λ_ _ _ _ _=>Us) (λ_ _ _ _ _=>(Xg Yg (ah rfl) (za 0) Sc (λ_ _=>rfl)))))
  (Vc (YA (vv Hn rfl (nD (bi rfl (zw a) (za 0))) (Pv rfl (xo (uh (i:=4) RA.nd rfl (Or.inl rfl)) (xo (uh (i:=5) RA.nd rfl (Or.inl rfl)) Jv))) xw))
  (Fd (Rf (za 2))))))))
theorem zT(a:Txt K mg ca):xm ⟨K,ca,tx K⟩ P w mg base 2 "strike_all" ["self", "book"] [(9,Xb)]:=(yn (T:=⟨K,ca,tx K⟩) (c:=9) a.Fb a.Qi (R8 a) (by decide) Tn)
noncomputable abbrev IR:Stmt:=Ge (top 79) 22
noncomputable def ZM:Ev->M Fl:=
 (Ec (Vg 2 (jw xb)) (Ec (kt (Je (be [9] "accounts") (wa 0)) (Cn (Wu (Je (be [9] "accounts") (wa 0))) (cq 2 (Fj (Wd 3) (Fj (Wd 4) Lq))) Zt)) (Jf (wa 2))))
noncomputable def lc:List D->M D:=hide λa=>qb (run 6 ZM a)
theorem SE:Ba ["self", "book", "deeds", "pot", "account", "tie"] ["self", "book"] (qd IR):=fg rfl rfl rfl (by decide +kernel)
theorem RY:BD "show_all" "Keeper.show_all" IR ["self", "book"]:=
 λ_ _ _ _ _ _ b a=>match b,a with|[_,_],_=>rfl
theorem TW(a:Txt K mg ca):Ke ⟨K,ca,tx K⟩ P w mg base 1 (ca 45) ["self", "book"] lc:=
 Ke.hide (Ke.qb (Bl a.lc SE λ_ _ _ _ _ _ b=>
  (Vc (Sh (i:=2) SE.nd rfl (Or.inl rfl) (Ny gc))
  (Vc (YA (vv Hn rfl (nD (bi rfl (zw a) (za 0))) (Pv rfl (xo (uh (i:=3) SE.nd rfl (Or.inl rfl)) (xo (uh (i:=4) SE.nd rfl (Or.inl rfl)) Jv))) xw))
  (Fd (Rf (za 2)))))))
theorem lT(a:Txt K mg ca):xm ⟨K,ca,tx K⟩ P w mg base 1 "show_all" ["self", "book"] [(9,lc)]:=(yn (T:=⟨K,ca,tx K⟩) (c:=9) a.Fb a.Hj (TW a) (by decide) Tn)
noncomputable abbrev HM:Stmt:=Ge (top 79) 23
noncomputable def GQ:Ev->M Fl:=
 (Ec (Vg 2 (jw xb)) (Ec (kt (Je (be [9] "accounts") (wa 0)) (Cn (Wu (Je (be [9] "accounts") (wa 0))) (cq 2 (Fj (Wd 3) (Fj (Wd 4) Lq))) Zt)) (Jf (wa 2))))
noncomputable def Ac:List D->M D:=hide λa=>qb (run 5 GQ a)
theorem kF:Ba ["self", "book", "deeds", "pot", "account"] ["self", "book"] (qd HM):=fg rfl rfl rfl (by decide +kernel)
theorem XT:BD "lay_all" "Keeper.lay_all" HM ["self", "book"]:=
 λ_ _ _ _ _ _ b a=>match b,a with|[_,_],_=>rfl
theorem NY(a:Txt K mg ca):Ke ⟨K,ca,tx K⟩ P w mg base 1 (ca 46) ["self", "book"] Ac:=
 Ke.hide (Ke.qb (Bl a.Ac kF λ_ _ _ _ _ _ b=>
  (Vc (Sh (i:=2) kF.nd rfl (Or.inl rfl) (Ny gc))
  (Vc (YA (vv Hn rfl (nD (bi rfl (zw a) (za 0))) (Pv rfl (xo (uh (i:=3) kF.nd rfl (Or.inl rfl)) (xo (uh (i:=4) kF.nd rfl (Or.inl rfl)) Jv))) xw))
  (Fd (Rf (za 2)))))))
theorem XX(a:Txt K mg ca):xm ⟨K,ca,tx K⟩ P w mg base 1 "lay_all" ["self", "book"] [(9,Ac)]:=(yn (T:=⟨K,ca,tx K⟩) (c:=9) a.Fb a.pk (NY a) (by decide) Tn)
noncomputable abbrev zL:Stmt:=Ge (top 79) 19
noncomputable def UL:Ev->M Fl:=
 (Ec (Sj [8,9] "last_look" (Ri [(14,Ed)] 1 "today" (wa 1) xb) (wa 0)) (Ec (kt (Je (be [9] "accounts") (wa 0)) (Cn (cE (Je (be [9] "accounts") (wa 0))) (Wd 2) Zt)) (Ec (dn (Ri [(9,ec)] 2 "learn" (wa 0) (Ta (Ri [(14,ic)] 1 "all_shown" (wa 1) xb) xb))) (Jf (Hb zj (Hb zj (Ri [(9,Xb)] 2 "strike_all" (wa 0) (Ta (wa 1) xb)) (Ri [(9,lc)] 2 "show_all" (wa 0) (Ta (wa 1) xb))) (Ri [(9,Ac)] 2 "lay_all" (wa 0) (Ta (wa 1) xb)))))))
noncomputable def Gd:List D->M D:=hide (run 3 UL)
theorem xL:Ba ["self", "book", "pot"] ["self", "book"] (qd zL):=fg rfl rfl rfl (by decide +kernel)
theorem hZ:BD "look" "Keeper.look" zL ["self", "book"]:=
 λ_ _ _ _ _ _ b a=>match b,a with|[_,_],_=>rfl
theorem m2(a:Txt K mg ca):Ke ⟨K,ca,tx K⟩ P w mg base 3 (ca 42) ["self", "book"] Gd:=
 Ke.hide (Bl a.Gd xL λ_ _ _ _ _ _ b=>
  (Vc (ul rfl (iB a) (za 0) (bp (k:=1) (ps:=["self"]) rfl (za 1) (V1 a) (b.mono (by decide))))
  (Vc (YA (vv Hn rfl (i5 (bi rfl (zw a) (za 0))) (uh (i:=2) xL.nd rfl (Or.inl rfl)) xw))
  (Vc (uq (Wt (k:=1) (ps:=["self", "words"]) rfl (za 0) (lQ a) (b.mono (by decide)) (jb (bp (k:=1) (ps:=["self"]) rfl (za 1) (UV a) (b.mono (by decide))) gc)))
  (Fd (Rf (ai (lp rfl) Gg (ai (lp rfl) Gg (Wt (k:=2) (ps:=["self", "book"]) rfl (za 0) (zT a) (b.mono (by decide)) (jb (za 1) gc)) (Wt (k:=1) (ps:=["self", "book"]) rfl (za 0) (lT a) (b.mono (by decide)) (jb (za 1) gc))) (Wt (k:=1) (ps:=["self", "book"]) rfl (za 0) (XX a) (b.mono (by decide)) (jb (za 1) gc)))))))))
theorem RS(a:Txt K mg ca):xm ⟨K,ca,tx K⟩ P w mg base 3 "look" ["self", "book"] [(9,Gd)]:=(yn (T:=⟨K,ca,tx K⟩) (c:=9) a.Fb a.Um (m2 a) (by decide) Tn)
noncomputable abbrev YR:Stmt:=Ge (top 79) 4
noncomputable def TN:Ev->M Fl:=
 (Jf (Je (be [8,9] "last_look") (wa 0)))
noncomputable def Ub:List D->M D:=hide λa=>qb (run 1 TN a)
theorem MT:Ba ["self"] ["self"] (qd YR):=fg rfl rfl rfl (by decide +kernel)
theorem n0:BD "looked" "Keeper.looked" YR ["self"]:=
 λ_ _ _ _ _ _ b a=>match b,a with|[_],_=>rfl
theorem zV(a:Txt K mg ca):Ke ⟨K,ca,tx K⟩ P w mg base 1 (ca 27) ["self"] Ub:=
 Ke.hide (Ke.qb (Bl a.Ub MT λ_ _ _ _ _ _ b=>
  (Fd (Rf (bi rfl (iB a) (za 0))))))
theorem eP(a:Txt K mg ca):xm ⟨K,ca,tx K⟩ P w mg base 1 "looked" ["self"] [(9,Ub)]:=(yn (T:=⟨K,ca,tx K⟩) (c:=9) a.Fb a.Xk (zV a) (by decide) Tn)
noncomputable abbrev PP:Stmt:=top 57
noncomputable def DQ:Ev->M Fl:=
 (Ec (Vg 3 (Hb Ld (Hb Ld (wa 2) (eC (.int 1))) (Hb Ld (wa 1) (eC (.int 0))))) (Ec (Vg 4 Jp) (Ec (Zs (zi (Hb Ld (wa 2) (eC (.int 2)))) (Wd 5) Zt) (Jf (Yq (Ta (wa 3) (Ta (wa 4) xb)))))))
noncomputable def Le:List D->M D:=hide λa=>qb (run 7 DQ a)
theorem NE:Ba ["view", "pot", "one", "firm", "lots", "tie", "lot"] ["view", "pot", "one"] (qd PP):=fg rfl rfl rfl (by decide +kernel)
theorem kW:BD "read_stand" "read_stand" PP ["view", "pot", "one"]:=
 λ_ _ _ _ _ _ b a=>match b,a with|[_,_,_],_=>rfl
theorem aY(a:Txt K mg ca):ud ⟨K,ca,tx K⟩ P w mg base 1 "read_stand" ["view", "pot", "one"] Le:=
 ud.hide (ud.qb (sk a.Le NE λ_ _ _ _ _ _ _ b=>
  (Vc (Sh (i:=3) NE.nd rfl (Or.inl rfl) (Xg Yg (ah rfl) (Xg Yg (ah rfl) (za 2) Sc (λ_ _=>rfl)) (Xg Yg (ah rfl) (za 1) Sc (λ_ _=>rfl)) (λ_ _=>rfl)))
  (Vc (Sh (i:=4) NE.nd rfl (Or.inl rfl) vu)
  (Vc (Tu Hn rfl (Zn rfl (Xg Yg (ah rfl) (za 2) Sc (λ_ _=>rfl))) (uh (i:=5) NE.nd rfl (Or.inl rfl)) xw)
  (Fd (Rf (Vu (jb (za 3) (jb (za 4) gc))))))))))
noncomputable abbrev UM:Stmt:=top 58
noncomputable abbrev nF:Ev->M Fl:=(dn (Vv yk (wa 1) (Ta (oh (Rj (toN (zi (Hb Ld (wa 2) (eC (.int 1))))) [0,2] (Wd 0) Yi (Sf 3 Le [] (Ta (wa 2) (Ta (wa 3) (Ta (wa 0) xb)))))) xb)))
noncomputable def OQ:Ev->M Fl:=
 (Ec (Vg 1 (jw xb)) (Ec (Zs (zi (Je (be [8,14] "pots") (wa 0))) (Wd 2) nF) (Jf (wa 1))))
noncomputable def Of:List D->M D:=hide λa=>qb (run 3 OQ a)
theorem UF:Ba ["view", "readings", "pot"] ["view"] (qd UM):=fg rfl rfl rfl (by decide +kernel)
theorem vT:BD "read_pots" "read_pots" UM ["view"]:=
 λ_ _ _ _ _ _ b a=>match b,a with|[_],_=>rfl
theorem N7(a:Txt K mg ca):ud ⟨K,ca,tx K⟩ P w mg base 2 "read_pots" ["view"] Of:=
 ud.hide (ud.qb (sk a.Of UF λ_ _ _ _ _ _ _ b=>
  (Vc (Sh (i:=1) UF.nd rfl (Or.inl rfl) (Ny gc))
  (Vc (Tu Hn rfl (Zn rfl (bi rfl (Uy a) (za 0))) (uh (i:=2) UF.nd rfl (Or.inr rfl)) (Fd (uq (Oz Bc qe re Dz Rz (za 1) (jb (Mm (su (x:="one") (z0:="0") (M':=["view", "pot"]) (ix:=[0,2]) rfl ⟨rfl,rfl,rfl,rfl,rfl,rfl⟩ (Yr (Zn rfl (Xg Yg (ah rfl) (za 2) Sc (λ_ _=>rfl)))) (λ_ _ _ _ _=>uh (i:=0) (by show List.Nodup (("one"::"0"::["view", "pot"]):List qa);decide +kernel) rfl (Or.inl rfl)) (λ_ _ _ _ _=>Us) (λ_ _ _ _ _=>(dh (aY a) rfl (b.mono (by decide)) rfl (jb (za 2) (jb (za 3) (jb (za 0) gc))))))) gc)))))
  (Fd (Rf (za 1)))))))
noncomputable abbrev XQ:Stmt:=top 59
noncomputable abbrev cB:Ev->M Fl:=(dn (Vv fy (wa 3) (Ta (oh (Rj (toN (gx (Ii Vo (Ta (wa 2) xb)))) [4] (Wd 0) Yi (Hb zj (wa 2) (Rn (Ta (wa 0) xb))))) xb)))
noncomputable abbrev WD:Ev->M Fl:=(Ec (Vg 3 (jw xb)) (Ec (Zs (zi (wa 1)) (Wd 4) cB) (Vg 1 (wa 3))))
noncomputable def WM:Ev->M Fl:=
 (Ec (Vg 1 (Rn (Ta (Rn xb) xb))) (Ec (Zs (zi (wa 0)) (Wd 2) WD) (Jf (wa 1))))
noncomputable def ke:List D->M D:=hide λa=>qb (run 5 WM a)
theorem kA:Ba ["readings", "choices", "stands", "longer", "chosen"] ["readings"] (qd XQ):=fg rfl rfl rfl (by decide +kernel)
theorem rT:BD "all_choices" "all_choices" XQ ["readings"]:=
 λ_ _ _ _ _ _ b a=>match b,a with|[_],_=>rfl
theorem YX(a:Txt K mg ca):ud ⟨K,ca,tx K⟩ P w mg base 1 "all_choices" ["readings"] ke:=
 ud.hide (ud.qb (sk a.ke kA λ_ _ _ _ _ _ _ b=>
  (Vc (Sh (i:=1) kA.nd rfl (Or.inl rfl) (bq (jb (bq gc) gc)))
  (Vc (Tu Hn rfl (Zn rfl (za 0)) (uh (i:=2) kA.nd rfl (Or.inl rfl)) (Vc (Sh (i:=3) kA.nd rfl (Or.inl rfl) (Ny gc))
  (Vc (Tu Hn rfl (Zn rfl (za 1)) (uh (i:=4) kA.nd rfl (Or.inr rfl)) (Fd (uq (Oz Bc PySem.F.slot_list_extend PySem.F.type_list_extend X3 YZ (za 3) (jb (Mm (su (x:="place") (z0:="0") (M':=["chosen"]) (ix:=[4]) rfl ⟨rfl,rfl,rfl,rfl,rfl,rfl⟩ (Yr (gF rfl a.aj (As Fw (ow rfl) rfl a.ui sd (jb (za 2) gc)))) (λ_ _ _ _ _=>uh (i:=0) (by show List.Nodup (("place"::"0"::["chosen"]):List qa);decide +kernel) rfl (Or.inl rfl)) (λ_ _ _ _ _=>Us) (λ_ _ _ _ _=>(ai (lp rfl) Gg (za 2) (bq (jb (za 0) gc)))))) gc)))))
  (Fd (Sh (i:=1) kA.nd rfl (Or.inl rfl) (za 3))))))
  (Fd (Rf (za 1)))))))
noncomputable abbrev fR:Stmt:=top 61
noncomputable abbrev BC:Ev->M Fl:=(Cn (xx (Hb Ld (wa 2) (eC (.int 1)))) (cq 2 (Fj (Wd 3) (Fj (Wd 4) Lq))) Zt)
noncomputable def qP:Ev->M Fl:=
 (Ec (Vg 1 Jp) (Ec (Zs (zi (wa 0)) (Wd 2) BC) (Jf (wa 1))))
noncomputable def Be:List D->M D:=hide λa=>qb (run 5 qP a)
theorem RB:Ba ["reads", "by_word", "read", "word", "lot"] ["reads"] (qd fR):=fg rfl rfl rfl (by decide +kernel)
theorem J6:BD "lots_by_word" "lots_by_word" fR ["reads"]:=
 λ_ _ _ _ _ _ b a=>match b,a with|[_],_=>rfl
theorem TY(a:Txt K mg ca):ud ⟨K,ca,tx K⟩ P w mg base 1 "lots_by_word" ["reads"] Be:=
 ud.hide (ud.qb (sk a.Be RB λ_ _ _ _ _ _ _ b=>
  (Vc (Sh (i:=1) RB.nd rfl (Or.inl rfl) vu)
  (Vc (Tu Hn rfl (Zn rfl (za 0)) (uh (i:=2) RB.nd rfl (Or.inl rfl)) (Fd (vv Hn rfl (QI (Xg Yg (ah rfl) (za 2) Sc (λ_ _=>rfl))) (Pv rfl (xo (uh (i:=3) RB.nd rfl (Or.inl rfl)) (xo (uh (i:=4) RB.nd rfl (Or.inl rfl)) Jv))) xw)))
  (Fd (Rf (za 1)))))))
noncomputable abbrev lL:Stmt:=top 66
noncomputable def jP:Ev->M Fl:=
 (Ec (Vg 4 (Ii ky (Ta (oh (Rj (toN (zi (wa 0))) [] (Wd 0) Yi (Hb Ld (wa 0) (eC (.int 0))))) xb))) (Ec (Cn (xx (wa 1)) (cq 2 (Fj (Wd 5) (Fj (Wd 6) Lq))) Zt) (Jf (wa 4))))
noncomputable def Rh:List D->M D:=hide λa=>qb (run 7 jP a)
theorem ME:Ba ["reads", "by_word", "fates", "every", "total", "word", "lots"] ["reads", "by_word", "fates", "every"] (qd lL):=fg rfl rfl rfl (by decide +kernel)
theorem WV:BD "sum_of" "sum_of" lL ["reads", "by_word", "fates", "every"]:=
 λ_ _ _ _ _ _ b a=>match b,a with|[_,_,_,_],_=>rfl
theorem DW(a:Txt K mg ca):ud ⟨K,ca,tx K⟩ P w mg base 1 "sum_of" ["reads", "by_word", "fates", "every"] Rh:=
 ud.hide (ud.qb (sk a.Rh ME λ_ _ _ _ _ _ _ b=>
  (Vc (Sh (i:=4) ME.nd rfl (Or.inl rfl) (As (aS rfl) (oK rfl) rfl a.Wr boot_sum (jb (Mm (su (x:="read") (z0:="0") (M':=[]) (ix:=[]) rfl ⟨rfl,rfl,rfl,rfl,rfl,rfl⟩ (Yr (Zn rfl (za 0))) (λ_ _ _ _ _=>uh (i:=0) (by show List.Nodup (("read"::"0"::[]):List qa);decide +kernel) rfl (Or.inl rfl)) (λ_ _ _ _ _=>Us) (λ_ _ _ _ _=>(Xg Yg (ah rfl) (za 0) Sc (λ_ _=>rfl))))) gc)))
  (Vc (vv Hn rfl (QI (za 1)) (Pv rfl (xo (uh (i:=5) ME.nd rfl (Or.inl rfl)) (xo (uh (i:=6) ME.nd rfl (Or.inl rfl)) Jv))) xw)
  (Fd (Rf (za 4)))))))
noncomputable abbrev RP:Stmt:=top 67
noncomputable def KL:Ev->M Fl:=
 (Ec (Vg 3 (Sf 1 Be [] (Ta (wa 0) xb))) (Ec (Vg 4 Jp) (Ec (Cn (xx (wa 3)) (cq 2 (Fj (Wd 5) (Fj (Wd 6) Lq))) Zt) (Jf (Yq (Ta (Sf 4 Rh [] (Ta (wa 0) (Ta (wa 3) (Ta (wa 4) (Ta (wa 2) xb))))) (Ta (wa 1) (Ta (wa 4) xb))))))))
noncomputable def je:List D->M D:=hide λa=>qb (run 7 KL a)
theorem zev:Ba ["reads", "chosen", "every", "by_word", "fates", "word", "lots"] ["reads", "chosen", "every"] (qd RP):=fg rfl rfl rfl (by decide +kernel)
theorem RU:BD "least_paper" "least_paper" RP ["reads", "chosen", "every"]:=
 λ_ _ _ _ _ _ b a=>match b,a with|[_,_,_],_=>rfl
theorem oV(a:Txt K mg ca):ud ⟨K,ca,tx K⟩ P w mg base 2 "least_paper" ["reads", "chosen", "every"] je:=
 ud.hide (ud.qb (sk a.je zev λ_ _ _ _ _ _ _ b=>
  (Vc (Sh (i:=3) zev.nd rfl (Or.inl rfl) (dh (TY a) rfl (b.mono (by decide)) rfl (jb (za 0) gc)))
  (Vc (Sh (i:=4) zev.nd rfl (Or.inl rfl) vu)
  (Vc (vv Hn rfl (QI (za 3)) (Pv rfl (xo (uh (i:=5) zev.nd rfl (Or.inl rfl)) (xo (uh (i:=6) zev.nd rfl (Or.inl rfl)) Jv))) xw)
  (Fd (Rf (Vu (jb (dh (DW a) rfl (b.mono (by decide)) rfl (jb (za 0) (jb (za 3) (jb (za 4) (jb (za 2) gc))))) (jb (za 1) (jb (za 4) gc)))))))))))
noncomputable abbrev mR:Stmt:=top 60
noncomputable def mP:Ev->M Fl:=
 (Jf (oh (Rj (pB (wa 0) (wa 1)) [] (cq 2 (Fj (Wd 0) (Fj (Wd 1) Lq))) Yi (Hb Ld (wa 0) (wa 1)))))
noncomputable def Jc:List D->M D:=hide λa=>qb (run 2 mP a)
theorem sU:Ba ["readings", "chosen"] ["readings", "chosen"] (qd mR):=fg rfl rfl rfl (by decide +kernel)
theorem V0:BD "chosen_readings" "chosen_readings" mR ["readings", "chosen"]:=
 λ_ _ _ _ _ _ b a=>match b,a with|[_,_],_=>rfl
theorem M4(a:Txt K mg ca):ud ⟨K,ca,tx K⟩ P w mg base 1 "chosen_readings" ["readings", "chosen"] Jc:=
 ud.hide (ud.qb (sk a.Jc sU λ_ _ _ _ _ _ _ b=>
  (Fd (Rf (Mm (su (x:="stands") (z0:="place") (M':=[]) (ix:=[]) rfl ⟨rfl,rfl,rfl,rfl,rfl,rfl⟩ (BW rfl a.xu (za 0) (za 1)) (λ_ _ _ _ _=>Pv rfl (xo (uh (i:=0) (by show List.Nodup (("stands"::"place"::[]):List qa);decide +kernel) rfl (Or.inl rfl)) (xo (uh (i:=1) (by show List.Nodup (("stands"::"place"::[]):List qa);decide +kernel) rfl (Or.inl rfl)) Jv))) (λ_ _ _ _ _=>Us) (λ_ _ _ _ _=>(Xg Yg (ah rfl) (za 0) (za 1) (λ_ _=>rfl)))))))))
noncomputable abbrev eO:Stmt:=top 68
noncomputable def yR:Ev->M Fl:=
 (Ec (Vg 1 (Sf 1 Of [] (Ta (wa 0) xb))) (Ec (Vg 2 (oh (Rj (toN (zi (Sf 1 ke [] (Ta (wa 1) xb)))) [1,0] (Wd 0) Yi (Sf 3 je [] (Ta (Sf 2 Jc [] (Ta (wa 2) (Ta (wa 0) xb))) (Ta (wa 0) (Ta (Je (be [8,9] "every") (wa 3)) xb))))))) (Jf (HI [] (Hb Ld (wa 0) (eC (.int 0))) (Ta (wa 2) xb)))))
noncomputable def oi:List D->M D:=hide λa=>qb (run 3 yR a)
theorem RI:Ba ["view", "readings", "papers"] ["view"] (qd eO):=fg rfl rfl rfl (by decide +kernel)
theorem D7:BD "paper" "paper" eO ["view"]:=
 λ_ _ _ _ _ _ b a=>match b,a with|[_],_=>rfl
theorem vM(a:Txt K mg ca):ud ⟨K,ca,tx K⟩ P w mg base 3 "paper" ["view"] oi:=
 ud.hide (ud.qb (K7 a.oi RI λ_ _ _ _ _ _ b=>
  (Vc (Sh (i:=1) RI.nd rfl (Or.inr rfl) (dh (N7 a) rfl (b.mono (by decide)) rfl (jb (za 0) gc)))
  (Vc (fE (YE (i:=2) RI.nd rfl (Or.inl rfl) (x:="chosen") (z0:="0") (M':=["readings", "view"]) (ix:=[1,0]) rfl ⟨rfl,rfl,rfl,rfl,rfl,rfl⟩ (Yr (Zn rfl (dh (YX a) rfl (b.mono (by decide)) rfl (jb (za 1) gc)))) (λ_ _ _ _ _=>uh (i:=0) (by show List.Nodup (("chosen"::"0"::["readings", "view"]):List qa);decide +kernel) rfl (Or.inl rfl)) (λ_ _ _ _ _=>Us) (λ_ _ _ _ _=>(dh (oV a) rfl (b.mono (by decide)) rfl (jb (dh (M4 a) rfl (b.mono (by decide)) rfl (jb (za 2) (jb (za 0) gc))) (jb (za 0) (jb (bi rfl (RE a) (za 3)) gc)))))))
  (Fd (Rf (vZ (x:="told") (M':=[]) (ix:=[]) (t:=uD K) (k:=0) (b.mono (by decide)) ⟨rfl,rfl,rfl,rfl,rfl,rfl⟩ rfl ⟨(pN K),λd c=>a.WI _ (pN K) d c,rfl,a.tb.hd _ (by decide),rfl,rfl,rfl,a.B6,a.tb.bb⟩ rfl a.Lu rfl rfl rfl (λ_ _ _ _ _=>rfl) (jb (za 2) gc) (λ_ _ _ _ _ b=>(Xg Yg (ah rfl) (za 0) Sc (λ_ _=>rfl))))))))))
noncomputable abbrev UP:Stmt:=top 70
noncomputable def WN:Ev->M Fl:=
 (Jf (Hb Ld (Sf 1 oi [] (Ta (wa 0) xb)) (eC (.int 0))))
noncomputable def dj:List D->M D:=hide λa=>qb (run 1 WN a)
theorem w6:Ba ["view"] ["view"] (qd UP):=fg rfl rfl rfl (by decide +kernel)
theorem RV:BD "worth" "worth" UP ["view"]:=
 λ_ _ _ _ _ _ b a=>match b,a with|[_],_=>rfl
theorem PY(a:Txt K mg ca):ud ⟨K,ca,tx K⟩ P w mg base 4 "worth" ["view"] dj:=
 ud.hide (ud.qb (sk a.dj w6 λ_ _ _ _ _ _ _ b=>
  (Fd (Rf (Xg Yg (ah rfl) (dh (ud.alias (vM a) a.dg) rfl (b.mono (by decide)) rfl (jb (za 0) gc)) Sc (λ_ _=>rfl))))))
noncomputable abbrev bO:Stmt:=top 76
noncomputable def lS:Ev->M Fl:=
 (Ec (rl (eT (Hb oEq (Hb Ld (wa 1) (eC (.int 0))) (eC (.str "held")))) (Jf (Je (be [5,6,7] "may") (wa 0))) wl) Zt)
noncomputable def Te:List D->M D:=hide λa=>qb (run 2 lS a)
theorem QU:Ba ["account", "claim"] ["account", "claim"] (qd bO):=fg rfl rfl rfl (by decide +kernel)
theorem uW:BD "stands_told" "stands_told" bO ["account", "claim"]:=
 λ_ _ _ _ _ _ b a=>match b,a with|[_,_],_=>rfl
theorem yU(a:Txt K mg ca):ud ⟨K,ca,tx K⟩ P w mg base 1 "stands_told" ["account", "claim"] Te:=
 ud.hide (ud.qb (sk a.Te QU λ_ _ _ _ _ _ _ b=>
  (Vc (Am (Tj (Oq (Ph b)) Gg (Xg Yg (ah rfl) (za 1) Sc (λ_ _=>rfl)) qt (Hh _)) (Fd (Rf (bi rfl (JH a) (za 0)))) wm)
  xw)))
noncomputable abbrev BN:Stmt:=Ge (top 53) 0
noncomputable def dP:Ev->M Fl:=
 (Ec (Sj [8,9] "every" (wa 1) (wa 0)) (Ec (Sj [8,9] "last_look" (wa 2) (wa 0)) (Ec (Sj [8,9] "known" (oh (Ii Bn (Ta (wa 3) xb))) (wa 0)) (Sj [8,14] "pots" (oh (Rj (toN (zi (wa 4))) [] (Wd 0) Yi (Yq (Ta (Hb Ld (wa 0) (eC (.int 0))) (Ta (oh (Ii Bn (Ta (Hb Ld (wa 0) (eC (.int 1))) xb))) (Ta (Ii Bz (Ta (Hb Ld (wa 0) (eC (.int 2))) xb)) xb)))))) (wa 0)))))
noncomputable def Xq:List D->M D:=hide (run 5 dP)
theorem MZ:Ba ["self", "every", "look", "words", "pots"] ["self", "every", "look", "words", "pots"] (qd BN):=fg rfl rfl rfl (by decide +kernel)
theorem oX:BD "__init__" "View.__init__" BN ["self", "every", "look", "words", "pots"]:=
 λ_ _ _ _ _ _ b a=>match b,a with|[_,_,_,_,_],_=>rfl
theorem Q7(a:Txt K mg ca):Ke ⟨K,ca,tx K⟩ P w mg base 1 (ca 22) ["self", "every", "look", "words", "pots"] Xq:=
 Ke.hide (Bl a.Xq MZ λ_ _ _ _ _ _ b=>
  (Vc (ul rfl (RE a) (za 0) (za 1))
  (Vc (ul rfl (iB a) (za 0) (za 2))
  (Vc (ul rfl (fF a) (za 0) (Mm (Qv Sy (jy rfl) rfl a.mi wj (jb (za 3) gc))))
  (Fd (ul rfl (Uy a) (za 0) (Mm (su (x:="pot") (z0:="0") (M':=[]) (ix:=[]) rfl ⟨rfl,rfl,rfl,rfl,rfl,rfl⟩ (Yr (Zn rfl (za 4))) (λ_ _ _ _ _=>uh (i:=0) (by show List.Nodup (("pot"::"0"::[]):List qa);decide +kernel) rfl (Or.inl rfl)) (λ_ _ _ _ _=>Us) (λ_ _ _ _ _=>(Vu (jb (Xg Yg (ah rfl) (za 0) Sc (λ_ _=>rfl)) (jb (Mm (Qv Sy (jy rfl) rfl a.mi wj (jb (Xg Yg (ah rfl) (za 0) Sc (λ_ _=>rfl)) gc))) (jb (Qv gZ HV rfl a.sr boot_dict (jb (Xg Yg (ah rfl) (za 0) Sc (λ_ _=>rfl)) gc)) gc)))))))))))))
noncomputable abbrev EO:Stmt:=Ge (top 79) 7
noncomputable abbrev zE:Ev->M Fl:=(dn (Vv yk (wa 2) (Ta (Yq (Ta (Je (be [5,6,7,12,13] "side") (wa 4)) (Ta (Sf 2 Te [] (Ta (wa 4) (Ta (Hb Yu (Je (be [9,14] "claims") (wa 0)) (wa 3)) xb))) (Ta (Hb Yu (Je (be [9] "seen") (wa 0)) (wa 3)) xb)))) xb)))
noncomputable def sP:Ev->M Fl:=
 (Ec (Vg 2 (jw xb)) (Ec (kt (wa 1) (Cn (Wu (wa 1)) (cq 2 (Fj (Wd 3) (Fj (Wd 4) Lq))) zE)) (Jf (oh (Iq 8 5 Xq (Ta (Je (be [8,9] "every") (wa 0)) (Ta (Je (be [8,9] "last_look") (wa 0)) (Ta (Ri [(9,Pa)] 1 "words" (wa 0) xb) (Ta (wa 2) xb)))))))))
noncomputable def wc:List D->M D:=hide λa=>qb (run 5 sP a)
theorem kD:Ba ["self", "accounts", "pots", "pot", "account"] ["self", "accounts"] (qd EO):=fg rfl rfl rfl (by decide +kernel)
theorem hX:BD "view_by" "Keeper.view_by" EO ["self", "accounts"]:=
 λ_ _ _ _ _ _ b a=>match b,a with|[_,_],_=>rfl
theorem KZ(a:Txt K mg ca):Ke ⟨K,ca,tx K⟩ P w mg base 3 (ca 30) ["self", "accounts"] wc:=
 Ke.hide (Ke.qb (Bl a.wc kD λ_ _ _ _ _ _ b=>
  (Vc (Sh (i:=2) kD.nd rfl (Or.inl rfl) (Ny gc))
  (Vc (YA (vv Hn rfl (nD (za 1)) (Pv rfl (xo (uh (i:=3) kD.nd rfl (Or.inl rfl)) (xo (uh (i:=4) kD.nd rfl (Or.inl rfl)) Jv))) (Fd (uq (Oz Bc qe re Dz Rz (za 2) (jb (Vu (jb (bi rfl (DI a) (za 4)) (jb (dh (yU a) rfl (b.mono (by decide)) rfl (jb (za 4) (jb (kJ (Ph b) (bi rfl (TC a) (za 0)) (za 3) (λ_ _=>rfl)) gc))) (jb (kJ (Ph b) (bi rfl (mI a) (za 0)) (za 3) (λ_ _=>rfl)) gc)))) gc))))))
  (Fd (Rf (Mm (XD (c:=8) (ps:=["self", "every", "look", "words", "pots"]) ⟨_,a.Vy,a.Bw,Q7 a⟩ rfl (b.mono (by decide)) rfl (jb (bi rfl (RE a) (za 0)) (jb (bi rfl (iB a) (za 0)) (jb (bp (k:=1) (ps:=["self"]) rfl (za 0) (Zz a) (b.mono (by decide))) (jb (za 2) gc))))))))))))
theorem LV(a:Txt K mg ca):xm ⟨K,ca,tx K⟩ P w mg base 3 "view_by" ["self", "accounts"] [(9,wc)]:=(yn (T:=⟨K,ca,tx K⟩) (c:=9) a.Fb a.qk (KZ a) (by decide) Tn)
noncomputable abbrev ZR:Stmt:=Ge (top 79) 8
noncomputable def KQ:Ev->M Fl:=
 (Jf (Ri [(9,wc)] 2 "view_by" (wa 0) (Ta (Je (be [9] "accounts") (wa 0)) xb)))
noncomputable def Fc:List D->M D:=hide λa=>qb (run 1 KQ a)
theorem Y8:Ba ["self"] ["self"] (qd ZR):=fg rfl rfl rfl (by decide +kernel)
theorem iT:BD "view" "Keeper.view" ZR ["self"]:=
 λ_ _ _ _ _ _ b a=>match b,a with|[_],_=>rfl
theorem NZ(a:Txt K mg ca):Ke ⟨K,ca,tx K⟩ P w mg base 4 (ca 31) ["self"] Fc:=
 Ke.hide (Ke.qb (Bl a.Fc Y8 λ_ _ _ _ _ _ b=>
  (Fd (Rf (Wt (k:=3) (ps:=["self", "accounts"]) rfl (za 0) (LV a) (b.mono (by decide)) (jb (bi rfl (zw a) (za 0)) gc))))))
theorem AN(a:Txt K mg ca):xm ⟨K,ca,tx K⟩ P w mg base 4 "view" ["self"] [(9,Fc)]:=(yn (T:=⟨K,ca,tx K⟩) (c:=9) a.Fb a.bn (NZ a) (by decide) Tn)
noncomputable abbrev kQ:Stmt:=Ge (top 79) 9
noncomputable def XR:Ev->M Fl:=
 (Jf (Sf 1 dj [] (Ta (Ri [(9,Fc)] 1 "view" (wa 0) xb) xb)))
noncomputable def Vb:List D->M D:=hide λa=>qb (run 1 XR a)
theorem U5:Ba ["self"] ["self"] (qd kQ):=fg rfl rfl rfl (by decide +kernel)
theorem WU:BD "worth" "Keeper.worth" kQ ["self"]:=
 λ_ _ _ _ _ _ b a=>match b,a with|[_],_=>rfl
theorem SX(a:Txt K mg ca):Ke ⟨K,ca,tx K⟩ P w mg base 5 (ca 32) ["self"] Vb:=
 Ke.hide (Ke.qb (Bl a.Vb U5 λ_ _ _ _ _ _ b=>
  (Fd (Rf (dh (ud.alias (PY a) a.kh) rfl (b.mono (by decide)) rfl (jb (bp (k:=4) (ps:=["self"]) rfl (za 0) (AN a) (b.mono (by decide))) gc))))))
theorem jL(a:Txt K mg ca):xm ⟨K,ca,tx K⟩ P w mg base 5 "worth" ["self"] [(9,Vb)]:=(yn (T:=⟨K,ca,tx K⟩) (c:=9) a.Fb a.jm (SX a) (by decide) Tn)
noncomputable abbrev JR:Stmt:=top 100
noncomputable def nL:Ev->M Fl:=
 (Ec (dn (Ri [(14,qc)] 1 "next_day" (wa 1) xb)) (Ec (dn (Ri [(14,ee)] 3 "show" (wa 1) (Ta (eC (.int 0)) (Ta (eC (.int 59)) xb)))) (Ec (rl (Qs (eT (Hb gk (Ri [(9,Gd)] 2 "look" (wa 0) (Ta (wa 1) xb)) (Rn xb))) (Qs (eT (Hb gk (Ri [(9,Ub)] 1 "looked" (wa 0) xb) (eC (.int 1)))) (eT (Hb gk (Ri [(9,Vb)] 1 "worth" (wa 0) xb) (eC (.int 0)))))) (Jf (eC (.bl false))) wl) (Jf (Hb oEq (Ri [(9,Pa)] 1 "words" (wa 0) xb) (oh (Je Fv (Hb zj (wa 2) (Rn (Ta (eC (.int 59)) xb))))))))))
noncomputable def uf:List D->M D:=hide (run 3 nL)
theorem y1:Ba ["_law_keeper", "_law_book", "_law_words"] ["_law_keeper", "_law_book", "_law_words"] (qd JR):=fg rfl rfl rfl (by decide +kernel)
theorem CZ:BD "_law_looks" "_law_looks" JR ["_law_keeper", "_law_book", "_law_words"]:=
 λ_ _ _ _ _ _ b a=>match b,a with|[_,_,_],_=>rfl
theorem N2(b:Txt K mg ca):ud ⟨K,ca,tx K⟩ P w mg base 6 "_law_looks" ["_law_keeper", "_law_book", "_law_words"] uf:=
 ud.hide (sk b.uf y1 λ_ _ _ _ _ _ _ a=>
  (Vc (uq (bp (k:=1) (ps:=["self"]) rfl (za 1) (N6 b) (a.mono (by decide))))
  (Vc (uq (Wt (k:=4) (ps:=["self", "pot", "word"]) rfl (za 1) (iY b) (a.mono (by decide)) (jb Sc (jb Sc gc))))
  (Vc (Am (L2.PW.pt (Nv (Tj (Pq (Ph a)) Gg (Wt (k:=3) (ps:=["self", "book"]) rfl (za 0) (RS b) (a.mono (by decide)) (jb (za 1) gc)) (bq gc) (Hh _)) (Nv (Tj (Pq (Ph a)) Gg (bp (k:=1) (ps:=["self"]) rfl (za 0) (eP b) (a.mono (by decide))) Sc (Hh _)) (oy (Tj (Pq (Ph a)) Gg (bp (k:=5) (ps:=["self"]) rfl (za 0) (jL b) (a.mono (by decide))) Sc (Hh _)))))) (Fd (Rf Wq)) wm)
  (Fd (Rf (Nq (Oq (Ph a)) Gg (bp (k:=1) (ps:=["self"]) rfl (za 0) (Zz b) (a.mono (by decide))) (Mm (qG rfl rfl rfl b.lh rfl b.Do (ai (lp rfl) Gg (za 2) (bq (jb Sc gc))))) (Hh _))))))))
noncomputable abbrev kR:Stmt:=top 11
noncomputable def jQ:Ev->M Fl:=
 (Jf (Sf 3 Lb [] (Ta (wa 0) (Ta (eC (.int 0)) (Ta (eC (.int 3)) xb)))))
noncomputable def wg:List D->M D:=hide λa=>qb (run 1 jQ a)
theorem Q5:Ba ["thing"] ["thing"] (qd kR):=fg rfl rfl rfl (by decide +kernel)
theorem Q2:BD "is_hand" "is_hand" kR ["thing"]:=
 λ_ _ _ _ _ _ b a=>match b,a with|[_],_=>rfl
theorem LN(a:Txt K mg ca):ud ⟨K,ca,tx K⟩ P w mg base 3 "is_hand" ["thing"] wg:=
 ud.hide (ud.qb (sk a.wg Q5 λ_ _ _ _ _ _ _ b=>
  (Fd (Rf (dh (Av a) rfl (b.mono (by decide)) rfl (jb (za 0) (jb Sc (jb (tu (u:=.int 3 (a.Dh).choose) rfl (a.Dh).choose_spec ⟨_,rfl⟩) gc))))))))
noncomputable abbrev UO:Stmt:=top 88
noncomputable def rR:Ev->M Fl:=
 (Jf (zn (Je (wv .tuple) (wa 0)) (zn (Hb oEq (Ii Vo (Ta (wa 0) xb)) (eC (.int 5))) (zn (Sf 1 wg [] (Ta (Hb Ld (wa 0) (eC (.int 0))) xb)) (zn (Sf 1 wg [] (Ta (Hb Ld (wa 0) (eC (.int 1))) xb)) (zn (Hb gk (Hb Ld (wa 0) (eC (.int 0))) (Hb Ld (wa 0) (eC (.int 1)))) (zn (Sf 3 Lb [] (Ta (Hb Ld (wa 0) (eC (.int 2))) (Ta (eC (.int 0)) (Ta (eC (.int 1000000000000)) xb)))) (zn (Sf 3 Lb [] (Ta (Hb Ld (wa 0) (eC (.int 3))) (Ta (eC (.int 0)) (Ta (eC (.int 1000000000000)) xb)))) (Sf 3 Lb [] (Ta (Hb Ld (wa 0) (eC (.int 4))) (Ta (eC (.int 1)) (Ta (eC (.int 100)) xb))))))))))))
noncomputable def Ue:List D->M D:=hide λa=>qb (run 1 rR a)
theorem jZ:Ba ["thing"] ["thing"] (qd UO):=fg rfl rfl rfl (by decide +kernel)
theorem P0:BD "makes_a_pot" "makes_a_pot" UO ["thing"]:=
 λ_ _ _ _ _ _ b a=>match b,a with|[_],_=>rfl
theorem CW(a:Txt K mg ca):ud ⟨K,ca,tx K⟩ P w mg base 4 "makes_a_pot" ["thing"] Ue:=
 ud.hide (ud.qb (sk a.Ue jZ λ_ _ _ _ _ _ _ b=>
  (Fd (Rf (Ao (aA .tuple (za 0) rfl a.gd rfl a.bj Nr) (Ao (Nq (Oq (Ph b)) Gg (As Fw (ow rfl) rfl a.ui sd (jb (za 0) gc)) Sc (Hh _)) (Ao (dh (LN a) rfl (b.mono (by decide)) rfl (jb (Xg Yg (ah rfl) (za 0) Sc (λ_ _=>rfl)) gc)) (Ao (dh (LN a) rfl (b.mono (by decide)) rfl (jb (Xg Yg (ah rfl) (za 0) Sc (λ_ _=>rfl)) gc)) (Ao (Nq (Pq (Ph b)) Gg (Xg Yg (ah rfl) (za 0) Sc (λ_ _=>rfl)) (Xg Yg (ah rfl) (za 0) Sc (λ_ _=>rfl)) (Hh _)) (Ao (dh (Av a) rfl (b.mono (by decide)) rfl (jb (Xg Yg (ah rfl) (za 0) Sc (λ_ _=>rfl)) (jb Sc (jb (tu (u:=.int 1000000000000 (a.Lf).choose) rfl (a.Lf).choose_spec ⟨_,rfl⟩) gc)))) (Ao (dh (Av a) rfl (b.mono (by decide)) rfl (jb (Xg Yg (ah rfl) (za 0) Sc (λ_ _=>rfl)) (jb Sc (jb (tu (u:=.int 1000000000000 (a.Lf).choose) rfl (a.Lf).choose_spec ⟨_,rfl⟩) gc)))) (lw (dh (Av a) rfl (b.mono (by decide)) rfl (jb (Xg Yg (ah rfl) (za 0) Sc (λ_ _=>rfl)) (jb Sc (jb (tu (u:=.int 100 (a.Eh).choose) rfl (a.Eh).choose_spec ⟨_,rfl⟩) gc))))))))))))))))
noncomputable abbrev jO:Stmt:=top 89
noncomputable abbrev HC:Ev->M Fl:=(rl (Qs (eT (Hb XC (wa 1) (eC (.int 2)))) (Vt (eT (Sf 1 Ue [] (Ta (wa 2) xb))))) Zt wl)
noncomputable def YL:Ev->M Fl:=
 (Ec (Cn (lD (wa 0)) (cq 2 (Fj (Wd 1) (Fj (Wd 2) Lq))) HC) (Jf (oh (Ii Bn (Ta (wa 0) xb)))))
noncomputable def ze:List D->M D:=hide λa=>qb (run 3 YL a)
theorem FJ:Ba ["pots", "number", "made"] ["pots"] (qd jO):=fg rfl rfl rfl (by decide +kernel)
theorem SY:BD "checked_pots" "checked_pots" jO ["pots"]:=
 λ_ _ _ _ _ _ b a=>match b,a with|[_],_=>rfl
theorem jX(a:Txt K mg ca):ud ⟨K,ca,tx K⟩ P w mg base 5 "checked_pots" ["pots"] ze:=
 ud.hide (ud.qb (sk a.ze FJ λ_ _ _ _ _ _ _ b=>
  (Vc (vv Hn rfl (QK rfl a.zh (za 0)) (Pv rfl (xo (uh (i:=1) FJ.nd rfl (Or.inl rfl)) (xo (uh (i:=2) FJ.nd rfl (Or.inl rfl)) Jv))) (Fd (Am (L2.PW.pt (Nv (Tj mG cG (za 1) (tu (u:=.int 2 (a.ki).choose) rfl (a.ki).choose_spec ⟨_,rfl⟩) (Hh _)) (oy (Uv (Ju (dh (CW a) rfl (b.mono (by decide)) rfl (jb (za 2) gc))))))) (Fd CT) wm)))
  (Fd (Rf (Mm (Qv Sy (jy rfl) rfl a.mi wj (jb (za 0) gc))))))))
theorem t3(a:Txt K mg ca):Al ⟨K,ca,tx K⟩ [10,11,12,13] "whole":=(Gh (T:=⟨K,ca,tx K⟩) (c:=10) a.ou a.Om (Gh (T:=⟨K,ca,tx K⟩) (c:=11) a.cw a.Yn (Gh (T:=⟨K,ca,tx K⟩) (c:=12) a.Lo a.Kn (Gh (T:=⟨K,ca,tx K⟩) (c:=13) a.wq a.Xm Co))))
noncomputable abbrev UR:Stmt:=Ge (top 81) 0
noncomputable def UQ:Ev->M Fl:=
 (Sj [10,11,12,13] "whole" (wa 1) (wa 0))
noncomputable def Po:List D->M D:=hide (run 2 UQ)
theorem M0:Ba ["self", "whole"] ["self", "whole"] (qd UR):=fg rfl rfl rfl (by decide +kernel)
theorem ZS:BD "__init__" "Claim.__init__" UR ["self", "whole"]:=
 λ_ _ _ _ _ _ b a=>match b,a with|[_,_],_=>rfl
theorem o6(a:Txt K mg ca):Ke ⟨K,ca,tx K⟩ P w mg base 1 (ca 47) ["self", "whole"] Po:=
 Ke.hide (Bl a.Po M0 λ_ _ _ _ _ _ b=>
  (Fd (ul rfl (t3 a) (za 0) (za 1))))
noncomputable abbrev KO:Stmt:=top 90
noncomputable def iK:Ev->M Fl:=
 (Jf (Hb zj (Hb Ld (wa 0) (eC (.int 2))) (Hb Ld (wa 0) (eC (.int 3)))))
noncomputable def gf:List D->M D:=hide λa=>qb (run 1 iK a)
theorem l8:Ba ["made"] ["made"] (qd KO):=fg rfl rfl rfl (by decide +kernel)
theorem VZ:BD "whole_of" "whole_of" KO ["made"]:=
 λ_ _ _ _ _ _ b a=>match b,a with|[_],_=>rfl
theorem xT(a:Txt K mg ca):ud ⟨K,ca,tx K⟩ P w mg base 1 "whole_of" ["made"] gf:=
 ud.hide (ud.qb (sk a.gf l8 λ_ _ _ _ _ _ _ b=>
  (Fd (Rf (ai (lp rfl) Gg (Xg Yg (ah rfl) (za 0) Sc (λ_ _=>rfl)) (Xg Yg (ah rfl) (za 0) Sc (λ_ _=>rfl)))))))
noncomputable abbrev zM:Stmt:=Ge (top 93) 0
noncomputable def bL:Ev->M Fl:=
 (Ec (Sj [8,14] "pots" (Sf 1 ze [] (Ta (wa 1) xb)) (wa 0)) (Ec (Sj [12,14] "day" (eC (.int 0)) (wa 0)) (Ec (Sj [9,14] "claims" (oh (Rj (toN (zi (Je (be [8,14] "pots") (wa 0)))) [] (Wd 0) Yi (oh (Iq 11 2 Po (Ta (Sf 1 gf [] (Ta (wa 0) xb)) xb))))) (wa 0)) (Sj [14] "shown" (Rj (toN (zi (Je (be [8,14] "pots") (wa 0)))) [] (Wd 0) Yi Jp) (wa 0)))))
noncomputable def mr:List D->M D:=hide (run 2 bL)
theorem vW:Ba ["self", "pots"] ["self", "pots"] (qd zM):=fg rfl rfl rfl (by decide +kernel)
theorem P5:BD "__init__" "Book.__init__" zM ["self", "pots"]:=
 λ_ _ _ _ _ _ b a=>match b,a with|[_,_],_=>rfl
theorem JX(a:Txt K mg ca):Ke ⟨K,ca,tx K⟩ P w mg base 6 (ca 60) ["self", "pots"] mr:=
 Ke.hide (Bl a.mr vW λ_ _ _ _ _ _ b=>
  (Vc (ul rfl (Uy a) (za 0) (dh (jX a) rfl (b.mono (by decide)) rfl (jb (za 1) gc)))
  (Vc (ul rfl (AD a) (za 0) Sc)
  (Vc (ul rfl (TC a) (za 0) (Mm (su (x:="made") (z0:="0") (M':=[]) (ix:=[]) rfl ⟨rfl,rfl,rfl,rfl,rfl,rfl⟩ (Yr (Zn rfl (bi rfl (Uy a) (za 0)))) (λ_ _ _ _ _=>uh (i:=0) (by show List.Nodup (("made"::"0"::[]):List qa);decide +kernel) rfl (Or.inl rfl)) (λ_ _ _ _ _=>Us) (λ_ _ _ _ _=>(Mm (XD (c:=11) (ps:=["self", "whole"]) ⟨_,a.zy,a.fw,o6 a⟩ rfl (b.mono (by decide)) rfl (jb (dh (xT a) rfl (b.mono (by decide)) rfl (jb (za 0) gc)) gc)))))))
  (Fd (ul rfl (UD a) (za 0) (su (x:="made") (z0:="0") (M':=[]) (ix:=[]) rfl ⟨rfl,rfl,rfl,rfl,rfl,rfl⟩ (Yr (Zn rfl (bi rfl (Uy a) (za 0)))) (λ_ _ _ _ _=>uh (i:=0) (by show List.Nodup (("made"::"0"::[]):List qa);decide +kernel) rfl (Or.inl rfl)) (λ_ _ _ _ _=>Us) (λ_ _ _ _ _=>vu))))))))
noncomputable abbrev tO:Stmt:=Ge (top 79) 5
noncomputable def HQ:Ev->M Fl:=
 (Jf (Je (be [9] "gave") (wa 0)))
noncomputable def Ic:List D->M D:=hide λa=>qb (run 1 HQ a)
theorem R7:Ba ["self"] ["self"] (qd tO):=fg rfl rfl rfl (by decide +kernel)
theorem rV:BD "given" "Keeper.given" tO ["self"]:=
 λ_ _ _ _ _ _ b a=>match b,a with|[_],_=>rfl
theorem A5(a:Txt K mg ca):Ke ⟨K,ca,tx K⟩ P w mg base 1 (ca 28) ["self"] Ic:=
 Ke.hide (Ke.qb (Bl a.Ic R7 λ_ _ _ _ _ _ b=>
  (Fd (Rf (bi rfl (fK a) (za 0))))))
theorem xX(a:Txt K mg ca):xm ⟨K,ca,tx K⟩ P w mg base 1 "given" ["self"] [(9,Ic)]:=(yn (T:=⟨K,ca,tx K⟩) (c:=9) a.Fb a.Kl (A5 a) (by decide) Tn)
noncomputable abbrev VM:Stmt:=Ge (top 79) 10
noncomputable def pL:Ev->M Fl:=
 (Jf (Sf 1 oi [] (Ta (Ri [(9,Fc)] 1 "view" (wa 0) xb) xb)))
noncomputable def Gc:List D->M D:=hide λa=>qb (run 1 pL a)
theorem nU:Ba ["self"] ["self"] (qd VM):=fg rfl rfl rfl (by decide +kernel)
theorem l5:BD "paper" "Keeper.paper" VM ["self"]:=
 λ_ _ _ _ _ _ b a=>match b,a with|[_],_=>rfl
theorem Y6(a:Txt K mg ca):Ke ⟨K,ca,tx K⟩ P w mg base 5 (ca 33) ["self"] Gc:=
 Ke.hide (Ke.qb (Bl a.Gc nU λ_ _ _ _ _ _ b=>
  (Fd (Rf (dh (ud.alias (vM a) a.dg) rfl (b.mono (by decide)) rfl (jb (bp (k:=4) (ps:=["self"]) rfl (za 0) (AN a) (b.mono (by decide))) gc))))))
theorem dZ(a:Txt K mg ca):xm ⟨K,ca,tx K⟩ P w mg base 5 "paper" ["self"] [(9,Gc)]:=(yn (T:=⟨K,ca,tx K⟩) (c:=9) a.Fb a.Sl (Y6 a) (by decide) Tn)
noncomputable abbrev TL:Stmt:=top 101
noncomputable abbrev Cy:Ev->M Fl:=(Ec (rl (Qs (eT (Hb WL (wa 10) (Ii Vo (Ta (wa 1) xb)))) (rB (eT (Hb gk (wa 2) (Hb Ld (Hb Ld (wa 1) (wa 10)) (eC (.int 0))))) (eT (Hb gk (wa 2) (Hb Ld (Hb Ld (wa 1) (wa 10)) (eC (.int 1))))))) (Ec (rl (Vt (eT (Sf 2 me [] (Ta (wa 9) (Ta (wa 10) xb))))) (Jf (eC (.bl false))) wl) qI) wl) (Ec (Vg 11 (Ii vB (Ta (Hb oEq (wa 2) (Hb Ld (Hb Ld (wa 1) (wa 10)) (eC (.int 1)))) xb))) (rl (Vt (eT (Sf 4 yc [] (Ta (Ri [(9,lb)] 2 "account" (wa 9) (Ta (wa 10) xb)) (Ta (wa 10) (Ta (wa 11) (Ta (Hz (Hb Ld (wa 1) (wa 10)) (some (eC (.int 2))) (some (eC (.int 4)))) xb))))))) (Jf (eC (.bl false))) wl)))
noncomputable abbrev u1:Ev->M Fl:=(Vg 1 (Sf 1 Nf [] (Ta (wa 0) xb)))
noncomputable abbrev u2:Ev->M Fl:=(Vg 2 (Hb Jq (Sf 2 gb [] (Ta (wa 0) (Ta (eC (.int 1)) xb))) (eC (.int 4))))
noncomputable abbrev u3:Ev->M Fl:=(Vg 3 (Hb AI (Hb Jq (Sf 2 gb [] (Ta (wa 0) (Ta (eC (.int 2)) xb))) (eC (.int 64))) (eC (.int 3))))
noncomputable abbrev u4:Ev->M Fl:=(Vg 4 (oh (Rj (toN (zi (wa 1))) [2] (Wd 0) (Qs (eT (Hb oEq (Hb Ld (wa 0) (eC (.int 0))) (wa 2))) (eT (Hb oEq (Hb Ld (wa 0) (eC (.int 1))) (wa 2)))) (wa 0))))
noncomputable abbrev u5:Ev->M Fl:=(Vg 5 (UE (Hb oLt (wa 3) (eC (.int 1))) (UE (Hb XC (wa 3) (eC (.int 50))) (Hb gk (oh (Rj (toN (zi (wa 4))) [3] (Wd 0) (eT (Hb oLt (Hb Ld (wa 0) (eC (.int 4))) (Hb zj (wa 2) (eC (.int 1))))) (wa 0))) (Rn xb)))))
noncomputable abbrev u6:Ev->M Fl:=(rl (eT (wa 5)) (Jf (Sf 3 Ae [] (Ta (wa 2) (Ta (wa 3) (Ta (wa 1) xb))))) wl)
noncomputable abbrev u7:Ev->M Fl:=(Vg 6 (oh (Rj (toN (gx (Hb Jq (Sf 2 gb [] (Ta (wa 0) (Ta (eC (.int 3)) xb))) (eC (.int 6))))) [0] (Wd 0) Yi (Hb Jq (Sf 2 gb [] (Ta (wa 2) (Ta (Hb zj (eC (.int 13)) (wa 0)) xb))) (eC (.int 60))))))
noncomputable abbrev u8:Ev->M Fl:=(Vg 7 (Hb MB (wa 6) (Hz (wa 6) none (some (eC (.int 1))))))
noncomputable abbrev u9:Ev->M Fl:=(Vg 8 (Ii Bn (Ta (wa 1) xb)))
noncomputable abbrev yG:Ev->M Fl:=(Vg 9 (Iq 9 5 Zl (qw [] (Ta (wa 2) (Ta (wa 3) (Ta (wa 8) (Ta (wa 7) xb)))))))
noncomputable abbrev KG:Ev->M Fl:=(dn (Vv Fz (wa 8) xb))
noncomputable abbrev nJ:Ev->M Fl:=(rl (Qs (eT (Hb gk (Ri [(9,Pa)] 1 "words" (wa 9) xb) (oh (Je Fv (wa 6))))) (eT (Hb gk (wa 7) (Hb zj (wa 6) (Hz (wa 6) none (some (eC (.int 1)))))))) (Jf (eC (.bl false))) wl)
noncomputable abbrev xI:Ev->M Fl:=(rl (eT (Hb gk (Ri [(9,Pa)] 1 "words" (Iq 9 5 Zl (qw [.Yb] (Ta (wa 2) (Ta (wa 3) (Ta (wa 1) xb))))) xb) (Rn xb))) (Jf (eC (.bl false))) wl)
noncomputable abbrev IG:Ev->M Fl:=(dn (Vv yk (wa 7) (Ta (eC (.int 59)) xb)))
noncomputable abbrev aG:Ev->M Fl:=(dn (Vv yk (Ri [(9,Pa)] 1 "words" (wa 9) xb) (Ta (eC (.int 58)) xb)))
noncomputable abbrev SG:Ev->M Fl:=(rl (eT (Hb gk (Ri [(9,Pa)] 1 "words" (wa 9) xb) (oh (Je Fv (wa 6))))) (Jf (eC (.bl false))) wl)
noncomputable abbrev yJ:Ev->M Fl:=(Zs (gx (eC (.int 3))) (Wd 10) Cy)
noncomputable abbrev MI:Ev->M Fl:=(Vg 12 (Iq 9 5 Zl (qw [] (Ta (wa 2) (Ta (wa 3) (Ta (wa 1) (Ta (wa 6) xb)))))))
noncomputable abbrev ND:Ev->M Fl:=(rl (rB (eT (Hb oEq (wa 4) (Rn xb))) (Vt (eT (Sf 3 uf [] (Ta (wa 12) (Ta (Iq 14 2 mr (Ta (wa 1) xb)) (Ta (wa 6) xb))))))) (Jf (eC (.bl false))) wl)
noncomputable abbrev iJ:Ev->M Fl:=(Vg 13 (Ii ky (Ta (oh (Rj (toN (zi (wa 4))) [2] (Wd 0) Yi (Hb Ld (wa 0) (Hb zj (eC (.int 2)) (Ii vB (Ta (Hb oEq (wa 2) (Hb Ld (wa 0) (eC (.int 1)))) xb)))))) xb)))
noncomputable abbrev LI:Ev->M Fl:=(rl (eT (Hb gk (Rn (Ta (Ri [(9,Ub)] 1 "looked" (wa 9) xb) (Ta (Ri [(9,Ic)] 1 "given" (wa 9) xb) xb))) (Rn (Ta (eC (.int 0)) (Ta (eC (.int 0)) xb))))) (Jf (eC (.bl false))) wl)
noncomputable abbrev bG:Ev->M Fl:=(Jf (Hb oEq (Rn (Ta (Ri [(9,Vb)] 1 "worth" (wa 9) xb) (Ta (Hb Ld (Ri [(9,Gc)] 1 "paper" (wa 9) xb) (eC (.int 0))) xb))) (Rn (Ta (wa 13) (Ta (wa 13) xb)))))
noncomputable def mJ:Ev->M Fl:=
 (Ec u1 (Ec u2 (Ec u3 (Ec u4 (Ec u5 (Ec u6 (Ec u7 (Ec u8 (Ec u9 (Ec yG (Ec KG (Ec nJ (Ec xI (Ec IG (Ec aG (Ec SG (Ec yJ (Ec MI (Ec ND (Ec iJ (Ec LI bG)))))))))))))))))))))
noncomputable def Km:List D->M D:=run 14 mJ
theorem Cs:Ba ["_law_script", "_law_pots_here", "_law_hand", "_law_every", "_law_mine", "_law_bad", "_law_words", "_law_handed", "_law_given", "_law_keeper", "_law_k", "_law_side", "_law_other", "_law_coins"] ["_law_script"] (qd TL):=fg rfl rfl rfl (by decide +kernel)
theorem P2:BD "law" "law" TL ["_law_script"]:=
 λ_ _ _ _ _ _ b a=>match b,a with|[_],_=>rfl
theorem fZ(a:Txt K mg ca):RF ⟨K,ca,tx K⟩ P w mg 11 "law" ["_law_script"] Km:=
 G2 a.Km Cs λ_ _ _ _ _ _ _ _ b=>
  (Vc (Sh (i:=1) Cs.nd rfl (Or.inl rfl) (dh (f8 a) rfl (b.mono (by decide)) rfl (jb (za 0) gc)))
  (Vc (Sh (i:=2) Cs.nd rfl (Or.inr rfl) (ai Au nu (dh (Hx a) rfl (b.mono (by decide)) rfl (jb (za 0) (jb Sc gc))) Sc))
  (Vc (Sh (i:=3) Cs.nd rfl (Or.inr rfl) (ai eS rM (ai Au nu (dh (Hx a) rfl (b.mono (by decide)) rfl (jb (za 0) (jb Sc gc))) Sc) Sc))
  (Vc (fE (YE (i:=4) Cs.nd rfl (Or.inl rfl) (x:="_law_pot") (z0:="0") (M':=["_law_hand"]) (ix:=[2]) rfl ⟨rfl,rfl,rfl,rfl,rfl,rfl⟩ (Yr (Zn rfl (za 1))) (λ_ _ _ _ _=>uh (i:=0) (by show List.Nodup (("_law_pot"::"0"::["_law_hand"]):List qa);decide +kernel) rfl (Or.inl rfl)) (λ_ _ _ _ _=>cP (L2.PW.pt (Nv (Tj (Oq (Ph b)) Gg (Xg Yg (ah rfl) (za 0) Sc (λ_ _=>rfl)) (za 2) (Hh _)) (oy (Tj (Oq (Ph b)) Gg (Xg Yg (ah rfl) (za 0) Sc (λ_ _=>rfl)) (za 2) (Hh _)))))) (λ_ _ _ _ _=>(za 0))))
  (Vc (Sh (i:=5) Cs.nd rfl (Or.inl rfl) (sL (Nq qF SD (za 3) Sc (Hh _)) (sL (Nq mG cG (za 3) Sc (Hh _)) (lw (Nq (Pq (Ph b)) Gg (Mm (su (x:="_law_pot") (z0:="0") (M':=["_law_every"]) (ix:=[3]) rfl ⟨rfl,rfl,rfl,rfl,rfl,rfl⟩ (Yr (Zn rfl (za 4))) (λ_ _ _ _ _=>uh (i:=0) (by show List.Nodup (("_law_pot"::"0"::["_law_every"]):List qa);decide +kernel) rfl (Or.inl rfl)) (λ_ _ _ _ _=>cP (Tj qF SD (Xg Yg (ah rfl) (za 0) Sc (λ_ _=>rfl)) (ai (lp rfl) Gg (za 2) Sc) (Hh _))) (λ_ _ _ _ _=>(za 0)))) (bq gc) (Hh _))))))
  (Vc (Am (Ju (za 5)) (Fd (Rf (dh (C3 a) rfl (b.mono (by decide)) rfl (jb (za 2) (jb (za 3) (jb (za 1) gc)))))) wm)
  (Vc (fE (YE (i:=6) Cs.nd rfl (Or.inl rfl) (x:="_law_k") (z0:="0") (M':=["_law_script"]) (ix:=[0]) rfl ⟨rfl,rfl,rfl,rfl,rfl,rfl⟩ (Yr (gF rfl a.aj (ai Au nu (dh (Hx a) rfl (b.mono (by decide)) rfl (jb (za 0) (jb Sc gc))) Sc))) (λ_ _ _ _ _=>uh (i:=0) (by show List.Nodup (("_law_k"::"0"::["_law_script"]):List qa);decide +kernel) rfl (Or.inl rfl)) (λ_ _ _ _ _=>Us) (λ_ _ _ _ _=>(ai Au nu (dh (Hx a) rfl (b.mono (by decide)) rfl (jb (za 2) (jb (ai (lp rfl) Gg Sc (za 0)) gc))) Sc))))
  (Vc (Sh (i:=7) Cs.nd rfl (Or.inl rfl) (ai E5 Gg (za 6) (lE rfl (za 6) lG (BB Sc))))
  (Vc (Sh (i:=8) Cs.nd rfl (Or.inl rfl) (Qv Sy (jy rfl) rfl a.mi wj (jb (za 1) gc)))
  (Vc (Sh (i:=9) Cs.nd rfl (Or.inl rfl) (dE (c:=9) (ps:=["self", "hand", "every", "pots", "words"]) a.jk a.fj (zC a) (.inl rfl) .nil (λ_ _=>Ua.nil) rfl (b.mono (by decide)) rfl (jb (za 2) (jb (za 3) (jb (za 8) (jb (za 7) gc))))))
  (Vc (uq (D4 Bc PySem.F.slot_list_clear PySem.F.type_list_clear L2.rq F8 (za 8)))
  (Vc (Am (L2.PW.pt (Nv (Tj (Pq (Ph b)) Gg (bp (k:=1) (ps:=["self"]) rfl (za 9) (Zz a) (b.mono (by decide))) (Mm (qG rfl rfl rfl a.lh rfl a.Do (za 6))) (Hh _)) (oy (Tj (Pq (Ph b)) Gg (za 7) (ai (lp rfl) Gg (za 6) (lE rfl (za 6) lG (BB Sc))) (Hh _))))) (Fd (Rf Wq)) wm)
  (Vc (Am (Tj (Pq (Ph b)) Gg (bp (k:=1) (ps:=["self"]) rfl (dE (c:=9) (ps:=["self", "hand", "every", "pots", "words"]) a.jk a.fj (zC a) (.inr rfl) XF WG rfl (b.mono (by decide)) rfl (jb (za 2) (jb (za 3) (jb (za 1) gc)))) (Zz a) (b.mono (by decide))) (bq gc) (Hh _)) (Fd (Rf Wq)) wm)
  (Vc (uq (Oz Bc qe re Dz Rz (za 7) (jb Sc gc)))
  (Vc (uq (Oz Bc qe re Dz Rz (bp (k:=1) (ps:=["self"]) rfl (za 9) (Zz a) (b.mono (by decide))) (jb Sc gc)))
  (Vc (Am (Tj (Pq (Ph b)) Gg (bp (k:=1) (ps:=["self"]) rfl (za 9) (Zz a) (b.mono (by decide))) (Mm (qG rfl rfl rfl a.lh rfl a.Do (za 6))) (Hh _)) (Fd (Rf Wq)) wm)
  (Vc (Tu Hn rfl (gF rfl a.aj Sc) (uh (i:=10) Cs.nd rfl (Or.inl rfl)) (Vc (Am (L2.PW.pt (Nv (Tj k6 KY (za 10) (As Fw (ow rfl) rfl a.ui sd (jb (za 1) gc)) (Hh _)) (oy (L2.PW.pt (mH (Tj (Pq (Ph b)) Gg (za 2) (Xg Yg (ah rfl) (Xg Yg (ah rfl) (za 1) (za 10) (λ_ _=>rfl)) Sc (λ_ _=>rfl)) (Hh _)) (QG (Tj (Pq (Ph b)) Gg (za 2) (Xg Yg (ah rfl) (Xg Yg (ah rfl) (za 1) (za 10) (λ_ _=>rfl)) Sc (λ_ _=>rfl)) (Hh _)))))))) (Vc (Am (Uv (Ju (dh (TV a) rfl (b.mono (by decide)) rfl (jb (za 9) (jb (za 10) gc))))) (Fd (Rf Wq)) wm)
  (Fd JZ)) wm)
  (Vc (Sh (i:=11) Cs.nd rfl (Or.inl rfl) (Qv DL WQ rfl a.kq RJ (jb (Nq (Oq (Ph b)) Gg (za 2) (Xg Yg (ah rfl) (Xg Yg (ah rfl) (za 1) (za 10) (λ_ _=>rfl)) Sc (λ_ _=>rfl)) (Hh _)) gc)))
  (Fd (Am (Uv (Ju (dh (g4 a) rfl (b.mono (by decide)) rfl (jb (Wt (k:=1) (ps:=["self", "pot"]) rfl (za 9) (YP a) (b.mono (by decide)) (jb (za 10) gc)) (jb (za 10) (jb (za 11) (jb (lE rfl (Xg Yg (ah rfl) (za 1) (za 10) (λ_ _=>rfl)) (BB Sc) (BB Sc)) gc))))))) (Fd (Rf Wq)) wm)))))
  (Vc (Sh (i:=12) Cs.nd rfl (Or.inl rfl) (dE (c:=9) (ps:=["self", "hand", "every", "pots", "words"]) a.jk a.fj (zC a) (.inl rfl) .nil (λ_ _=>Ua.nil) rfl (b.mono (by decide)) rfl (jb (za 2) (jb (za 3) (jb (za 1) (jb (za 6) gc))))))
  (Vc (Am (L2.PW.pt (mH (Tj (Oq (Ph b)) Gg (za 4) (bq gc) (Hh _)) (QG (Uv (Ju (dh (N2 a) rfl (b.mono (by decide)) rfl (jb (za 12) (jb (XD (c:=14) (ps:=["self", "pots"]) ⟨_,a.By,a.iw,JX a⟩ rfl (b.mono (by decide)) rfl (jb (za 1) gc)) (jb (za 6) gc))))))))) (Fd (Rf Wq)) wm)
  (Vc (Sh (i:=13) Cs.nd rfl (Or.inl rfl) (As (aS rfl) (oK rfl) rfl a.Wr boot_sum (jb (Mm (su (x:="_law_pot") (z0:="0") (M':=["_law_hand"]) (ix:=[2]) rfl ⟨rfl,rfl,rfl,rfl,rfl,rfl⟩ (Yr (Zn rfl (za 4))) (λ_ _ _ _ _=>uh (i:=0) (by show List.Nodup (("_law_pot"::"0"::["_law_hand"]):List qa);decide +kernel) rfl (Or.inl rfl)) (λ_ _ _ _ _=>Us) (λ_ _ _ _ _=>(Xg Yg (ah rfl) (za 0) (ai (lp rfl) Gg Sc (Qv DL WQ rfl a.kq RJ (jb (Nq (Oq (Ph b)) Gg (za 2) (Xg Yg (ah rfl) (za 0) Sc (λ_ _=>rfl)) (Hh _)) gc))) (λ_ _=>rfl))))) gc)))
  (Vc (Am (Tj (Pq (Ph b)) Gg (bq (jb (bp (k:=1) (ps:=["self"]) rfl (za 9) (eP a) (b.mono (by decide))) (jb (bp (k:=1) (ps:=["self"]) rfl (za 9) (xX a) (b.mono (by decide))) gc))) (bq (jb Sc (jb Sc gc))) (Hh _)) (Fd (Rf Wq)) wm)
  (Fd (Rf (Nq (Oq (Ph b)) Gg (bq (jb (bp (k:=5) (ps:=["self"]) rfl (za 9) (jL a) (b.mono (by decide))) (jb (Xg Yg (ah rfl) (bp (k:=5) (ps:=["self"]) rfl (za 9) (dZ a) (b.mono (by decide))) Sc (λ_ _=>rfl)) gc))) (bq (jb (za 13) (jb (za 13) gc))) (Hh _)))))))))))))))))))))))))
end
end K41
namespace K41
open PySem L2 L4
set_option maxHeartbeats 4000000
section
variable{α:Type}{xs:List α}{σ:Oa}{fi:Ev->M Bool}{fe:Ev->M D}{tg:D->Ev->Option Ev}{nx:NX}{Eg:Ev}
theorem yO(O:Option D->Prop)(v a:α->D)(b:α->Option D)(p:α->Bool)(y:α->D)(hn:∀ i j,i<=xs.length->nx i (σ++j)=some ((xs[i]?).map v))(s:∀ x o c,O c->tg (v x) (o::c::Eg)=some (some (a x)::b x::Eg)/\O (b x))
  (step:∀ x∈xs,∀ j,fi (some (a x)::b x::Eg) (σ++j)=.ok (p x) (σ++j)/\(p x=true->fe (some (a x)::b x::Eg) (σ++j)=.ok (y x) (σ++j))) (z:xs.length<=1000) :
  ∀ (k i:Nat) (o c:Option D) (ys:List D),O c->xs.length<k+i->i<=xs.length->ys.length<=i->
   ij nx σ.length tg fi fe k i (o::c::Eg) (σ++[.lst ys])=.ok () (σ++[.lst (ys++((xs.drop i).filter p).map y)]):=by
 intro k;induction k with
 |zero=>intro i o c ys _ q l;omega
 |succ k m=>
  intro i o c ys r q l A;unfold ij;rw[hn i _ l];cases e:xs[i]? with
  |none=>
   have g:xs.length<=i:=Wa.mp e;rw[Li g];simp
  |some d=>
   obtain⟨g,h⟩:=ka.mp e;have hd:xs.drop i=d::xs.drop (i+1):=by rw[<-h];exact Ef g
   obtain⟨t,u⟩:=step d (by rw[<-h];exact Cf g) [.lst ys];obtain⟨w,n⟩:=s d o c r;simp only[Ve,w];rw[zo,PB t,se];by_cases f:p d=true
   ·rw[f,ia rfl,zo,PB (u f),se,zo,nB (by omega),se,m (i+1) _ _ (ys++[y d]) n (by omega) (by omega) (by simp;omega),hd,jc,ia f];simp
   ·rw[ja f,m (i+1) _ _ ys n (by omega) (by omega) (by omega),hd,jc,ja f]
end
theorem iy{σ:Oa}{xs:List D}(h:Nh xs=true):Ag σ (.ok (.ref σ.length) (σ++[.lst xs]))=.ok (.lst xs) σ:=by
 have:=bP (σ:=σ) (j:=[]) (j':=[]) h;simpa using this
theorem LM{src:Ev->M Src}{s:Src}{ix:List Nat}{fi:Ev->M Bool}{fe:Ev->M D}{ds:List D}{ρ:Ev}{σ:Oa}(y:D->D)(p:D->Bool)(f:src ρ σ=.ok s σ)(hn:∀ i j,s.nx i (σ++j)=some ds[i]?)(e:ds.length<=1000)
  (step:∀ d∈ds,∀ j,fi (some d::none::(ix.map λi=>(ρ[i]?).getD none)) (σ++j)=.ok (p d) (σ++j)/\(p d=true->fe (some d::none::(ix.map λi=>(ρ[i]?).getD none)) (σ++j)=.ok (y d) (σ++j))) (c:∀ d∈ds,p d=true->cl (y d)=true) :
  oh (Rj (toN src) ix (Wd 0) fi fe) ρ σ=.ok (.lst ((ds.filter p).map y)) σ:=by
 show Ag σ (Mc (Mc (src ρ) uH) (KC (Wd 0) fi fe (Hu ix ρ)) σ)=_;rw[zo,zo,f,se];show Ag σ (Mc (ij s.nx σ.length (Wd 0) fi fe 1001 0 (none::none::(ix.map λi=>(ρ[i]?).getD none))) _ (σ++[.lst []]))=_;rw[zo,yO (λo=>o=none) (λd=>d) (λd=>d) (λ_=>none) p y (λi j _=>by rw[hn];cases ds[i]?<;>rfl) (λx o k h=>by subst h;exact⟨rfl,rfl⟩) step e 1001 0 none none [] rfl (by omega) (by omega) (by simp),se];refine Eq.trans (we (Ag σ) ?_) (iy (xs:=(ds.filter p).map y) (mw λd hd=>by obtain⟨x,g,rfl⟩:=Ra.mp hd;obtain⟨a,b⟩:=Dn.mp g;exact c x a b));simp
theorem Rv{src:Ev->M Src}{s:Src}{ix:List Nat}{fe:Ev->M D}{ds:List D}{ρ:Ev}{σ:Oa}(y:D->D)(c:src ρ σ=.ok s σ)(hn:∀ i j,s.nx i (σ++j)=some ds[i]?)(b:ds.length<=1000)
  (step:∀ d∈ds,∀ j,fe (some d::none::(ix.map λi=>(ρ[i]?).getD none)) (σ++j)=.ok (y d) (σ++j)) (a:∀ d∈ds,cl (y d)=true) :
  oh (Rj (toN src) ix (Wd 0) Yi fe) ρ σ=.ok (.lst (ds.map y)) σ:=by
 have:=LM (p:=λ_=>true) y (ix:=ix) (fi:=Yi) c hn b (λd hd j=>⟨rfl,λ_=>step d hd j⟩) (λd hd _=>a d hd);rw[show List.filter (λ_=>true) ds=ds from Dt.mpr λ_ _=>rfl]at this;exact this
structure Pt where
 (l r u v t:Int)
noncomputable def Pt.D(p:Pt):L4.D:=.tup [.int p.l,.int p.r,.int p.u,.int p.v,.int p.t]
structure Pt.Ok(p:Pt):Prop where
 l:0<=p.l/\p.l<=3
 r:0<=p.r/\p.r<=3
 n:p.l≠p.r
 u:0<=p.u/\p.u<=1000000000000
 v:0<=p.v/\p.v<=1000000000000
 t:1<=p.t/\p.t<=100
noncomputable def bd(i a b:Int):Bool:=decide (a<=i) && decide (i<=b)
theorem IT{i a b:Int}(h:a<=i/\i<=b):bd i a b=true:=by simp[bd,h]
theorem l0(i:Int)(σ:Oa):ug [.int i] σ=.ok (.bl true) σ:=by
 unfold ug VN;simp
theorem nP(i a b:Int)(σ:Oa):Lb [.int i,.int a,.int b] σ=.ok (.bl (bd i a b)) σ:=by
 have w:=λσ=>l0 i σ;unfold Lb eK;cases c:decide (a<=i)<;>simp[bd,c,w]
theorem Ow{i a b:Int}(h:a<=i/\i<=b)(σ:Oa):Lb [.int i,.int a,.int b] σ=.ok (.bl true) σ:=by rw[nP,IT h]
theorem cM{i:Int}(h:0<=i/\i<=3)(σ:Oa):wg [.int i] σ=.ok (.bl true) σ:=by
 have w:=λσ=>Ow h σ;unfold wg jQ;simp[w]
theorem GO(a b c d e:D)(r:List D)(σ:Oa):Ld (.tup (a::b::c::d::e::r)) (.int 4) σ=.ok e σ:=bB (show Sm _ ((4:Nat):Int)=_ from sw rfl)
theorem DE(p:Pt)(σ:Oa):Ld p.D (.int 0) σ=.ok (.int p.l) σ:=by unfold Pt.D;simp
theorem tz(p:Pt)(σ:Oa):Ld p.D (.int 1) σ=.ok (.int p.r) σ:=by unfold Pt.D;simp
theorem SL(p:Pt)(σ:Oa):Ld p.D (.int 2) σ=.ok (.int p.u) σ:=by unfold Pt.D;simp
theorem wN(p:Pt)(σ:Oa):Ld p.D (.int 3) σ=.ok (.int p.v) σ:=by unfold Pt.D;simp
theorem XH(p:Pt)(σ:Oa):Ld p.D (.int 4) σ=.ok (.int p.t) σ:=GO ..
theorem N4{p:Pt}(h:p.Ok)(σ:Oa):Ue [p.D] σ=.ok (.bl true) σ:=by
 have f:=λσ=>cM h.l σ;have g:=λσ=>cM h.r σ;have i:=λσ=>Ow h.u σ;have j:=λσ=>Ow h.v σ;have k:=λσ=>Ow h.t σ;have hn:∀ σ,gk (.int p.l) (.int p.r) σ=.ok (.bl true) σ:=λσ=>by simp[h.n]
 have m:=λa b c d e r σ=>GO a b c d e r σ;unfold Ue rR Pt.D;simp[f,g,i,j,k,hn,m]
@[simp] theorem ye8(f:Ev->M D)(b a:PF)(ρ:Ev)(σ:Oa):Hz f b a ρ σ=(f ρ σ).bind (kG (gy b ρ) (gy a ρ)):=nr rfl
@[simp] theorem ycg(b a:M (Option Int))(x:D)(σ:Oa):kG b a x σ=(b σ).bind (vG x a):=nr rfl
@[simp] theorem ych(x:D)(a:M (Option Int))(b:Option Int)(σ:Oa):vG x a b σ=(a σ).bind (ax x b):=nr rfl
@[simp] theorem Q9(ρ:Ev)(σ:Oa):gy none ρ σ=.ok none σ:=nr rfl
@[simp] theorem zv9(f:Ev->M D)(ρ:Ev)(σ:Oa):gy (some f) ρ σ=(f ρ σ).bind YI:=nr rfl
@[simp] theorem yam(i:Int)(σ:Oa):YI (.int i) σ=.ok (some i) σ:=nr rfl
@[simp] theorem IH(xs:List D)(b a:Option Int)(σ:Oa):ax (.tup xs) b a σ=.ok (.tup (nt xs b a)) σ:=nr rfl
theorem ZG{nx:NX}{tg:D->Ev->Option Ev}{body:Ev->M Fl}{k i:Nat}{ρ ρ1:Ev}{σ:Oa}{d:D}(h:nx i σ=some (some d))(a:tg d ρ=some ρ1):zp nx tg body (k+1) i ρ σ=(body ρ1 σ).bind (Qt (zp nx tg body k (i+1))):=by
 rw[zp];simp only[h,a];rfl
theorem Mz{nx:NX}{tg:D->Ev->Option Ev}{body:Ev->M Fl}{k i:Nat}{ρ:Ev}{σ:Oa}(h:nx i σ=some none):zp nx tg body (k+1) i ρ σ=.ok (.nx ρ) σ:=by
 rw[zp];simp only[h]
@[simp] theorem gU(f:Ev->M D)(ρ:Ev)(σ:Oa):lD f ρ σ=(f ρ σ).bind ny:=nr rfl
@[simp] theorem Pu(src:Ev->M NX)(tg:D->Ev->Option Ev)(body:Ev->M Fl)(ρ:Ev)(σ:Oa):Cn src tg body ρ σ=qq ρ (AE tg body ρ) (src ρ σ):=Ur ..
theorem N1(n:Nat)(x:Xn)(σ:Oa):Zy n (.ex x σ)=.ex x σ:=nr rfl
section
variable{σ:Oa}{x:D}{xs:List D}
theorem iO(h:Ff σ x=some xs):ny x σ=.ok (Yt x) σ:=by unfold ny;rw[h]
theorem nK{i:Nat}{d:D}(h:Ff σ x=some xs)(a:xs[i]?=some d):Yt x i σ=some (some (.tup [.int i,d])):=by unfold Yt;rw[h];simp only[a]
theorem qO(h:Ff σ x=some xs):Yt x xs.length σ=some none:=by unfold Yt;rw[h];simp
theorem gO(a:ym σ x=some xs)(h:Nh xs=true):Ag σ (Bn [x] σ)=.ok (.lst xs) σ:=by
 have e:Bn [x] σ=.ok (.ref σ.length) (σ++[.lst xs]):=by unfold Bn;simp only[a];rfl
 rw[e];have:=bP (σ:=σ) (j:=[]) (j':=[]) h;simpa using this
end
theorem sB{xs:List D}(h:Nh xs=true)(σ:Oa):Ag σ (Bn [.lst xs] σ)=.ok (.lst xs) σ:=gO (x:=.lst xs) (R6 xs) h
noncomputable def PL(ps:List Pt):D:=.lst (ps.map Pt.D)
@[simp] theorem QM(p:Pt):cl p.D=true:=by unfold Pt.D;simp
theorem BE(ps:List Pt):Nh (ps.map Pt.D)=true:=mw λd hd=>by
 obtain⟨p,_,rfl⟩:=Ra.mp hd;exact QM p
@[simp] theorem vQ(ps:List Pt):cl (PL ps)=true:=by unfold PL;rw[cl];exact BE ps
noncomputable def bh(u v:Int):D:=.tup [.int 0,.tup [.int u,.int v],.tup []]
theorem YY(fe:Ev->M D)(σ:Oa):oh (Rj (toN (zi (wa 0))) [] (Wd 0) Yi fe) [some (.tup [])] σ=.ok (.lst []) σ:=
 Rv (s:=.seq []) (ix:=[]) (ds:=[]) (λd=>d) (by simp) (λ_ _=>rfl) (by simp) (λd hd=>nomatch hd) (λd hd=>nomatch hd)
theorem W0(σ:Oa):vg [.tup []] σ=.ok (.bl true) σ:=by
 have c:=λb σ=>YY b σ;have d:∀ σ:Oa,Tz (.lst []) σ=.ok (.int 0) σ:=λσ=>pW (σ:=σ) (l:=[]) (by simp);have a:∀ σ:Oa,JE [.lst []] σ=.ok (.bl true) σ:=λσ=>nr rfl;unfold vg cL;simp[c,d,a,-cr]
theorem yZ{u v:Int}(j:0<=u/\u<=1000000000000)(k:0<=v/\v<=1000000000000)(σ:Oa):cj [.int u,.int v] σ=.ok (bh u v) σ:=by
 have d:∀ σ,Mf [.int 0] σ=.ok (.bl true) σ:=λσ=>by
  have w:=λσ=>Ow (i:=0) (a:=0) (b:=1000000) (by omega) σ;unfold Mf DP;simp[w]
 have e:∀ σ,tf [.tup [.int u,.int v]] σ=.ok (.bl true) σ:=λσ=>by
  have w:=λσ=>Ow (i:=u) (a:=0) (b:=2000000000000) (by omega) σ;have h:=λσ=>Ow (i:=v) (a:=0) (b:=2000000000000) (by omega) σ;unfold tf mL;simp[w,h]
 have c:∀ σ,rg [bh u v] σ=.ok (.bl true) σ:=λσ=>by
  have t:=λσ=>W0 σ;unfold bh rg LO;simp[d,e,t]
 have f:∀ σ,Xi [.int 0,.tup [.int u,.int v],.Yb] σ=.ok (bh u v) σ:=λσ=>by
  unfold bh at c ⊢;unfold Xi YO;simp[c]
 have g:cl (bh u v)=true:=by unfold bh;simp
 unfold cj MK;generalize bh u v=S at *;simp[f,g]
theorem EX(c:Nat)(fn:List D->M D)(a b d e f g:D)(σ:Oa):Fq c 7 fn [a,b,d,e,f,g] σ=Zy σ.length (fn [.ref σ.length,a,b,d,e,f,g] (σ++[.ins c []])):=dH rfl
noncomputable def Ai(p s u v:Int):D:=.obj 6 ["pot", "side", "mine", "grant", "may", "strikes"] [.int p,.int s,bh u v,.Yb,.lst [bh u v],.lst []]
theorem GW(p s m:D)(y:List D)(i:Nh y=true)(σ:Oa):ar [.ref σ.length,p,s,m,.Yb,.lst y,.lst []] (σ++[.ins 6 []])=.ok .Yb (σ++[.ins 6 [("pot",p),("side",s),("mine",m),("grant",.Yb),("may",.lst y),("strikes",.lst [])]]):=by
 have e:=λ(a:List Nat) (g:a.contains 6=true) (f:qa) (v:D) (fs:List (qa × D)) (h:fs.length<1000)=>TF (ρ:=[some (.ref σ.length),some p,some s,some m,some .Yb,some (.lst y),some (.lst [])]) (σ:=σ) (cs:=a) (f:=f) (d:=v) (c:=6) (fs:=fs) g h;have j:vm "pot" p []=([("pot",p)]:List (qa × D)):=rfl;have k:vm "side" s [("pot",p)]=([("pot",p),("side",s)]:List (qa × D)):=rfl;have l:vm "mine" m [("pot",p),("side",s)]=([("pot",p),("side",s),("mine",m)]:List (qa × D)):=rfl;have n:vm "grant" .Yb [("pot",p),("side",s),("mine",m)]=([("pot",p),("side",s),("mine",m),("grant",.Yb)]:List (qa × D)):=rfl;have p4:vm "may" (.lst y) [("pot",p),("side",s),("mine",m),("grant",.Yb)]=([("pot",p),("side",s),("mine",m),("grant",.Yb),("may",.lst y)]:List (qa × D)):=rfl;have o:vm "strikes" (.lst []) [("pot",p),("side",s),("mine",m),("grant",.Yb),("may",.lst y)]=([("pot",p),("side",s),("mine",m),("grant",.Yb),("may",.lst y),("strikes",.lst [])]:List (qa × D)):=rfl;have b:=λσ=>sB i σ;have fz:=λσ=>sB (xs:=[]) rfl σ;unfold ar wO;simp[e,j,k,l,n,p4,o,b,fz]
theorem nT{u v:Int}(d:0<=u/\u<=1000000000000)(e:0<=v/\v<=1000000000000)(p s:Int)(σ:Oa):ce [.int p,.int s,.int u,.int v] σ=.ok (Ai p s u v) σ:=by
 have b:=λσ=>yZ d e σ;have a:cl (bh u v)=true:=by unfold bh;simp
 have hm:∀ σ,Ag σ (Fq 6 7 ar [.int p,.int s,bh u v,.Yb,.lst [bh u v],.lst []] σ)=.ok (Ai p s u v) σ:=λσ=>by
  rw[EX,GW _ _ _ _ (by simp[a]),gB,yP (by simp[a])];rfl
 have c:cl (Ai p s u v)=true:=by unfold Ai;simp[cl,a]
 unfold ce xM;generalize Ai p s u v=A at *;generalize bh u v=S at *;simp[b,hm,c]
theorem SO(p s u v:Int)(σ:Oa):be [5,6,7] "pot" (Ai p s u v) σ=.ok (.int p) σ:=Mn (Ru rfl) rfl rfl
theorem MX(p s u v:Int):cl (Ai p s u v)=true:=by unfold Ai bh;simp[cl]
theorem L7{tg:D->Ev->Option Ev}{body:Ev->M Fl}{n:Nat}{xs:List D}(Q:Ev->Oa->Prop)(p:∀ ρ σ,Q ρ σ->kg σ n=some xs)(hb:∀ d∈xs,∀ ρ ρ1 σ r b,Q ρ σ->tg d ρ=some ρ1->body ρ1 σ=.ok r b->∀ a,r=.nx a\/r=.ct a->Q a b) :
  ∀ (k i:Nat) (ρ:Ev) (σ:Oa),Q ρ σ->xs.length<k+i->i<=xs.length->Lp tg body n k i ρ σ=Nk tg body (xs.drop i) ρ σ:=by
 intro k;induction k with
 |zero=>intro i ρ σ _ h o;omega
 |succ k g=>
  intro i ρ σ q h o;rw[Lp];simp only[p ρ σ q];cases e:xs[i]? with
  |none=>
   rw[Li (Wa.mp e)];rfl
  |some d=>
   obtain⟨c,f⟩:=ka.mp e;rw[Ef c,f];simp only[Nk];cases m:tg d ρ with
   |none=>rfl
   |some ρ1=>
    show (body ρ1 σ).bind _=(body ρ1 σ).bind _;cases l:body ρ1 σ with
    |bad=>rfl
    |ex x b=>rfl
    |ok r b=>
     have j:=hb d (f ▸ Cf c) _ _ _ _ _ q m l;cases r with
     |nx a=>exact g (i+1) a b (j a (.inl rfl)) (by omega) c
     |ct a=>exact g (i+1) a b (j a (.inr rfl)) (by omega) c
     |_=>rfl
noncomputable def On(σ:Oa)(x:D)(xs:List D):Prop:=x=.lst xs\/∃ n,x=.ref n/\kg σ n=some xs
theorem On.ls{σ:Oa}{x:D}{xs:List D}(h:On σ x xs):Ff σ x=some xs:=by
 rcases h with rfl|⟨n,rfl,h⟩
 ·rfl
 ·exact h
theorem Kw{σ:Oa}{n:Nat}{xs:List D}(h:kg σ n=some xs)(j:Oa):kg (σ++j) n=some xs:=by
 have e:=AG h;unfold kg;rw[Xa (ka.mp e).1,e]
theorem On.app{σ:Oa}{x:D}{xs:List D}(h:On σ x xs)(j:Oa):On (σ++j) x xs:=by
 rcases h with h|⟨n,h,e⟩
 ·exact .inl h
 ·exact .inr ⟨n,h,Kw e j⟩
theorem PN{tg:D->Ev->Option Ev}{body:Ev->M Fl}{ρ:Ev}{σ:Oa}{x:D}{xs:List D}(h:On σ x xs)(g:xs.length<=1000)(Q:Ev->Oa->Prop)(q:Q ρ σ)(f:∀ n,x=.ref n->∀ ρ c,Q ρ c->kg c n=some xs)(hb:∀ d∈xs,∀ ρ ρ1 σ r b,Q ρ σ->tg d ρ=some ρ1->body ρ1 σ=.ok r b->∀ a,r=.nx a\/r=.ct a->Q a b):∃ s,dt x σ=.ok s σ/\Cz tg body ρ s σ=Nk tg body xs ρ σ:=by
 rcases h with rfl|⟨n,rfl,e⟩
 ·exact⟨.seq xs,rfl,rfl⟩
 ·refine⟨.qp n,?_,?_⟩
  ·show (match kg σ n with|some _=>_|none=>_)=_;rw[e]
  ·show Lp tg body n 1001 0 ρ σ=_;rw[L7 Q (f n rfl) hb 1001 0 ρ σ q (by omega) (by omega),List.drop_zero]
noncomputable def Ou(h e:Int)(p:Pt):Bool:=([p.l,p.r].any (·== h)) && decide (p.t<e+1)
theorem qL(h e:Int)(p:Pt)(PL:Option D)(σ:Oa):FB [some (.int h),some (.int e),PL,some p.D] σ=.ok (if Ou h e p=true then .xc [some (.int h),some (.int e),PL,some p.D] ⟨4⟩else .nx [some (.int h),some (.int e),PL,some p.D]) σ:=by
 have s:ax p.D none (some 2) σ=.ok (.tup ([p.l,p.r].map D.int)) σ:=by unfold Pt.D;rw[IH];rfl
 have i:=CY (σ:=σ) (neg:=false) (w:=h) (x:=.tup ([p.l,p.r].map D.int)) (ws:=[p.l,p.r]) rfl;have b:=XH p σ;unfold FB Ou;generalize [p.l,p.r].map D.int=d at *;generalize p.D=f at *;generalize [p.l,p.r].any (·== h)=c at *;cases c
 ·simp[s,i]
 ·cases a:decide (p.t<e+1)
  ·simp[s,i,b,a]
  ·simp[s,i,b,a]
theorem gM(h e:Int)(PL:Option D)(σ:Oa):∀ (ps:List Pt) (a:Option D),∃ c,Nk (Wd 3) FB (ps.map Pt.D) [some (.int h),some (.int e),PL,a] σ=.ok (if ps.any (Ou h e)=true then .xc [some (.int h),some (.int e),PL,c] ⟨4⟩else .nx [some (.int h),some (.int e),PL,c]) σ
 |[],a=>⟨a,by simp⟩
 |p::ps,a=>by
  have d:=qL h e p PL σ;obtain⟨c,r⟩:=gM h e PL σ ps (some p.D);rw[Ia,yu];simp only[Ib,Jb];rw[d,se,Oc];cases b:Ou h e p
  ·refine⟨c,?_⟩;simp only[Cc,ag,Qo,Kg];exact r
  ·exact⟨some p.D,by simp⟩
noncomputable def Iv(h e:Int)(ps:List Pt):Bool:=bd e 1 50 && !ps.any (Ou h e)
theorem HU(h e:Int)(ps:List Pt)(u:ps.length<=3){x:D}{σ:Oa}(L:On σ x (ps.map Pt.D)):vf [.int h,.int e,x] σ=if Iv h e ps=true then .ok .Yb σ else .ex ⟨4⟩ σ:=by
 have b:=λσ=>nP e 1 50 σ;obtain⟨v,l⟩:=gM h e (some x) σ ps none;obtain⟨s,sq,c⟩:=PN (tg:=Wd 3) (body:=FB) (ρ:=[some (.int h),some (.int e),some x,none]) L (by rw[xa];omega) (λρ f=>f=σ/\∃ j,ρ=[some (.int h),some (.int e),some x,j]) ⟨rfl,none,rfl⟩
  (λn z ρ f q=>by
   obtain⟨rfl,_⟩:=q;have:=L.ls;rw[z]at this;exact this)
  (λd hd ρ m f r t q i hb o a=>by
   obtain⟨rfl,j,rfl⟩:=q;obtain⟨p,_,rfl⟩:=Ra.mp hd;simp[Wd]at i;subst i;rw[qL]at hb;cases g:Ou h e p
   ·rw[g]at hb;simp at hb;obtain⟨rfl,rfl⟩:=hb;rcases a with a|a
    ·cases a;exact⟨rfl,_,rfl⟩
    ·cases a
   ·rw[g]at hb;simp at hb;obtain⟨rfl,rfl⟩:=hb;rcases a with a|a<;>cases a)
 rw[l]at c;unfold vf NL Iv;generalize ps.any (Ou h e)=bb at *;generalize bd e 1 50=k at *;cases k
 ·simp[b]
 ·cases bb
  ·simp only[Cc,ag]at c;rw[Mp,xG,mx];show Ag σ (Ys (Ec _ _ [some (.int h),some (.int e),some x,none] σ))=_;rw[rh];simp only[jD,vK,GL,BG,Az,MA,Lv,se,Ez,NA,Uz,Vz,rJ,b,sK,tM,di,yq,QO,aN,Bh];simp[-jD,sq,c]
  ·simp only[ie]at c;rw[Mp,xG,mx];show Ag σ (Ys (Ec _ _ [some (.int h),some (.int e),some x,none] σ))=_;rw[rh];simp only[jD,vK,GL,BG,Az,MA,Lv,se,Ez,NA,Uz,Vz,rJ,b,sK,tM,di,yq,QO,aN,Bh];simp[-jD,sq,c]
noncomputable abbrev Kv:=List (Key × D)
@[simp] theorem aI(ρ:Ev)(σ:Oa):Jp ρ σ=.ok (.ref σ.length) (σ++[.Na []]):=nr rfl
@[simp] theorem zlb(o:D->List D->M D)(f:Ev->M D)(fs:Ev->M (List D))(ρ:Ev)(σ:Oa):sy o f fs ρ σ=(f ρ σ).bind (Ry o (fs ρ)):=nr rfl
theorem KB{ρ:Ev}{σ:Oa}{d:D}{n:Nat}{w:Int}{kvs:List (Key × D)}(h:σ[n]?=some (.Na kvs))(a:kvs.length<1000):Tt ρ d (.ref n) (.int w) σ=.ok (.nx ρ) (σ.set n (.Na (Nm kvs (.inl w) d))):=by
 unfold Tt;simp only[Mq,h];rw[ia (show kvs.length<Mh from a)]
@[simp] theorem K0(f a fi:Ev->M D)(ρ:Ev)(σ:Oa):dy f a fi ρ σ=qq ρ (ZI ρ a fi) (f ρ σ):=Ur ..
@[simp] theorem ztw(a fi:Ev->M D)(d:D)(ρ:Ev)(σ:Oa):ZI ρ a fi d σ=qq ρ (EJ ρ fi d) (a ρ σ):=Ur ..
@[simp] theorem S9(fi:Ev->M D)(d x:D)(ρ:Ev)(σ:Oa):EJ ρ fi d x σ=qq ρ (Tt ρ d x) (fi ρ σ):=Ur ..
theorem Jz(a l:Oa)(k:Nat)(o:Ob):(a++l).set (a.length+k) o=a++l.set k o:=by rw[Jr _ _ (by omega)];simp
theorem Fu(a l:Oa)(k:Nat):(a++l)[a.length+k]?=l[k]?:=by rw[yf (by omega)];simp
theorem pD{ρ:Ev}{a r:Oa}{cs:List Nat}{f:qa}{d:D}{c:Nat}{fs:List (qa × D)}(h:cs.contains c=true)(b:fs.length<1000):vw ρ cs f d (.ref a.length) (a++.ins c fs::r)=.ok (.nx ρ) (a++.ins c (vm f d fs)::r):=by
 have e:bA cs f d (.ref a.length) (a++.ins c fs::r)=.ok () (a++.ins c (vm f d fs)::r):=by
  have:(a++Ob.ins c fs::r)[a.length]?=some (.ins c fs):=by simp
  unfold bA;simp only[this];rw[ia (by rw[h];simpa using b)];simp
 unfold vw;rw[e]
theorem LG{a r:Oa}{c:Nat}{fs:List (qa × D)}:Pp (a++.ins c fs::r) (.ref a.length)=some (c,fs):=by
 unfold Pp;simp
noncomputable def Dw(n:Nat)(h e l:Int):List (qa × D):=[("hand",.int h),("every",.int e),("last_look",.int l),("gave",.int 0),("known",.ref (n+1)),("accounts",.ref (n+2)),("claims",.ref (n+3)),("seen",.ref (n+4)),("asked",.ref (n+5)),("finishing",.ref (n+6))]
noncomputable def kS(b:Oa)(h e l:Int)(K:Kv)(a:Ob)(C S:Kv)(r:Oa):Oa:=b++.ins 9 (Dw b.length h e l)::.Na K::a::.Na C::.Na S::.Na []::.Na []::r
section
variable(τ:Oa)(h e l:Int)(K:Kv)(a:Ob)(C S:Kv)(r:Oa)
theorem sx:Pp (kS τ h e l K a C S r) (.ref τ.length)=some (9,Dw τ.length h e l):=LG
theorem sI:be [8,9] "known" (.ref τ.length) (kS τ h e l K a C S r)=.ok (.ref (τ.length+1)) (kS τ h e l K a C S r):=Mn (sx ..) rfl rfl
theorem WA:be [9] "accounts" (.ref τ.length) (kS τ h e l K a C S r)=.ok (.ref (τ.length+2)) (kS τ h e l K a C S r):=Mn (sx ..) rfl rfl
theorem OL:be [9,14] "claims" (.ref τ.length) (kS τ h e l K a C S r)=.ok (.ref (τ.length+3)) (kS τ h e l K a C S r):=Mn (sx ..) rfl rfl
theorem uL:be [9] "seen" (.ref τ.length) (kS τ h e l K a C S r)=.ok (.ref (τ.length+4)) (kS τ h e l K a C S r):=Mn (sx ..) rfl rfl
theorem xP:be [8,9] "last_look" (.ref τ.length) (kS τ h e l K a C S r)=.ok (.int l) (kS τ h e l K a C S r):=Mn (sx ..) rfl rfl
theorem Jt{m:qa}(k:Nat)(fn:List D->M D)(fs:M (List D))(hm:(Dw τ.length h e l).lookup m=none):Zr [(9,fn)] k m fs (.ref τ.length) (kS τ h e l K a C S r)=(fs (kS τ h e l K a C S r)).bind (vp k fn (.ref τ.length)):=BH (sx ..) rfl hm
variable{K C S}
theorem oO(ρ:Ev)(w:Int)(d:D)(b:K.length<1000):Tt ρ d (.ref (τ.length+1)) (.int w) (kS τ h e l K a C S r)=.ok (.nx ρ) (kS τ h e l (Nm K (.inl w) d) a C S r):=by
 rw[KB (kvs:=K) (by unfold kS;rw[Fu];rfl) b];unfold kS;rw[Jz];rfl
theorem M7(ρ:Ev)(w:Int)(d:D)(b:C.length<1000):Tt ρ d (.ref (τ.length+3)) (.int w) (kS τ h e l K a C S r)=.ok (.nx ρ) (kS τ h e l K a (Nm C (.inl w) d) S r):=by
 rw[KB (kvs:=C) (by unfold kS;rw[Fu];rfl) b];unfold kS;rw[Jz];rfl
theorem j8(ρ:Ev)(w:Int)(d:D)(b:S.length<1000):Tt ρ d (.ref (τ.length+4)) (.int w) (kS τ h e l K a C S r)=.ok (.nx ρ) (kS τ h e l K a C (Nm S (.inl w) d) r):=by
 rw[KB (kvs:=S) (by unfold kS;rw[Fu];rfl) b];unfold kS;rw[Jz];rfl
theorem eU{A:Kv}(ρ:Ev)(w:Int)(d:D)(a:A.length<1000):Tt ρ d (.ref (τ.length+2)) (.int w) (kS τ h e l K (.Na A) C S r)=.ok (.nx ρ) (kS τ h e l K (.Na (Nm A (.inl w) d)) C S r):=by
 rw[KB (kvs:=A) (by unfold kS;rw[Fu];rfl) a];unfold kS;rw[Jz];rfl
theorem qu:(kS τ h e l K a C S r)[τ.length+2]?=some a:=by unfold kS;rw[Fu];rfl
theorem xz(b:Ob):(kS τ h e l K a C S r).set (τ.length+2) b=kS τ h e l K b C S r:=by unfold kS;rw[Jz];rfl
end
theorem VS(l:Kv)(k:Key)(d:D):(Nm l k d).length<=l.length+1:=by
 unfold Nm;split<;>simp
theorem Xz(a:Key × D)(r:List (Key × D))(j:Key):Fk (a::r) j=if a.1=j then some a.2 else Fk r j:=by
 unfold Fk;rw[Dd];by_cases h:a.1=j
 ·rw[Nd h,ia h];rfl
 ·rw[Cb h,ja h]
theorem VP(k:Key):∀ r:List (Key × D),(r.any λa=>decide (a.1=k))=(Fk r k).isSome
 |[]=>rfl
 |a::r=>by
  rw[Oc,Xz,VP k r];by_cases h:a.1=k
  ·rw[Nd h,ia h];rfl
  ·rw[Cb h,ja h,Kg]
theorem zm{l:Kv}{k:Key}(d:D)(h:Fk l k=none):Nm l k d=l++[(k,d)]:=by
 unfold Nm;rw[VP,h];rfl
@[simp] theorem zzj{σ:Oa}(fn:List D->M D)(x a b c:D):vp 4 fn x [a,b,c] σ=fn [x,a,b,c] σ:=DC rfl
theorem Qz{cs:List Nat}{f:qa}{c:Nat}{fs:List (qa × D)}(d:cs.contains c=true)(e:Nat.ble (fs.length+1) 1000=true)(σ ds:Oa)(r:Ev):Sj cs f Jp (wa 0) (some (.ref σ.length)::r) (σ++.ins c fs::ds)=.ok (.nx (some (.ref σ.length)::r)) (σ++.ins c (vm f (.ref (σ.length+1+ds.length)) fs)::(ds++[.Na []])):=by
 have a:(σ++.ins c fs::ds)++[Ob.Na []]=σ++.ins c fs::(ds++[.Na []]):=by simp
 have b:(σ++Ob.ins c fs::ds).length=σ.length+1+ds.length:=by simp;omega
 rw[iG,aI,yq,rG,Lv,yq,a,b,pD d (Ig e)]
theorem Fy{cs:List Nat}{f:qa}{c:Nat}{fs:List (qa × D)}{a:Ev->M D}{d:D}(b:cs.contains c=true)(e:Nat.ble (fs.length+1) 1000=true)(σ ds:Oa)(r:Ev)(g:a (some (.ref σ.length)::r) (σ++.ins c fs::ds)=.ok d (σ++.ins c fs::ds)):Sj cs f a (wa 0) (some (.ref σ.length)::r) (σ++.ins c fs::ds)=.ok (.nx (some (.ref σ.length)::r)) (σ++.ins c (vm f d fs)::ds):=by
 rw[iG,g,yq,rG,Lv,yq,pD b (Ig e)]
noncomputable def Ls(K:Kv)(ws:List Int):Kv:=ws.foldl (λK w=>Nm K (.inl w) (.bl true)) K
theorem pP(b:Oa)(h e l:Int)(a:Ob)(C S:Kv)(r:Oa)(W:Option D):∀ (ws:List Int) (K:Kv) (c:Option D),K.length+ws.length<1000->∃ d,Nk (Wd 2) Gw (ws.map D.int) [some (.ref b.length),W,c] (kS b h e l K a C S r)=.ok (.nx [some (.ref b.length),W,d]) (kS b h e l (Ls K ws) a C S r)
 |[],K,c,_=>⟨c,by simp[Ls]⟩
 |w::ws,K,c,f=>by
  rw[Za]at f;have j:Gw [some (.ref b.length),W,some (.int w)] (kS b h e l K a C S r)=.ok (.nx [some (.ref b.length),W,some (.int w)]) (kS b h e l (Nm K (.inl w) (.bl true)) a C S r):=by
   have g:=sI b h e l K a C S r;have i:=λk=>oO (C:=C) (S:=S) b h e l a r k w (.bl true) (K:=K) (by omega);unfold Gw;simp[g,i]
  have pl:=VS K (.inl w) (.bl true);obtain⟨d,q⟩:=pP b h e l a C S r W ws (Nm K (.inl w) (.bl true)) (some (.int w)) (by omega);refine⟨d,?_⟩;rw[Ia,yu];simp only[Ib,Jb];rw[j,se,Qo,q];rfl
theorem r0(a:Oa)(h e l:Int)(K A C S:Kv)(r:Oa)(p s u v:Int)(x:D)(f:A.length<1000)(g:C.length<1000)(i:S.length<1000) :
  Jd [.ref a.length,Ai p s u v,x,.Na [] []] (kS a h e l K (.Na A) C S r)=.ok .Yb (kS a h e l K (.Na (Nm A (.inl p) (Ai p s u v))) (Nm C (.inl p) x) (Nm S (.inl p) (.Na [] [])) r):=by
 have c:=λt=>SO p s u v t;have j:=WA a h e l K (.Na A) C S r;have k:=λb d=>eU (K:=K) (C:=C) (S:=S) a h e l r (A:=A) b p d f;have m:=λA=>OL a h e l K (.Na A) C S r;have n:=λb A d=>M7 (K:=K) (S:=S) (C:=C) a h e l (.Na A) r b p d g;have o:=λA C=>uL a h e l K (.Na A) C S r;have q:=λb A C d=>j8 (K:=K) (C:=C) (S:=S) a h e l (.Na A) r b p d i;unfold Jd oR;generalize Ai p s u v=w at *;simp[c,j,k,m,n,o,q]
theorem hO(c:Nat)(fn:List D->M D)(a b d e:D)(σ:Oa):Fq c 5 fn [a,b,d,e] σ=Zy σ.length (fn [.ref σ.length,a,b,d,e] (σ++[.ins c []])):=dH rfl
noncomputable def Dq(f:Int->Int->Pt->D)(h:Int)(i:Nat)(p:Pt):Kv:=if p.l=h then [(.inl i,f i 0 p)]else if p.r=h then [(.inl i,f i 1 p)]else []
noncomputable def md(f:Int->Int->Pt->D)(h:Int):Nat->List Pt->Kv
 |_,[]=>[]
 |i,p::r=>Dq f h i p++md f h (i+1) r
noncomputable def fA(i s:Int)(p:Pt):D:=Ai i s p.u p.v
noncomputable def fC(_ _:Int)(_:Pt):D:=.gt ["held"]
noncomputable def fS(_ _:Int)(_:Pt):D:=.Na [] []
theorem JT(f:Int->Int->Pt->D)(h:Int)(i:Nat)(p:Pt):(Dq f h i p).length<=1:=by
 unfold Dq;split
 ·simp
 ·split<;>simp
theorem wJ(f:Int->Int->Pt->D)(h:Int):∀ (i:Nat) (ps:List Pt),(md f h i ps).length<=ps.length
 |_,[]=>by simp[md]
 |i,p::r=>by
  have a:=JT f h i p;have b:=wJ f h (i+1) r;rw[md,ib,Za];omega
theorem hU(f:Int->Int->Pt->D)(h:Int){i j:Nat}(p:Pt)(n:i≠j):∀ q∈Dq f h i p,q.1≠(.inl (j:Int):Key):=by
 intro q a z;unfold Dq at a;have:∀ d:D,q=(.inl (i:Int),d)->False:=λd e=>by rw[e]at z;cases z;exact n rfl
 split at a
 ·exact this _ (by simpa using a)
 ·split at a
  ·exact this _ (by simpa using a)
  ·cases a
theorem VH{l:Kv}{k:Key}(h:∀ q∈l,q.1≠k):Fk l k=none:=by
 induction l with
 |nil=>rfl
 |cons q l b=>
  rw[Xz,ja (h q Qa)];exact b λz a=>h z (Ha _ a)
theorem TD(f:Int->Int->Pt->D)(h:Int)(j:Nat):∀ (i:Nat) (ps:List Pt),(j<i\/i+ps.length<=j)->∀ q∈md f h i ps,q.1≠(.inl (j:Int):Key)
 |_,[],_=>λq a=>by cases a
 |i,p::r,b=>λq a=>by
  rw[Za]at b;rw[md]at a;rcases Uf.mp a with a|a
  ·exact hU f h p (by omega) q a
  ·exact TD f h j (i+1) r (by omega) q a
theorem xK(f:Int->Int->Pt->D)(h:Int)(p:Pt):∀ (i:Nat) (ps:List Pt),md f h i (ps++[p])=md f h i ps++Dq f h (i+ps.length) p
 |i,[]=>by simp[md]
 |i,q::r=>by
  rw[Ie,md,xK f h p (i+1) r,md,Dl,Za,show i+1+r.length=i+(r.length+1) by omega]
section
variable(τ:Oa)(h e l:Int)(K:Kv){A C S:Kv}(r:Oa)(x3 x4:Option D){p:Pt}(ok:p.Ok)(i:Nat)
theorem LH(A C S:Kv)(s z:Int)(hz:∀ σ,Ld p.D (.int s) σ=.ok (.int z) σ)(n:z≠h):SA [some (.ref τ.length),some (.int h),some (.int e),x3,x4,some (.int i),some p.D,some (.int s)] (kS τ h e l K (.Na A) C S r)=.ok (.nx [some (.ref τ.length),some (.int h),some (.int e),x3,x4,some (.int i),some p.D,some (.int s)]) (kS τ h e l K (.Na A) C S r):=by
 have b:(z == h)=false:=by simp[n]
 unfold SA;generalize p.D=c at *;generalize kS τ h e l K (.Na A) C S r=a at *;simp[hz,b]
include ok
theorem tK(d:Fk A (.inl i)=none)(f:Fk C (.inl i)=none)(g:Fk S (.inl i)=none)(y:A.length<900)(B:C.length<900)(E:S.length<900)(s z:Int)(hz:∀ σ,Ld p.D (.int s) σ=.ok (.int z) σ)(n:z=h):SA [some (.ref τ.length),some (.int h),some (.int e),x3,x4,some (.int i),some p.D,some (.int s)] (kS τ h e l K (.Na A) C S r)=.ok (.nx [some (.ref τ.length),some (.int h),some (.int e),x3,x4,some (.int i),some p.D,some (.int s)]) (kS τ h e l K (.Na (A++[(.inl i,fA i s p)])) (C++[(.inl i,fC i s p)]) (S++[(.inl i,fS i s p)]) r):=by
 have j:=λσ=>SL p σ;have k:=λσ=>wN p σ;have c:=λσ=>nT ok.u ok.v i s σ;have a:=r0 τ h e l K A C S r i s p.u p.v (.gt ["held"]) (by omega) (by omega) (by omega);have o:=λfs=>Jt τ h e l K (.Na A) C S r (m:="hold") 4 Jd fs rfl;have b:(z == h)=true:=by simp[n]
 rw[zm _ d,zm _ f,zm _ g]at a;unfold SA;show _=Out.ok _ (kS τ h e l K (.Na (A++[(.inl i,Ai i s p.u p.v)])) (C++[(.inl i,.gt ["held"])]) (S++[(.inl i,.Na [] [])]) r);generalize kS τ h e l K (.Na (A++[(.inl (i:Int),Ai i s p.u p.v)])) (C++[(.inl (i:Int),.gt ["held"])]) (S++[(.inl (i:Int),.Na [] [])]) r=t at *;generalize Ai i s p.u p.v=w at *;generalize p.D=x at *;generalize kS τ h e l K (.Na A) C S r=q at *;simp[hz,b,o,c,j,k,a]
theorem W5(o:Option D)(d:Fk A (.inl i)=none)(f:Fk C (.inl i)=none)(g:Fk S (.inl i)=none)(j:A.length<900)(k:C.length<900)(m:S.length<900):OB [some (.ref τ.length),some (.int h),some (.int e),x3,x4,some (.int i),some p.D,o] (kS τ h e l K (.Na A) C S r)=.ok (.nx [some (.ref τ.length),some (.int h),some (.int e),x3,x4,some (.int i),some p.D,some (.int 1)]) (kS τ h e l K (.Na (A++Dq fA h i p)) (C++Dq fC h i p) (S++Dq fS h i p) r):=by
 unfold OB;rw[zI];simp only[bM,fY,Az,NA,se,Ez,Uz,Vz,w4,j1,yq,DJ];rw[yu];simp only[Ib,Jb];unfold Dq;by_cases a:p.l=h
 ·rw[tK τ h e l K r x3 x4 ok i d f g j k m 0 p.l (λb=>DE p b) a,se,Qo,yu];simp only[Ib,Jb];rw[LH τ h e l K r x3 x4 i _ _ _ 1 p.r (λb=>tz p b) (λz=>ok.n (a.trans z.symm)),se,Qo,mD,ia a,ia a,ia a]
 ·rw[LH τ h e l K r x3 x4 i _ _ _ 0 p.l (λb=>DE p b) a,se,Qo,yu];simp only[Ib,Jb];rw[ja a,ja a,ja a];by_cases c:p.r=h
  ·rw[tK τ h e l K r x3 x4 ok i d f g j k m 1 p.r (λb=>tz p b) c,se,Qo,mD,ia c,ia c,ia c]
  ·rw[LH τ h e l K r x3 x4 i _ _ _ 1 p.r (λb=>tz p b) c,se,Qo,mD,ja c,ja c,ja c];simp
end
section
variable(τ:Oa)(h e l:Int)(a:Ob)(C S:Kv)(r:Oa)
theorem k7(K:Kv):kS τ h e l K a C S r=τ++(.ins 9 (Dw τ.length h e l)::.Na K::a::.Na C::.Na S::.Na []::.Na []::r):=rfl
theorem yI(K:Kv)(ws:List Int){W:D}(L:On τ W (ws.map D.int))(v:K.length+ws.length<1000):ec [.ref τ.length,W] (kS τ h e l K a C S r)=.ok .Yb (kS τ h e l (Ls K ws) a C S r):=by
 obtain⟨F,q⟩:=pP τ h e l a C S r (some W) ws K none v;obtain⟨s,sq,m⟩:=PN (tg:=Wd 2) (body:=Gw) (ρ:=[some (.ref τ.length),some W,none]) (σ:=kS τ h e l K a C S r) (k7 .. ▸ L.app _) (by rw[xa];omega) (λρ c=>∃ k b,ρ=[some (.ref τ.length),some W,k]/\c=kS τ h e l b a C S r) ⟨none,K,rfl,rfl⟩
  (λn z ρ c q=>by
   obtain⟨k,b,_,rfl⟩:=q;have:=(L.app (.ins 9 (Dw τ.length h e l)::.Na b::a::.Na C::.Na S::.Na []::.Na []::r)).ls;rw[z]at this;exact this)
  (λd hd ρ x c E u q p hb y f=>by
   obtain⟨k,b,rfl,rfl⟩:=q;obtain⟨w,_,rfl⟩:=Ra.mp hd;simp[Wd]at p;subst p;have t:=sI τ h e l b a C S r;by_cases o:b.length<1000
   ·have i:=λρ=>oO (C:=C) (S:=S) τ h e l a r ρ w (.bl true) (K:=b) o;have j:Gw [some (.ref τ.length),some W,some (.int w)] (kS τ h e l b a C S r)=.ok (.nx [some (.ref τ.length),some W,some (.int w)]) (kS τ h e l (Nm b (.inl w) (.bl true)) a C S r):=by
     unfold Gw;simp[t,i]
    rw[j]at hb;cases hb;rcases f with f|f
    ·cases f;exact⟨_,_,rfl,rfl⟩
    ·cases f
   ·have i:∀ ρ,Tt ρ (.bl true) (.ref (τ.length+1)) (.int w) (kS τ h e l b a C S r)=.bad:=λρ=>by
     have g:(kS τ h e l b a C S r)[τ.length+1]?=some (.Na b):=by unfold kS;rw[Fu];rfl
     unfold Tt;simp only[Mq,g];exact ja o
    have j:Gw [some (.ref τ.length),some W,some (.int w)] (kS τ h e l b a C S r)=.bad:=by
     unfold Gw;simp[t,i]
    rw[j]at hb;cases hb)
 rw[q]at m;unfold ec IK;generalize kS τ h e l K a C S r=A at *;generalize kS τ h e l (Ls K ws) a C S r=B at *;simp[sq,m,-K0]
end
section
variable{σ:Oa}{h e:Int}{ps:List Pt}(hp:∀ p∈ps,p.Ok)(hl:ps.length<=3){x:D}(L:On σ x (ps.map Pt.D))
include hp hl L
theorem OS(K:Kv)(k:Option D):∀ (i a:List Pt) (f:Nat) (l m c:Option D),ps=a++i->f=1001 - a.length->∃ s t u,zp (Yt x) (cq 2 (Fj (Wd 5) (Fj (Wd 6) Lq))) OB f a.length [some (.ref σ.length),some (.int h),some (.int e),some x,k,l,m,c] (kS σ h e 0 K (.Na (md fA h 0 a)) (md fC h 0 a) (md fS h 0 a) [])=.ok (.nx [some (.ref σ.length),some (.int h),some (.int e),some x,k,s,t,u]) (kS σ h e 0 K (.Na (md fA h 0 ps)) (md fC h 0 ps) (md fS h 0 ps) []):=by
 intro i;induction i with
 |nil=>
  intro a f l m c b v;rw[Vf]at b;subst b;refine⟨l,m,c,?_⟩;have o:Ff (kS σ h e 0 K (.Na (md fA h 0 ps)) (md fC h 0 ps) (md fS h 0 ps) []) x=some (ps.map Pt.D):=(L.app _).ls;have:=qO o;rw[xa]at this;obtain⟨d,rfl⟩:∃ d,f=d+1:=⟨1000 - ps.length,by omega⟩
  exact Mz this
 |cons p i y=>
  intro a f l m c b v;have A:ps.length=a.length+(i.length+1):=by rw[b];simp
  have o:Ff (kS σ h e 0 K (.Na (md fA h 0 a)) (md fC h 0 a) (md fS h 0 a) []) x=some (ps.map Pt.D):=(L.app _).ls;have w:(ps.map Pt.D)[a.length]?=some p.D:=by rw[b];simp
  obtain⟨s,t,u,q⟩:=y (a++[p]) (f - 1) (some (.int a.length)) (some p.D) (some (.int 1)) (by rw[b];simp) (by rw[ib];simp;omega);refine⟨s,t,u,?_⟩;obtain⟨d,rfl⟩:∃ d,f=d+1:=⟨1000 - a.length,by omega⟩
  have n:∀ g:Int->Int->Pt->D,Fk (md g h 0 a) (.inl (a.length:Int))=none:=λg=>VH (TD g h a.length 0 a (.inr (by omega)));have r:∀ g:Int->Int->Pt->D,(md g h 0 a).length<900:=λg=>by have:=wJ g h 0 a;omega
  rw[ZG (nK o w) (ρ1:=[some (.ref σ.length),some (.int h),some (.int e),some x,k,some (.int a.length),some p.D,c]) (nr rfl),W5 σ h e 0 K [] (some x) k (hp p (by rw[b];simp)) a.length c (n _) (n _) (n _) (r _) (r _) (r _),se,Qo];have j:=λg=>xK g h p 0 a;simp only[Vi]at j;rw[<-j,<-j,<-j];have z:(a++[p]).length=a.length+1:=by simp
  rw[z]at q;exact q
end
noncomputable def kX(σ:Oa)(W:D)(ws:List Int):Prop:=(W=.Yb/\ws=[])\/On σ W (ws.map D.int)
noncomputable def kN(σ:Oa)(h e:Int)(ws:List Int)(ps:List Pt)(r:Oa):Oa:=kS σ h e 0 (Ls [] ws) (.Na (md fA h 0 ps)) (md fC h 0 ps) (md fS h 0 ps) r
theorem sD{σ:Oa}(h e:Int){ps:List Pt}(k:∀ p∈ps,p.Ok)(c:ps.length<=3){x:D}(L:On σ x (ps.map Pt.D)){W:D}{ws:List Int}(b:kX σ W ws)(u:ws.length<900) :
  Fq 9 5 Zl [.int h,.int e,x,W] σ=if Iv h e ps=true then .ok (.ref σ.length) (kN σ h e ws ps [])else .ex ⟨4⟩ (σ++[.ins 9 []]):=by
 have sp:=HU h e ps c (L.app [.ins 9 []]);rw[hO];cases f:Iv h e ps
 ·rw[f]at sp;simp only[Cc,ag]at sp ⊢;have a:Zl [.ref σ.length,.int h,.int e,x,W] (σ++[.ins 9 []])=.ex ⟨4⟩ (σ++[.ins 9 []]):=by
   unfold Zl hH;rw[Mp,mx];show Ys (Ec _ _ [some (.ref σ.length),some (.int h),some (.int e),some x,some W,none,none,none] (σ++[.ins 9 []]))=_;rw[rh];simp[sp]
  rw[a,N1]
 ·rw[f]at sp;simp only[ie]at sp ⊢;obtain⟨v,w,y,q⟩:=OS (h:=h) (e:=e) k c L (Ls [] ws) (some W) ps [] 1001 none none none rfl rfl;have i:ny x (kS σ h e 0 (Ls [] ws) (.Na []) [] [] [])=.ok (Yt x) (kS σ h e 0 (Ls [] ws) (.Na []) [] [] []):=iO (L.app _).ls;have j:∀ (g:D->Ev->Option Ev) (body:Ev->M Fl) (ρ:Ev) (nx:NX),AE g body ρ nx=zp nx g body 1001 0 ρ:=λ_ _ _ _=>rfl;have r:=λfs=>Jt σ h e 0 [] (.Na []) [] [] [] (m:="learn") 2 ec fs rfl;have a:Zl [.ref σ.length,.int h,.int e,x,W] (σ++[.ins 9 []])=.ok .Yb (kN σ h e ws ps []):=by
   unfold Zl hH;rw[Mp,mx];show Ys (Ec _ _ [some (.ref σ.length),some (.int h),some (.int e),some x,some W,none,none,none] (σ++[.ins 9 []]))=_;rw[rh];simp only[iP,BG,Az,MA,Lv,se,Ez,Uz,Vz,rJ,sp,yq,uM,Bh];rw[rh,Fy (d:=.int h) rfl rfl σ [] _ (by simp),se,Bh];rw[rh,Fy (d:=.int e) rfl rfl σ [] _ (by simp),se,Bh];rw[rh,Fy (d:=.int 0) rfl rfl σ [] _ (by simp),se,Bh];rw[rh,Fy (d:=.int 0) rfl rfl σ [] _ (by simp),se,Bh];rw[rh,Qz rfl rfl σ [],se,Bh];rw[rh,Qz rfl rfl σ _,se,Bh];rw[rh,Qz rfl rfl σ _,se,Bh];rw[rh,Qz rfl rfl σ _,se,Bh];rw[rh,Qz rfl rfl σ _,se,Bh];rw[rh,Qz rfl rfl σ _,se,Bh];show Ys (Ec _ _ [some (.ref σ.length),some (.int h),some (.int e),some x,some W,none,none,none] (kS σ h e 0 [] (.Na []) [] [] []))=_;rw[rh];have l:∃ z,DB (eT (Hb ox (wa 4) (eC .Yb))) (Rn xb) (wa 4) [some (.ref σ.length),some (.int h),some (.int e),some x,some W,none,none,none] (kS σ h e 0 [] (.Na []) [] [] [])=.ok z (kS σ h e 0 [] (.Na []) [] [] [])/\ec [.ref σ.length,z] (kS σ h e 0 [] (.Na []) [] [] [])=.ok .Yb (kS σ h e 0 (Ls [] ws) (.Na []) [] [] []):=by
    rcases b with⟨rfl,rfl⟩|b
    ·exact⟨.lst [],by simp,yI σ h e 0 (.Na []) [] [] [] [] [] (.inl rfl) (by simp)⟩
    ·refine⟨W,?_,yI σ h e 0 (.Na []) [] [] [] [] ws b (by simp;omega)⟩;rcases b with rfl|⟨n,rfl,_⟩
     ·simp
     ·have o:∀ τ:Oa,ox (.ref n) .Yb τ=.ok (.bl false) τ:=λτ=>nr rfl;simp[o]
   obtain⟨z,s,t⟩:=l;simp only[iP,tZ,Lv,se,r,Az,s,Ez,Uz,Vz,kY,t,yq,uM,Bh];rw[Pu];simp only[gU,MA,Lv,se,i,yq,j];rw[show zp (Yt x) (cq 2 (Fj (Wd 5) (Fj (Wd 6) Lq))) OB 1001 0 [some (.ref σ.length),some (.int h),some (.int e),some x,some W,none,none,none] (kS σ h e 0 (Ls [] ws) (.Na []) [] [] [])=_ from q,tR];rfl
  rw[a,gB]
noncomputable def Hc(vs:List Int):Kv:=vs.map λw=>((.inl w:Key),D.bl true)
theorem i4(vs:List Int):(Hc vs).length=vs.length:=by unfold Hc;simp
theorem m1(vs:List Int)(w:Int):Nm (Hc vs) (.inl w) (.bl true)=Hc (PyProof.Rows.step_dedup vs w):=by
 have a:(Hc vs).any (λb=>decide (b.1=(.inl w:Key)))=vs.any (·== w):=by
  unfold Hc;rw[uA];congr 1;funext x;simp only[Function.comp];by_cases e:x=w
  ·simp[e]
  ·have:(Sum.inl x:Key)≠.inl w:=λz=>e (by cases z;rfl);simp[e,this]
 unfold Nm PyProof.Rows.step_dedup;rw[a];split
 ·unfold Hc;rw[We];apply Wj;intro x _;show (if (Sum.inl x:Key)=.inl w then ((Sum.inl x:Key),D.bl true)else _)=_;split<;>rfl
 ·unfold Hc;rw[Tc];rfl
theorem JG:∀ (ws vs:List Int),Ls (Hc vs) ws=Hc (ws.foldl PyProof.Rows.step_dedup vs)
 |[],vs=>rfl
 |w::ws,vs=>by
  rw[Cd,<-JG ws];unfold Ls;rw[Cd,m1]
theorem cK(ws:List Int):Ls [] ws=Hc (yd ws):=JG ws []
theorem AQ:∀ vs:List Int,ww (Hc vs)=some vs
 |[]=>rfl
 |v::vs=>by
  show (ww (Hc vs)).map (v::·)=_;rw[AQ vs];rfl
theorem ON{w:Int}:∀ (ws vs:List Int),(w∈ws\/w∈vs)->w∈ws.foldl PyProof.Rows.step_dedup vs
 |[],vs,h=>h.elim (λz=>nomatch z) id
 |x::ws,vs,h=>by
  rw[Cd];refine ON ws _ ?_;by_cases a:w∈ws
  ·exact .inl a
  ·refine .inr ?_;unfold PyProof.Rows.step_dedup;rcases h with h|h
   ·rcases Fa.mp h with rfl|h
    ·split
     ·rename_i z
      obtain⟨y,b,e⟩:=Hg.mp z;have:y=w:=by simpa using e
      exact this ▸ b
     ·simp
    ·exact absurd h a
   ·split
    ·exact h
    ·exact Ka _ h
theorem o8(ws:List Int):yd (ws++ws.take 1)=yd ws:=by
 cases ws with
 |nil=>rfl
 |cons w t=>
  have m:w∈yd (w::t):=ON (w::t) [] (.inl Qa);show yd ((w::t)++[w])=_;have:yd ((w::t)++[w])=PyProof.Rows.step_dedup (yd (w::t)) w:=by unfold yd;rw[qv];rfl
  rw[this];unfold PyProof.Rows.step_dedup;rw[ia (Hg.mpr ⟨w,m,by simp⟩)]
section
variable(τ:Oa)(h e l:Int)(K:Kv)(a:Ob)(C S:Kv)(r:Oa)
theorem No(j:Oa):kS τ h e l K a C S r++j=kS τ h e l K a C S (r++j):=by unfold kS;simp
theorem xE{vs:List Int}(c:vs.length<64):Pa [.ref τ.length] (kS τ h e l (Hc vs) a C S r)=.ok (.ref (kS τ h e l (Hc vs) a C S r).length) (kS τ h e l (Hc vs) a C S (r++[.lst ((Tf vs).map D.int)])):=by
 have k:=sI τ h e l (Hc vs) a C S r;have g:(kS τ h e l (Hc vs) a C S r)[τ.length+1]?=some (.Na (Hc vs)):=by unfold kS;rw[Fu];rfl
 have o:Lw [.ref (τ.length+1)] (kS τ h e l (Hc vs) a C S r)=.ok (.ref (kS τ h e l (Hc vs) a C S r).length) (kS τ h e l (Hc vs) a C S (r++[.lst ((Tf vs).map D.int)])):=by
  have b:Ff (kS τ h e l (Hc vs) a C S r) (.ref (τ.length+1))=none:=by unfold Ff kg;simp only[g]
  have hd:Zk (kS τ h e l (Hc vs) a C S r) (.ref (τ.length+1))=some (Hc vs):=by unfold Zk;simp only[g]
  unfold Lw;simp only[b];unfold IB;simp only[hd,AQ];rw[ia c,<-No];rfl
 unfold Pa zQ;generalize kS τ h e l (Hc vs) a C S (r++[.lst ((Tf vs).map D.int)])=Z at *;generalize kS τ h e l (Hc vs) a C S r=Y at *;simp[k,o]
theorem iR:Ub [.ref τ.length] (kS τ h e l K a C S r)=.ok (.int l) (kS τ h e l K a C S r):=by
 have k:=xP τ h e l K a C S r;unfold Ub TN;generalize kS τ h e l K a C S r=Y at *;simp[k]
theorem QS:Ic [.ref τ.length] (kS τ h e l K a C S r)=.ok (.int 0) (kS τ h e l K a C S r):=by
 have k:be [9] "gave" (.ref τ.length) (kS τ h e l K a C S r)=.ok (.int 0) (kS τ h e l K a C S r):=Mn (sx ..) rfl rfl;unfold Ic HQ;generalize kS τ h e l K a C S r=Y at *;simp[k]
variable(A:Kv)(i:Int)
theorem AL{p s u v:Int}(f:Fk A (.inl i)=some (Ai p s u v)):lb [.ref τ.length,.int i] (kS τ h e l K (.Na A) C S r)=.ok (Ai p s u v) (kS τ h e l K (.Na A) C S r):=by
 have k:=WA τ h e l K (.Na A) C S r;have g:=qu τ h e l (K:=K) (.Na A) (C:=C) (S:=S) r;have n:Cv (.int i) (.ref (τ.length+2)) (kS τ h e l K (.Na A) C S r)=.ok (.bl false) (kS τ h e l K (.Na A) C S r):=by
  unfold Cv Zk;simp only[Mq,g,f];rfl
 have gt:Yu (.ref (τ.length+2)) (.int i) (kS τ h e l K (.Na A) C S r)=.ok (Ai p s u v) (kS τ h e l K (.Na A) C S r):=by
  unfold Yu Zk;simp only[Mq,g,f]
 have a:=MX p s u v;unfold lb JI;generalize Ai p s u v=b at *;generalize kS τ h e l K (.Na A) C S r=Y at *;simp[k,n,gt,a]
theorem iZ(f:Fk A (.inl i)=none):me [.ref τ.length,.int i] (kS τ h e l K (.Na A) C S r)=.ok (.bl true) (kS τ h e l K (.Na A) C S r):=by
 have k:=WA τ h e l K (.Na A) C S r;have g:=qu τ h e l (K:=K) (.Na A) (C:=C) (S:=S) r;have n:Cv (.int i) (.ref (τ.length+2)) (kS τ h e l K (.Na A) C S r)=.ok (.bl true) (kS τ h e l K (.Na A) C S r):=by
  unfold Cv Zk;simp only[Mq,g,f];rfl
 have b:=λfs=>Jt τ h e l K (.Na A) C S r (m:="account") 2 lb fs rfl;have q:lb [.ref τ.length,.int i] (kS τ h e l K (.Na A) C S r)=.ex ⟨2⟩ (kS τ h e l K (.Na A) C S r):=by
  unfold lb JI;generalize kS τ h e l K (.Na A) C S r=Y at *;simp[k,n]
 unfold me YK;generalize kS τ h e l K (.Na A) C S r=Y at *;have a:=λ(ρ:Ev) (g:Ev->M Fl)=>SN (ρ:=ρ) (σ:=Y) (h:=⟨Ht [(0,false),(1,false),(2,true),(4,false)],none,g⟩) (r:=[]) (x:=⟨2⟩) rfl;simp[b,q,a]
end
@[simp] theorem ydx(dds:List D)(fs:Ev->M (List D))(ρ:Ev)(σ:Oa):qw dds fs ρ σ=(fs ρ σ).bind (GE dds):=nr rfl
@[simp] theorem yez(dds ds:List D)(σ:Oa):GE dds ds σ=.ok (ds++dds) σ:=nr rfl
theorem IZ{h e:Int}{ps:List Pt}(j:∀ p∈ps,p.Ok)(i:ps.length<=3)(k:Iv h e ps=false)(σ:Oa):Ae [.int h,.int e,PL ps] σ=.ok (.bl true) σ:=by
 have a:=sD (σ:=σ) h e j i (x:=PL ps) (.inl rfl) (W:=.Yb) (ws:=[]) (.inl ⟨rfl,rfl⟩) (by simp);rw[k]at a;simp only[Cc,ag]at a;unfold Ae mO;generalize PL ps=P at *;have b:∀ τ:Oa,lx (Ht [(0,true),(1,true),(2,true),(4,true)]) (.Wo 4) τ=.ok (.bl true) τ:=λτ=>aO rfl;have c:∀ τ:Oa,lx (Ht [(0,false),(1,false),(2,true),(4,false)]) (.Wo 4) τ=.ok (.bl false) τ:=λτ=>aO rfl;have f:=λ(ρ:Ev) (g:Ev->M Fl) (τ:Oa)=>SN (ρ:=ρ) (σ:=τ) (h:=⟨Ht [(0,false),(1,false),(2,false),(4,true)],some 5,g⟩) (r:=[]) (x:=⟨4⟩) rfl;simp[a,f,b,c];exact wP (d:=.bl true) rfl
theorem CL(i s u v:Int)(σ:Oa):yc [Ai i s u v,.int i,.int s,.tup [.int u,.int v]] σ=.ok (.bl true) σ:=by
 have e:∀ σ,be [5,6,7] "pot" (Ai i s u v) σ=.ok (.int i) σ:=λσ=>SO i s u v σ;have g2:∀ σ,be [5,6,7,12,13] "side" (Ai i s u v) σ=.ok (.int s) σ:=λσ=>Mn (Ru rfl) rfl rfl;have f:∀ σ,be [5,6,7] "strikes" (Ai i s u v) σ=.ok (.lst []) σ:=λσ=>Mn (Ru rfl) rfl rfl;have g:∀ σ,be [5,6,7] "mine" (Ai i s u v) σ=.ok (bh u v) σ:=λσ=>Mn (Ru rfl) rfl rfl;have h:∀ σ,be [5,6,7] "may" (Ai i s u v) σ=.ok (.lst [bh u v]) σ:=λσ=>Mn (Ru rfl) rfl rfl;have j:∀ σ,be [5,6,7] "grant" (Ai i s u v) σ=.ok .Yb σ:=λσ=>Mn (Ru rfl) rfl rfl;have w:∀ σ,ge [Ai i s u v] σ=.ok (.str "calm") σ:=λσ=>by unfold ge iQ;simp
 have k:∀ fs σ,Zr [(6,ge),(7,Ce)] 1 "word" fs (Ai i s u v) σ=(fs σ).bind (vp 1 ge (Ai i s u v)):=λfs σ=>BH (Ru rfl) rfl rfl;have a:∀ σ,oEq (bh u v) (bh u v) σ=.ok (.bl true) σ:=λσ=>JC (by unfold bh;rfl);have b:∀ σ,oEq (.lst [bh u v]) (.lst [bh u v]) σ=.ok (.bl true) σ:=λσ=>JC (by unfold bh;rfl);have c:∀ σ:Oa,gk (.lst []) (.lst []) σ=.ok (.bl false) σ:=λσ=>VA rfl;have d:∀ σ:Oa,gk (.str "calm") (.str "calm") σ=.ok (.bl false) σ:=λσ=>VA rfl;have l:D.tup [.int 0,.tup [.int u,.int v],.tup []]=bh u v:=rfl;unfold yc lM;generalize Ai i s u v=m at *;simp[e,g2,f,k,w,c,d,l];generalize bh u v=S at *;simp[g,h,j,a,b]
theorem pH{f:Ev->M D}{src:Ev->M NX}{nx:NX}{n:Nat}{ρ c:Ev}{σ b a:Oa}{A d:Kv}{tg:D->Ev->Option Ev}{body:Ev->M Fl}(i:f ρ σ=.ok (.ref n) σ)(g:σ[n]?=some (.Na A))(h:src ρ σ=.ok nx b)(j:zp nx tg body 1001 0 ρ b=.ok (.nx c) a)(e:a[n]?=some (.Kf d)):kt f (Cn src tg body) ρ σ=.ok (.nx c) (a.set n (.Na d)):=by
 show eD fD (f ρ) (Cn src tg body ρ) σ=_;unfold eD;rw[i];dsimp only;rw[g];dsimp only;rw[Pu,h,yq];show HB fD _ (zp nx tg body 1001 0 ρ b)=_;rw[j];unfold HB;simp only[fD,ie,e]
section
variable{f:Ev->M D}{n:Nat}{ρ:Ev}{σ:Oa}{A:Kv}(hv:f ρ σ=.ok (.ref n) σ)(g:σ[n]?=some (.Na A))
include hv g
theorem cO:Wu f ρ σ=.ok (Tr A) (σ.set n (.Kf A)):=by
 show Mc (f ρ) mF σ=_;rw[zo,hv,se];unfold mF;simp only[g]
theorem L3:cE f ρ σ=.ok (Jy A) (σ.set n (.Kf A)):=by
 show Mc (f ρ) ID σ=_;rw[zo,hv,se];unfold ID;simp only[g]
end
theorem iV{A:Kv}{i:Nat}{q:Key × D}(h:A[i]?=some q)(σ:Oa):Tr A i σ=some (some (.tup [iA q.1,q.2])):=by unfold Tr;rw[h]
theorem xH(A:Kv)(σ:Oa):Tr A A.length σ=some none:=by unfold Tr;simp
theorem YU(A:Kv)(σ:Oa):Jy A A.length σ=some none:=by unfold Jy;simp
noncomputable def iE(h:Int)(i:Nat)(p:Pt):List (Nat × Int × Pt):=if p.l=h then [(i,0,p)]else if p.r=h then [(i,1,p)]else []
noncomputable def Oi(h:Int):Nat->List Pt->List (Nat × Int × Pt)
 |_,[]=>[]
 |i,p::r=>iE h i p++Oi h (i+1) r
theorem eB(f:Int->Int->Pt->D)(h:Int):∀ (i:Nat) (ps:List Pt),md f h i ps=(Oi h i ps).map λq=>((.inl (q.1:Int):Key),f q.1 q.2.1 q.2.2)
 |_,[]=>rfl
 |i,p::r=>by
  rw[md,Oi,Tc,eB f h (i+1) r];congr 1;unfold Dq iE;split
  ·rfl
  ·split<;>rfl
theorem UH(f:Int->Int->Pt->D)(h:Int):∀ (ps:List Pt) (i k:Nat) (p:Pt),ps[k]?=some p->Fk (md f h i ps) (.inl ((i+k:Nat):Int))=if p.l=h then some (f ((i+k:Nat):Int) 0 p)else if p.r=h then some (f ((i+k:Nat):Int) 1 p)else none
 |[],i,k,p,e=>by simp at e
 |q::r,i,0,p,e=>by
  have e:q=p:=by simpa using e
  subst e;have o:Fk (md f h (i+1) r) (.inl (i:Int))=none:=VH (TD f h i (i+1) r (.inl (by omega)));rw[md];show Fk (Dq f h i q++md f h (i+1) r) (.inl (i:Int))=(if q.l=h then some (f (i:Int) 0 q)else if q.r=h then some (f (i:Int) 1 q)else none);unfold Dq;split
  ·rw[Ie,Xz,ia rfl]
  ·split
   ·rw[Ie,Xz,ia rfl]
   ·exact o
 |q::r,i,k+1,p,e=>by
  have a:=UH f h r (i+1) k p (by simpa using e);rw[show i+1+k=i+(k+1) by omega]at a;rw[md,<-a];have n:(Sum.inl (i:Int):Key)≠.inl ((i+(k+1):Nat):Int):=λz=>by
   have:(i:Int)=((i+(k+1):Nat):Int):=Qx z;omega
  unfold Dq;split
  ·rw[Ie,Xz,ja n];rfl
  ·split
   ·rw[Ie,Xz,ja n];rfl
   ·rfl
theorem xJ(h:Int):∀ (ps:List Pt) (i:Nat) (q:Nat × Int × Pt),q∈Oi h i ps->∃ k,q.1=i+k/\ps[k]?=some q.2.2/\((q.2.1=0/\q.2.2.l=h)\/(q.2.1=1/\q.2.2.l≠h/\q.2.2.r=h))
 |[],i,q,a=>nomatch a
 |p::r,i,q,a=>by
  rw[Oi]at a;rcases Uf.mp a with a|a
  ·refine⟨0,?_⟩;unfold iE at a;split at a
   ·next z=>
    have e:q=(i,0,p):=by simpa using a
    subst e;exact⟨rfl,rfl,.inl ⟨rfl,z⟩⟩
   ·split at a
    ·next y z=>
     have e:q=(i,1,p):=by simpa using a
     subst e;exact⟨rfl,rfl,.inr ⟨rfl,y,z⟩⟩
    ·cases a
  ·obtain⟨k,d,b,c⟩:=xJ h r (i+1) q a;exact⟨k+1,by omega,by simpa using b,c⟩
theorem zN(f:Int->Int->Pt->D){h:Int}{ps:List Pt}{q:Nat × Int × Pt}(i:q∈Oi h 0 ps):Fk (md f h 0 ps) (.inl (q.1:Int))=some (f q.1 q.2.1 q.2.2):=by
 obtain⟨k,c,d,e⟩:=xJ h ps 0 q i;have:=UH f h ps 0 k _ d;rw[Vi]at this c;rw[c,this];rcases e with⟨a,b⟩|⟨a,b,g⟩
 ·rw[ia b,a]
 ·rw[ja b,ia g,a]
theorem cF(h:Int)(i:Nat)(ps:List Pt):(Oi h i ps).length<=ps.length:=by
 have:=wJ fC h i ps
 rwa [eB,xa]at this
noncomputable def vh(q:Nat × Int × Pt):D:=.tup [.int q.2.1,.lst [bh q.2.2.u q.2.2.v],.Na [] []]
theorem lZ(σ:Oa):Ld (.gt ["held"]) (.int 0) σ=.ok (.str "held") σ:=nr rfl
theorem r8(p s u v:Int)(σ:Oa):Te [Ai p s u v,.gt ["held"]] σ=.ok (.lst [bh u v]) σ:=by
 have i:=lZ σ;have m:be [5,6,7] "may" (Ai p s u v) σ=.ok (.lst [bh u v]) σ:=Mn (Ru rfl) rfl rfl;have a:cl (.lst [bh u v])=true:=by unfold bh;simp
 have b:((("held" : qa) == ("held" : qa)))=true:=by decide
 unfold Te lS;generalize D.lst [bh u v]=L at *;generalize Ai p s u v=A at *;simp[i,m,a,b]
section
variable(τ:Oa)(h e l:Int)(K:Kv)(r:Oa){ps:List Pt}(hl:ps.length<=3)
noncomputable abbrev kH(b:Oa)(h e l:Int)(K:Kv)(a:Ob)(ps:List Pt)(r:Oa):Oa:=kS b h e l K a (md fC h 0 ps) (md fS h 0 ps) r
theorem g7(a:Ob){q:Nat × Int × Pt}(b:q∈Oi h 0 ps)(f:Option D)(xs:List D)(y:xs.length<900) :
  zE [some (.ref τ.length),f,some (.ref (kH τ h e l K a ps r).length),some (.int q.1),some (fA q.1 q.2.1 q.2.2)] (kH τ h e l K a ps r++[.lst xs])=.ok (.nx [some (.ref τ.length),f,some (.ref (kH τ h e l K a ps r).length),some (.int q.1),some (fA q.1 q.2.1 q.2.2)]) (kH τ h e l K a ps r++[.lst (xs++[vh q])]):=by
 have i:be [9,14] "claims" (.ref τ.length) (kH τ h e l K a ps r++[.lst xs])=.ok (.ref (τ.length+3)) (kH τ h e l K a ps r++[.lst xs]):=by unfold kH;rw[No];exact OL ..
 have c2:be [9] "seen" (.ref τ.length) (kH τ h e l K a ps r++[.lst xs])=.ok (.ref (τ.length+4)) (kH τ h e l K a ps r++[.lst xs]):=by unfold kH;rw[No];exact uL ..
 have g1:(kH τ h e l K a ps r++[.lst xs])[τ.length+3]?=some (.Na (md fC h 0 ps)):=by unfold kH;rw[No];unfold kS;rw[Fu];rfl
 have g2:(kH τ h e l K a ps r++[.lst xs])[τ.length+4]?=some (.Na (md fS h 0 ps)):=by unfold kH;rw[No];unfold kS;rw[Fu];rfl
 have n:=zN fC b;have o:=zN fS b;have j:Yu (.ref (τ.length+3)) (.int q.1) (kH τ h e l K a ps r++[.lst xs])=.ok (.gt ["held"]) (kH τ h e l K a ps r++[.lst xs]):=by
  unfold Yu Zk;simp only[Mq,g1,n];rfl
 have k:Yu (.ref (τ.length+4)) (.int q.1) (kH τ h e l K a ps r++[.lst xs])=.ok (.Na [] []) (kH τ h e l K a ps r++[.lst xs]):=by
  unfold Yu Zk;simp only[Mq,g2,o];rfl
 have c:=r8 q.1 q.2.1 q.2.2.u q.2.2.v (kH τ h e l K a ps r++[.lst xs]);have s:be [5,6,7,12,13] "side" (fA q.1 q.2.1 q.2.2) (kH τ h e l K a ps r++[.lst xs])=.ok (.int q.2.1) (kH τ h e l K a ps r++[.lst xs]):=Mn (Ru rfl) rfl rfl;have g:=nB (σ:=kH τ h e l K a ps r) (xs:=xs) (d:=vh q) (by omega);have p:∀ m,Vs yk m (.ref (kH τ h e l K a ps r).length) (kH τ h e l K a ps r++[.lst xs])=(m (kH τ h e l K a ps r++[.lst xs])).bind (yk (.ref (kH τ h e l K a ps r).length)):=λm=>Py (xs:=xs) (by unfold Ff kg;simp);have t:D.tup [.int q.2.1,.lst [bh q.2.2.u q.2.2.v],.Na [] []]=vh q:=rfl;rw[show Ai q.1 q.2.1 q.2.2.u q.2.2.v=fA q.1 q.2.1 q.2.2 from rfl]at c;unfold zE;generalize kH τ h e l K a ps r++[.lst (xs++[vh q])]=Z at *;generalize kH τ h e l K a ps r++[.lst xs]=Y at *;generalize (kH τ h e l K a ps r).length=N at *;generalize fA q.1 q.2.1 q.2.2=w at *;generalize D.lst [bh q.2.2.u q.2.2.v]=x at *;simp[i,c2,j,k,c,s,p,t,g]
include hl
theorem ZW(a:Ob)(i:Option D):∀ (g b:List (Nat × Int × Pt)) (f:Nat) (j k:Option D),Oi h 0 ps=b++g->f=1001 - b.length->∃ m n,zp (Tr (md fA h 0 ps)) (cq 2 (Fj (Wd 3) (Fj (Wd 4) Lq))) zE f b.length [some (.ref τ.length),i,some (.ref (kH τ h e l K a ps r).length),j,k] (kH τ h e l K a ps r++[.lst (b.map vh)])=.ok (.nx [some (.ref τ.length),i,some (.ref (kH τ h e l K a ps r).length),m,n]) (kH τ h e l K a ps r++[.lst ((Oi h 0 ps).map vh)]):=by
 intro g;have u:=cF h 0 ps;induction g with
 |nil=>
  intro b f j k c o;rw[Vf]at c;refine⟨j,k,?_⟩;have hn:=xH (md fA h 0 ps) (kH τ h e l K a ps r++[.lst (b.map vh)]);rw[eB,xa,c]at hn;rw[eB,c];rw[c]at u;obtain⟨d,rfl⟩:∃ d,f=d+1:=⟨1000 - b.length,by omega⟩
  exact Mz hn
 |cons q g t=>
  intro b f j k c o;have ld:b.length<(Oi h 0 ps).length:=by rw[c];simp
  have s:q∈Oi h 0 ps:=by rw[c];simp
  have p:(md fA h 0 ps)[b.length]?=some ((.inl (q.1:Int):Key),fA q.1 q.2.1 q.2.2):=by rw[eB,c];simp
  obtain⟨m,n,z⟩:=t (b++[q]) (f - 1) (some (.int q.1)) (some (fA q.1 q.2.1 q.2.2)) (by rw[c];simp) (by rw[ib];simp;omega);refine⟨m,n,?_⟩;obtain⟨d,rfl⟩:∃ d,f=d+1:=⟨1000 - b.length,by omega⟩
  rw[ZG (iV p _) (ρ1:=[some (.ref τ.length),i,some (.ref (kH τ h e l K a ps r).length),some (.int q.1),some (fA q.1 q.2.1 q.2.2)]) (nr rfl),g7 τ h e l K r a s i (b.map vh) (by rw[xa];omega),se,Qo];have v:(b++[q]).length=b.length+1:=by simp
  rw[v,Tc]at z;exact z
end
theorem On.sq{σ:Oa}{x:D}{xs:List D}(h:On σ x xs):ym σ x=some xs:=by
 rcases h with rfl|⟨n,rfl,h⟩
 ·rfl
 ·exact h
theorem On.src{σ:Oa}{x:D}{xs:List D}(h:On σ x xs):∃ s:Src,dt x σ=.ok s σ/\∀ i j,s.nx i (σ++j)=some xs[i]?:=by
 rcases h with rfl|⟨n,rfl,e⟩
 ·exact⟨.seq xs,rfl,λ_ _=>rfl⟩
 ·refine⟨.qp n,?_,λi j=>?_⟩
  ·show (match kg σ n with|some _=>_|none=>_)=_;rw[e]
  ·show (kg (σ++j) n).map _=_;rw[Kw e j];rfl
theorem Y1{σ:Oa}(j:Oa){c:Nat}{fs:List (qa × D)}(h:Nh (fs.map (·.2))=true):Ag σ (.ok (.ref (σ++j).length) (σ++j++[.ins c fs]))=.ok (.obj c (fs.map (·.1)) (fs.map (·.2))) σ:=by
 unfold Ag;dsimp only;rw[ia (by simp)];have e:fz σ.length (σ++j++[.ins c fs]) 6 (.ref (σ++j).length)=some (.obj c (fs.map (·.1)) (fs.map (·.2))):=by
  unfold fz;rw[ja (by simp)];dsimp only;rw[ja (by rw[ib];omega)];have:(σ++j++[Ob.ins c fs])[(σ++j).length]?=some (.ins c fs):=by simp
  rw[this];dsimp only;have b:∀ (ys:List D) (m:Nat),Nh ys=true->An (fz σ.length (σ++j++[.ins c fs]) m) ys=some ys:=by
   intro ys m;induction ys with
   |nil=>intro _;rfl
   |cons y ys f=>
    intro a;rw[Nh,va]at a;have d:fz σ.length (σ++j++[.ins c fs]) m y=some y:=by
     cases m<;>(unfold fz;rw[ia a.1])
    rw[An,d,f a.2]
  rw[b _ _ h];rfl
 rw[e]
noncomputable def Eo(e l:Int)(ws:List Int)(ms:List (Nat × Int × Pt)):D:=.obj 8 ["every", "last_look", "known", "pots"] [.int e,.int l,.lst (ws.map D.int),.lst (ms.map vh)]
theorem NM(q:Nat × Int × Pt):cl (vh q)=true:=by unfold vh bh;simp[cl]
theorem IQ(ms:List (Nat × Int × Pt)):Nh (ms.map vh)=true:=mw λd hd=>by
 obtain⟨q,_,rfl⟩:=Ra.mp hd;exact NM q
theorem T2(σ:Oa)(e l:Int){W P:D}{ws:List Int}{ms:List (Nat × Int × Pt)}(p:On σ W (ws.map D.int))(o:On σ P (ms.map vh))(hm:ms.length<=3):Xq [.ref σ.length,.int e,.int l,W,P] (σ++[.ins 8 []])=.ok .Yb (σ++[.ins 8 [("every",.int e),("last_look",.int l),("known",.lst (ws.map D.int)),("pots",.lst (ms.map vh))]]):=by
 have E:=λ(g:List Nat) (n:g.contains 8=true) (f:qa) (w:D) (fs:List (qa × D)) (r:fs.length<1000)=>TF (ρ:=[some (.ref σ.length),some (.int e),some (.int l),some W,some P]) (σ:=σ) (cs:=g) (f:=f) (d:=w) (c:=8) (fs:=fs) n r;have x:Nh (ws.map D.int)=true:=by simp
 have k:∀ fs,Ag (σ++[.ins 8 fs]) (Bn [W] (σ++[.ins 8 fs]))=.ok (.lst (ws.map D.int)) (σ++[.ins 8 fs]):=λfs=>gO (p.app _).sq x;have y:∀ fs,oh (Rj (toN (zi (wa 4))) [] (Wd 0) Yi (Yq (Ta (Hb Ld (wa 0) (eC (.int 0))) (Ta (oh (Ii Bn (Ta (Hb Ld (wa 0) (eC (.int 1))) xb))) (Ta (Ii Bz (Ta (Hb Ld (wa 0) (eC (.int 2))) xb)) xb))))) [some (.ref σ.length),some (.int e),some (.int l),some W,some P] (σ++[.ins 8 fs])=.ok (.lst (ms.map vh)) (σ++[.ins 8 fs]):=λfs=>by
  obtain⟨s,C,F⟩:=(o.app [.ins 8 fs]).src;have:=Rv (ix:=[]) (src:=zi (wa 4)) (s:=s) (ds:=ms.map vh) (ρ:=[some (.ref σ.length),some (.int e),some (.int l),some W,some P]) (σ:=σ++[.ins 8 fs]) (fe:=Yq (Ta (Hb Ld (wa 0) (eC (.int 0))) (Ta (oh (Ii Bn (Ta (Hb Ld (wa 0) (eC (.int 1))) xb))) (Ta (Ii Bz (Ta (Hb Ld (wa 0) (eC (.int 2))) xb)) xb)))) (λd=>d) (by simp[C]) F (by rw[xa];omega)
   (λd hd j=>by
    obtain⟨q,_,rfl⟩:=Ra.mp hd;have t:Nh [bh q.2.2.u q.2.2.v]=true:=by unfold bh;simp
    have i:=λσ=>sB t σ;have h:∀ τ,Bz [.Na [] []] τ=.ok (.Na [] []) τ:=λτ=>nr rfl;unfold vh;generalize [bh q.2.2.u q.2.2.v]=G at *;simp[i,h]) (λd hd=>by
    obtain⟨q,_,rfl⟩:=Ra.mp hd;exact NM q)
  rw[AA]at this;exact this
 have z:vm "every" (.int e) ([]:List (qa × D))=([("every",.int e)]:List (qa × D)):=rfl;have A:∀ a b:D,vm "last_look" b ([("every",a)]:List (qa × D))=([("every",a),("last_look",b)]:List (qa × D)):=λ_ _=>rfl;have B:∀ a b c:D,vm "known" c ([("every",a),("last_look",b)]:List (qa × D))=([("every",a),("last_look",b),("known",c)]:List (qa × D)):=λ_ _ _=>rfl;have p4:∀ a b c d:D,vm "pots" d ([("every",a),("last_look",b),("known",c)]:List (qa × D))=([("every",a),("last_look",b),("known",c),("pots",d)]:List (qa × D)):=λ_ _ _ _=>rfl;have m:∀ ρ σ,oh (Ii Bn (Ta (wa 3) xb)) ρ σ=Ag σ (Ii Bn (Ta (wa 3) xb) ρ σ):=λ_ _=>rfl;unfold Xq dP;generalize ms.map vh=PS at *;generalize ws.map D.int=H at *;simp[E,z,A,B,p4,k,y,m,-cr]
theorem QP(e l:Int)(ws:List Int)(ms:List (Nat × Int × Pt)):cl (Eo e l ws ms)=true:=by
 unfold Eo;simp[cl,IQ]
section
variable(τ:Oa)(h e l:Int)(vs:List Int)(hv:vs.length<64)(r:Oa){ps:List Pt}(hl:ps.length<=3)
include hv hl
theorem rZ:wc [.ref τ.length,.ref (τ.length+2)] (kH τ h e l (Hc vs) (.Na (md fA h 0 ps)) ps r)=.ok (Eo e l (Tf vs) (Oi h 0 ps)) (kH τ h e l (Hc vs) (.Na (md fA h 0 ps)) ps r):=by
 have d:=λ(a:Ob) (j:Oa)=>No τ h e l (Hc vs) a (md fC h 0 ps) (md fS h 0 ps) r j;have u:∀ a b:Ob,(kH τ h e l (Hc vs) a ps r).length=(kH τ h e l (Hc vs) b ps r).length:=λa b=>by unfold kH kS;simp
 obtain⟨z,B,i⟩:=ZW τ h e l (Hc vs) r hl (.Kf (md fA h 0 ps)) (some (.ref (τ.length+2))) (Oi h 0 ps) [] 1001 none none rfl rfl;rw[Af,Fn,d,d,u _ (.Na (md fA h 0 ps))]at i;have c:=pH (f:=wa 1) (src:=Wu (wa 1)) (ρ:=[some (.ref τ.length),some (.ref (τ.length+2)),some (.ref (kH τ h e l (Hc vs) (.Na (md fA h 0 ps)) ps r).length),none,none]) (σ:=kH τ h e l (Hc vs) (.Na (md fA h 0 ps)) ps (r++[.lst []])) (n:=τ.length+2) (by simp) (qu ..) (cO (by simp) (qu ..)) (by rw[xz];exact i) (qu ..);rw[xz]at c;have hm:(Oi h 0 ps).length<=3:=Ya (cF h 0 ps) hl;unfold kH at *;generalize Oi h 0 ps=ms at *;generalize md fC h 0 ps=C at *;generalize md fS h 0 ps=S at *;generalize Ob.Na (md fA h 0 ps)=A at *;have k:=xE τ h e l A C S (r++[.lst (ms.map vh)]) hv;have v:=λfs=>Jt τ h e l (Hc vs) A C S (r++[.lst (ms.map vh)]) (m:="words") 1 Pa fs rfl;have s:be [8,9] "every" (.ref τ.length) (kS τ h e l (Hc vs) A C S (r++[.lst (ms.map vh)]))=.ok (.int e) (kS τ h e l (Hc vs) A C S (r++[.lst (ms.map vh)])):=Mn (sx ..) rfl rfl;have t:=xP τ h e l (Hc vs) A C S (r++[.lst (ms.map vh)]);have p:=No τ h e l (Hc vs) A C S r [.lst (ms.map vh)];have q:kS τ h e l (Hc vs) A C S (r++[.lst (ms.map vh)]++[.lst ((Tf vs).map D.int)])=kS τ h e l (Hc vs) A C S r++[.lst (ms.map vh)]++[.lst ((Tf vs).map D.int)]:=by rw[No,No]
 have o:=No τ h e l (Hc vs) A C S r [.lst []];have w:=QP e l (Tf vs) ms;rw[q]at k;rw[<-p]at c s t k v;rw[<-o]at c;clear d u i o p q;unfold wc sP;generalize kS τ h e l (Hc vs) A C S r=Y at *;have x:Ag (Y++[.lst (ms.map vh)]) (Fq 8 5 Xq [.int e,.int l,.ref (Y++[Ob.lst (ms.map vh)]).length,.ref Y.length] (Y++[.lst (ms.map vh)]++[.lst ((Tf vs).map D.int)]))=.ok (Eo e l (Tf vs) ms) (Y++[.lst (ms.map vh)]):=by
  rw[hO,T2 _ e l (ws:=Tf vs) (ms:=ms) (.inr ⟨_,rfl,by unfold kg;simp⟩) (.inr ⟨_,rfl,by unfold kg;simp⟩) hm,gB];exact Y1 _ (by simp[IQ])
 generalize Eo e l (Tf vs) ms=V at *;have fz:Ag Y (.ok V (Y++[.lst (ms.map vh)]))=.ok V Y:=wP w;generalize g:Y++[Ob.lst (ms.map vh)]=y at *;simp[-Pu,c,s,t,k,v,x,fz,g]
end
@[simp] theorem zo9(ix:List Nat)(fe:Ev->M D)(fs:Ev->M (List D))(ρ:Ev)(σ:Oa):HI ix fe fs ρ σ=(fs ρ σ).bind (qy fe (ix.map λi=>(ρ[i]?).getD none)):=nr rfl
noncomputable def own(q:Nat × Int × Pt):Int:=if q.2.1=0 then q.2.2.u else q.2.2.v
noncomputable def rj(q:Nat × Int × Pt):D:=.tup [.int (own q),.Na [] []]
theorem hD(q:Nat × Int × Pt):cl (rj q)=true:=by unfold rj;simp[cl]
noncomputable def Sd(q:Nat × Int × Pt):Prop:=q.2.1=0\/q.2.1=1
theorem o0{q:Nat × Int × Pt}(a:Sd q)(V:D)(σ:Oa):Le [V,vh q,bh q.2.2.u q.2.2.v] σ=.ok (rj q) σ:=by
 have b:∀ σ,Ld (vh q) (.int 0) σ=.ok (.int q.2.1) σ:=λσ=>by unfold vh;simp
 have c:∀ σ,Ld (bh q.2.2.u q.2.2.v) (.int 1) σ=.ok (.tup [.int q.2.2.u,.int q.2.2.v]) σ:=λσ=>by unfold bh;simp
 have d:∀ σ,Ld (bh q.2.2.u q.2.2.v) (.int 2) σ=.ok (.tup []) σ:=λσ=>by unfold bh;simp
 have f:∀ σ,Ld (.tup [.int q.2.2.u,.int q.2.2.v]) (.int q.2.1) σ=.ok (.int (own q)) σ:=λσ=>by
  unfold own;rcases a with e|e<;>rw[e]<;>simp
 have fz:Ag σ (.ok (.tup [.int (own q),.ref σ.length]) (σ++[.Na []]))=.ok (rj q) σ:=by
  unfold Ag;dsimp only;rw[ia (by simp)];have:(σ++[Ob.Na []])[σ.length]?=some (.Na []):=by simp
  simp[fz,An,cl,this,rj]
 unfold Le DQ;generalize vh q=h at *;generalize bh q.2.2.u q.2.2.v=g at *;generalize own q=O at *;simp[b,c,d,f,fz]
noncomputable def Fh(q:Nat × Int × Pt):D:=.lst [rj q]
theorem nW(q:Nat × Int × Pt):cl (Fh q)=true:=by unfold Fh;simp[hD]
theorem cX{q:Nat × Int × Pt}(c:Sd q)(V:D)(σ:Oa){ys:List D}(h:ys.length<900):nF [some V,some (.ref σ.length),some (vh q)] (σ++[.lst ys])=.ok (.nx [some V,some (.ref σ.length),some (vh q)]) (σ++[.lst (ys++[Fh q])]):=by
 have l:oh (Rj (toN (zi (Hb Ld (wa 2) (eC (.int 1))))) [0,2] (Wd 0) Yi (Sf 3 Le [] (Ta (wa 2) (Ta (wa 3) (Ta (wa 0) xb))))) [some V,some (.ref σ.length),some (vh q)] (σ++[.lst ys])=.ok (.lst ([bh q.2.2.u q.2.2.v].map λ_=>rj q)) (σ++[.lst ys]):=by
  refine Rv (s:=.seq [bh q.2.2.u q.2.2.v]) (ix:=[0,2]) (λ_=>rj q) (by unfold vh;simp) (λ_ _=>rfl) (by simp) (λd hd j=>?_) (λd hd=>hD q);have e:d=bh q.2.2.u q.2.2.v:=by simpa using hd
  subst e;have r:=o0 c V (σ++[.lst ys]++j);generalize rj q=R at *;generalize vh q=a at *;generalize bh q.2.2.u q.2.2.v=g at *;generalize σ++[Ob.lst ys]++j=Y at *;simp[r]
 have b:=nB (σ:=σ) (xs:=ys) (d:=Fh q) (by omega);have f:∀ m,Vs yk m (.ref σ.length) (σ++[.lst ys])=(m (σ++[.lst ys])).bind (yk (.ref σ.length)):=λm=>Py (xs:=ys) (by unfold Ff kg;simp);rw[show D.lst ([bh q.2.2.u q.2.2.v].map λ_=>rj q)=Fh q from rfl]at l;unfold nF;generalize σ++[Ob.lst (ys++[Fh q])]=Z at *;generalize σ++[Ob.lst ys]=Y at *;generalize Fh q=R at *;generalize vh q=a at *;simp[f,l,b,-cr]
theorem TM(V:D)(σ:Oa):∀ (a:List (Nat × Int × Pt)) (ys:List D) (b:Option D),(∀ q∈a,Sd q)->ys.length+a.length<900->∃ c,Nk (Wd 2) nF (a.map vh) [some V,some (.ref σ.length),b] (σ++[.lst ys])=.ok (.nx [some V,some (.ref σ.length),c]) (σ++[.lst (ys++a.map Fh)])
 |[],ys,b,_,_=>⟨b,by simp⟩
 |q::a,ys,b,d,e=>by
  rw[Za]at e;obtain⟨c,z⟩:=TM V σ a (ys++[Fh q]) (some (vh q)) (λz f=>d z (Ha _ f)) (by rw[ib];simp;omega);refine⟨c,?_⟩;rw[Ia,yu];simp only[Ib,Jb];rw[cX (d q Qa) V σ (by omega),se,Qo,z];simp
theorem zZ(e l:Int)(ws:List Int){ms:List (Nat × Int × Pt)}(b:∀ q∈ms,Sd q)(hm:ms.length<=3)(σ:Oa):Of [Eo e l ws ms] σ=.ok (.lst (ms.map Fh)) σ:=by
 obtain⟨g,z⟩:=TM (Eo e l ws ms) σ ms [] none b (by simp;omega);rw[Ti]at z;have a:∀ σ,be [8,14] "pots" (Eo e l ws ms) σ=.ok (.lst (ms.map vh)) σ:=λσ=>Mn (Ru rfl) rfl rfl;have fz:Ag σ (.ok (.ref σ.length) (σ++[.lst (ms.map Fh)]))=.ok (.lst (ms.map Fh)) σ:=iy (mw λd hd=>by
  obtain⟨q,_,rfl⟩:=Ra.mp hd;exact nW q)
 unfold Of OQ;generalize Eo e l ws ms=V at *;generalize ms.map vh=f at *;generalize ms.map Fh=c at *;simp[a,z,fz]
theorem DG{tg:D->Ev->Option Ev}{body:Ev->M Fl}{n k i:Nat}{ρ ρ1:Ev}{σ:Oa}{xs:List D}{d:D}(h:kg σ n=some xs)(a:xs[i]?=some d)(b:tg d ρ=some ρ1):Lp tg body n (k+1) i ρ σ=(body ρ1 σ).bind (Qt (Lp tg body n k (i+1))):=by
 rw[Lp];simp only[h,a,b];rfl
theorem mK{tg:D->Ev->Option Ev}{body:Ev->M Fl}{n k i:Nat}{ρ:Ev}{σ:Oa}{xs:List D}(h:kg σ n=some xs)(a:xs[i]?=none):Lp tg body n (k+1) i ρ σ=.ok (.nx ρ) σ:=by
 rw[Lp];simp only[h,a]
theorem O0{σ:Oa}{ys zs:List D}(h:ys.length+zs.length<=1000):fy (.ref σ.length) [.lst zs] (σ++[.lst ys])=.ok .Yb (σ++[.lst (ys++zs)]):=by
 have e:Ff (σ++[Ob.lst ys]) (.lst zs)=some zs:=rfl;unfold fy;simp only[yQ,e];rw[ia (show _<=Mh from h),jI]
noncomputable def zs(k:Nat):List D:=List.replicate k (.int 0)
theorem zD(k:Nat):Nh (zs k)=true:=mw λd hd=>by rw[List.eq_of_mem_replicate hd];rfl
theorem A0(k:Nat):zs k++[.int 0]=zs (k+1):=by unfold zs;rw[Ks]
theorem K2(R C:Option D)(q:Nat × Int × Pt)(σ:Oa)(k:Nat)(f:k<=3):cB [R,C,some (Fh q),some (.ref σ.length),some (.lst (zs k))] (σ++[.lst []])=.ok (.nx [R,C,some (Fh q),some (.ref σ.length),some (.lst (zs k))]) (σ++[.lst [.lst (zs (k+1))]]):=by
 have a:∀ τ,zj (.lst (zs k)) (.lst [.int 0]) τ=.ok (.lst (zs (k+1))) τ:=λτ=>by
  rw[GC (by unfold zs Mh;simp;omega),A0]
 have b:∀ τ,Vo [Fh q] τ=.ok (.int 1) τ:=λτ=>by unfold Fh;simp
 have l:oh (Rj (toN (gx (Ii Vo (Ta (wa 2) xb)))) [4] (Wd 0) Yi (Hb zj (wa 2) (Rn (Ta (wa 0) xb)))) [R,C,some (Fh q),some (.ref σ.length),some (.lst (zs k))] (σ++[.lst []])=.ok (.lst ([D.int 0].map λ_=>D.lst (zs (k+1)))) (σ++[.lst []]):=by
  refine Rv (s:=.seq [.int 0]) (ix:=[4]) (λ_=>.lst (zs (k+1))) ?_ (λ_ _=>rfl) (by simp) (λd hd j=>?_) (λd hd=>by simp[zD])
  ·simp[b,uE];rfl
  ·have e:d=.int 0:=by simpa using hd
   subst e;generalize σ++[Ob.lst []]++j=Y at *;simp[a]
 have ex:=O0 (σ:=σ) (ys:=[]) (zs:=[.lst (zs (k+1))]) (by simp);have c:∀ m,Vs fy m (.ref σ.length) (σ++[.lst []])=(m (σ++[.lst []])).bind (fy (.ref σ.length)):=λm=>Py (xs:=[]) (by unfold Ff kg;simp);rw[Ti]at ex;rw[show ([D.int 0].map λ_=>D.lst (zs (k+1)))=[.lst (zs (k+1))]from rfl]at l;unfold cB;generalize σ++[Ob.lst [.lst (zs (k+1))]]=Z at *;generalize σ++[Ob.lst []]=Y at *;generalize Fh q=R at *;simp[c,l,ex,-cr]
@[simp] theorem ynw(a:D)(r:List D)(σ:Oa):Ld (.lst (a::r)) (.int 0) σ=.ok a σ:=JK (show Sm _ ((0:Nat):Int)=_ from sw rfl)
theorem F2(R h b:Option D)(q:Nat × Int × Pt){C:D}{a:Oa}{k:Nat}(f:k<=3)(L:On a C [.lst (zs k)]):WD [R,some C,some (Fh q),h,b] a=.ok (.nx [R,some (.ref a.length),some (Fh q),some (.ref a.length),some (.lst (zs k))]) (a++[.lst [.lst (zs (k+1))]]):=by
 have fr:∃ s,dt C (a++[.lst []])=.ok s (a++[.lst []])/\∀ b,Cz (Wd 4) cB [R,some C,some (Fh q),some (.ref a.length),b] s (a++[.lst []])=.ok (.nx [R,some C,some (Fh q),some (.ref a.length),some (.lst (zs k))]) (a++[.lst [.lst (zs (k+1))]]):=by
  have c:=K2 R (some C) q a k f;rcases L with rfl|⟨n,rfl,g⟩
  ·refine⟨.seq [.lst (zs k)],rfl,λb=>?_⟩;rw[DJ,yu];simp only[Ib,Jb];rw[c,se,Qo,mD]
  ·refine⟨.qp n,?_,λb=>?_⟩
   ·show (match kg (a++[.lst []]) n with|some _=>_|none=>_)=_;rw[Kw g]
   ·show Lp (Wd 4) cB n 1001 0 _ _=_;rw[DG (ρ1:=[R,some (.ref n),some (Fh q),some (.ref a.length),some (.lst (zs k))]) (Kw g _) (i:=0) rfl rfl,c,se,Qo,mK (Kw g _) rfl]
 obtain⟨s,d,e⟩:=fr;unfold WD;generalize a++[Ob.lst [.lst (zs (k+1))]]=Z at *;generalize Fh q=j at *;generalize D.lst (zs k)=l at *;simp[d,e]
section
variable(σ:Oa)(R:Option D)
theorem PR:∀ (b:List (Nat × Int × Pt)) (k:Nat) (C:D) (c:Oa) (h f g:Option D),On c C [.lst (zs k)]->(∀ n,C=.ref n->σ.length<=n)->(∃ j,c=σ++j)->k+b.length<=3->∃ d a l m o,Nk (Wd 2) WD (b.map Fh) [R,some C,h,f,g] c=.ok (.nx [R,some d,l,m,o]) a/\On a d [.lst (zs (k+b.length))]/\(∀ n,d=.ref n->σ.length<=n)/\∃ j,a=σ++j
 |[],k,C,c,h,f,g,L,hn,i,_=>⟨C,c,h,f,g,by simp,L,hn,i⟩
 |q::b,k,C,c,h,f,g,L,hn,i,p=>by
  rw[Za]at p;obtain⟨j,rfl⟩:=i;obtain⟨d,a,l,m,o,r,s,t,u⟩:=PR b (k+1) (.ref (σ++j).length) (σ++j++[.lst [.lst (zs (k+1))]]) (some (Fh q)) (some (.ref (σ++j).length)) (some (.lst (zs k))) (.inr ⟨_,rfl,by unfold kg;simp⟩) (λn e=>by cases e;rw[ib];omega) ⟨j++[.lst [.lst (zs (k+1))]],by simp⟩ (by omega);refine⟨d,a,l,m,o,?_,by rw[Za,show k+(b.length+1)=k+1+b.length by omega];exact s,t,u⟩;rw[Ia,yu];simp only[Ib,Jb];rw[F2 R f g q (by omega) L,se,Qo,r]
end
theorem UZ{σ j:Oa}{C:D}{xs:List D}(L:On (σ++j) C xs)(hn:∀ n,C=.ref n->σ.length<=n)(b:Nh xs=true):Ag σ (.ok C (σ++j))=.ok (.lst xs) σ:=by
 rcases L with rfl|⟨n,rfl,g⟩
 ·exact EC (by rw[cl];exact b) (by simp)
 ·have e:=AG g;have c:∀ (ys:List D) (m:Nat),Nh ys=true->An (fz σ.length (σ++j) m) ys=some ys:=by
   intro ys m;induction ys with
   |nil=>intro _;rfl
   |cons y ys d=>
    intro b;have a:cl y=true/\Nh ys=true:=by simpa [Nh,va]using b
    unfold An;rw[vD a.1,d a.2]
  have f:fz σ.length (σ++j) 6 (.ref n)=some (.lst xs):=by
   unfold fz;rw[ja (by simp)];dsimp only;rw[ja (jv.mpr (hn n rfl)),e];dsimp only;rw[c _ 5 b];rfl
  unfold Ag;dsimp only;rw[ia (by simp),f]
theorem rW{ms:List (Nat × Int × Pt)}(hm:ms.length<=3)(σ:Oa):ke [.lst (ms.map Fh)] σ=.ok (.lst [.lst (zs ms.length)]) σ:=by
 obtain⟨f,a,i,k,l,c,b,d,j,rfl⟩:=PR σ (some (.lst (ms.map Fh))) ms 0 (.lst [.lst []]) σ none none none (.inl rfl) (λn e=>nomatch e) ⟨[],by simp⟩ (by omega);rw[Vi]at b;have fz:=UZ b d (by simp[zD]);unfold ke WM;generalize D.lst [.lst (zs ms.length)]=h at *;generalize ms.map Fh=g at *;generalize σ++j=a at *;simp[c,fz]
theorem MW{e:Type}{xs:List e}{src:Ev->M NX}{nx:NX}{ix:List Nat}{fe:Ev->M D}{ρ:Ev}{σ:Oa}(a b y:e->D)(h:src ρ σ=.ok nx σ)(hn:∀ i j,i<=xs.length->nx i (σ++j)=some ((xs[i]?).map λx=>.tup [a x,b x]))(g:xs.length<=1000)
  (step:∀ x∈xs,∀ j,fe (some (a x)::some (b x)::(ix.map λi=>(ρ[i]?).getD none)) (σ++j)=.ok (y x) (σ++j)) (f:∀ x∈xs,cl (y x)=true) :
  oh (Rj src ix (cq 2 (Fj (Wd 0) (Fj (Wd 1) Lq))) Yi fe) ρ σ=.ok (.lst (xs.map y)) σ:=by
 show Ag σ (Mc (src ρ) (KC _ Yi fe (Hu ix ρ)) σ)=_;rw[zo,h,se];show Ag σ (Mc (ij nx σ.length _ Yi fe 1001 0 (none::none::(ix.map λi=>(ρ[i]?).getD none))) _ (σ++[.lst []]))=_;rw[zo,yO (λ_=>True) (λx=>.tup [a x,b x]) a (λx=>some (b x)) (λ_=>true) y hn (λx o k _=>⟨rfl,trivial⟩) (λx c j=>⟨rfl,λ_=>step x c j⟩) g 1001 0 none none [] trivial (by omega) (by omega) (by simp),se];refine Eq.trans (we (Ag σ) ?_) (iy (xs:=xs.map y) (mw λd hd=>by obtain⟨x,c,rfl⟩:=Ra.mp hd;exact f x c));have fe:List.filter (λ_=>true) xs=xs:=Dt.mpr λ_ _=>rfl;simp[fe]
theorem v9{i j:Nat}{ρ:Ev}{σ:Oa}{xs ys:List D}(c:wa i ρ σ=.ok (.lst xs) σ)(d:wa j ρ σ=.ok (.lst ys) σ):pB (wa i) (wa j) ρ σ=.ok (ZB (.lst xs) (.lst ys)) σ:=by
 have a:Ff σ (.lst xs)=some xs:=rfl;have b:Ff σ (.lst ys)=some ys:=rfl;unfold pB;rw[zo,c,se];unfold DM;rw[zo,d,se];unfold WF;simp only[a,b]
theorem S4(ms:List (Nat × Int × Pt))(σ:Oa)(i:Nat)(c:i<=ms.length):ZB (.lst (ms.map Fh)) (.lst (zs ms.length)) i σ=some ((ms[i]?).map λq=>.tup [Fh q,.int 0]):=by
 have a:Ff σ (.lst (ms.map Fh))=some (ms.map Fh):=rfl;have b:Ff σ (.lst (zs ms.length))=some (zs ms.length):=rfl;unfold ZB;simp only[a,b,Ja];cases e:ms[i]? with
 |none=>
  have:ms.length<=i:=Wa.mp e;simp only[Option.map_none];rw[ia (by rw[xa];unfold zs;rw[Dr];omega)]
 |some q=>
  have h:i<ms.length:=(ka.mp e).1;have z:(zs ms.length)[i]?=some (.int 0):=by unfold zs;rw[ig,ia h]
  simp only[Ve,z]
theorem EY{ms:List (Nat × Int × Pt)}(hm:ms.length<=3)(σ:Oa):Jc [.lst (ms.map Fh),.lst (zs ms.length)] σ=.ok (.lst (ms.map rj)) σ:=by
 have l:=MW (xs:=ms) (ix:=[]) (src:=pB (wa 0) (wa 1)) (ρ:=[some (.lst (ms.map Fh)),some (.lst (zs ms.length))]) (σ:=σ) (fe:=Hb Ld (wa 0) (wa 1)) Fh (λ_=>.int 0) rj (v9 (by simp) (by simp)) (λi j b=>S4 ms _ i b) (by omega) (λq _ j=>by unfold Fh;simp) (λq _=>hD q);have a:cl (.lst (ms.map rj))=true:=by
  rw[cl];exact mw λd hd=>by obtain⟨q,_,rfl⟩:=Ra.mp hd;exact hD q
 unfold Jc mP;generalize ms.map rj=e at *;generalize D.lst (ms.map Fh)=c at *;generalize D.lst (zs ms.length)=f at *;simp[l,a,-cr]
theorem VT{f:Ev->M D}{ρ:Ev}{σ:Oa}(h:f ρ σ=.ok (.Na [] []) σ):xx f ρ σ=.ok (Tr []) σ:=by
 show Mc (f ρ) wI σ=_;rw[zo,h,se];rfl
theorem VF{f:Ev->M D}{ρ:Ev}{σ:Oa}{tg:D->Ev->Option Ev}{body:Ev->M Fl}(h:f ρ σ=.ok (.Na [] []) σ):Cn (xx f) tg body ρ σ=.ok (.nx ρ) σ:=by
 rw[Pu,VT h,yq];exact Mz (xH [] σ)
theorem FK(R a:Option D)(b c:Option D)(σ:Oa):∀ (e:List (Nat × Int × Pt)) (d:Option D),∃ f,Nk (Wd 2) BC (e.map rj) [R,a,d,b,c] σ=.ok (.nx [R,a,f,b,c]) σ
 |[],d=>⟨d,by simp⟩
 |q::e,d=>by
  obtain⟨f,z⟩:=FK R a b c σ e (some (rj q));refine⟨f,?_⟩;have g:BC [R,a,some (rj q),b,c] σ=.ok (.nx [R,a,some (rj q),b,c]) σ:=by
   unfold BC;exact VF (by unfold rj;simp)
  rw[Ia,yu];simp only[Ib,Jb];rw[g,se,Qo,z]
theorem aX(σ:Oa):Ag σ (.ok (.ref σ.length) (σ++[.Na []]))=.ok (.Na [] []) σ:=by
 unfold Ag;dsimp only;rw[ia (by simp)];have:(σ++[Ob.Na []])[σ.length]?=some (.Na []):=by simp
 simp[fz,An,cl,this]
theorem JY(ms:List (Nat × Int × Pt))(σ:Oa):Be [.lst (ms.map rj)] σ=.ok (.Na [] []) σ:=by
 obtain⟨b,z⟩:=FK (some (.lst (ms.map rj))) (some (.ref σ.length)) none none (σ++[.Na []]) ms none;have fz:=aX σ;unfold Be qP;generalize ms.map rj=a at *;simp[z,fz,-Pu]
theorem sN(l:List Int)(σ:Oa):ky [.lst (l.map D.int)] σ=.ok (.int l.sum) σ:=by
 simp[ky]
noncomputable def yr(ms:List (Nat × Int × Pt)):Int:=(ms.map own).sum
theorem t7{ms:List (Nat × Int × Pt)}(hm:ms.length<=3)(F E:D)(σ:Oa):Rh [.lst (ms.map rj),.Na [] [],F,E] σ=.ok (.int (yr ms)) σ:=by
 have l:=Rv (s:=.seq (ms.map rj)) (ix:=[]) (src:=zi (wa 0)) (ds:=ms.map rj) (ρ:=[some (.lst (ms.map rj)),some (.Na [] []),some F,some E,none,none,none]) (σ:=σ) (fe:=Hb Ld (wa 0) (eC (.int 0))) (λd=>match d with | .tup (x::_)=>x|_=>.Yb) (by simp) (λ_ _=>rfl) (by rw[xa];omega)
  (λd hd j=>by
   obtain⟨q,_,rfl⟩:=Ra.mp hd;unfold rj;simp) (λd hd=>by
   obtain⟨q,_,rfl⟩:=Ra.mp hd;unfold rj;simp)
 rw[We]at l;have e:(ms.map ((λd=>match d with|D.tup (x::_)=>x|_=>.Yb) ∘ rj))=(ms.map own).map D.int:=by rw[We];rfl
 rw[e]at l;have s:∀ σ,ky [.lst ((ms.map own).map D.int)] σ=.ok (.int (yr ms)) σ:=λσ=>sN _ σ;unfold Rh jP;generalize (ms.map own).map D.int=g at *;generalize ms.map rj=c at *;have fn:∀ (a:Ev->M Fl) (f:D->Ev->Option Ev) b,Cn (xx (wa 1)) f a [some (.lst c),some (.Na [] []),some F,some E,b,none,none] σ=.ok (.nx [some (.lst c),some (.Na [] []),some F,some E,b,none,none]) σ:=λa f b=>VF (by simp);simp[l,s,fn,-cr,-Pu]
noncomputable def Ml(ms:List (Nat × Int × Pt)):D:=.tup [.int (yr ms),.lst (zs ms.length),.Na [] []]
theorem LR(ms:List (Nat × Int × Pt)):cl (Ml ms)=true:=by unfold Ml;simp[cl,zD]
theorem X0{ms:List (Nat × Int × Pt)}(hm:ms.length<=3)(e:Int)(σ:Oa):je [.lst (ms.map rj),.lst (zs ms.length),.int e] σ=.ok (Ml ms) σ:=by
 have l:=λσ=>JY ms σ;have s:=λF E σ=>t7 hm F E σ;have fz:Ag σ (.ok (.tup [.int (yr ms),.lst (zs ms.length),.ref σ.length]) (σ++[.Na []]))=.ok (Ml ms) σ:=by
  unfold Ag;dsimp only;rw[ia (by simp)];have:(σ++[Ob.Na []])[σ.length]?=some (.Na []):=by simp
  simp[fz,An,cl,this,zD,Ml]
 unfold je KL;generalize ms.map rj=j at *;generalize zs ms.length=k at *;have fn:∀ (a:Ev->M Fl) (i:D->Ev->Option Ev) b c d f g h τ,Cn (xx (wa 3)) i a [b,c,d,some (.Na [] []),f,g,h] τ=.ok (.nx [b,c,d,some (.Na [] []),f,g,h]) τ:=λa i b c d f g h τ=>VF (by simp);simp[l,s,fn,fz,-Pu]
theorem mX{fe:Ev->M D}{x:D}{k:Int}{σ:Oa}(h:fe [some x] σ=.ok (.int k) σ):qy fe [] [.lst [x]] σ=.ok x σ:=by
 unfold qy;dsimp only;rw[zo,PB h,se];rfl
theorem MM(e l:Int)(ws:List Int){ms:List (Nat × Int × Pt)}(o:∀ q∈ms,Sd q)(hm:ms.length<=3)(σ:Oa):oi [Eo e l ws ms] σ=.ok (Ml ms) σ:=by
 have r:=λσ=>zZ e l ws o hm σ;have c:=λσ=>rW hm σ;have i:=λσ=>EY hm σ;have t:=λσ=>X0 hm e σ;have n:∀ σ,be [8,9] "every" (Eo e l ws ms) σ=.ok (.int e) σ:=λσ=>Mn (Ru rfl) rfl rfl;have p:∀ σ,Ld (Ml ms) (.int 0) σ=.ok (.int (yr ms)) σ:=λσ=>by unfold Ml;simp
 have b:=LR ms;have f:oh (Rj (toN (zi (Sf 1 ke [] (Ta (wa 1) xb)))) [1,0] (Wd 0) Yi (Sf 3 je [] (Ta (Sf 2 Jc [] (Ta (wa 2) (Ta (wa 0) xb))) (Ta (wa 0) (Ta (Je (be [8,9] "every") (wa 3)) xb))))) [some (Eo e l ws ms),some (.lst (ms.map Fh)),none] σ=.ok (.lst ([D.lst (zs ms.length)].map λ_=>Ml ms)) σ:=by
  refine Rv (s:=.seq [.lst (zs ms.length)]) (ix:=[1,0]) (λ_=>Ml ms) ?_ (λ_ _=>rfl) (by simp) (λd hd j=>?_) (λd hd=>b)
  ·generalize D.lst (ms.map Fh)=a at *;generalize zs ms.length=h at *;simp[c]
  ·have m:d=.lst (zs ms.length):=by simpa using hd
   subst m;generalize σ++j=Y at *;generalize Eo e l ws ms=V at *;generalize D.lst (ms.map Fh)=a at *;generalize D.lst (ms.map rj)=v at *;generalize zs ms.length=h at *;generalize Ml ms=g at *;simp[i,t,n]
 rw[show ([D.lst (zs ms.length)].map λ_=>Ml ms)=[Ml ms]from rfl]at f;have u:qy (Hb Ld (wa 0) (eC (.int 0))) [] [.lst [Ml ms]] σ=.ok (Ml ms) σ:=mX (k:=yr ms) (by simp[p]);unfold oi yR;generalize Eo e l ws ms=V at *;generalize ms.map Fh=a at *;generalize Ml ms=g at *;simp[r,f,u,b,-cr]
theorem jT(e l:Int)(ws:List Int){ms:List (Nat × Int × Pt)}(a:∀ q∈ms,Sd q)(hm:ms.length<=3)(σ:Oa):dj [Eo e l ws ms] σ=.ok (.int (yr ms)) σ:=by
 have p:=λσ=>MM e l ws a hm σ;have b:∀ σ,Ld (Ml ms) (.int 0) σ=.ok (.int (yr ms)) σ:=λσ=>by unfold Ml;simp
 unfold dj WN;generalize Eo e l ws ms=V at *;generalize Ml ms=c at *;simp[p,b]
theorem MN(h:Int)(ps:List Pt):∀ q∈Oi h 0 ps,Sd q:=λq a=>by
 obtain⟨k,_,_,e|e⟩:=xJ h ps 0 q a
 ·exact .inl e.1
 ·exact .inr e.1
section
variable(τ:Oa)(h e l:Int)(vs:List Int)(hv:vs.length<64)(r:Oa){ps:List Pt}(hl:ps.length<=3)
include hv hl
theorem ER:Fc [.ref τ.length] (kH τ h e l (Hc vs) (.Na (md fA h 0 ps)) ps r)=.ok (Eo e l (Tf vs) (Oi h 0 ps)) (kH τ h e l (Hc vs) (.Na (md fA h 0 ps)) ps r):=by
 have v:=rZ τ h e l vs hv r hl;have a:=WA τ h e l (Hc vs) (.Na (md fA h 0 ps)) (md fC h 0 ps) (md fS h 0 ps) r;have c:=λfs=>Jt τ h e l (Hc vs) (.Na (md fA h 0 ps)) (md fC h 0 ps) (md fS h 0 ps) r (m:="view_by") 2 wc fs rfl;have b:=QP e l (Tf vs) (Oi h 0 ps);unfold kH at *;unfold Fc KQ;generalize Eo e l (Tf vs) (Oi h 0 ps)=V at *;generalize kS τ h e l (Hc vs) (.Na (md fA h 0 ps)) (md fC h 0 ps) (md fS h 0 ps) r=Y at *;simp[a,c,v,b]
theorem vO:Vb [.ref τ.length] (kH τ h e l (Hc vs) (.Na (md fA h 0 ps)) ps r)=.ok (.int (yr (Oi h 0 ps))) (kH τ h e l (Hc vs) (.Na (md fA h 0 ps)) ps r):=by
 have v:=ER τ h e l vs hv r hl;have w:=λb=>jT e l (Tf vs) (MN h ps) (Ya (cF h 0 ps) hl) b;have a:=λfs=>Jt τ h e l (Hc vs) (.Na (md fA h 0 ps)) (md fC h 0 ps) (md fS h 0 ps) r (m:="view") 1 Fc fs rfl;unfold kH at *;unfold Vb XR;generalize Eo e l (Tf vs) (Oi h 0 ps)=V at *;generalize kS τ h e l (Hc vs) (.Na (md fA h 0 ps)) (md fC h 0 ps) (md fS h 0 ps) r=Y at *;simp[a,v,w]
theorem UU:Gc [.ref τ.length] (kH τ h e l (Hc vs) (.Na (md fA h 0 ps)) ps r)=.ok (Ml (Oi h 0 ps)) (kH τ h e l (Hc vs) (.Na (md fA h 0 ps)) ps r):=by
 have v:=ER τ h e l vs hv r hl;have w:=λc=>MM e l (Tf vs) (MN h ps) (Ya (cF h 0 ps) hl) c;have b:=λfs=>Jt τ h e l (Hc vs) (.Na (md fA h 0 ps)) (md fC h 0 ps) (md fS h 0 ps) r (m:="view") 1 Fc fs rfl;have a:=LR (Oi h 0 ps);unfold kH at *;unfold Gc pL;generalize Ml (Oi h 0 ps)=d at *;generalize Eo e l (Tf vs) (Oi h 0 ps)=V at *;generalize kS τ h e l (Hc vs) (.Na (md fA h 0 ps)) (md fC h 0 ps) (md fS h 0 ps) r=Y at *;simp[b,v,w,a]
end
theorem W7{ds:List D}{n k i:Nat}{fe:Ev->M D}{Eg:Ev}{σ a σ2:Oa}{o:Option D}{d y:D}(hd:ds[i]?=some d)(h:fe (some d::none::Eg) σ=.ok y a)(c:yk (.ref n) [y] a=.ok .Yb σ2) :
  ij (Src.seq ds).nx n (Wd 0) Yi fe (k+1) i (o::none::Eg) σ=ij (Src.seq ds).nx n (Wd 0) Yi fe k (i+1) (some d::none::Eg) σ2:=by
 rw[ij];have e:(Src.seq ds).nx i σ=some (some d):=by show some ds[i]?=_;rw[hd]
 have t:Wd 0 d (o::none::Eg)=some (some d::none::Eg):=rfl;have b:Yi (some d::none::Eg) σ=.ok true σ:=rfl;simp only[e,t];rw[zo,PB b,se,ia rfl,zo,PB h,se,zo,c,se]
theorem IU{ds:List D}{n k i:Nat}{fe:Ev->M D}{ρ:Ev}{σ:Oa}(hd:ds[i]?=none):ij (Src.seq ds).nx n (Wd 0) Yi fe (k+1) i ρ σ=.ok () σ:=by
 rw[ij];have e:(Src.seq ds).nx i σ=some none:=by show some ds[i]?=_;rw[hd]
 simp only[e]
theorem W2{σ os:Oa}{ys:List D}{y:D}(h:ys.length<1000):yk (.ref σ.length) [y] (σ++.lst ys::os)=.ok .Yb (σ++.lst (ys++[y])::os):=by
 have e:kg (σ++Ob.lst ys::os) σ.length=some ys:=by unfold kg;simp
 unfold yk;simp only[e];rw[ia (show ys.length<Mh from h)];simp
theorem nG(σ:Oa)(kvs:Kv):Zk (σ++[.Na kvs]) (.ref σ.length)=some kvs:=by unfold Zk;simp
theorem iL{σ:Oa}{kvs more:Kv}{j:Nat}(c:σ[j]?=some (.Na more))(f:kvs.length+more.length<=1000):Ts (.ref σ.length) [.ref j] (σ++[.Na kvs])=.ok .Yb (σ++[.Na (dz kvs more)]):=by
 have b:=(ka.mp c).1;have d:(σ++[Ob.Na kvs])[σ.length]?=some (.Na kvs):=by simp
 have e:Zk (σ++[.Na kvs]) (.ref j)=some more:=by unfold Zk;dsimp only;rw[Xa b,c]
 unfold Ts;simp only[d,e];have a:(apart σ.length (.ref j) && decide (kvs.length+more.length<=Mh))=true:=by
  unfold apart;simp only[va,Mb];exact⟨by simp;omega,f⟩
 rw[ia a,jI]
@[simp] theorem ZX(cs:List Nat)(f:qa)(b a:Ev->M D)(ρ:Ev)(σ:Oa):zG cs f b a ρ σ=qq ρ (gC ρ cs f b) (a ρ σ):=Ur ..
theorem NN{l ks:List Int}(h:l.Perm ks)(s:ks.Pairwise (·<=·)):Tf l=ks:=cC ((Mx l).trans h) (aE l) s
theorem CN{σ:Oa}{x:D}{ns a:List Int}(d:Ff σ x=some (ns.map D.int))(b:ns.length<64)(c:Tf (yd ns)=a):Ag σ (Fv x σ)=.ok (.lst (a.map D.int)) σ:=by
 have e:Fv x σ=.ok (.ref σ.length) (σ++[.lst (a.map D.int)]):=by
  unfold Fv;rw[d];simp only[ii,HR];rw[ia b,c];rfl
 rw[e];exact iy (by simp)
noncomputable def Pt.w(p:Pt):Int:=p.u+p.v
noncomputable def Bv(p:Pt):D:=.obj 11 ["whole"] [.int p.w]
theorem F1(p:Pt)(σ:Oa):gf [p.D] σ=.ok (.int p.w) σ:=by
 unfold gf iK Pt.D Pt.w;simp
theorem mT(y:D)(σ:Oa):Po [.ref σ.length,y] (σ++[.ins 11 []])=.ok .Yb (σ++[.ins 11 [("whole",y)]]):=by
 have p:∀ a,vw a [10,11,12,13] "whole" y (.ref σ.length) (σ++[.ins 11 []])=.ok (.nx a) (σ++[.ins 11 [("whole",y)]]):=λa=>TF rfl (by decide);unfold Po UQ;simp[p]
theorem Z7(p:Pt)(σ:Oa):Ag σ (Fq 11 2 Po [.int p.w] σ)=.ok (Bv p) σ:=by
 rw[QC,mT,gB,yP (by simp)];rfl
noncomputable def xr(N:Nat)(d:Int)(ps:List Pt):List (qa × D):=[("pots",PL ps),("day",.int d),("claims",.lst (ps.map Bv)),("shown",.ref (N+1))]
noncomputable def Tk(N k:Nat):List D:=(List.range k).map λi=>D.ref (N+i)
noncomputable def Qj(k:Nat):Oa:=List.replicate k (.Na [])
theorem qW(k:Nat):Qj k++[.Na []]=Qj (k+1):=by unfold Qj;rw[Ks]
theorem WW(N k:Nat):Tk N k++[.ref (N+k)]=Tk N (k+1):=by unfold Tk;rw[Uw,Tc];rfl
theorem RN(σ:Oa){ds:List D}(g:ds.length<=3)(Eg:Ev):∀ (j i f:Nat) (o:Option D),i+j=ds.length->f=1001 - i->ij (Src.seq ds).nx σ.length (Wd 0) Yi Jp f i (o::none::Eg) (σ++.lst (Tk (σ.length+1) i)::Qj i)=.ok () (σ++.lst (Tk (σ.length+1) ds.length)::Qj ds.length)
 |0,i,f,o,e,hf=>by
  obtain⟨a,rfl⟩:∃ a,f=a+1:=⟨1000 - i,by omega⟩
  rw[nC]at e;subst e;exact IU (Wa.mpr (pa _))
 |j+1,i,f,o,e,hf=>by
  obtain⟨a,rfl⟩:∃ a,f=a+1:=⟨1000 - i,by omega⟩
  have d:i<ds.length:=by omega
  have h:=RN σ g Eg j (i+1) a (some ds[i]) (by omega) (by omega);have b:(σ++.lst (Tk (σ.length+1) i)::Qj i)++[Ob.Na []]=σ++.lst (Tk (σ.length+1) i)::Qj (i+1):=by rw[<-qW];simp
  have c:(σ++Ob.lst (Tk (σ.length+1) i)::Qj i).length=σ.length+1+i:=by unfold Qj;simp;omega
  rw[W7 (yb d) (aI _ _) (by rw[b,c];exact W2 (by unfold Tk;simp;omega)),WW];exact h
theorem VO{ps:List Pt}(l:∀ p∈ps,p.Ok)(m:ps.length<=3)(σ:Oa):∀ (j i f:Nat) (b c:Option D),i+j=ps.length->f=1001 - i->∃ g h,zp (Yt (PL ps)) (cq 2 (Fj (Wd 1) (Fj (Wd 2) Lq))) HC f i [some (PL ps),b,c] σ=.ok (.nx [some (PL ps),g,h]) σ
 |0,i,f,b,c,e,hf=>by
  obtain⟨a,rfl⟩:∃ a,f=a+1:=⟨1000 - i,by omega⟩
  have d:Ff σ (PL ps)=some (ps.map Pt.D):=rfl;have:=qO d;rw[xa]at this;rw[nC]at e;subst e;exact⟨b,c,Mz this⟩
 |j+1,i,f,b,c,e,hf=>by
  obtain⟨a,rfl⟩:∃ a,f=a+1:=⟨1000 - i,by omega⟩
  have k:i<ps.length:=by omega
  have d:Ff σ (PL ps)=some (ps.map Pt.D):=rfl;have hd:(ps.map Pt.D)[i]?=some ps[i].D:=by rw[Ja,yb k];rfl
  obtain⟨g,h,z⟩:=VO l m σ j (i+1) a (some (.int i)) (some ps[i].D) (by omega) (by omega);refine⟨g,h,?_⟩;have n:=λσ=>N4 (l ps[i] (Cf k)) σ;have gt:decide ((2:Int)<(i:Int))=false:=Cb (by omega);have o:HC [some (PL ps),some (.int i),some ps[i].D] σ=.ok (.nx [some (PL ps),some (.int i),some ps[i].D]) σ:=by
   unfold HC;generalize ps[i].D=q at *;simp[n,gt]
  rw[ZG (nK d hd) (ρ1:=[some (PL ps),some (.int i),some ps[i].D]) (nr rfl),o,se,Qo,z]
theorem W8{ps:List Pt}(h:∀ p∈ps,p.Ok)(g:ps.length<=3)(σ:Oa):ze [PL ps] σ=.ok (PL ps) σ:=by
 obtain⟨i,j,z⟩:=VO h g σ ps.length 0 1001 none none (by omega) rfl;have e:Ag σ (Bn [PL ps] σ)=.ok (PL ps) σ:=sB (BE ps) σ;have c:ny (PL ps) σ=.ok (Yt (PL ps)) σ:=iO (xs:=ps.map Pt.D) rfl;have d:∀ (a:D->Ev->Option Ev) (body:Ev->M Fl) (b:Ev) (nx:NX) (σ:Oa),AE a body b nx σ=zp nx a body 1001 0 b σ:=λ_ _ _ _ _=>rfl;have f:=vQ ps;unfold ze YL;generalize PL ps=P at *;simp[c,d,z,e,f]
theorem LU{ps:List Pt}(l:∀ p∈ps,p.Ok)(k:ps.length<=3)(σ:Oa):Fq 14 2 mr [PL ps] σ=.ok (.ref σ.length) (σ++.ins 14 (xr σ.length 0 ps)::.lst (Tk (σ.length+2) ps.length)::Qj ps.length):=by
 have i:=λσ=>W8 l k σ;have sq:∀ σ,dt (PL ps) σ=.ok (.seq (ps.map Pt.D)) σ:=λσ=>XI _;have f:∀ fs:List (qa × D),fs.lookup ("pots" : qa)=some (PL ps)->∀ r,be [8,14] "pots" (.ref σ.length) (σ++.ins 14 fs::r)=.ok (PL ps) (σ++.ins 14 fs::r):=λfs a r=>Mn LG rfl a;have b:∀ fs:List (qa × D),fs.lookup ("pots" : qa)=some (PL ps)->oh (Rj (toN (zi (Je (be [8,14] "pots") (wa 0)))) [] (Wd 0) Yi (oh (Iq 11 2 Po (Ta (Sf 1 gf [] (Ta (wa 0) xb)) xb)))) [some (.ref σ.length),some (PL ps)] (σ++[.ins 14 fs])=.ok (.lst (ps.map Bv)) (σ++[.ins 14 fs]):=λfs a=>by
  have g:=f fs a [];have:=Rv (s:=.seq (ps.map Pt.D)) (ix:=[]) (ρ:=[some (.ref σ.length),some (PL ps)]) (σ:=σ++[.ins 14 fs]) (src:=zi (Je (be [8,14] "pots") (wa 0))) (fe:=oh (Iq 11 2 Po (Ta (Sf 1 gf [] (Ta (wa 0) xb)) xb))) (ds:=ps.map Pt.D)
   (λd=>match d with | .tup [_,_,.int u,.int v,_]=>.obj 11 ["whole"] [.int (u+v)]|_=>.Yb) (by
    generalize PL ps=L at *;generalize ps.map Pt.D=h at *;simp[g,sq]) (λ_ _=>rfl) (by rw[xa];omega) (λd hd j=>by
    obtain⟨p,_,rfl⟩:=Ra.mp hd;have w:=λσ=>F1 p σ;have o:=λσ=>Z7 p σ;show _=Out.ok (Bv p) _;generalize σ++[Ob.ins 14 fs]++j=Y at *;generalize p.D=q at *;generalize Bv p=H at *;generalize p.w=W at *;simp[w,o,-QC]) (λd hd=>by
    obtain⟨p,_,rfl⟩:=Ra.mp hd;show cl (Bv p)=true;unfold Bv;simp[cl])
  rw[We]at this;exact this
 have e:∀ fs:List (qa × D),fs.lookup ("pots" : qa)=some (PL ps)->Rj (toN (zi (Je (be [8,14] "pots") (wa 0)))) [] (Wd 0) Yi Jp [some (.ref σ.length),some (PL ps)] (σ++[.ins 14 fs])=.ok (.ref (σ.length+1)) (σ++.ins 14 fs::.lst (Tk (σ.length+2) ps.length)::Qj ps.length):=λfs a=>by
  have g:=f fs a [];show Mc (Mc (zi (Je (be [8,14] "pots") (wa 0)) _) uH) (KC (Wd 0) Yi Jp (Hu [] _)) _=_;rw[zo,zo];have m:zi (Je (be [8,14] "pots") (wa 0)) [some (.ref σ.length),some (PL ps)] (σ++[.ins 14 fs])=.ok (.seq (ps.map Pt.D)) (σ++[.ins 14 fs]):=by
   generalize PL ps=L at *;generalize ps.map Pt.D=h at *;simp[g,sq]
  rw[m,se];have n:=RN (σ++[.ins 14 fs]) (ds:=ps.map Pt.D) (by rw[xa];omega) [] (ps.map Pt.D).length 0 1001 none (by omega) rfl;show Mc (ij (Src.seq (ps.map Pt.D)).nx (σ++[Ob.ins 14 fs]).length (Wd 0) Yi Jp 1001 0 [none,none]) (λ_=>ret (D.ref (σ++[Ob.ins 14 fs]).length)) (σ++[.ins 14 fs]++[.lst []])=_;rw[zo,show σ++[Ob.ins 14 fs]++[Ob.lst []]=σ++[.ins 14 fs]++.lst (Tk ((σ++[Ob.ins 14 fs]).length+1) 0)::Qj 0 from rfl,n,se];rw[xa,ib,jj];show Out.ok _ _=_;congr 1;simp
 have c:mr [.ref σ.length,PL ps] (σ++[.ins 14 []])=.ok .Yb (σ++.ins 14 (xr σ.length 0 ps)::.lst (Tk (σ.length+2) ps.length)::Qj ps.length):=by
  unfold mr bL;rw[Mp,mx];show Ys (Ec _ _ [some (.ref σ.length),some (PL ps)] (σ++[.ins 14 []]))=_;rw[rh,Fy (d:=PL ps) rfl rfl σ [] _ (by generalize PL ps=P at *;simp[i]),se,Bh];rw[rh,Fy (d:=.int 0) rfl rfl σ [] _ (by simp),se,Bh];rw[rh,Fy (d:=.lst (ps.map Bv)) rfl rfl σ [] _ (b _ rfl),se,Bh];rw[iG,e _ rfl,yq,rG,Lv,yq,pD rfl (Ig rfl),tR];rfl
 rw[QC,c,gB]
theorem BR(N k:Nat):Tk N (k+1)=.ref N::Tk (N+1) k:=by
 unfold Tk;rw[Ji,Ia,We];congr 1;apply Wj;intro i _;show D.ref (N+(i+1))=D.ref (N+1+i);congr 1;omega
section
variable(β:Oa)(d:Int)(ps:List Pt)(R:Oa)
noncomputable def bS(a:Oa)(d:Int)(ps:List Pt)(R:Oa):Oa:=a++.ins 14 (xr a.length d ps)::.lst (Tk (a.length+2) ps.length)::R
theorem SB:Pp (bS β d ps R) (.ref β.length)=some (14,xr β.length d ps):=LG
theorem JL:be [8,14] "pots" (.ref β.length) (bS β d ps R)=.ok (PL ps) (bS β d ps R):=Mn (SB ..) rfl rfl
theorem mQ:be [12,14] "day" (.ref β.length) (bS β d ps R)=.ok (.int d) (bS β d ps R):=Mn (SB ..) rfl rfl
theorem YM:be [14] "shown" (.ref β.length) (bS β d ps R)=.ok (.ref (β.length+1)) (bS β d ps R):=Mn (SB ..) rfl rfl
theorem dF{m:qa}(k:Nat)(fn:List D->M D)(fs:M (List D))(hm:(xr β.length d ps).lookup m=none):Zr [(14,fn)] k m fs (.ref β.length) (bS β d ps R)=(fs (bS β d ps R)).bind (vp k fn (.ref β.length)):=BH (SB ..) rfl hm
theorem lU(j:Oa):bS β d ps R++j=bS β d ps (R++j):=by unfold bS;simp
theorem FC:kg (bS β d ps R) (β.length+1)=some (Tk (β.length+2) ps.length):=by
 unfold kg bS;rw[Fu];rfl
theorem BI(k:Nat):(bS β d ps R)[β.length+2+k]?=R[k]?:=by
 unfold bS;rw[show β.length+2+k=β.length+(k+2) by omega,Fu];rfl
theorem E8(k:Nat)(o:Ob):(bS β d ps R).set (β.length+2+k) o=bS β d ps (R.set k o):=by
 unfold bS;rw[show β.length+2+k=β.length+(k+2) by omega,Jz];rfl
theorem lY:Ed [.ref β.length] (bS β d ps R)=.ok (.int d) (bS β d ps R):=by
 have f:=mQ β d ps R;unfold Ed RO;generalize bS β d ps R=Y at *;simp[f]
theorem mY:dc [.ref β.length] (bS β d ps R)=.ok (PL ps) (bS β d ps R):=by
 have f:=JL β d ps R;have a:Ag (bS β d ps R) (Bn [PL ps] (bS β d ps R))=.ok (PL ps) (bS β d ps R):=sB (BE ps) _;have b:=vQ ps;unfold dc WR;generalize PL ps=P at *;generalize bS β d ps R=Y at *;simp[f,a,b]
theorem PU:qc [.ref β.length] (bS β d ps R)=.ok .Yb (bS β (d+1) ps R):=by
 have h:∀ a:Ev,gC a [12,14] "day" (eC (.int 1)) (.ref β.length) (bS β d ps R)=.ok (.nx a) (bS β (d+1) ps R):=λa=>by
  have l:(xr β.length d ps).lookup ("day" : qa)=some (.int d):=rfl;have c:vm "day" (.int (d+1)) (xr β.length d ps)=xr β.length (d+1) ps:=rfl;have b:(bS β d ps R)[β.length]?=some (.ins 14 (xr β.length d ps)):=by unfold bS;simp
  have e:(bS β d ps R).set β.length (.ins 14 (xr β.length (d+1) ps))=bS β (d+1) ps R:=by unfold bS;simp
  unfold gC;rw[SB];dsimp only;rw[ia (show [12,14].contains 14=true from rfl),l];dsimp only;rw[Ur,NA,yq];unfold AH;dsimp only;rw[b];dsimp only;rw[ia (show ((14:Nat) == 14 && decide ((xr β.length d ps).length<1000))=true from rfl),c,e]
 unfold qc tQ;generalize bS β (d+1) ps R=g at *;generalize bS β d ps R=f at *;simp[ZX,h]
theorem UY(hn:0<ps.length)(r:Oa):ee [.ref β.length,.int 0,.int 59] (bS β d ps (.Na []::r))=.ok .Yb (bS β d ps (.Na [(.inl 59,.int d)]::r)):=by
 have pt:=JL β d ps (.Na []::r);have j:vc [.ref β.length,.int 0] (bS β d ps (.Na []::r))=.ok .Yb (bS β d ps (.Na []::r)):=by
  have o:∀ σ,Vo [PL ps] σ=.ok (.int ps.length) σ:=λσ=>by unfold PL;simp
  have b:=λσ=>Ow (i:=0) (a:=0) (b:=(ps.length:Int) - 1) (by omega) σ;unfold vc dQ;generalize PL ps=P at *;generalize (ps.length:Int)=N at *;generalize bS β d ps (.Na []::r)=Y at *;simp[pt,o,b]
 have m:=λfs=>dF β d ps (.Na []::r) (m:="check_pot") 2 vc fs rfl;have h:=YM β d ps (.Na []::r);have hd:=mQ β d ps (.Na []::r);have l:Ld (.ref (β.length+1)) (.int 0) (bS β d ps (.Na []::r))=.ok (.ref (β.length+2)) (bS β d ps (.Na []::r)):=by
  have s:ym (bS β d ps (.Na []::r)) (.ref (β.length+1))=some (Tk (β.length+2) ps.length):=FC ..;unfold Ld;simp only[s];obtain⟨e,c⟩:∃ e,ps.length=e+1:=⟨ps.length - 1,by omega⟩
  have k:Sm (D.ref (β.length+2)::Tk (β.length+2+1) e) 0=some (.ref (β.length+2)):=(show Sm _ ((0:Nat):Int)=_ from sw rfl)
  rw[c,BR,k]
 have g:(bS β d ps (.Na []::r))[β.length+2]?=some (.Na []):=BI β d ps (.Na []::r) 0;have w:∀ σ,eh [.int 59] σ=.ok (.bl true) σ:=λσ=>by
  have b:=λσ=>Ow (i:=59) (a:=0) (b:=59) (by omega) σ;unfold eh eQ;simp[b]
 have n:Cv (.int 59) (.ref (β.length+2)) (bS β d ps (.Na []::r))=.ok (.bl true) (bS β d ps (.Na []::r)):=by
  unfold Cv Zk;simp only[Mq,g];rfl
 have p:∀ f,Tt f (.int d) (.ref (β.length+2)) (.int 59) (bS β d ps (.Na []::r))=.ok (.nx f) (bS β d ps (.Na [(.inl 59,.int d)]::r)):=λf=>by
  rw[KB g (by simp)];congr 1;exact E8 β d ps (.Na []::r) 0 _
 unfold ee tN;generalize bS β d ps (.Na [(.inl 59,.int d)]::r)=Z at *;generalize bS β d ps (.Na []::r)=Y at *;simp[j,m,h,hd,l,w,n,p]
end
section
variable(β:Oa)(d:Int){ps:List Pt}(hl:ps.length<=3)(n:Nat)(hn:ps.length=n+1)(x:Int)
noncomputable abbrev bW(a:Oa)(d:Int)(ps:List Pt)(n:Nat)(x:Int):Oa:=bS a d ps (.Na [(.inl 59,.int x)]::Qj n)
include hl hn
theorem gQ:∀ (j i f:Nat) (c:Option D),i+j=n->f=1000 - i->∃ g,Lp (Wd 2) (dn (sy Ts (wa 1) (Ta (wa 2) xb))) (β.length+1) f (i+1) [some (.ref β.length),some (.ref (bW β d ps n x).length),c] (bW β d ps n x++[.Na [(.inl 59,.int x)]])=.ok (.nx [some (.ref β.length),some (.ref (bW β d ps n x).length),g]) (bW β d ps n x++[.Na [(.inl 59,.int x)]])
 |0,i,f,c,e,hf=>by
  obtain⟨a,rfl⟩:∃ a,f=a+1:=⟨999 - i,by omega⟩
  refine⟨c,mK (xs:=Tk (β.length+2) ps.length) (Kw (FC ..) _) (Wa.mpr ?_)⟩;unfold Tk;simp;omega
 |j+1,i,f,c,e,hf=>by
  obtain⟨a,rfl⟩:∃ a,f=a+1:=⟨999 - i,by omega⟩
  obtain⟨g,z⟩:=gQ j (i+1) a (some (.ref (β.length+2+(i+1)))) (by omega) (by omega);refine⟨g,?_⟩;have h:(Tk (β.length+2) ps.length)[i+1]?=some (.ref (β.length+2+(i+1))):=by
   unfold Tk;rw[Ja,List.getElem?_range (by omega)];rfl
  have k:(bW β d ps n x)[β.length+2+(i+1)]?=some (.Na []):=by
   rw[BI];show (Qj n)[i]?=_;unfold Qj;rw[ig,ia (by omega)]
  have u:=iL (kvs:=[(.inl 59,.int x)]) k (by simp);have l:∀ fs,Ry Ts fs (.ref (bW β d ps n x).length) (bW β d ps n x++[.Na [(.inl 59,.int x)]])=(fs (bW β d ps n x++[.Na [(.inl 59,.int x)]])).bind (Ts (.ref (bW β d ps n x).length)):=λfs=>by unfold Ry;rw[nG];rfl
  rw[show dz [((.inl 59:Key),D.int x)] []=[(.inl 59,.int x)]from rfl]at u;rw[DG (Kw (FC ..) _) h (ρ1:=[some (.ref β.length),some (.ref (bW β d ps n x).length),some (.ref (β.length+2+(i+1)))]) (nr rfl)];have b:dn (sy Ts (wa 1) (Ta (wa 2) xb)) [some (.ref β.length),some (.ref (bW β d ps n x).length),some (.ref (β.length+2+(i+1)))] (bW β d ps n x++[.Na [(.inl 59,.int x)]])=.ok (.nx [some (.ref β.length),some (.ref (bW β d ps n x).length),some (.ref (β.length+2+(i+1)))]) (bW β d ps n x++[.Na [(.inl 59,.int x)]]):=by
   generalize bW β d ps n x=Y at *;simp[l,u]
  rw[b,se,Qo,z]
theorem U4:ic [.ref β.length] (bW β d ps n x)=.ok (.lst [.int 59]) (bW β d ps n x):=by
 have h:be [14] "shown" (.ref β.length) (bW β d ps n x++[.Na []])=.ok (.ref (β.length+1)) (bW β d ps n x++[.Na []]):=by
  unfold bW;rw[lU];exact YM ..
 have hL:∀ j,kg (bW β d ps n x++j) (β.length+1)=some (Tk (β.length+2) ps.length):=λj=>Kw (FC ..) _;have m:dt (.ref (β.length+1)) (bW β d ps n x++[.Na []])=.ok (.qp (β.length+1)) (bW β d ps n x++[.Na []]):=by unfold dt;dsimp only;rw[hL]
 have g:(bW β d ps n x)[β.length+2]?=some (.Na [(.inl 59,.int x)]):=BI β d ps (.Na [(.inl 59,.int x)]::Qj n) 0;have b:=iL (kvs:=[]) g (by simp);rw[show dz [] [((.inl 59:Key),D.int x)]=[(.inl 59,.int x)]from rfl]at b;have l:∀ kvs fs,Ry Ts fs (.ref (bW β d ps n x).length) (bW β d ps n x++[.Na kvs])=(fs (bW β d ps n x++[.Na kvs])).bind (Ts (.ref (bW β d ps n x).length)):=λkvs fs=>by unfold Ry;rw[nG];rfl
 obtain⟨q,z⟩:=gQ β d hl n hn x n 0 1000 (some (.ref (β.length+2))) (by omega) rfl;have k:Lp (Wd 2) (dn (sy Ts (wa 1) (Ta (wa 2) xb))) (β.length+1) 1001 0 [some (.ref β.length),some (.ref (bW β d ps n x).length),none] (bW β d ps n x++[.Na []])=.ok (.nx [some (.ref β.length),some (.ref (bW β d ps n x).length),q]) (bW β d ps n x++[.Na [(.inl 59,.int x)]]):=by
  rw[DG (hL _) (i:=0) (d:=.ref (β.length+2)) (by rw[hn,BR];rfl) (ρ1:=[some (.ref β.length),some (.ref (bW β d ps n x).length),some (.ref (β.length+2))]) (nr rfl)];have e:dn (sy Ts (wa 1) (Ta (wa 2) xb)) [some (.ref β.length),some (.ref (bW β d ps n x).length),some (.ref (β.length+2))] (bW β d ps n x++[.Na []])=.ok (.nx [some (.ref β.length),some (.ref (bW β d ps n x).length),some (.ref (β.length+2))]) (bW β d ps n x++[.Na [(.inl 59,.int x)]]):=by
   generalize bW β d ps n x=Y at *;simp[l,b]
  rw[e,se,Qo];exact z
 have p:Ag (bW β d ps n x++[.Na [(.inl 59,.int x)]]) (Lw [.ref (bW β d ps n x).length] (bW β d ps n x++[.Na [(.inl 59,.int x)]]))=.ok (.lst [.int 59]) (bW β d ps n x++[.Na [(.inl 59,.int x)]]):=by
  have o:Lw [.ref (bW β d ps n x).length] (bW β d ps n x++[.Na [(.inl 59,.int x)]])=.ok (.ref (bW β d ps n x++[Ob.Na [(.inl 59,.int x)]]).length) (bW β d ps n x++[.Na [(.inl 59,.int x)]]++[.lst [.int 59]]):=by
   have hl:Ff (bW β d ps n x++[.Na [(.inl 59,.int x)]]) (.ref (bW β d ps n x).length)=none:=by unfold Ff kg;simp
   unfold Lw;simp only[hl];unfold IB;simp only[nG,show ww [((.inl 59:Key),D.int x)]=some [59]from rfl];rw[ia (show ([59]:List Int).length<64 by simp),show Tf [59]=[59]from NN (Et _) (by simp)];rfl
  rw[o];exact iy rfl
 have f:∀ (a:D->Ev->Option Ev) (body:Ev->M Fl) (c:Ev) (n:Nat) (σ:Oa),Cz a body c (.qp n) σ=Lp a body n 1001 0 c σ:=λ_ _ _ _ _=>rfl;have fz:∀ y,Ag (bW β d ps n x) (.ok (.lst [.int 59]) (bW β d ps n x++[y]))=.ok (.lst [.int 59]) (bW β d ps n x):=λy=>EC rfl (by simp);unfold ic iN;generalize bW β d ps n x=Y at *;generalize Ob.Na [((.inl 59:Key),D.int x)]=r at *;simp only[Mp,xG,mx,rh,lV,aI,se,yq,QY,Bh,Ia,Af,Za,Fn,Ie,Ti,Ib,Jb,Nat.reduceAdd,Nat.reduceSub,List.replicate,zI,bM,vL,Lv,h,m,f,k,U7,cr,G5,Az,MA,Ez,Uz,Vz,p,sV,eG,fz]
end
section
variable(τ:Oa)(h e l:Int)(K C S:Kv)(r:Oa)(ρ:Ev)(tg:D->Ev->Option Ev)(body:Ev->M Fl)
theorem pF:Je (be [9] "accounts") (wa 0) (some (.ref τ.length)::ρ) (kS τ h e l K (.Na []) C S r)=.ok (.ref (τ.length+2)) (kS τ h e l K (.Na []) C S r):=by
 rw[vL,Lv,se];exact WA ..
theorem WH:kt (Je (be [9] "accounts") (wa 0)) (Cn (Wu (Je (be [9] "accounts") (wa 0))) tg body) (some (.ref τ.length)::ρ) (kS τ h e l K (.Na []) C S r)=.ok (.nx (some (.ref τ.length)::ρ)) (kS τ h e l K (.Na []) C S r):=by
 have:=pH (pF τ h e l K C S r ρ) (qu ..) (cO (pF τ h e l K C S r ρ) (qu ..)) (tg:=tg) (body:=body) (by rw[xz];exact Mz (xH [] _)) (qu ..);rw[xz]at this;exact this
theorem E2:kt (Je (be [9] "accounts") (wa 0)) (Cn (cE (Je (be [9] "accounts") (wa 0))) tg body) (some (.ref τ.length)::ρ) (kS τ h e l K (.Na []) C S r)=.ok (.nx (some (.ref τ.length)::ρ)) (kS τ h e l K (.Na []) C S r):=by
 have:=pH (pF τ h e l K C S r ρ) (qu ..) (L3 (pF τ h e l K C S r ρ) (qu ..)) (tg:=tg) (body:=body) (by rw[xz];exact Mz (YU [] _)) (qu ..);rw[xz]at this;exact this
end
noncomputable def bR(N:Nat)(d:Int)(ps:List Pt)(R:Oa):Oa:=.ins 14 (xr N d ps)::.lst (Tk (N+2) ps.length)::R
section
variable(τ:Oa)(h e l:Int)(K:Kv)(d:Int)(ps:List Pt)(R:Oa)
noncomputable abbrev kB(a:Oa)(h e l:Int)(K:Kv)(d:Int)(ps:List Pt)(R:Oa):Oa:=kS a h e l K (.Na []) [] [] (bR (a.length+7) d ps R)
theorem Nt:(kS τ h e l K (.Na []) [] [] []).length=τ.length+7:=by unfold kS;simp
theorem Gv:kB τ h e l K d ps R=bS (kS τ h e l K (.Na []) [] [] []) d ps R:=by
 unfold kB bS bR;rw[Nt,No];rfl
theorem cJ(σ:Oa):Ag σ (.ok (.ref σ.length) (σ++[.lst []]))=.ok (.lst []) σ:=iy rfl
theorem y4(A:ps.length<=3):Xb [.ref τ.length,.ref (τ.length+7)] (kB τ h e l K d ps R)=.ok (.lst []) (kB τ h e l K d ps R):=by
 have b:kB τ h e l K d ps R++[.lst []]=kB τ h e l K d ps (R++[.lst []]):=No ..;have g:dc [.ref (τ.length+7)] (kB τ h e l K d ps R++[.lst []])=.ok (PL ps) (kB τ h e l K d ps R++[.lst []]):=by
  rw[b,Gv,<-Nt τ h e l K];exact mY ..
 have mt:∀ fs,Zr [(14,dc)] 1 "made_of" fs (.ref (τ.length+7)) (kB τ h e l K d ps R++[.lst []])=(fs (kB τ h e l K d ps R++[.lst []])).bind (vp 1 dc (.ref (τ.length+7))):=λfs=>by
  rw[b,Gv,<-Nt τ h e l K];exact dF _ _ _ _ _ _ _ rfl
 have r:∀ k m n o,oh (Rj (toN (zi (Ri [(14,dc)] 1 "made_of" (wa 1) xb))) [] (Wd 0) Yi (Hb Ld (wa 0) (eC (.int 4)))) [some (.ref τ.length),some (.ref (τ.length+7)),some (.ref (kB τ h e l K d ps R).length),k,m,n,o] (kB τ h e l K d ps R++[.lst []])=.ok (.lst ((ps.map Pt.D).map λd=>match d with | .tup [_,_,_,_,w]=>w|_=>.Yb)) (kB τ h e l K d ps R++[.lst []]):=λk m n o=>by
  refine Rv (s:=.seq (ps.map Pt.D)) (ix:=[]) _ ?_ (λ_ _=>rfl) (by rw[xa];omega) (λy c j=>?_) (λy c=>?_)
  ·have sq:∀ σ,dt (PL ps) σ=.ok (.seq (ps.map Pt.D)) σ:=λσ=>XI _;generalize PL ps=P at *;generalize ps.map Pt.D=v at *;generalize kB τ h e l K d ps R++[.lst []]=Y at *;simp[mt,g,sq]
  ·obtain⟨p,_,rfl⟩:=Ra.mp c;have q:=λσ=>XH p σ;show _=Out.ok (D.int p.t) _;generalize p.D=x at *;simp[q]
  ·obtain⟨p,_,rfl⟩:=Ra.mp c;rfl
 have u:∀ f i a,kt (Je (be [9] "accounts") (wa 0)) (Cn (Wu (Je (be [9] "accounts") (wa 0))) i a) (some (.ref τ.length)::f) (kB τ h e l K d ps R++[.lst []])=.ok (.nx (some (.ref τ.length)::f)) (kB τ h e l K d ps R++[.lst []]):=λf i a=>by rw[b];exact WH ..
 have fz:=cJ (kB τ h e l K d ps R);clear g mt b;unfold Xb rO;generalize kB τ h e l K d ps R=Y at *;generalize ((ps.map Pt.D).map λd=>match d with|D.tup [_,_,_,_,w]=>w|_=>D.Yb)=z at *;simp[r,u,fz,-cr,-Pu]
theorem yV:lc [.ref τ.length,.ref (τ.length+7)] (kB τ h e l K d ps R)=.ok (.lst []) (kB τ h e l K d ps R):=by
 have c:kB τ h e l K d ps R++[.lst []]=kB τ h e l K d ps (R++[.lst []]):=No ..;have g:∀ b f a,kt (Je (be [9] "accounts") (wa 0)) (Cn (Wu (Je (be [9] "accounts") (wa 0))) f a) (some (.ref τ.length)::b) (kB τ h e l K d ps R++[.lst []])=.ok (.nx (some (.ref τ.length)::b)) (kB τ h e l K d ps R++[.lst []]):=λb f a=>by rw[c];exact WH ..
 have fz:=cJ (kB τ h e l K d ps R);clear c;unfold lc ZM;generalize kB τ h e l K d ps R=Y at *;simp[g,fz,-cr,-Pu]
theorem BU:Ac [.ref τ.length,.ref (τ.length+7)] (kB τ h e l K d ps R)=.ok (.lst []) (kB τ h e l K d ps R):=by
 have c:kB τ h e l K d ps R++[.lst []]=kB τ h e l K d ps (R++[.lst []]):=No ..;have g:∀ b f a,kt (Je (be [9] "accounts") (wa 0)) (Cn (Wu (Je (be [9] "accounts") (wa 0))) f a) (some (.ref τ.length)::b) (kB τ h e l K d ps R++[.lst []])=.ok (.nx (some (.ref τ.length)::b)) (kB τ h e l K d ps R++[.lst []]):=λb f a=>by rw[c];exact WH ..
 have fz:=cJ (kB τ h e l K d ps R);clear c;unfold Ac GQ;generalize kB τ h e l K d ps R=Y at *;simp[g,fz,-cr,-Pu]
end
section
variable(τ:Oa)(h e:Int)(vs:List Int){ps:List Pt}(hl:ps.length<=3)(n:Nat)(hn:ps.length=n+1)
noncomputable abbrev dW(d:Int)(n:Nat):Oa:=.Na [(.inl 59,.int d)]::Qj n
include hl hn
theorem e7(A:vs.length<60)(l d:Int):Gd [.ref τ.length,.ref (τ.length+7)] (kB τ h e l (Hc vs) d ps (dW d n))=.ok (.lst []) (kB τ h e d (Hc (PyProof.Rows.step_dedup vs 59)) d ps (dW d n)):=by
 have g:∀ l K {m:qa} (k:Nat) (fn:List D->M D) (fs:M (List D)),(xr (τ.length+7) d ps).lookup m=none->Zr [(14,fn)] k m fs (.ref (τ.length+7)) (kB τ h e l K d ps (dW d n))=(fs (kB τ h e l K d ps (dW d n))).bind (vp k fn (.ref (τ.length+7))):=λl K m k fn fs hm=>by
  rw[Gv,<-Nt τ h e l K];exact dF _ _ _ _ _ _ _ (by rw[Nt];exact hm)
 have x:Ed [.ref (τ.length+7)] (kB τ h e l (Hc vs) d ps (dW d n))=.ok (.int d) (kB τ h e l (Hc vs) d ps (dW d n)):=by
  rw[Gv,<-Nt τ h e l (Hc vs)];exact lY ..
 have al:ic [.ref (τ.length+7)] (kB τ h e d (Hc vs) d ps (dW d n))=.ok (.lst [.int 59]) (kB τ h e d (Hc vs) d ps (dW d n)):=by
  rw[Gv,<-Nt τ h e d (Hc vs)];exact U4 _ d hl n hn d
 have f:=yI τ h e d (.Na []) [] [] (bR (τ.length+7) d ps (dW d n)) (Hc vs) [59] (W:=.lst [.int 59]) (.inl rfl) (by rw[i4];simp;omega);rw[JG]at f;have b:=λl K (m:qa) (k:Nat) (fn:List D->M D) (fs:M (List D)) (hm:(Dw τ.length h e l).lookup m=none)=>Jt τ h e l K (.Na []) [] [] (bR (τ.length+7) d ps (dW d n)) (m:=m) k fn fs hm;have t:∀ c,vw c [8,9] "last_look" (.int d) (.ref τ.length) (kB τ h e l (Hc vs) d ps (dW d n))=.ok (.nx c) (kB τ h e d (Hc vs) d ps (dW d n)):=λc=>pD rfl (Ig rfl);have z:=λc y a=>E2 τ h e d (Hc vs) [] [] (bR (τ.length+7) d ps (dW d n)) c y a;have u:=y4 τ h e d (Hc (PyProof.Rows.step_dedup vs 59)) d ps (dW d n) hl;have v:=yV τ h e d (Hc (PyProof.Rows.step_dedup vs 59)) d ps (dW d n);have w:=BU τ h e d (Hc (PyProof.Rows.step_dedup vs 59)) d ps (dW d n);have j:=λfs=>g l (Hc vs) (m:="today") 1 Ed fs rfl;have o:=λfs=>g d (Hc vs) (m:="all_shown") 1 ic fs rfl;have p:=λfs=>b d (Hc vs) "learn" 2 ec fs rfl;have q:=λfs=>b d (Hc (PyProof.Rows.step_dedup vs 59)) "strike_all" 2 Xb fs rfl;have r:=λfs=>b d (Hc (PyProof.Rows.step_dedup vs 59)) "show_all" 2 lc fs rfl;have s:=λfs=>b d (Hc (PyProof.Rows.step_dedup vs 59)) "lay_all" 2 Ac fs rfl;have i:∀ σ,zj (.lst []) (.lst []) σ=.ok (.lst []) σ:=λσ=>GC (by simp[Mh]);clear g b;unfold Gd UL;unfold kB at *;rw[show List.foldl PyProof.Rows.step_dedup vs [59]=PyProof.Rows.step_dedup vs 59 from rfl]at f;generalize kS τ h e d (Hc (PyProof.Rows.step_dedup vs 59)) (.Na []) [] [] (bR (τ.length+7) d ps (dW d n))=Z at *;generalize kS τ h e d (Hc vs) (.Na []) [] [] (bR (τ.length+7) d ps (dW d n))=Y at *;generalize kS τ h e l (Hc vs) (.Na []) [] [] (bR (τ.length+7) d ps (dW d n))=X at *;simp[j,x,t,z,o,al,p,f,q,r,s,u,v,w,i,-Pu]
end
theorem CQ{f:D->D->Option Bool}:∀ {xs:List D},(∀ x∈xs,f x x=some true)->Op f xs xs=some true
 |[],_=>rfl
 |x::xs,h=>by
  unfold Op;rw[h x Qa,CQ λy a=>h y (Ha _ a)];rfl
theorem ZA{l:List Int}{σ:Oa}{k:Nat}(g:kg σ k=some (l.map D.int)):oEq (.ref k) (.lst (l.map D.int)) σ=.ok (.bl true) σ/\gk (.ref k) (.lst (l.map D.int)) σ=.ok (.bl false) σ:=by
 have e:Vl σ 8 (.ref k) (.lst (l.map D.int))=some true:=by
  have d:=CQ (f:=Vl σ 7) (xs:=l.map D.int) (λx a=>by
   obtain⟨i,_,rfl⟩:=Ra.mp a;simp[Vl,kd,Oo,vl])
  show Oo (Vl σ 7) (kd σ (.ref k)) (kd σ (.lst (l.map D.int)))=_;have b:kd σ (.ref k)=.l (l.map D.int):=by unfold kd;dsimp only;rw[g]
  have c:kd σ (.lst (l.map D.int))=.l (l.map D.int):=rfl;rw[b,c];exact d
 exact⟨KA e,dD e⟩
theorem K1(ws:List Int)(w:Int):yd (ws++[w])=PyProof.Rows.step_dedup (yd ws) w:=by unfold yd;rw[qv];rfl
theorem fW(a:Oa)(h e:Int){ws:List Int}(L:ws.length<=5){ps:List Pt}(t:ps.length<=3)(n:Nat)(hn:ps.length=n+1):∃ j,uf [.ref a.length,.ref (a.length+7),.lst (ws.map D.int)] (kB a h e 0 (Hc (yd ws)) 0 ps (Qj (n+1)))=.ok (.bl true) (a++j):=by
 have ld:=yz ws;have c:=yz (ws++[59]);rw[ib,jj]at c;have f:∀ d R {m:qa} (k:Nat) (fn:List D->M D) (fs:M (List D)),(xr (a.length+7) d ps).lookup m=none->Zr [(14,fn)] k m fs (.ref (a.length+7)) (kB a h e 0 (Hc (yd ws)) d ps R)=(fs (kB a h e 0 (Hc (yd ws)) d ps R)).bind (vp k fn (.ref (a.length+7))):=λd R m k fn fs hm=>by
  rw[Gv,<-Nt a h e 0 (Hc (yd ws))];exact dF _ _ _ _ _ _ _ (by rw[Nt];exact hm)
 have nd:qc [.ref (a.length+7)] (kB a h e 0 (Hc (yd ws)) 0 ps (Qj (n+1)))=.ok .Yb (kB a h e 0 (Hc (yd ws)) 1 ps (Qj (n+1))):=by
  rw[Gv,Gv,<-Nt a h e 0 (Hc (yd ws))];exact PU ..
 have sh:ee [.ref (a.length+7),.int 0,.int 59] (kB a h e 0 (Hc (yd ws)) 1 ps (Qj (n+1)))=.ok .Yb (kB a h e 0 (Hc (yd ws)) 1 ps (dW 1 n)):=by
  rw[Gv,Gv,<-Nt a h e 0 (Hc (yd ws))];exact UY _ 1 ps (by omega) (Qj n)
 have g:=e7 a h e (yd ws) t n hn (by omega) 0 1;rw[<-K1]at g;have b:=λl K (m:qa) (k:Nat) (fn:List D->M D) (fs:M (List D)) (hm:(Dw a.length h e l).lookup m=none)=>Jt a h e l K (.Na []) [] [] (bR (a.length+7) 1 ps (dW 1 n)) (m:=m) k fn fs hm;have u:=iR a h e 1 (Hc (yd (ws++[59]))) (.Na []) [] [] (bR (a.length+7) 1 ps (dW 1 n));have C:Vb [.ref a.length] (kB a h e 1 (Hc (yd (ws++[59]))) 1 ps (dW 1 n))=.ok (.int 0) (kB a h e 1 (Hc (yd (ws++[59]))) 1 ps (dW 1 n)):=vO a h e 1 (yd (ws++[59])) (by omega) (bR (a.length+7) 1 ps (dW 1 n)) (ps:=[]) (by simp);have i:=xE a h e 1 (.Na []) [] [] (bR (a.length+7) 1 ps (dW 1 n)) (vs:=yd (ws++[59])) (by omega);rw[<-No]at i;have p:∀ σ,zj (.lst (ws.map D.int)) (.lst [.int 59]) σ=.ok (.lst ((ws++[59]).map D.int)) σ:=λσ=>by
  rw[GC (by simp[Mh];omega),Tc];rfl
 have B:∀ σ,Ag σ (Fv (.lst ((ws++[59]).map D.int)) σ)=.ok (.lst ((Tf (yd (ws++[59]))).map D.int)) σ:=λσ=>CN rfl (by simp;omega) rfl;have v:=λfs=>f 0 (Qj (n+1)) (m:="next_day") 1 qc fs rfl;have w:=λfs=>f 1 (Qj (n+1)) (m:="show") 3 ee fs rfl;have x:=λfs=>Jt a h e 0 (Hc (yd ws)) (.Na []) [] [] (bR (a.length+7) 1 ps (dW 1 n)) (m:="look") 2 Gd fs rfl;have y:=λfs=>b 1 (Hc (yd (ws++[59]))) "looked" 1 Ub fs rfl;have z:=λfs=>b 1 (Hc (yd (ws++[59]))) "worth" 1 Vb fs rfl;have A:=λfs=>b 1 (Hc (yd (ws++[59]))) "words" 1 Pa fs rfl;have q:∀ σ:Oa,gk (.lst []) (.lst []) σ=.ok (.bl false) σ:=λσ=>VA rfl;clear f b;unfold kB at *;have s:∃ j,kS a h e 1 (Hc (yd (ws++[59]))) (.Na []) [] [] (bR (a.length+7) 1 ps (dW 1 n))=a++j:=⟨_,rfl⟩
 unfold uf nL;generalize kS a h e 0 (Hc (yd ws)) (.Na []) [] [] (bR (a.length+7) 0 ps (Qj (n+1)))=H at *;generalize kS a h e 0 (Hc (yd ws)) (.Na []) [] [] (bR (a.length+7) 1 ps (Qj (n+1)))=I at *;generalize kS a h e 0 (Hc (yd ws)) (.Na []) [] [] (bR (a.length+7) 1 ps (dW 1 n))=J at *;generalize kS a h e 1 (Hc (yd (ws++[59]))) (.Na []) [] [] (bR (a.length+7) 1 ps (dW 1 n))=o at *;obtain⟨j,rfl⟩:=s;have r:=(ZA (l:=Tf (yd (ws++[59]))) (σ:=a++j++[.lst ((Tf (yd (ws++[59]))).map D.int)]) (k:=(a++j).length) (by unfold kg;simp)).1;refine⟨j++[.lst ((Tf (yd (ws++[59]))).map D.int)],?_⟩;generalize (Tf (yd (ws++[59]))).map D.int=E at *;generalize (ws++[59]).map D.int=G at *;generalize ws.map D.int=F at *;rw[<-Dl];generalize a++j=o at *;simp[v,nd,w,sh,x,g,q,y,u,z,C,A,i,p,B,r]
noncomputable def Hi(ns:List Int)(k:Nat):Int:=ns.getD k 0
theorem yx(ns:List Int)(k:Int)(a:0<=k)(σ:Oa):gb [.cg ns,.int k] σ=.ok (.int (Hi ns k.toNat)) σ:=by
 unfold gb xN Hi;by_cases h:k<ns.length
 ·simp[h,T6 a h]
 ·have e:ns.length<=k.toNat:=by omega
  simp[h,kj e]
noncomputable def pV(ns:List Int)(k:Nat):Pt:=⟨Hi ns (4+3 * k) % 4,(Hi ns (4+3 * k) % 4+1+Hi ns (4+3 * k) / 4 % 3) % 4,Hi ns (5+3 * k) % 1000000000001,Hi ns (6+3 * k) % 1000000000001,1+Hi ns (4+3 * k) / 12 % 100⟩
theorem qY(ns:List Int)(k:Nat):(pV ns k).Ok where
 l:=by unfold pV;dsimp only;omega
 r:=by unfold pV;dsimp only;omega
 n:=by unfold pV;dsimp only;omega
 u:=by unfold pV;dsimp only;omega
 v:=by unfold pV;dsimp only;omega
 t:=by unfold pV;dsimp only;omega
theorem UX(ns:List Int)(k:Nat)(σ:Oa)(ys:List D)(z:ys.length<900)(i j n o p:Option D):∃ q s t w y,sF [some (.cg ns),some (.ref σ.length),some (.int k),i,j,n,o,p] (σ++[.lst ys])=.ok (.nx [some (.cg ns),some (.ref σ.length),some (.int k),q,s,t,w,y]) (σ++[.lst (ys++[(pV ns k).D])]):=by
 have b:∀ σ,gb [.cg ns,.int (4+3 * (k:Int))] σ=.ok (.int (Hi ns (4+3 * k))) σ:=λσ=>by
  rw[yx ns _ (by omega) σ,show (4+3 * (k:Int)).toNat=4+3 * k by omega]
 have c:∀ σ,gb [.cg ns,.int (5+3 * (k:Int))] σ=.ok (.int (Hi ns (5+3 * k))) σ:=λσ=>by
  rw[yx ns _ (by omega) σ,show (5+3 * (k:Int)).toNat=5+3 * k by omega]
 have e:∀ σ,gb [.cg ns,.int (6+3 * (k:Int))] σ=.ok (.int (Hi ns (6+3 * k))) σ:=λσ=>by
  rw[yx ns _ (by omega) σ,show (6+3 * (k:Int)).toNat=6+3 * k by omega]
 have a:=nB (σ:=σ) (xs:=ys) (d:=(pV ns k).D) (by omega);have f:∀ m,Vs yk m (.ref σ.length) (σ++[.lst ys])=(m (σ++[.lst ys])).bind (yk (.ref σ.length)):=λm=>Py (xs:=ys) (by unfold Ff kg;simp);refine⟨some (.int (Hi ns (4+3 * k))),some (.int (pV ns k).l),some (.int (pV ns k).r),some (.int (pV ns k).u),some (.int (pV ns k).v),?_⟩;unfold Pt.D pV at a;unfold sF Pt.D pV;generalize Hi ns (4+3 * k)=A at *;generalize Hi ns (5+3 * k)=B at *;generalize Hi ns (6+3 * k)=C at *;dsimp only at a ⊢;have g:∀ (x:Int) (σ:Oa),Jq (.int x) (.int 1000000000001) σ=.ok (.int (x % 1000000000001)) σ:=λx σ=>US x _ (by omega);have h:∀ σ:Oa,jA (.int 3) (.int k) σ=.ok (.int (3 * k)) σ:=λσ=>w8 (by omega) (by omega);simp[b,c,e,f,a,g,h]
theorem uN(ns:List Int)(σ:Oa):∀ (j i:Nat) (g a b c d f:Option D),i+j<=3->∃ r h l m n o,Nk (Wd 2) sF ((List.range' i j).map λ(k:Nat)=>D.int k) [some (.cg ns),some (.ref σ.length),g,a,b,c,d,f] (σ++[.lst (((List.range i).map (pV ns)).map Pt.D)])=.ok (.nx [some (.cg ns),some (.ref σ.length),r,h,l,m,n,o]) (σ++[.lst (((List.range (i+j)).map (pV ns)).map Pt.D)])
 |0,i,g,a,b,c,d,f,_=>⟨g,a,b,c,d,f,by simp⟩
 |j+1,i,g,a,b,c,d,f,y=>by
  obtain⟨h,l,m,n,o,q⟩:=UX ns i σ (((List.range i).map (pV ns)).map Pt.D) (by simp;omega) a b c d f;obtain⟨s,t,u,v,w,x,p⟩:=uN ns σ j (i+1) (some (.int i)) h l m n o (by omega);refine⟨s,t,u,v,w,x,?_⟩;rw[List.range'_succ,Ia,yu];simp only[Ib,Jb];rw[q,se,Qo];have e:((List.range i).map (pV ns)).map Pt.D++[(pV ns i).D]=((List.range (i+1)).map (pV ns)).map Pt.D:=by rw[Uw,Tc,Tc];rfl
  rw[e,p,show i+1+j=i+(j+1) by omega]
noncomputable def nV(ns:List Int):Nat:=(1+Hi ns 0 % 3).toNat
noncomputable def vr(ns:List Int):List Pt:=(List.range (nV ns)).map (pV ns)
theorem pQ(ns:List Int):1<=nV ns/\nV ns<=3:=by unfold nV;omega
theorem IL(ns:List Int):(vr ns).length=nV ns:=by unfold vr;simp
theorem FX(ns:List Int):∀ p∈vr ns,p.Ok:=λp a=>by
 unfold vr at a;obtain⟨k,_,rfl⟩:=Ra.mp a;exact qY ns k
theorem fU(ns:List Int)(σ:Oa):Nf [.cg ns] σ=.ok (PL (vr ns)) σ:=by
 have b:=λσ=>yx ns 0 (by omega) σ;obtain⟨g,h,i,j,l,m,a⟩:=uN ns σ (nV ns) 0 none none none none none none (by have:=pQ ns;omega);rw[List.range_zero,Af,Af,Vi]at a;have d:∀ τ,Ay (.int (1+Hi ns 0 % 3)) τ=.ok (.seq ((List.range' 0 (nV ns)).map λ(k:Nat)=>D.int k)) τ:=λτ=>by
  rw[uE (by omega) (by omega)];unfold Gq nV;rw[List.range_eq_range']
 have fz:Ag σ (.ok (.ref σ.length) (σ++[.lst ((vr ns).map Pt.D)]))=.ok (PL (vr ns)) σ:=iy (BE _);change Nk _ _ _ _ _=Out.ok _ (σ++[.lst ((vr ns).map Pt.D)])at a;have c:(0:Int).toNat=0:=rfl;rw[c]at b;unfold Nf GM;generalize (vr ns).map Pt.D=PS at *;generalize PL (vr ns)=P at *;generalize ((List.range' 0 (nV ns)).map λ(k:Nat)=>D.int k)=f at *;generalize Hi ns 0=e at *;simp[b,d,a,fz]
noncomputable def zv(h:Int)(p:Pt):Bool:=p.l == h || p.r == h
noncomputable def Fg(h:Int)(ps:List Pt):List Pt:=ps.filter (zv h)
theorem S6(f:Pt->Bool)(g:D->Bool)(a:∀ p,g p.D=f p)(ps:List Pt):(ps.map Pt.D).filter g=(ps.filter f).map Pt.D:=by
 induction ps with
 |nil=>rfl
 |cons p r b=>
  rw[Ia,jc,jc,a,b];split<;>rfl
noncomputable def rd(f:Pt->Bool):D->Bool
 | .tup [.int l,.int r,.int u,.int v,.int t]=>f ⟨l,r,u,v,t⟩
 |_=>false
theorem J5(f:Pt->Bool)(p:Pt):rd f p.D=f p:=rfl
theorem uK{ix:List Nat}{fi:Ev->M Bool}{src:Ev->M Src}{ps:List Pt}{ρ:Ev}{σ:Oa}(f:Pt->Bool)(e:ps.length<=3)(c:src ρ σ=.ok (.seq (ps.map Pt.D)) σ)(step:∀ p∈ps,∀ b,fi (some p.D::none::(ix.map λi=>(ρ[i]?).getD none)) b=.ok (f p) b):oh (Rj (toN src) ix (Wd 0) fi (wa 0)) ρ σ=.ok (PL (ps.filter f)) σ:=by
 have:=LM (s:=.seq (ps.map Pt.D)) (ix:=ix) (fi:=fi) (fe:=wa 0) (λd=>d) (rd f) c (λ_ _=>rfl) (by rw[xa];omega) (λd hd j=>by
  obtain⟨p,a,rfl⟩:=Ra.mp hd;exact⟨step p a _,λ_=>by simp⟩) (λd hd _=>by
  obtain⟨p,a,rfl⟩:=Ra.mp hd;exact QM p)
 rw[AA,S6 f (rd f) (J5 f)]at this;exact this
theorem gJ(ps:List Pt)(σ:Oa):dt (PL ps) σ=.ok (.seq (ps.map Pt.D)) σ:=XI _
section
variable(ns:List Int)(h e:Int){ps:List Pt}(hl:ps.length<=3)
include hl
theorem mW(f n g i j k m a c d e:Option D)(σ:Oa):u4 [some (.cg ns),some (PL ps),some (.int h),f,n,g,i,j,k,m,a,c,d,e] σ=.ok (.nx [some (.cg ns),some (PL ps),some (.int h),f,some (PL (Fg h ps)),g,i,j,k,m,a,c,d,e]) σ:=by
 have l:=uK (ix:=[2]) (fi:=Qs (eT (Hb oEq (Hb Ld (wa 0) (eC (.int 0))) (wa 2))) (eT (Hb oEq (Hb Ld (wa 0) (eC (.int 1))) (wa 2)))) (src:=zi (wa 1)) (ps:=ps) (ρ:=[some (.cg ns),some (PL ps),some (.int h),f,n,g,i,j,k,m,a,c,d,e]) (σ:=σ) (zv h) hl (by have sq:=gJ ps σ;generalize PL ps=P at *;simp[sq]) (λp s t=>by
  have o:=λσ=>DE p σ;have q:=λσ=>tz p σ;unfold zv;generalize p.D=r at *;cases b:(p.l == h)<;>simp[o,q,b])
 unfold u4;change oh _ _ _=.ok (PL (Fg h ps)) σ at l;generalize PL (Fg h ps)=M at *;generalize PL ps=P at *;simp[l,-cr]
end
theorem aP(h e:Int):∀ ps:List Pt,((Fg h ps).filter λp=>decide (p.t<e+1)).isEmpty = !ps.any (Ou h e)
 |[]=>rfl
 |p::ps=>by
  have a:=aP h e ps;unfold Fg at *;rw[jc,Oc];have hb:Ou h e p=(zv h p && decide (p.t<e+1)):=by unfold Ou zv;simp
  rw[hb];cases zv h p
  ·simpa using a
  ·cases d:decide (p.t<e+1)
   ·simp only[ie,jc,d];simpa using a
   ·simp[jc,d]
theorem S2(ps:List Pt)(σ:Oa):gk (PL ps) (.lst []) σ=.ok (.bl (!ps.isEmpty)) σ:=by
 cases ps with
 |nil=>exact VA rfl
 |cons p r=>exact dD (by show Oo _ (.l _) (.l [])=_;rfl)
theorem P6(ps:List Pt)(σ:Oa):oEq (PL ps) (.lst []) σ=.ok (.bl ps.isEmpty) σ:=by
 cases ps with
 |nil=>exact JC rfl
 |cons p r=>exact KA (by show Oo _ (.l _) (.l [])=_;rfl)
theorem V8(ns:List Int)(h e:Int){ps:List Pt}(w:ps.length<=3)(k m v n o q r a b c d:Option D)(σ:Oa):u5 [some (.cg ns),k,m,some (.int e),some (PL (Fg h ps)),v,n,o,q,r,a,b,c,d] σ=.ok (.nx [some (.cg ns),k,m,some (.int e),some (PL (Fg h ps)),some (.bl (!Iv h e ps)),n,o,q,r,a,b,c,d]) σ:=by
 have y:(Fg h ps).length<=3:=Ya (Pr _ _) w;have l:=uK (ix:=[3]) (fi:=eT (Hb oLt (Hb Ld (wa 0) (eC (.int 4))) (Hb zj (wa 2) (eC (.int 1))))) (src:=zi (wa 4)) (ps:=Fg h ps) (ρ:=[some (.cg ns),k,m,some (.int e),some (PL (Fg h ps)),v,n,o,q,r,a,b,c,d]) (σ:=σ) (λp=>decide (p.t<e+1)) y (by have sq:=gJ (Fg h ps) σ;generalize PL (Fg h ps)=P at *;simp[sq]) (λp B C=>by
  have x:=λσ=>XH p σ;generalize p.D=z at *;simp[x])
 have ne:=λσ=>S2 ((Fg h ps).filter λp=>decide (p.t<e+1)) σ;rw[aP]at ne;unfold u5 Iv bd;generalize PL ((Fg h ps).filter λp=>decide (p.t<e+1))=Q at *;generalize PL (Fg h ps)=P at *;generalize ps.any (Ou h e)=A at *;by_cases s:e<1
 ·have f:decide (1<=e)=false:=Cb (by omega);have g:decide (e<1)=true:=Nd s;simp[f,g]
 ·have f:decide (1<=e)=true:=Nd (by omega);have g:decide (e<1)=false:=Cb s;by_cases u:50<e
  ·have i:decide (50<e)=true:=Nd u;have j:decide (e<=50)=false:=Cb (by omega);simp[f,g,i,j]
  ·have i:decide (50<e)=false:=Cb u;have j:decide (e<=50)=true:=Nd (by omega);simp[f,g,i,j,l,ne,-cr]
@[simp] theorem zt2(xs:List D)(b a:Option Int)(σ:Oa):ax (.lst xs) b a σ=.ok (.lst (nt xs b a)) σ:=nr rfl
theorem UN(ws:List Int):nt (ws.map D.int) none (some 1)=(ws.take 1).map D.int:=by
 cases ws with
 |nil=>rfl
 |cons w t=>simp[nt,HT.sf]
noncomputable def Iy(ns:List Int):List Int:=(List.range (Hi ns 3 % 6).toNat).map λk=>Hi ns (13+k) % 60
theorem gW(ns:List Int):(Iy ns).length<=5:=by unfold Iy;simp;omega
theorem t9(ns:List Int)(g h i m n t o p q a b e f:Option D)(σ:Oa):u7 [some (.cg ns),g,h,i,m,n,t,o,p,q,a,b,e,f] σ=.ok (.nx [some (.cg ns),g,h,i,m,n,some (.lst ((Iy ns).map D.int)),o,p,q,a,b,e,f]) σ:=by
 have r:=λσ=>yx ns 3 (by omega) σ;rw[show (3:Int).toNat=3 from rfl]at r;have v:∀ τ,Ay (.int (Hi ns 3 % 6)) τ=.ok (.seq (Gq (Hi ns 3 % 6).toNat)) τ:=λτ=>uE (by omega) (by omega);have l:=Rv (s:=.seq (Gq (Hi ns 3 % 6).toNat)) (ix:=[0]) (src:=gx (Hb Jq (Sf 2 gb [] (Ta (wa 0) (Ta (eC (.int 3)) xb))) (eC (.int 6)))) (ds:=Gq (Hi ns 3 % 6).toNat) (ρ:=[some (.cg ns),g,h,i,m,n,t,o,p,q,a,b,e,f]) (σ:=σ) (fe:=Hb Jq (Sf 2 gb [] (Ta (wa 2) (Ta (Hb zj (eC (.int 13)) (wa 0)) xb))) (eC (.int 60))) (λd=>match d with | .int k=>.int (Hi ns (13+k).toNat % 60)|_=>.Yb)
  (by generalize Hi ns 3=C at *;simp[r,v]) (λ_ _=>rfl) (by unfold Gq;simp;omega) (λd hd j=>by
   unfold Gq at hd;obtain⟨k,_,rfl⟩:=Ra.mp hd;have c:=λσ=>yx ns (13+(k:Int)) (by omega) σ;generalize σ++j=Y at *;simp[c]) (λd hd=>by
   unfold Gq at hd;obtain⟨k,_,rfl⟩:=Ra.mp hd;rfl)
 have u:((Gq (Hi ns 3 % 6).toNat).map λd=>match d with | .int k=>D.int (Hi ns (13+k).toNat % 60)|_=>.Yb)=(Iy ns).map D.int:=by
  unfold Gq Iy;rw[We,We];apply Wj;intro k _;show D.int (Hi ns (13+(k:Int)).toNat % 60)=D.int (Hi ns (13+k) % 60);rw[show (13+(k:Int)).toNat=13+k by omega]
 rw[u]at l;unfold u7;generalize (Iy ns).map D.int=W at *;simp[l,-cr]
section
variable(ws:List Int)(hw:ws.length<=5)
noncomputable abbrev li(ws:List Int):List D:=(ws++ws.take 1).map D.int
include hw
theorem M3(f g h i j k p l m a b d e:Option D):u8 [f,g,h,i,j,k,some (.lst (ws.map D.int)),p,l,m,a,b,d,e] []=.ok (.nx [f,g,h,i,j,k,some (.lst (ws.map D.int)),some (.ref 0),l,m,a,b,d,e]) [.lst (li ws)]:=by
 have c:MB (.lst (ws.map D.int)) (.lst ((ws.take 1).map D.int)) []=.ok (.ref 0) [.lst (li ws)]:=by
  have o:∀ (xs:List D) (σ:Oa),Ff σ (.lst xs)=some xs:=λ_ _=>rfl;unfold MB;simp only[o];rw[ia (by simp[Mh];omega),<-Tc];rfl
 have n:=UN ws;unfold u8;generalize li ws=H at *;generalize (ws.take 1).map D.int=T at *;generalize ws.map D.int=W at *;simp[n,c]
theorem O3(ps:List Pt)(n:ps.length<=3)(e f g h i j k m l a b c d:Option D):u9 [e,some (PL ps),f,g,h,i,j,k,m,l,a,b,c,d] [.lst (li ws)]=.ok (.nx [e,some (PL ps),f,g,h,i,j,k,some (.ref 1),l,a,b,c,d]) [.lst (li ws),.lst (ps.map Pt.D)]:=by
 have o:Bn [PL ps] [.lst (li ws)]=.ok (.ref 1) [.lst (li ws),.lst (ps.map Pt.D)]:=by unfold Bn;rfl
 unfold u9;generalize li ws=H at *;generalize PL ps=P at *;simp[o]
noncomputable abbrev kL(h e:Int)(ws:List Int)(ps:List Pt)(Hd G:List D)(r:Oa):Oa:=kH [.lst Hd,.lst G] h e 0 (Hc (yd ws)) (.Na (md fA h 0 ps)) ps r
theorem LZ(h e:Int){ps:List Pt}(n:∀ p∈ps,p.Ok)(m:ps.length<=3)(o:Iv h e ps=true)(g i j k l q b c d f:Option D):yG [g,i,some (.int h),some (.int e),j,k,l,some (.ref 0),some (.ref 1),q,b,c,d,f] [.lst (li ws),.lst (ps.map Pt.D)]=.ok (.nx [g,i,some (.int h),some (.int e),j,k,l,some (.ref 0),some (.ref 1),some (.ref 2),b,c,d,f]) (kL h e ws ps (li ws) (ps.map Pt.D) []):=by
 have a:=sD (σ:=[.lst (li ws),.lst (ps.map Pt.D)]) h e n m (x:=.ref 1) (.inr ⟨1,rfl,rfl⟩) (W:=.ref 0) (ws:=ws++ws.take 1) (.inr (.inr ⟨0,rfl,rfl⟩)) (by simp;omega);rw[o,ia rfl]at a;unfold kN at a;rw[cK,o8]at a;change _=Out.ok (D.ref 2) (kL h e ws ps (li ws) (ps.map Pt.D) [])at a;unfold yG;generalize kL h e ws ps (li ws) (ps.map Pt.D) []=Z at *;generalize ([.lst (li ws),.lst (ps.map Pt.D)]:Oa)=Y at *;simp[a]
end
section
variable(h e:Int)(ws:List Int)(ps:List Pt)(Hd G:List D)(r:Oa)
theorem nM:kg (kL h e ws ps Hd G r) 0=some Hd:=rfl
theorem LA(j:Oa):kL h e ws ps Hd G r++j=kL h e ws ps Hd G (r++j):=No ..
theorem Nx{m:qa}(k:Nat)(fn:List D->M D)(fs:M (List D))(hm:(Dw 2 h e 0).lookup m=none):Zr [(9,fn)] k m fs (.ref 2) (kL h e ws ps Hd G r)=(fs (kL h e ws ps Hd G r)).bind (vp k fn (.ref 2)):=Jt [.lst Hd,.lst G] h e 0 _ _ _ _ r k fn fs hm
theorem eV(g i j k l n o p q a b d f:Option D):KG [g,i,j,k,l,n,o,p,some (.ref 1),q,a,b,d,f] (kL h e ws ps Hd G r)=.ok (.nx [g,i,j,k,l,n,o,p,some (.ref 1),q,a,b,d,f]) (kL h e ws ps Hd [] r):=by
 have s:∀ m,Vs Fz m (.ref 1) (kL h e ws ps Hd G r)=(m (kL h e ws ps Hd G r)).bind (Fz (.ref 1)):=λm=>Py (xs:=G) rfl;have c:Fz (.ref 1) [] (kL h e ws ps Hd G r)=.ok .Yb (kL h e ws ps Hd [] r):=nr rfl;unfold KG;generalize kL h e ws ps Hd [] r=Z at *;generalize kL h e ws ps Hd G r=Y at *;simp[s,c]
end
section
variable(h e:Int)(ws:List Int)(hw:ws.length<=5)(ps:List Pt)(r:Oa)
include hw
theorem HJ(Hd G:List D):Pa [.ref 2] (kL h e ws ps Hd G r)=.ok (.ref (kL h e ws ps Hd G r).length) (kL h e ws ps Hd G r++[.lst ((Tf (yd ws)).map D.int)]):=by
 have ld:=yz ws;have:=xE [.lst Hd,.lst G] h e 0 (.Na (md fA h 0 ps)) (md fC h 0 ps) (md fS h 0 ps) r (vs:=yd ws) (by omega);rw[<-No]at this;exact this
theorem jR(σ:Oa):Ag σ (Fv (.lst (ws.map D.int)) σ)=.ok (.lst ((Tf (yd ws)).map D.int)) σ:=CN rfl (by omega) rfl
theorem G0(G:List D)(f g i j n o p a b c d:Option D):nJ [f,g,i,j,n,o,some (.lst (ws.map D.int)),some (.ref 0),p,some (.ref 2),a,b,c,d] (kL h e ws ps (li ws) G r)=.ok (.nx [f,g,i,j,n,o,some (.lst (ws.map D.int)),some (.ref 0),p,some (.ref 2),a,b,c,d]) (kL h e ws ps (li ws) G (r++[.lst ((Tf (yd ws)).map D.int)])):=by
 have t:=HJ h e ws hw ps r (li ws) G;have u:=λfs=>Nx h e ws ps (li ws) G r (m:="words") 1 Pa fs rfl;have x:=λσ=>jR ws hw σ;have v:=(ZA (l:=Tf (yd ws)) (σ:=kL h e ws ps (li ws) G r++[.lst ((Tf (yd ws)).map D.int)]) (k:=(kL h e ws ps (li ws) G r).length) (by unfold kg;simp)).2;have w:=(ZA (l:=ws++ws.take 1) (σ:=kL h e ws ps (li ws) G r++[.lst ((Tf (yd ws)).map D.int)]) (k:=0) (Kw (nM ..) _)).2;have q:∀ σ,zj (.lst (ws.map D.int)) (.lst ((ws.take 1).map D.int)) σ=.ok (.lst (li ws)) σ:=λσ=>by
  rw[GC (by simp[Mh];omega),<-Tc]
 have s:=UN ws;rw[<-LA];unfold nJ;unfold li at *;generalize (ws++ws.take 1).map D.int=H at *;generalize (Tf (yd ws)).map D.int=y at *;generalize kL h e ws ps H G r=Y at *;generalize (ws.take 1).map D.int=T at *;generalize ws.map D.int=W at *;simp[u,t,x,v,w,q,s]
theorem Z2(g i j k l n o p q a b d f:Option D)(G:List D):IG [g,i,j,k,l,n,o,some (.ref 0),p,q,a,b,d,f] (kL h e ws ps (li ws) G r)=.ok (.nx [g,i,j,k,l,n,o,some (.ref 0),p,q,a,b,d,f]) (kL h e ws ps (li ws++[.int 59]) G r):=by
 have s:∀ m,Vs yk m (.ref 0) (kL h e ws ps (li ws) G r)=(m (kL h e ws ps (li ws) G r)).bind (yk (.ref 0)):=λm=>Py (xs:=li ws) rfl;have c:yk (.ref 0) [.int 59] (kL h e ws ps (li ws) G r)=.ok .Yb (kL h e ws ps (li ws++[.int 59]) G r):=by
  unfold yk;simp only[nM];rw[ia (by simp[Mh];omega)];rfl
 unfold IG;generalize kL h e ws ps (li ws++[.int 59]) G r=Z at *;generalize kL h e ws ps (li ws) G r=Y at *;simp[s,c]
theorem vY(Hd G:List D)(i j k l n o p q s a b c f:Option D):∃ x,aG [i,j,k,l,n,o,p,q,s,some (.ref 2),a,b,c,f] (kL h e ws ps Hd G r)=.ok (.nx [i,j,k,l,n,o,p,q,s,some (.ref 2),a,b,c,f]) (kL h e ws ps Hd G x):=by
 have u:=HJ h e ws hw ps r Hd G;have w:=λfs=>Nx h e ws ps Hd G r (m:="words") 1 Pa fs rfl;have ld:=yz ws;have g:((Tf (yd ws)).map D.int).length<1000:=by
  rw[xa,(Mx (yd ws)).length_eq];omega
 have t:=nB (σ:=kL h e ws ps Hd G r) (xs:=(Tf (yd ws)).map D.int) (d:=.int 58) g;have v:∀ m,Vs yk m (.ref (kL h e ws ps Hd G r).length) (kL h e ws ps Hd G r++[.lst ((Tf (yd ws)).map D.int)])=(m (kL h e ws ps Hd G r++[.lst ((Tf (yd ws)).map D.int)])).bind (yk (.ref (kL h e ws ps Hd G r).length)):=λm=>Py (xs:=(Tf (yd ws)).map D.int) (by unfold Ff kg;simp);refine⟨r++[.lst ((Tf (yd ws)).map D.int++[.int 58])],?_⟩;rw[<-LA];unfold aG;generalize (Tf (yd ws)).map D.int=y at *;generalize kL h e ws ps Hd G r=Y at *;simp[w,u,v,t]
theorem yY(Hd G:List D)(f g i j n o p q a b c d:Option D):∃ v,SG [f,g,i,j,n,o,some (.lst (ws.map D.int)),p,q,some (.ref 2),a,b,c,d] (kL h e ws ps Hd G r)=.ok (.nx [f,g,i,j,n,o,some (.lst (ws.map D.int)),p,q,some (.ref 2),a,b,c,d]) (kL h e ws ps Hd G v):=by
 have s:=HJ h e ws hw ps r Hd G;have t:=λfs=>Nx h e ws ps Hd G r (m:="words") 1 Pa fs rfl;have w:=λσ=>jR ws hw σ;have u:=(ZA (l:=Tf (yd ws)) (σ:=kL h e ws ps Hd G r++[.lst ((Tf (yd ws)).map D.int)]) (k:=(kL h e ws ps Hd G r).length) (by unfold kg;simp)).2;refine⟨r++[.lst ((Tf (yd ws)).map D.int)],?_⟩;rw[<-LA];unfold SG;generalize (Tf (yd ws)).map D.int=x at *;generalize kL h e ws ps Hd G r=Y at *;generalize ws.map D.int=W at *;simp[t,s,w,u]
end
section
variable{h e:Int}{ps:List Pt}(hp:∀ p∈ps,p.Ok)(hl:ps.length<=3)(hs:Iv h e ps=true)
include hp hl hs
theorem F4(ws:List Int)(Hd G:List D)(r:Oa)(m n o p q s t b c d f:Option D):∃ r',xI [m,some (PL ps),some (.int h),some (.int e),n,o,p,q,s,t,b,c,d,f] (kL h e ws ps Hd G r)=.ok (.nx [m,some (PL ps),some (.int h),some (.int e),n,o,p,q,s,t,b,c,d,f]) (kL h e ws ps Hd G r'):=by
 have g:=sD (σ:=kL h e ws ps Hd G r) h e hp hl (x:=PL ps) (.inl rfl) (W:=.Yb) (ws:=[]) (.inl ⟨rfl,rfl⟩) (by simp);rw[hs,ia rfl]at g;have u:∀ j,∃ r',kL h e ws ps Hd G r++j=kL h e ws ps Hd G r':=λj=>⟨_,LA ..⟩
 generalize kL h e ws ps Hd G r=Y at *;have a:=xE Y h e 0 (.Na (md fA h 0 ps)) (md fC h 0 ps) (md fS h 0 ps) [] (vs:=[]) (by simp);rw[<-No]at a;change Pa [.ref Y.length] (kN Y h e [] ps [])=.ok (.ref (kN Y h e [] ps []).length) (kN Y h e [] ps []++[.lst ((Tf []).map D.int)])at a;rw[show Tf []=[]from NN (Et _) (by simp)]at a;have y:∀ fs,Zr [(9,Pa)] 1 "words" fs (.ref Y.length) (kN Y h e [] ps [])=(fs (kN Y h e [] ps [])).bind (vp 1 Pa (.ref Y.length)):=λfs=>Jt Y h e 0 _ _ _ _ [] 1 Pa fs rfl;have i:=(ZA (l:=[]) (σ:=kN Y h e [] ps []++[.lst []]) (k:=(kN Y h e [] ps []).length) (by unfold kg;simp)).2;rw[show ([]:List Int).map D.int=[]from rfl]at i a;obtain⟨j,v⟩:∃ j,kN Y h e [] ps []++[.lst []]=Y++j:=⟨_,Dl ..⟩
 obtain⟨r',w⟩:=u j;refine⟨r',?_⟩;rw[<-w,<-v];unfold xI;generalize PL ps=P at *;generalize kN Y h e [] ps []=Z at *;simp[g,y,a,i]
theorem E6(ws:List Int)(n:ws.length<=5)(Y:Oa)(g i j k l m b c f d:Option D):MI [g,some (PL ps),some (.int h),some (.int e),i,j,some (.lst (ws.map D.int)),k,l,m,b,c,f,d] Y=.ok (.nx [g,some (PL ps),some (.int h),some (.int e),i,j,some (.lst (ws.map D.int)),k,l,m,b,c,some (.ref Y.length),d]) (kH Y h e 0 (Hc (yd ws)) (.Na (md fA h 0 ps)) ps []):=by
 have a:=sD (σ:=Y) h e hp hl (x:=PL ps) (.inl rfl) (W:=.lst (ws.map D.int)) (ws:=ws) (.inr (.inl rfl)) (by omega);rw[hs,ia rfl]at a;unfold kN at a;rw[cK]at a;change _=Out.ok (D.ref Y.length) (kH Y h e 0 (Hc (yd ws)) (.Na (md fA h 0 ps)) ps [])at a;unfold MI;generalize kH Y h e 0 (Hc (yd ws)) (.Na (md fA h 0 ps)) ps []=Z at *;generalize PL ps=P at *;generalize ws.map D.int=W at *;simp[a]
end
@[simp] theorem ybp(ρ:Ev)(σ:Oa):qI ρ σ=.ok (.ct ρ) σ:=nr rfl
@[simp] theorem uw(g:Ev->M Fl)(ρ:Ev)(σ:Oa):Hy g (.ct ρ) σ=.ok (.ct ρ) σ:=nr rfl
theorem g6{ps:List Pt}{k:Nat}{p:Pt}(a:ps[k]?=some p)(σ:Oa):Ld (PL ps) (.int k) σ=.ok p.D σ:=JK (sw (by rw[Ja,a];rfl))
section
variable(ns:List Int)(h e:Int)(ws:List Int){ps:List Pt}(hp:∀ p∈ps,p.Ok)(hl:ps.length<=3)(Hd G:List D)(r:Oa)(x3 x4 x5 x6 x7 x8 x12 x13:Option D)
noncomputable abbrev Ms(ns:List Int)(ps:List Pt)(h:Int)(x3 x4 x5 x6 x7 x8 a b x12 x13:Option D):Ev:=[some (.cg ns),some (PL ps),some (.int h),x3,x4,x5,x6,x7,x8,some (.ref 2),a,b,x12,x13]
include hp
theorem E3(k:Nat)(b:Option D):∃ j w,Cy (Ms ns ps h x3 x4 x5 x6 x7 x8 (some (.int k)) b x12 x13) (kL h e ws ps Hd G r)=.ok w (kL h e ws ps Hd G r)/\(w=.nx (Ms ns ps h x3 x4 x5 x6 x7 x8 (some (.int k)) j x12 x13)\/w=.ct (Ms ns ps h x3 x4 x5 x6 x7 x8 (some (.int k)) j x12 x13)):=by
 have t:∀ σ,Vo [PL ps] σ=.ok (.int ps.length) σ:=λσ=>by unfold PL;simp
 have out:Fk (md fA h 0 ps) (.inl (k:Int))=none->me [.ref 2,.int k] (kL h e ws ps Hd G r)=.ok (.bl true) (kL h e ws ps Hd G r):=λf=>iZ [.lst Hd,.lst G] h e 0 (Hc (yd ws)) (md fC h 0 ps) (md fS h 0 ps) r (md fA h 0 ps) k f;have I:=λfs=>Nx h e ws ps Hd G r (m:="account") 2 lb fs rfl;by_cases H:k<ps.length
 ·have F:ps[k]?=some ps[k]:=yb H;have ok:=hp ps[k] (Cf H);have a:=UH fA h ps 0 k ps[k] F;rw[Vi]at a;generalize ps[k]=p at *;have A:=λσ=>g6 F σ;have g:decide (ps.length<=k)=false:=Cb (by omega);have x:=λσ=>DE p σ;have y:=λσ=>tz p σ;by_cases d:p.l=h
  ·rw[ia d]at a;have i:(h == p.r)=false:=by simp;exact λz=>ok.n (d.trans z)
   have c:=AL [.lst Hd,.lst G] h e 0 (Hc (yd ws)) (md fC h 0 ps) (md fS h 0 ps) r (md fA h 0 ps) k a;have B:=λσ=>CL k 0 p.u p.v σ;have C:∀ σ,ax p.D (some 2) (some 4) σ=.ok (.tup [.int p.u,.int p.v]) σ:=λσ=>by unfold Pt.D;rw[IH];rfl
   have s:(h == p.l)=true:=by simp[d]
   refine⟨some (.int 0),_,?_,.inl rfl⟩;change lb [.ref 2,.int k] (kL h e ws ps Hd G r)=.ok (Ai k 0 p.u p.v) (kL h e ws ps Hd G r)at c;unfold Cy Ms;generalize kL h e ws ps Hd G r=Y at *;generalize Ai k 0 p.u p.v=J at *;generalize p.D=E at *;generalize PL ps=P at *;simp[t,g,A,x,y,s,i,I,c,B,C,zJ]
  ·rw[ja d]at a;have s:(h == p.l)=false:=by simp;exact λz=>d z.symm
   by_cases q:p.r=h
   ·rw[ia q]at a;have i:(h == p.r)=true:=by simp[q]
    have c:=AL [.lst Hd,.lst G] h e 0 (Hc (yd ws)) (md fC h 0 ps) (md fS h 0 ps) r (md fA h 0 ps) k a;have B:=λσ=>CL k 1 p.u p.v σ;have C:∀ σ,ax p.D (some 2) (some 4) σ=.ok (.tup [.int p.u,.int p.v]) σ:=λσ=>by unfold Pt.D;rw[IH];rfl
    refine⟨some (.int 1),_,?_,.inl rfl⟩;change lb [.ref 2,.int k] (kL h e ws ps Hd G r)=.ok (Ai k 1 p.u p.v) (kL h e ws ps Hd G r)at c;unfold Cy Ms;generalize kL h e ws ps Hd G r=Y at *;generalize Ai k 1 p.u p.v=J at *;generalize p.D=E at *;generalize PL ps=P at *;simp[t,g,A,x,y,s,i,I,c,B,C,zJ]
   ·rw[ja q]at a;have i:(h == p.r)=false:=by simp;exact λz=>q z.symm
    have o:=out a;refine⟨b,_,?_,.inr rfl⟩;unfold Cy Ms;generalize kL h e ws ps Hd G r=Y at *;generalize p.D=E at *;generalize PL ps=P at *;simp[t,g,A,x,y,s,i,o]
 ·have o:=out (VH (TD fA h k 0 ps (.inr (by omega))));have g:decide (ps.length<=k)=true:=Nd (by omega);refine⟨b,_,?_,.inr rfl⟩;unfold Cy Ms;generalize kL h e ws ps Hd G r=Y at *;generalize PL ps=P at *;simp[t,g,o]
theorem JN:∀ (d:List Nat) (b a:Option D),∃ f c,Nk (Wd 10) Cy (d.map λ(k:Nat)=>D.int k) (Ms ns ps h x3 x4 x5 x6 x7 x8 b a x12 x13) (kL h e ws ps Hd G r)=.ok (.nx (Ms ns ps h x3 x4 x5 x6 x7 x8 f c x12 x13)) (kL h e ws ps Hd G r)
 |[],b,a=>⟨b,a,by simp⟩
 |k::d,b,a=>by
  obtain⟨c,p,o,n⟩:=E3 ns h e ws hp Hd G r x3 x4 x5 x6 x7 x8 x12 x13 k a;obtain⟨g,i,j⟩:=JN d (some (.int k)) c;refine⟨g,i,?_⟩;rw[Ia,yu];unfold Ms at *;simp only[Ib,Jb];rw[o,se];rcases n with rfl|rfl
  ·rw[Qo,j]
  ·rw[show ∀ (k:Ev->M Fl) l m,Qt k (.ct l) m=k l m from λ_ _ _=>rfl,j]
theorem A7(c d:Option D):∃ a b,yJ (Ms ns ps h x3 x4 x5 x6 x7 x8 c d x12 x13) (kL h e ws ps Hd G r)=.ok (.nx (Ms ns ps h x3 x4 x5 x6 x7 x8 a b x12 x13)) (kL h e ws ps Hd G r):=by
 obtain⟨a,b,z⟩:=JN ns h e ws hp Hd G r x3 x4 x5 x6 x7 x8 x12 x13 (List.range 3) c d;refine⟨a,b,?_⟩;unfold yJ;rw[zI,Z8,NA,se,uE (by omega) (by omega),yq,DJ];exact z
end
theorem M8(f:Int->Int->Pt->D){h:Int}{p:Pt}(hb:zv h p=false)(i:Nat):Dq f h i p=[]:=by
 unfold zv at hb;rw[Bool.or_eq_false_iff]at hb;unfold Dq;rw[ja (by simpa using hb.1),ja (by simpa using hb.2)]
theorem rE(f:Int->Int->Pt->D)(h:Int):∀ (i:Nat) (ps:List Pt),Fg h ps=[]->md f h i ps=[]
 |_,[],_=>rfl
 |i,p::r,e=>by
  unfold Fg at e;rw[jc]at e;cases hb:zv h p
  ·rw[hb]at e;rw[md,M8 f hb,rE f h (i+1) r (by simpa [Fg]using e)];rfl
  ·rw[hb]at e;simp at e
noncomputable def Gy(h:Int)(p:Pt):Int:=if h == p.r then p.v else p.u
theorem jN(h:Int):∀ (i:Nat) (ps:List Pt),(∀ p∈ps,p.Ok)->yr (Oi h i ps)=((Fg h ps).map (Gy h)).sum
 |_,[],_=>rfl
 |i,p::r,c=>by
  have e:=jN h (i+1) r λq d=>c q (Ha _ d);have ok:=c p Qa;unfold yr Fg at *;rw[Oi,Tc,Rw,e,jc];unfold iE zv Gy own;by_cases a:p.l=h
  ·have n:¬ h=p.r:=λz=>ok.n (a.trans z);simp[a,n]
  ·by_cases b:p.r=h
   ·simp[a,b]
   ·simp[a,b]
section
variable(ns:List Int)(h e:Int)(ws:List Int)(hw:ws.length<=5){ps:List Pt}(hp:∀ p∈ps,p.Ok)(hl:ps.length<=3)(h1:1<=ps.length)
include hw hp hl h1
theorem t8(Y:Oa)(g i k l m o p a b c:Option D):∃ j,ND [g,some (PL ps),i,k,some (PL (Fg h ps)),l,some (.lst (ws.map D.int)),m,o,p,a,b,some (.ref Y.length),c] (kH Y h e 0 (Hc (yd ws)) (.Na (md fA h 0 ps)) ps [])=.ok (.nx [g,some (PL ps),i,k,some (PL (Fg h ps)),l,some (.lst (ws.map D.int)),m,o,p,a,b,some (.ref Y.length),c]) (Y++j):=by
 have d:=λs=>P6 (Fg h ps) s;cases hm:(Fg h ps).isEmpty
 ·rw[hm]at d;refine⟨.ins 9 (Dw Y.length h e 0)::.Na (Hc (yd ws))::.Na (md fA h 0 ps)::.Na (md fC h 0 ps)::.Na (md fS h 0 ps)::.Na []::.Na []::[],?_⟩;show _=Out.ok _ (kH Y h e 0 (Hc (yd ws)) (.Na (md fA h 0 ps)) ps []);unfold ND;generalize kH Y h e 0 (Hc (yd ws)) (.Na (md fA h 0 ps)) ps []=Z at *;generalize PL (Fg h ps)=M at *;generalize PL ps=P at *;simp[d]
 ·rw[hm]at d;have f:Fg h ps=[]:=List.isEmpty_iff.mp hm;obtain⟨n,hn⟩:∃ n,ps.length=n+1:=⟨ps.length - 1,by omega⟩
  obtain⟨j,r⟩:=fW Y h e hw hl n hn;have bk:=LU hp hl (kS Y h e 0 (Hc (yd ws)) (.Na []) [] [] []);rw[Nt,hn]at bk;have q:kS Y h e 0 (Hc (yd ws)) (.Na []) [] [] []++.ins 14 (xr (Y.length+7) 0 ps)::.lst (Tk (Y.length+7+2) (n+1))::Qj (n+1)=kB Y h e 0 (Hc (yd ws)) 0 ps (Qj (n+1)):=by
   unfold kB bR;rw[hn,No];rfl
  rw[q]at bk;refine⟨j,?_⟩;unfold kH;rw[rE fA h 0 ps f,rE fC h 0 ps f,rE fS h 0 ps f];unfold ND;generalize kB Y h e 0 (Hc (yd ws)) 0 ps (Qj (n+1))=B at *;generalize kS Y h e 0 (Hc (yd ws)) (.Na []) [] [] []=K at *;generalize PL (Fg h ps)=M at *;generalize PL ps=P at *;generalize ws.map D.int=W at *;simp[d,bk,r,-QC]
end
theorem aT(h:Int){ps:List Pt}(x:ps.length<=3)(i k m n o q t w a c f g:Option D)(σ:Oa):iJ [i,k,some (.int h),m,some (PL (Fg h ps)),n,o,q,t,w,a,c,f,g] σ=.ok (.nx [i,k,some (.int h),m,some (PL (Fg h ps)),n,o,q,t,w,a,c,f,some (.int ((Fg h ps).map (Gy h)).sum)]) σ:=by
 have F:(Fg h ps).length<=3:=Ya (Pr _ _) x;have l:=Rv (s:=.seq ((Fg h ps).map Pt.D)) (ix:=[2]) (src:=zi (wa 4)) (ds:=(Fg h ps).map Pt.D) (ρ:=[i,k,some (.int h),m,some (PL (Fg h ps)),n,o,q,t,w,a,c,f,g]) (σ:=σ) (fe:=Hb Ld (wa 0) (Hb zj (eC (.int 2)) (Ii vB (Ta (Hb oEq (wa 2) (Hb Ld (wa 0) (eC (.int 1)))) xb)))) (λd=>match d with | .tup [_,.int r,.int u,.int v,_]=>.int (if h == r then v else u)|_=>.Yb)
  (by have sq:=gJ (Fg h ps) σ;generalize PL (Fg h ps)=P at *;simp[sq]) (λ_ _=>rfl) (by rw[xa];omega) (λd hd j=>by
   obtain⟨p,_,rfl⟩:=Ra.mp hd;have y:=λσ=>tz p σ;have z:=λσ=>SL p σ;have A:=λσ=>wN p σ;show _=Out.ok (D.int (if h == p.r then p.v else p.u)) _;generalize σ++j=Y at *;generalize p.D=C at *;cases b:(h == p.r)<;>simp[y,z,A,b,zJ]) (λd hd=>by
   obtain⟨p,_,rfl⟩:=Ra.mp hd;rfl)
 rw[We]at l;have e:(Fg h ps).map ((λd=>match d with|D.tup [_,.int r,.int u,.int v,_]=>D.int (if h == r then v else u)|_=>.Yb) ∘ Pt.D)=((Fg h ps).map (Gy h)).map D.int:=by rw[We];rfl
 rw[e]at l;have s:=λσ=>sN ((Fg h ps).map (Gy h)) σ;unfold iJ;generalize ((Fg h ps).map (Gy h)).map D.int=B at *;generalize ((Fg h ps).map (Gy h)).sum=E at *;generalize PL (Fg h ps)=M at *;simp[l,s,-cr]
section
variable(h e:Int)(ws:List Int)(hw:ws.length<=5){ps:List Pt}(hl:ps.length<=3)(Hd G:List D)(r:Oa)
theorem M6(f g i j k l o p q a b c d:Option D):LI [f,g,i,j,k,l,o,p,q,some (.ref 2),a,b,c,d] (kL h e ws ps Hd G r)=.ok (.nx [f,g,i,j,k,l,o,p,q,some (.ref 2),a,b,c,d]) (kL h e ws ps Hd G r):=by
 have t:Ub [.ref 2] (kL h e ws ps Hd G r)=.ok (.int 0) (kL h e ws ps Hd G r):=iR [.lst Hd,.lst G] ..;have s:Ic [.ref 2] (kL h e ws ps Hd G r)=.ok (.int 0) (kL h e ws ps Hd G r):=QS [.lst Hd,.lst G] ..;have u:=λfs=>Nx h e ws ps Hd G r (m:="looked") 1 Ub fs rfl;have v:=λfs=>Nx h e ws ps Hd G r (m:="given") 1 Ic fs rfl;have n:∀ σ:Oa,gk (.lst [.int 0,.int 0]) (.lst [.int 0,.int 0]) σ=.ok (.bl false) σ:=λσ=>VA rfl;unfold LI;generalize kL h e ws ps Hd G r=Y at *;simp[t,s,u,v,n]
include hw hl
theorem mZ(k l o p q s t u v a b c:Option D):bG [k,l,o,p,q,s,t,u,v,some (.ref 2),a,b,c,some (.int (yr (Oi h 0 ps)))] (kL h e ws ps Hd G r)=.ok (.rt (.bl true)) (kL h e ws ps Hd G r):=by
 have ld:=yz ws;have j:Vb [.ref 2] (kL h e ws ps Hd G r)=.ok (.int (yr (Oi h 0 ps))) (kL h e ws ps Hd G r):=vO [.lst Hd,.lst G] h e 0 (yd ws) (by omega) r hl;have i:Gc [.ref 2] (kL h e ws ps Hd G r)=.ok (Ml (Oi h 0 ps)) (kL h e ws ps Hd G r):=UU [.lst Hd,.lst G] h e 0 (yd ws) (by omega) r hl;have d:∀ σ,Ld (Ml (Oi h 0 ps)) (.int 0) σ=.ok (.int (yr (Oi h 0 ps))) σ:=λσ=>by unfold Ml;simp
 have f:=λfs=>Nx h e ws ps Hd G r (m:="worth") 1 Vb fs rfl;have g:=λfs=>Nx h e ws ps Hd G r (m:="paper") 1 Gc fs rfl;generalize yr (Oi h 0 ps)=T at *;have n:∀ σ:Oa,oEq (.lst [.int T,.int T]) (.lst [.int T,.int T]) σ=.ok (.bl true) σ:=λσ=>JC rfl;unfold bG;generalize Ml (Oi h 0 ps)=w at *;generalize kL h e ws ps Hd G r=Y at *;simp[j,i,d,f,g,n]
end
theorem Qu(ns:List Int)(B:ns.length<=63):∃ σ,Km [.cg ns] []=.ok (.bl true) σ:=by
 have g:=FX ns;have hn:=pQ ns;have d:(vr ns).length<=3:=by rw[IL];omega
 have A:1<=(vr ns).length:=by rw[IL];omega
 have f:=gW ns;have w:u1 [some (.cg ns),none,none,none,none,none,none,none,none,none,none,none,none,none] []=.ok (.nx [some (.cg ns),some (PL (vr ns)),none,none,none,none,none,none,none,none,none,none,none,none]) []:=by
  have p:=fU ns [];unfold u1;generalize PL (vr ns)=P at *;simp[p]
 have x:∀ P:D,u2 [some (.cg ns),some P,none,none,none,none,none,none,none,none,none,none,none,none] []=.ok (.nx [some (.cg ns),some P,some (.int (Hi ns 1 % 4)),none,none,none,none,none,none,none,none,none,none,none]) []:=λP=>by
  have c:=λσ=>yx ns 1 (by omega) σ;rw[show (1:Int).toNat=1 from rfl]at c;unfold u2;generalize Hi ns 1=C at *;simp[c]
 have y:∀ P H:D,u3 [some (.cg ns),some P,some H,none,none,none,none,none,none,none,none,none,none,none] []=.ok (.nx [some (.cg ns),some P,some H,some (.int (Hi ns 2 % 64 - 3)),none,none,none,none,none,none,none,none,none,none]) []:=λP H=>by
  have c:=λσ=>yx ns 2 (by omega) σ;rw[show (2:Int).toNat=2 from rfl]at c;unfold u3;generalize Hi ns 2=C at *;simp[c]
 generalize Hi ns 1 % 4=h at *;generalize Hi ns 2 % 64 - 3=e at *;generalize vr ns=a at *;have I:=t9 ns;generalize Iy ns=b at *;have q:=V8 ns h e d (some (PL a)) (some (.int h)) none none none none none none none none none [];have z:=mW ns h d (some (.int e)) none none none none none none none none none none [];cases i:Iv h e a
 ·rw[i]at q;have v:u6 [some (.cg ns),some (PL a),some (.int h),some (.int e),some (PL (Fg h a)),some (.bl (!false)),none,none,none,none,none,none,none,none] []=.ok (.rt (.bl true)) []:=by
   have G:=IZ g d i [];unfold u6;generalize PL (Fg h a)=M at *;generalize PL a=P at *;simp[G]
  refine⟨[],?_⟩;unfold Km mJ;rw[mx];show Ys (Ec u1 _ [some (.cg ns),none,none,none,none,none,none,none,none,none,none,none,none,none] [])=_;rw[rh,w,se,Bh,rh,x,se,Bh,rh,y,se,Bh,rh,z,se,Bh,rh,q,se,Bh,rh,v,se,T1,eG]
 ·rw[i]at q;have v:u6 [some (.cg ns),some (PL a),some (.int h),some (.int e),some (PL (Fg h a)),some (.bl (!true)),none,none,none,none,none,none,none,none] []=.ok (.nx [some (.cg ns),some (PL a),some (.int h),some (.int e),some (PL (Fg h a)),some (.bl (!true)),none,none,none,none,none,none,none,none]) []:=by
   unfold u6;generalize PL (Fg h a)=M at *;generalize PL a=P at *;simp
  obtain⟨E,r⟩:=F4 g d i b (li b) [] ([]++[.lst ((Tf (yd b)).map D.int)]) (some (.cg ns)) (some (PL (Fg h a))) (some (.bl (!true))) (some (.lst (b.map D.int))) (some (.ref 0)) (some (.ref 1)) (some (.ref 2)) none none none none;obtain⟨F,s⟩:=vY h e b f a E (li b++[.int 59]) [] (some (.cg ns)) (some (PL a)) (some (.int h)) (some (.int e)) (some (PL (Fg h a))) (some (.bl (!true))) (some (.lst (b.map D.int))) (some (.ref 0)) (some (.ref 1)) none none none none;obtain⟨o,t⟩:=yY h e b f a F (li b++[.int 59]) [] (some (.cg ns)) (some (PL a)) (some (.int h)) (some (.int e)) (some (PL (Fg h a))) (some (.bl (!true))) (some (.ref 0)) (some (.ref 1)) none none none none;obtain⟨m,n,k⟩:=A7 ns h e b g (li b++[.int 59]) [] o (some (.int e)) (some (PL (Fg h a))) (some (.bl (!true))) (some (.lst (b.map D.int))) (some (.ref 0)) (some (.ref 1)) none none none none;have u:=E6 g d i b f (kL h e b a (li b++[.int 59]) [] o) (some (.cg ns)) (some (PL (Fg h a))) (some (.bl (!true))) (some (.ref 0)) (some (.ref 1)) (some (.ref 2)) m n none none;obtain⟨j,l⟩:=t8 h e b f g d A (kL h e b a (li b++[.int 59]) [] o) (some (.cg ns)) (some (.int h)) (some (.int e)) (some (.bl (!true))) (some (.ref 0)) (some (.ref 1)) (some (.ref 2)) m n none;rw[LA]at l;refine⟨kL h e b a (li b++[.int 59]) [] (o++j),?_⟩;have J:=jN h 0 a g;unfold Km mJ;rw[mx];show Ys (Ec u1 _ [some (.cg ns),none,none,none,none,none,none,none,none,none,none,none,none,none] [])=_;rw[rh,w,se,Bh,rh,x,se,Bh,rh,y,se,Bh,rh,z,se,Bh,rh,q,se,Bh,rh,v,se,Bh];rw[rh,I,se,Bh,rh,M3 b f,se,Bh,rh,O3 b f a d,se,Bh,rh,LZ b f h e g d i,se,Bh];rw[rh,eV,se,Bh,rh,G0 h e b f,se,Bh,rh,r,se,Bh,rh,Z2 h e b f,se,Bh];rw[rh,s,se,Bh,rh,t,se,Bh];unfold Ms at k;rw[rh,k,se,Bh,rh,u,se,Bh,rh,l,se,Bh];rw[rh,aT h d,se,Bh,rh,M6,se,Bh,<-J,mZ h e b f d,eG]
end K41
open PySem PySem.W PyProof.Rows
set_option maxRecDepth 100000 in
set_option maxHeartbeats 0 in
theorem PySem.Challenge.cw_sidebook_k41_a_keeping_hand_begins_holds : PySem.Challenge.rw_sidebook_k41_a_keeping_hand_begins.Holds := by
 w_on;refine hd ?_
 k_fill
 refine L4.dU (l:=PySem.Challenge.rw_sidebook_k41_a_keeping_hand_begins) (k:=11) (x:="_law_script") (fn:=K41.Km) ["paper"] rfl rfl ⟨rfl,by decide,by decide⟩ (λw h Y=>km_in_of Y) ?hK ?hrec ?F K41.Qu;case hK=>intro w;kernel_rfl
 case hrec=>kernel_rfl
 case F=>
  intro w mg h KX G TT;have h__law_cell_at:L4.Df (L2.Ca KX) mg "_law_cell_at" (K41.top 95) ["_law_script", "_law_k"]:=by
   dsimp only[L2.Ca];refine' L4.Dj KX G K41.O2 ?a ?l ?c ?k;(case a|l|c|k=>k_is)
  have h__law_pots:L4.Df (L2.Ca KX) mg "_law_pots" (K41.top 96) ["_law_script"]:=by
   dsimp only[L2.Ca];refine' L4.Dj KX G K41.R3 ?a ?l ?c ?k;(case a|l|c|k=>k_is)
  have h_is_whole:L4.Df (L2.Ca KX) mg "is_whole" (K41.top 8) ["thing"]:=by
   dsimp only[L2.Ca];refine' L4.Dj KX G K41.ZV ?a ?l ?c ?k;(case a|l|c|k=>k_is)
  have h_is_between:L4.Df (L2.Ca KX) mg "is_between" (K41.top 9) ["thing", "least", "most"]:=by
   dsimp only[L2.Ca];refine' L4.Dj KX G K41.j7 ?a ?l ?c ?k;(case a|l|c|k=>k_is)
  have h_check_span:L4.Df (L2.Ca KX) mg "check_span" (K41.top 75) ["hand", "every", "pots"]:=by
   dsimp only[L2.Ca];refine' L4.Dj KX G K41.cT ?a ?l ?c ?k;(case a|l|c|k=>k_is)
  have h_are_ties:L4.Df (L2.Ca KX) mg "are_ties" (K41.top 29) ["thing"]:=by
   dsimp only[L2.Ca];refine' L4.Dj KX G K41.QX ?a ?l ?c ?k;(case a|l|c|k=>k_is)
  have h_are_shares:L4.Df (L2.Ca KX) mg "are_shares" (K41.top 28) ["thing"]:=by
   dsimp only[L2.Ca];refine' L4.Dj KX G K41.kT ?a ?l ?c ?k;(case a|l|c|k=>k_is)
  have h_is_number:L4.Df (L2.Ca KX) mg "is_number" (K41.top 14) ["thing"]:=by
   dsimp only[L2.Ca];refine' L4.Dj KX G K41.m3 ?a ?l ?c ?k;(case a|l|c|k=>k_is)
  have h_is_stand:L4.Df (L2.Ca KX) mg "is_stand" (K41.top 30) ["thing"]:=by
   dsimp only[L2.Ca];refine' L4.Dj KX G K41.A6 ?a ?l ?c ?k;(case a|l|c|k=>k_is)
  have h_stand:L4.cD (L2.Ca KX) mg "stand" (K41.top 31) ["number", "shares", "ties"] [eb]:=by
   dsimp only[L2.Ca];refine' L4.hV KX G K41.K5 ?a ?l ?c ?k ?d;(case a|l|c|k|d=>k_is)
  have h_first:L4.Df (L2.Ca KX) mg "first" (K41.top 32) ["left", "right"]:=by
   dsimp only[L2.Ca];refine' L4.Dj KX G K41.v5 ?a ?l ?c ?k;(case a|l|c|k=>k_is)
  have h_first_account:L4.Df (L2.Ca KX) mg "first_account" (K41.top 50) ["pot", "side", "left", "right"]:=by
   dsimp only[L2.Ca];refine' L4.Dj KX G K41.RT ?a ?l ?c ?k;(case a|l|c|k=>k_is)
  have h__law_refused:L4.Df (L2.Ca KX) mg "_law_refused" (K41.top 97) ["_law_hand", "_law_every", "_law_pots_here"]:=by
   dsimp only[L2.Ca];refine' L4.Dj KX G K41.P3 ?a ?l ?c ?k;(case a|l|c|k=>k_is)
  have h__law_no_pot:L4.Df (L2.Ca KX) mg "_law_no_pot" (K41.top 98) ["_law_keeper", "_law_pot"]:=by
   dsimp only[L2.Ca];refine' L4.Dj KX G K41.e6 ?a ?l ?c ?k;(case a|l|c|k=>k_is)
  have h__law_account_right:L4.Df (L2.Ca KX) mg "_law_account_right" (K41.top 99) ["_law_account", "_law_pot", "_law_side", "_law_coins"]:=by
   dsimp only[L2.Ca];refine' L4.Dj KX G K41.d9 ?a ?l ?c ?k;(case a|l|c|k=>k_is)
  have h_is_word:L4.Df (L2.Ca KX) mg "is_word" (K41.top 12) ["thing"]:=by
   dsimp only[L2.Ca];refine' L4.Dj KX G K41.IY ?a ?l ?c ?k;(case a|l|c|k=>k_is)
  have h_read_stand:L4.Df (L2.Ca KX) mg "read_stand" (K41.top 57) ["view", "pot", "one"]:=by
   dsimp only[L2.Ca];refine' L4.Dj KX G K41.kW ?a ?l ?c ?k;(case a|l|c|k=>k_is)
  have h_read_pots:L4.Df (L2.Ca KX) mg "read_pots" (K41.top 58) ["view"]:=by
   dsimp only[L2.Ca];refine' L4.Dj KX G K41.vT ?a ?l ?c ?k;(case a|l|c|k=>k_is)
  have h_all_choices:L4.Df (L2.Ca KX) mg "all_choices" (K41.top 59) ["readings"]:=by
   dsimp only[L2.Ca];refine' L4.Dj KX G K41.rT ?a ?l ?c ?k;(case a|l|c|k=>k_is)
  have h_lots_by_word:L4.Df (L2.Ca KX) mg "lots_by_word" (K41.top 61) ["reads"]:=by
   dsimp only[L2.Ca];refine' L4.Dj KX G K41.J6 ?a ?l ?c ?k;(case a|l|c|k=>k_is)
  have h_sum_of:L4.Df (L2.Ca KX) mg "sum_of" (K41.top 66) ["reads", "by_word", "fates", "every"]:=by
   dsimp only[L2.Ca];refine' L4.Dj KX G K41.WV ?a ?l ?c ?k;(case a|l|c|k=>k_is)
  have h_least_paper:L4.Df (L2.Ca KX) mg "least_paper" (K41.top 67) ["reads", "chosen", "every"]:=by
   dsimp only[L2.Ca];refine' L4.Dj KX G K41.RU ?a ?l ?c ?k;(case a|l|c|k=>k_is)
  have h_chosen_readings:L4.Df (L2.Ca KX) mg "chosen_readings" (K41.top 60) ["readings", "chosen"]:=by
   dsimp only[L2.Ca];refine' L4.Dj KX G K41.V0 ?a ?l ?c ?k;(case a|l|c|k=>k_is)
  have h_paper:L4.Df (L2.Ca KX) mg "paper" (K41.top 68) ["view"]:=by
   dsimp only[L2.Ca];refine' L4.Dj KX G K41.D7 ?a ?l ?c ?k;(case a|l|c|k=>k_is)
  have h_worth:L4.Df (L2.Ca KX) mg "worth" (K41.top 70) ["view"]:=by
   dsimp only[L2.Ca];refine' L4.Dj KX G K41.RV ?a ?l ?c ?k;(case a|l|c|k=>k_is)
  have h_stands_told:L4.Df (L2.Ca KX) mg "stands_told" (K41.top 76) ["account", "claim"]:=by
   dsimp only[L2.Ca];refine' L4.Dj KX G K41.uW ?a ?l ?c ?k;(case a|l|c|k=>k_is)
  have h__law_looks:L4.Df (L2.Ca KX) mg "_law_looks" (K41.top 100) ["_law_keeper", "_law_book", "_law_words"]:=by
   dsimp only[L2.Ca];refine' L4.Dj KX G K41.CZ ?a ?l ?c ?k;(case a|l|c|k=>k_is)
  have h_is_hand:L4.Df (L2.Ca KX) mg "is_hand" (K41.top 11) ["thing"]:=by
   dsimp only[L2.Ca];refine' L4.Dj KX G K41.Q2 ?a ?l ?c ?k;(case a|l|c|k=>k_is)
  have h_makes_a_pot:L4.Df (L2.Ca KX) mg "makes_a_pot" (K41.top 88) ["thing"]:=by
   dsimp only[L2.Ca];refine' L4.Dj KX G K41.P0 ?a ?l ?c ?k;(case a|l|c|k=>k_is)
  have h_checked_pots:L4.Df (L2.Ca KX) mg "checked_pots" (K41.top 89) ["pots"]:=by
   dsimp only[L2.Ca];refine' L4.Dj KX G K41.SY ?a ?l ?c ?k;(case a|l|c|k=>k_is)
  have h_whole_of:L4.Df (L2.Ca KX) mg "whole_of" (K41.top 90) ["made"]:=by
   dsimp only[L2.Ca];refine' L4.Dj KX G K41.VZ ?a ?l ?c ?k;(case a|l|c|k=>k_is)
  have h_law:L4.Df (L2.Ca KX) mg "law" (K41.top 101) ["_law_script"]:=by
   dsimp only[L2.Ca];refine' L4.Dj KX G K41.P2 ?a ?l ?c ?k;(case a|l|c|k=>k_is)
  have kh:mg "worth_worth" = mg "worth":=by
   refine' (Xj KX G ?a).trans (Xj KX G ?b).symm;(case a|b=>k_is)
  have dg:mg "paper_worth" = mg "paper":=by
   refine' (Xj KX G ?a).trans (Xj KX G ?b).symm;(case a|b=>k_is)
  have Uu:mg "all" = none:=by
   refine' zd KX G ?a;(case a=>k_is)
  have Zq:mg "bool" = none:=by
   refine' zd KX G ?a;(case a=>k_is)
  have sr:mg "dict" = none:=by
   refine' zd KX G ?a;(case a=>k_is)
  have zh:mg "enumerate" = none:=by
   refine' zd KX G ?a;(case a=>k_is)
  have kq:mg "int" = none:=by
   refine' zd KX G ?a;(case a=>k_is)
  have gd:mg "isinstance" = none:=by
   refine' zd KX G ?a;(case a=>k_is)
  have ui:mg "len" = none:=by
   refine' zd KX G ?a;(case a=>k_is)
  have mi:mg "list" = none:=by
   refine' zd KX G ?a;(case a=>k_is)
  have Lu:mg "min" = none:=by
   refine' zd KX G ?a;(case a=>k_is)
  have aj:mg "range" = none:=by
   refine' zd KX G ?a;(case a=>k_is)
  have Do:mg "set" = none:=by
   refine' zd KX G ?a;(case a=>k_is)
  have lh:mg "sorted" = none:=by
   refine' zd KX G ?a;(case a=>k_is)
  have Wr:mg "sum" = none:=by
   refine' zd KX G ?a;(case a=>k_is)
  have bj:mg "tuple" = none:=by
   refine' zd KX G ?a;(case a=>k_is)
  have xu:mg "zip" = none:=by
   refine' zd KX G ?a;(case a=>k_is)
  have ur:L4.xD (L2.Ca KX) mg "HELD" ["held"]:=by
   dsimp only[L2.Ca];refine' L4.U8 KX G ?a ?b;(case a=>k_is);(case b=>kernel_rfl)
  have Lf:∃ t,mg "MOST_COIN" = some (.int 1000000000000 t):=by
   refine' L4.Jw KX G ?a;(case a=>k_is)
  have Zg:∃ t,mg "MOST_EVERY" = some (.int 50 t):=by
   refine' L4.Jw KX G ?a;(case a=>k_is)
  have Dh:∃ t,mg "MOST_HAND" = some (.int 3 t):=by
   refine' L4.Jw KX G ?a;(case a=>k_is)
  have zg:∃ t,mg "MOST_NUMBER" = some (.int 1000000 t):=by
   refine' L4.Jw KX G ?a;(case a=>k_is)
  have ki:∃ t,mg "MOST_POT" = some (.int 2 t):=by
   refine' L4.Jw KX G ?a;(case a=>k_is)
  have rf:∃ t,mg "MOST_SHARE" = some (.int 2000000000000 t):=by
   refine' L4.Jw KX G ?a;(case a=>k_is)
  have Ah:∃ t,mg "MOST_TIES" = some (.int 6 t):=by
   refine' L4.Jw KX G ?a;(case a=>k_is)
  have Eh:∃ t,mg "MOST_WAIT" = some (.int 100 t):=by
   refine' L4.Jw KX G ?a;(case a=>k_is)
  have Ch:∃ t,mg "MOST_WORD" = some (.int 59 t):=by
   refine' L4.Jw KX G ?a;(case a=>k_is)
  refine' (have q0:nsIn (L2.Ca KX) mainGlobals "BookError" = some (some (.ref ?C0)):=?p0;have q1:excIn (L2.Ca KX) ?C0 L4.px "ValueError.__new__" = true:=?p1;have q2:nsIn (L2.Ca KX) mainGlobals "NoStand" = some (some (.ref ?C1)):=?p2;have q3:excIn (L2.Ca KX) ?C1 L4.px "ValueError.__new__" = true:=?p3;have q4:nsIn (L2.Ca KX) mainGlobals "NoDeed" = some (some (.ref ?C2)):=?p4;have q5:excIn (L2.Ca KX) ?C2 L4.px "ValueError.__new__" = true:=?p5;have q6:nsIn (L2.Ca KX) mainGlobals "NoSpan" = some (some (.ref ?C4)):=?p6;have q7:excIn (L2.Ca KX) ?C4 L4.px "ValueError.__new__" = true:=?p7;have q8:exmOne (L2.Ca KX) (.ref ?C0) (.ref ?C2)=some false:=?p8;have q9:exmOne (L2.Ca KX) (.ref ?C0) (.ref ?C4)=some false:=?p9;?_);(case p0|p1|p2|p3|p4|p5|p6|p7|p8|p9=>dsimp only[L2.Ca];first|k_is|k_exc|rfl)
  refine' (have q10:exmOne (L2.Ca KX) (.ref ?C2) (.ref ?C2)=some true:=?p10;have q11:exmOne (L2.Ca KX) (.ref ?C2) (.ref ?C4)=some false:=?p11;have q12:exmOne (L2.Ca KX) (.ref ?C4) (.ref ?C2)=some false:=?wL;have q13:exmOne (L2.Ca KX) (.ref ?C4) (.ref ?C4)=some true:=?p13;have q14:exmOne (L2.Ca KX) (.ref ?C1) (.ref ?C2)=some false:=?p14;have q15:exmOne (L2.Ca KX) (.ref ?C1) (.ref ?C4)=some false:=?p15;have q16:L4.xq (L2.Ca KX) ?C4:=?p16;have q17:L4.xq (L2.Ca KX) ?C2:=?p17;have q18:L4.xq (L2.Ca KX) ?C1:=?p18;have q19:L4.xq (L2.Ca KX) ?C0:=?p19;?_);(case p10|p11|wL|p13|p14|p15=>dsimp only[L2.Ca];first|k_is|k_exc|rfl);(case p16|p17|p18|p19=>dsimp only[L2.Ca];refine' ⟨?a,?b,?c,?d,?e,?f,?g,?h⟩;(case a|b|c|d|e|f|g|h=>k_is))
  refine' (have q20:kitOne (L2.Ca KX) (.ref ?C0) (.ref ?C0)=some true:=?p20;have q21:kitOne (L2.Ca KX) (.ref ?C0) (.ref ?C2)=some false:=?p21;have q22:kitOne (L2.Ca KX) (.ref ?C2) (.ref ?C0)=some true:=?p22;have q23:kitOne (L2.Ca KX) (.ref ?C2) (.ref ?C2)=some true:=?p23;have q24:kitOne (L2.Ca KX) (.ref ?C4) (.ref ?C0)=some true:=?p24;have q25:kitOne (L2.Ca KX) (.ref ?C4) (.ref ?C2)=some false:=?p25;have q26:kitOne (L2.Ca KX) (.ref ?C1) (.ref ?C0)=some true:=?p26;have q27:kitOne (L2.Ca KX) (.ref ?C1) (.ref ?C2)=some false:=?p27;have q28:nsIn (L2.Ca KX) mainGlobals "Account" = some (some (.ref ?C5)):=?p28;have q29:nsIn (L2.Ca KX) mainGlobals "Calm" = some (some (.ref ?C6)):=?p29;?_);(case p20|p21|p22|p23|p24|p25|p26|p27|p28|p29=>dsimp only[L2.Ca];first|k_is|k_exc|rfl)
  refine' (have q30:nsIn (L2.Ca KX) mainGlobals "Waiting" = some (some (.ref ?C7)):=?p30;have q31:nsIn (L2.Ca KX) mainGlobals "View" = some (some (.ref ?C8)):=?p31;have q32:nsIn (L2.Ca KX) mainGlobals "Keeper" = some (some (.ref ?C9)):=?p32;have q33:nsIn (L2.Ca KX) mainGlobals "Claim" = some (some (.ref ?C10)):=?p33;have q34:nsIn (L2.Ca KX) mainGlobals "Held" = some (some (.ref ?C11)):=?p34;have q35:nsIn (L2.Ca KX) mainGlobals "Laid" = some (some (.ref ?C12)):=?p35;have q36:nsIn (L2.Ca KX) mainGlobals "Taken" = some (some (.ref ?C13)):=?p36;have q37:nsIn (L2.Ca KX) mainGlobals "Book" = some (some (.ref ?C14)):=?p37;have q38:findIn (L2.Ca KX) (.ref ?C9) "learn" = some (some (.ref ?C25)):=?p38;have q39:L4.jd (L2.Ca KX) ?C9 "learn" "Keeper.learn" (L4.Ge (K41.top 79) 2) ["self", "words"] ?C25:=?p39;?_);(case p30|p31|p32|p33|p34|p35|p36|p37|p38=>dsimp only[L2.Ca];first|k_is|k_exc|rfl);(case p39=>dsimp only[L2.Ca];refine' L4.xl K41.S3 ?l ?c ?k;(case l|c|k=>k_is))
  refine' (have q40:findIn (L2.Ca KX) (.ref ?C9) "hold" = some (some (.ref ?C24)):=?kM;have q41:L4.jd (L2.Ca KX) ?C9 "hold" "Keeper.hold" (L4.Ge (K41.top 79) 1) ["self", "account", "claim", "seen"] ?C24:=?p41;have q42:findIn (L2.Ca KX) (.ref ?C5) "__init__" = some (some (.ref ?C15)):=?p42;have q43:L4.jd (L2.Ca KX) ?C5 "__init__" "Account.__init__" (L4.Ge (K41.top 47) 0) ["self", "pot", "side", "mine", "grant", "may", "strikes"] ?C15:=?p43;have q44:findIn (L2.Ca KX) (.ref ?C9) "__init__" = some (some (.ref ?C23)):=?p44;have q45:L4.rs (L2.Ca KX) ?C9 "__init__" "Keeper.__init__" (L4.Ge (K41.top 79) 0) ["self", "hand", "every", "pots", "words"] [.none] ?C23:=?p45;have q46:findIn (L2.Ca KX) (.ref ?C9) "words" = some (some (.ref ?C26)):=?p46;have q47:L4.jd (L2.Ca KX) ?C9 "words" "Keeper.words" (L4.Ge (K41.top 79) 3) ["self"] ?C26:=?p47;have q48:findIn (L2.Ca KX) (.ref ?C9) "account" = some (some (.ref ?C29)):=?p48;have q49:L4.jd (L2.Ca KX) ?C9 "account" "Keeper.account" (L4.Ge (K41.top 79) 6) ["self", "pot"] ?C29:=?p49;?_);(case kM=>dsimp only[L2.Ca];first|k_is|k_exc|rfl);(case p41=>dsimp only[L2.Ca];refine' L4.xl K41.NT ?l ?c ?k;(case l|c|k=>k_is));(case p42=>dsimp only[L2.Ca];first|k_is|k_exc|rfl);(case p43=>dsimp only[L2.Ca];refine' L4.xl K41.zY ?l ?c ?k;(case l|c|k=>k_is));(case p44=>dsimp only[L2.Ca];first|k_is|k_exc|rfl);(case p45=>dsimp only[L2.Ca];refine' L4.JU K41.H5 ?l ?c ?d;(case l|c|d=>k_is));(case p46=>dsimp only[L2.Ca];first|k_is|k_exc|rfl);(case p47=>dsimp only[L2.Ca];refine' L4.xl K41.OY ?l ?c ?k;(case l|c|k=>k_is));(case p48=>dsimp only[L2.Ca];first|k_is|k_exc|rfl);(case p49=>dsimp only[L2.Ca];refine' L4.xl K41.gT ?l ?c ?k;(case l|c|k=>k_is))
  refine' (have q50:findIn (L2.Ca KX) (.ref ?C6) "word" = some (some (.ref ?C18)):=?p50;have q51:L4.jd (L2.Ca KX) ?C6 "word" "Calm.word" (L4.Ge (K41.top 48) 0) ["self"] ?C18:=?p51;have q52:findIn (L2.Ca KX) (.ref ?C7) "word" = some (some (.ref ?C20)):=?p52;have q53:L4.jd (L2.Ca KX) ?C7 "word" "Waiting.word" (L4.Ge (K41.top 49) 0) ["self"] ?C20:=?p53;have q54:findIn (L2.Ca KX) (.ref ?C14) "next_day" = some (some (.ref ?C63)):=?p54;have q55:L4.jd (L2.Ca KX) ?C14 "next_day" "Book.next_day" (L4.Ge (K41.top 93) 3) ["self"] ?C63:=?p55;have q56:findIn (L2.Ca KX) (.ref ?C14) "check_pot" = some (some (.ref ?C61)):=?p56;have q57:L4.jd (L2.Ca KX) ?C14 "check_pot" "Book.check_pot" (L4.Ge (K41.top 93) 1) ["self", "pot"] ?C61:=?p57;have q58:findIn (L2.Ca KX) (.ref ?C14) "show" = some (some (.ref ?C64)):=?p58;have q59:L4.jd (L2.Ca KX) ?C14 "show" "Book.show" (L4.Ge (K41.top 93) 4) ["self", "pot", "word"] ?C64:=?p59;?_);(case p50=>dsimp only[L2.Ca];first|k_is|k_exc|rfl);(case p51=>dsimp only[L2.Ca];refine' L4.xl K41.i0 ?l ?c ?k;(case l|c|k=>k_is));(case p52=>dsimp only[L2.Ca];first|k_is|k_exc|rfl);(case p53=>dsimp only[L2.Ca];refine' L4.xl K41.m4 ?l ?c ?k;(case l|c|k=>k_is));(case p54=>dsimp only[L2.Ca];first|k_is|k_exc|rfl);(case p55=>dsimp only[L2.Ca];refine' L4.xl K41.G4 ?l ?c ?k;(case l|c|k=>k_is));(case p56=>dsimp only[L2.Ca];first|k_is|k_exc|rfl);(case p57=>dsimp only[L2.Ca];refine' L4.xl K41.t2 ?l ?c ?k;(case l|c|k=>k_is));(case p58=>dsimp only[L2.Ca];first|k_is|k_exc|rfl);(case p59=>dsimp only[L2.Ca];refine' L4.xl K41.m9 ?l ?c ?k;(case l|c|k=>k_is))
  refine' (have q60:findIn (L2.Ca KX) (.ref ?C14) "today" = some (some (.ref ?C62)):=?p60;have q61:L4.jd (L2.Ca KX) ?C14 "today" "Book.today" (L4.Ge (K41.top 93) 2) ["self"] ?C62:=?p61;have q62:findIn (L2.Ca KX) (.ref ?C14) "all_shown" = some (some (.ref ?C73)):=?p62;have q63:L4.jd (L2.Ca KX) ?C14 "all_shown" "Book.all_shown" (L4.Ge (K41.top 93) 13) ["self"] ?C73:=?p63;have q64:findIn (L2.Ca KX) (.ref ?C14) "made_of" = some (some (.ref ?C74)):=?p64;have q65:L4.jd (L2.Ca KX) ?C14 "made_of" "Book.made_of" (L4.Ge (K41.top 93) 14) ["self"] ?C74:=?p65;have q66:findIn (L2.Ca KX) (.ref ?C9) "strike_all" = some (some (.ref ?C43)):=?p66;have q67:L4.jd (L2.Ca KX) ?C9 "strike_all" "Keeper.strike_all" (L4.Ge (K41.top 79) 20) ["self", "book"] ?C43:=?p67;have q68:findIn (L2.Ca KX) (.ref ?C9) "show_all" = some (some (.ref ?C45)):=?p68;have q69:L4.jd (L2.Ca KX) ?C9 "show_all" "Keeper.show_all" (L4.Ge (K41.top 79) 22) ["self", "book"] ?C45:=?p69;?_);(case p60=>dsimp only[L2.Ca];first|k_is|k_exc|rfl);(case p61=>dsimp only[L2.Ca];refine' L4.xl K41.T4 ?l ?c ?k;(case l|c|k=>k_is));(case p62=>dsimp only[L2.Ca];first|k_is|k_exc|rfl);(case p63=>dsimp only[L2.Ca];refine' L4.xl K41.l3 ?l ?c ?k;(case l|c|k=>k_is));(case p64=>dsimp only[L2.Ca];first|k_is|k_exc|rfl);(case p65=>dsimp only[L2.Ca];refine' L4.xl K41.E4 ?l ?c ?k;(case l|c|k=>k_is));(case p66=>dsimp only[L2.Ca];first|k_is|k_exc|rfl);(case p67=>dsimp only[L2.Ca];refine' L4.xl K41.SV ?l ?c ?k;(case l|c|k=>k_is));(case p68=>dsimp only[L2.Ca];first|k_is|k_exc|rfl);(case p69=>dsimp only[L2.Ca];refine' L4.xl K41.RY ?l ?c ?k;(case l|c|k=>k_is))
  refine' (have q70:findIn (L2.Ca KX) (.ref ?C9) "lay_all" = some (some (.ref ?C46)):=?p70;have q71:L4.jd (L2.Ca KX) ?C9 "lay_all" "Keeper.lay_all" (L4.Ge (K41.top 79) 23) ["self", "book"] ?C46:=?p71;have q72:findIn (L2.Ca KX) (.ref ?C9) "look" = some (some (.ref ?C42)):=?p72;have q73:L4.jd (L2.Ca KX) ?C9 "look" "Keeper.look" (L4.Ge (K41.top 79) 19) ["self", "book"] ?C42:=?p73;have q74:findIn (L2.Ca KX) (.ref ?C9) "looked" = some (some (.ref ?C27)):=?p74;have q75:L4.jd (L2.Ca KX) ?C9 "looked" "Keeper.looked" (L4.Ge (K41.top 79) 4) ["self"] ?C27:=?p75;have q76:findIn (L2.Ca KX) (.ref ?C8) "__init__" = some (some (.ref ?C22)):=?p76;have q77:L4.jd (L2.Ca KX) ?C8 "__init__" "View.__init__" (L4.Ge (K41.top 53) 0) ["self", "every", "look", "words", "pots"] ?C22:=?p77;have q78:findIn (L2.Ca KX) (.ref ?C9) "view_by" = some (some (.ref ?C30)):=?p78;have q79:L4.jd (L2.Ca KX) ?C9 "view_by" "Keeper.view_by" (L4.Ge (K41.top 79) 7) ["self", "accounts"] ?C30:=?p79;?_);(case p70=>dsimp only[L2.Ca];first|k_is|k_exc|rfl);(case p71=>dsimp only[L2.Ca];refine' L4.xl K41.XT ?l ?c ?k;(case l|c|k=>k_is));(case p72=>dsimp only[L2.Ca];first|k_is|k_exc|rfl);(case p73=>dsimp only[L2.Ca];refine' L4.xl K41.hZ ?l ?c ?k;(case l|c|k=>k_is));(case p74=>dsimp only[L2.Ca];first|k_is|k_exc|rfl);(case p75=>dsimp only[L2.Ca];refine' L4.xl K41.n0 ?l ?c ?k;(case l|c|k=>k_is));(case p76=>dsimp only[L2.Ca];first|k_is|k_exc|rfl);(case p77=>dsimp only[L2.Ca];refine' L4.xl K41.oX ?l ?c ?k;(case l|c|k=>k_is));(case p78=>dsimp only[L2.Ca];first|k_is|k_exc|rfl);(case p79=>dsimp only[L2.Ca];refine' L4.xl K41.hX ?l ?c ?k;(case l|c|k=>k_is))
  refine' (have q80:findIn (L2.Ca KX) (.ref ?C9) "view" = some (some (.ref ?C31)):=?p80;have q81:L4.jd (L2.Ca KX) ?C9 "view" "Keeper.view" (L4.Ge (K41.top 79) 8) ["self"] ?C31:=?p81;have q82:findIn (L2.Ca KX) (.ref ?C9) "worth" = some (some (.ref ?C32)):=?p82;have q83:L4.jd (L2.Ca KX) ?C9 "worth" "Keeper.worth" (L4.Ge (K41.top 79) 9) ["self"] ?C32:=?p83;have q84:findIn (L2.Ca KX) (.ref ?C10) "__init__" = some (some (.ref ?C47)):=?p84;have q85:L4.jd (L2.Ca KX) ?C10 "__init__" "Claim.__init__" (L4.Ge (K41.top 81) 0) ["self", "whole"] ?C47:=?p85;have q86:findIn (L2.Ca KX) (.ref ?C14) "__init__" = some (some (.ref ?C60)):=?p86;have q87:L4.jd (L2.Ca KX) ?C14 "__init__" "Book.__init__" (L4.Ge (K41.top 93) 0) ["self", "pots"] ?C60:=?p87;have q88:findIn (L2.Ca KX) (.ref ?C9) "given" = some (some (.ref ?C28)):=?p88;have q89:L4.jd (L2.Ca KX) ?C9 "given" "Keeper.given" (L4.Ge (K41.top 79) 5) ["self"] ?C28:=?p89;?_);(case p80=>dsimp only[L2.Ca];first|k_is|k_exc|rfl);(case p81=>dsimp only[L2.Ca];refine' L4.xl K41.iT ?l ?c ?k;(case l|c|k=>k_is));(case p82=>dsimp only[L2.Ca];first|k_is|k_exc|rfl);(case p83=>dsimp only[L2.Ca];refine' L4.xl K41.WU ?l ?c ?k;(case l|c|k=>k_is));(case p84=>dsimp only[L2.Ca];first|k_is|k_exc|rfl);(case p85=>dsimp only[L2.Ca];refine' L4.xl K41.ZS ?l ?c ?k;(case l|c|k=>k_is));(case p86=>dsimp only[L2.Ca];first|k_is|k_exc|rfl);(case p87=>dsimp only[L2.Ca];refine' L4.xl K41.P5 ?l ?c ?k;(case l|c|k=>k_is));(case p88=>dsimp only[L2.Ca];first|k_is|k_exc|rfl);(case p89=>dsimp only[L2.Ca];refine' L4.xl K41.rV ?l ?c ?k;(case l|c|k=>k_is))
  refine' (have q90:findIn (L2.Ca KX) (.ref ?C9) "paper" = some (some (.ref ?C33)):=?p90;have q91:L4.jd (L2.Ca KX) ?C9 "paper" "Keeper.paper" (L4.Ge (K41.top 79) 10) ["self"] ?C33:=?p91;have q92:L2.Zi (L2.Ca KX) ?C9:=?p92;have q93:L2.Qd (L2.Ca KX) ?C9 "hand":=?p93;have q94:L2.Qd (L2.Ca KX) ?C9 "every":=?p94;have q95:L2.Zi (L2.Ca KX) ?C8:=?p95;have q96:L2.Qd (L2.Ca KX) ?C8 "every":=?p96;have q97:L2.Qd (L2.Ca KX) ?C9 "last_look":=?p97;have q98:L2.Qd (L2.Ca KX) ?C8 "last_look":=?p98;have q99:L2.Qd (L2.Ca KX) ?C9 "gave":=?p99;?_);(case p90=>dsimp only[L2.Ca];first|k_is|k_exc|rfl);(case p91=>dsimp only[L2.Ca];refine' L4.xl K41.l5 ?l ?c ?k;(case l|c|k=>k_is));(case p92=>dsimp only[L2.Ca];refine' ⟨?a,?b,?c,?d⟩;(case a|b|c|d=>k_is));(case p93|p94=>dsimp only[L2.Ca];first|k_is|k_exc|rfl);(case p95=>dsimp only[L2.Ca];refine' ⟨?a,?b,?c,?d⟩;(case a|b|c|d=>k_is));(case p96|p97|p98|p99=>dsimp only[L2.Ca];first|k_is|k_exc|rfl)
  refine' (have q100:L2.Qd (L2.Ca KX) ?C9 "known":=?p100;have q101:L2.Qd (L2.Ca KX) ?C8 "known":=?p101;have q102:L2.Qd (L2.Ca KX) ?C9 "accounts":=?p102;have q103:L2.Zi (L2.Ca KX) ?C14:=?p103;have q104:L2.Qd (L2.Ca KX) ?C14 "claims":=?p104;have q105:L2.Qd (L2.Ca KX) ?C9 "claims":=?p105;have q106:L2.Qd (L2.Ca KX) ?C9 "seen":=?p106;have q107:L2.Qd (L2.Ca KX) ?C9 "asked":=?p107;have q108:L2.Qd (L2.Ca KX) ?C9 "finishing":=?p108;have q109:L2.Od (L2.Ca KX) ?C9 "learn" ?C25:=?p109;?_);(case p100|p101|p102=>dsimp only[L2.Ca];first|k_is|k_exc|rfl);(case p103=>dsimp only[L2.Ca];refine' ⟨?a,?b,?c,?d⟩;(case a|b|c|d=>k_is));(case p104|p105|p106|p107|p108=>dsimp only[L2.Ca];first|k_is|k_exc|rfl);(case p109=>dsimp only[L2.Ca];refine' ⟨?a,?b,?c⟩;(case a|b|c=>k_is))
  refine' (have q110:L2.Zi (L2.Ca KX) ?C7:=?p110;have q111:L2.Qd (L2.Ca KX) ?C7 "pot":=?p111;have q112:L2.Zi (L2.Ca KX) ?C6:=?p112;have q113:L2.Qd (L2.Ca KX) ?C6 "pot":=?p113;have q114:L2.Zi (L2.Ca KX) ?C5:=?p114;have q115:L2.Qd (L2.Ca KX) ?C5 "pot":=?p115;have q116:L2.Od (L2.Ca KX) ?C9 "hold" ?C24:=?p116;have q117:L2.Zi (L2.Ca KX) ?C13:=?p117;have q118:L2.Qd (L2.Ca KX) ?C13 "side":=?p118;have q119:L2.Zi (L2.Ca KX) ?C12:=?p119;?_);(case p110=>dsimp only[L2.Ca];refine' ⟨?a,?b,?c,?d⟩;(case a|b|c|d=>k_is));(case p111=>dsimp only[L2.Ca];first|k_is|k_exc|rfl);(case p112=>dsimp only[L2.Ca];refine' ⟨?a,?b,?c,?d⟩;(case a|b|c|d=>k_is));(case p113=>dsimp only[L2.Ca];first|k_is|k_exc|rfl);(case p114=>dsimp only[L2.Ca];refine' ⟨?a,?b,?c,?d⟩;(case a|b|c|d=>k_is));(case p115=>dsimp only[L2.Ca];first|k_is|k_exc|rfl);(case p116=>dsimp only[L2.Ca];refine' ⟨?a,?b,?c⟩;(case a|b|c=>k_is));(case p117=>dsimp only[L2.Ca];refine' ⟨?a,?b,?c,?d⟩;(case a|b|c|d=>k_is));(case p118=>dsimp only[L2.Ca];first|k_is|k_exc|rfl);(case p119=>dsimp only[L2.Ca];refine' ⟨?a,?b,?c,?d⟩;(case a|b|c|d=>k_is))
  refine' (have q120:L2.Qd (L2.Ca KX) ?C12 "side":=?p120;have q121:L2.Qd (L2.Ca KX) ?C7 "side":=?p121;have q122:L2.Qd (L2.Ca KX) ?C6 "side":=?p122;have q123:L2.Qd (L2.Ca KX) ?C5 "side":=?p123;have q124:L2.Qd (L2.Ca KX) ?C7 "mine":=?p124;have q125:L2.Qd (L2.Ca KX) ?C6 "mine":=?p125;have q126:L2.Qd (L2.Ca KX) ?C5 "mine":=?p126;have q127:L2.Qd (L2.Ca KX) ?C7 "grant":=?p127;have q128:L2.Qd (L2.Ca KX) ?C6 "grant":=?p128;have q129:L2.Qd (L2.Ca KX) ?C5 "grant":=?p129;?_);(case p120|p121|p122|p123|p124|p125|p126|p127|p128|p129=>dsimp only[L2.Ca];first|k_is|k_exc|rfl)
  refine' (have q130:L2.Qd (L2.Ca KX) ?C7 "may":=?p130;have q131:L2.Qd (L2.Ca KX) ?C6 "may":=?p131;have q132:L2.Qd (L2.Ca KX) ?C5 "may":=?p132;have q133:L2.Qd (L2.Ca KX) ?C7 "strikes":=?p133;have q134:L2.Qd (L2.Ca KX) ?C6 "strikes":=?p134;have q135:L2.Qd (L2.Ca KX) ?C5 "strikes":=?p135;have q136:L2.Mk (L2.Ca KX) ?C6 ?C15:=?p136;have q137:L2.Mk (L2.Ca KX) ?C9 ?C23:=?p137;have q138:L2.Od (L2.Ca KX) ?C9 "words" ?C26:=?p138;have q139:L2.Od (L2.Ca KX) ?C9 "account" ?C29:=?p139;?_);(case p130|p131|p132|p133|p134|p135=>dsimp only[L2.Ca];first|k_is|k_exc|rfl);(case p136|p137=>dsimp only[L2.Ca];refine' ⟨?a,?b,?c,?d⟩;(case a|b|c|d=>k_is));(case p138|p139=>dsimp only[L2.Ca];refine' ⟨?a,?b,?c⟩;(case a|b|c=>k_is))
  refine' (have q140:L2.Od (L2.Ca KX) ?C7 "word" ?C20:=?p140;have q141:L2.Od (L2.Ca KX) ?C6 "word" ?C18:=?p141;have q142:L2.Qd (L2.Ca KX) ?C14 "day":=?p142;have q143:L2.Qd (L2.Ca KX) ?C12 "day":=?p143;have q144:L2.Od (L2.Ca KX) ?C14 "next_day" ?C63:=?p144;have q145:L2.Qd (L2.Ca KX) ?C14 "pots":=?p145;have q146:L2.Qd (L2.Ca KX) ?C8 "pots":=?p146;have q147:L2.Od (L2.Ca KX) ?C14 "check_pot" ?C61:=?p147;have q148:L2.Qd (L2.Ca KX) ?C14 "shown":=?p148;have q149:L2.Od (L2.Ca KX) ?C14 "show" ?C64:=?p149;?_);(case p140|p141=>dsimp only[L2.Ca];refine' ⟨?a,?b,?c⟩;(case a|b|c=>k_is));(case p142|p143=>dsimp only[L2.Ca];first|k_is|k_exc|rfl);(case p144=>dsimp only[L2.Ca];refine' ⟨?a,?b,?c⟩;(case a|b|c=>k_is));(case p145|p146=>dsimp only[L2.Ca];first|k_is|k_exc|rfl);(case p147=>dsimp only[L2.Ca];refine' ⟨?a,?b,?c⟩;(case a|b|c=>k_is));(case p148=>dsimp only[L2.Ca];first|k_is|k_exc|rfl);(case p149=>dsimp only[L2.Ca];refine' ⟨?a,?b,?c⟩;(case a|b|c=>k_is))
  refine' (have q150:L2.Od (L2.Ca KX) ?C14 "today" ?C62:=?p150;have q151:L2.Od (L2.Ca KX) ?C14 "all_shown" ?C73:=?p151;have q152:L2.Od (L2.Ca KX) ?C14 "made_of" ?C74:=?p152;have q153:L2.Od (L2.Ca KX) ?C9 "strike_all" ?C43:=?p153;have q154:L2.Od (L2.Ca KX) ?C9 "show_all" ?C45:=?p154;have q155:L2.Od (L2.Ca KX) ?C9 "lay_all" ?C46:=?p155;have q156:L2.Od (L2.Ca KX) ?C9 "look" ?C42:=?p156;have q157:L2.Od (L2.Ca KX) ?C9 "looked" ?C27:=?p157;have q158:L2.Mk (L2.Ca KX) ?C8 ?C22:=?p158;have q159:L2.Od (L2.Ca KX) ?C9 "view_by" ?C30:=?p159;?_);(case p150|p151|p152|p153|p154|p155|p156|p157=>dsimp only[L2.Ca];refine' ⟨?a,?b,?c⟩;(case a|b|c=>k_is));(case p158=>dsimp only[L2.Ca];refine' ⟨?a,?b,?c,?d⟩;(case a|b|c|d=>k_is));(case p159=>dsimp only[L2.Ca];refine' ⟨?a,?b,?c⟩;(case a|b|c=>k_is))
  refine' (have q160:L2.Od (L2.Ca KX) ?C9 "view" ?C31:=?p160;have q161:L2.Od (L2.Ca KX) ?C9 "worth" ?C32:=?p161;have q162:L2.Qd (L2.Ca KX) ?C13 "whole":=?p162;have q163:L2.Qd (L2.Ca KX) ?C12 "whole":=?p163;have q164:L2.Zi (L2.Ca KX) ?C11:=?p164;have q165:L2.Qd (L2.Ca KX) ?C11 "whole":=?p165;have q166:L2.Zi (L2.Ca KX) ?C10:=?p166;have q167:L2.Qd (L2.Ca KX) ?C10 "whole":=?p167;have q168:L2.Mk (L2.Ca KX) ?C11 ?C47:=?p168;have q169:L2.Mk (L2.Ca KX) ?C14 ?C60:=?p169;?_);(case p160|p161=>dsimp only[L2.Ca];refine' ⟨?a,?b,?c⟩;(case a|b|c=>k_is));(case p162|p163=>dsimp only[L2.Ca];first|k_is|k_exc|rfl);(case p164=>dsimp only[L2.Ca];refine' ⟨?a,?b,?c,?d⟩;(case a|b|c|d=>k_is));(case p165=>dsimp only[L2.Ca];first|k_is|k_exc|rfl);(case p166=>dsimp only[L2.Ca];refine' ⟨?a,?b,?c,?d⟩;(case a|b|c|d=>k_is));(case p167=>dsimp only[L2.Ca];first|k_is|k_exc|rfl);(case p168|p169=>dsimp only[L2.Ca];refine' ⟨?a,?b,?c,?d⟩;(case a|b|c|d=>k_is))
  refine' (have q170:L2.Od (L2.Ca KX) ?C9 "given" ?C28:=?p170;have q171:L2.Od (L2.Ca KX) ?C9 "paper" ?C33:=?p171;?_);(case p170|p171=>dsimp only[L2.Ca];refine' ⟨?a,?b,?c⟩;(case a|b|c=>k_is));refine⟨λn=>([?C0,?C1,?C2,0,?C4,?C5,?C6,?C7,?C8,?C9,?C10,?C11,?C12,?C13,?C14,?C15,0,0,?C18,0,?C20,0,?C22,?C23,?C24,?C25,?C26,?C27,?C28,?C29,?C30,?C31,?C32,?C33,0,0,0,0,0,0,0,0,?C42,?C43,0,?C45,?C46,?C47,0,0,0,0,0,0,0,0,0,0,0,0,?C60,?C61,?C62,?C63,?C64,0,0,0,0,0,0,0,0,?C73,?C74]:List Addr).getD n 0,(K41.tx (L2.Ca KX)).Im,K41.vV _,?_⟩;have tj:∀ t∈(K41.tx (L2.Ca KX)).Im,∀ t'∈(K41.tx (L2.Ca KX)).Im,t'.P=t.P->t'=t:=λt h t' h' _=>(bg.mp h').trans (bg.mp h).symm;exact K41.fZ ⟨h__law_cell_at,h__law_pots,h_is_whole,h_is_between,h_check_span,q39,q41,h_are_ties,h_are_shares,h_is_number,h_is_stand,h_stand,h_first,q43,h_first_account,q45,h__law_refused,q47,q49,h__law_no_pot,q51,q53,h__law_account_right,q55,q57,h_is_word,q59,q61,q63,q65,q67,q69,q71,q73,q75,h_read_stand,h_read_pots,h_all_choices,h_lots_by_word,h_sum_of,h_least_paper,h_chosen_readings,L4.aZ KX G h_paper TT (by decide),h_worth,h_stands_told,q77,q79,q81,q83,h__law_looks,h_is_hand,h_makes_a_pot,h_checked_pots,q85,h_whole_of,q87,q89,q91,h_law,kh,dg,Uu,Zq,sr,zh,kq,gd,ui,mi,Lu,aj,Do,lh,Wr,bj,xu,ur,Lf,Zg,Dh,zg,ki,rf,Ah,Eh,Ch,Xj KX G q0,q1,Xj KX G q2,q3,Xj KX G q4,q5,Xj KX G q6,q7,q8,q9,q10,q11,q12,q13,q14,q15,q16,q17,q18,q19,q20,q21,q22,q23,q24,q25,q26,q27,q92,q93,q94,q95,q96,q97,q98,q99,q100,q101,q102,q103,q104,q105,q106,q107,q108,q109,q110,q111,q112,q113,q114,q115,q116,q117,q118,q119,q120,q121,q122,q123,q124,q125,q126,q127,q128,q129,q130,q131,q132,q133,q134,q135,Xj KX G q29,q136,Xj KX G q32,q137,q138,q139,q140,q141,q142,q143,q144,q145,q146,q147,q148,q149,q150,q151,q152,q153,q154,q155,q156,q157,Xj KX G q31,q158,q159,q160,q161,q162,q163,q164,q165,q166,q167,Xj KX G q34,q168,Xj KX G q37,q169,q170,q171,TT,Xj KX G TT.bm,tj⟩
