import PyProof.Rows.All
import OpenK.KLine
import OpenK.KOwn
import KE.KNestM
import KE.KDictOf
import Wide.FinOn
import Lean
import PyProof.EqAt
import PyProof.EqKinds
import PyProof.TupleCall
import PyProof.NeKinds
import PyProof.NsDelKeeps
import KE.KTryMore
import PyProof.WalksMore
import PyProof.Rows.SetFrom
import KE.KEqDict
import PyProof.ToksMono
import PyProof.StrCalls6
import PyProof.StrBlock2
import PyProof.SliceStr2
import PyProof.StrLawsTight
import PyProof.InstStoreFacts
import PyProof.Rows.FStr
import PyProof.FactsAll.set
import KE.KDictLaws
import KE.KIntText
import PyProof.Rows.StrWeight2
import PyProof.StrWalks
import PyProof.StrBlockH
import PyProof.WalksEnum
import PyProof.ZipIter
import PyProof.EnumMake
import PyProof.FitsReplace
import PyProof.StrLawsIn
import PyProof.Rows.SortWalk
import PyProof.DictUpdate
import KE.KDictList
import KE.KDictSum
import KE.KPairComp
import PyProof.FactsAll.dict
import KE.KMinKey
import KE.KLam
import PyProof.DictWalks
import PyProof.DictValues
import PySem.Challenge.RW_sidebook_k43_two_hands_agree
set_option Elab.async false
set_option linter.all false
set_option maxRecDepth 100000
namespace PySem.W.Fast
def tw5729587197633674794:=0
def tw9259029739297239135:=0
def tw13505361881074083946:=0
def tw861502493610598483:=0
def tw18124581676290672360:=0
def tw329941283463616030:=0
def tw4338949390525040424:=0
def tw7774113678449685934:=0
def tw2580988884595121190:=0
def tw13406242734642179557:=0
def tw8549567097830819671:=0
def tw11736338228926984083:=0
def tw16008359073273489704:=0
def tw6871868339806680968:=0
def tw10784835557568832518:=0
def tw10619231889807973815:=0
def tw5486008376365147428:=0
def tw13606521132961772581:=0
def tw1968430746851473036:=0
def tw16060203290454839817:=0
def tw12550775161083096063:=0
def tw12717557048674177747:=0
def tw2576523973992343609:=0
def tw12894966596032860446:=0
def tw10903146660539688938:=0
def tw5872530126848033075:=0
def tw18441984877410159329:=0
def tw577049184839899653:=0
def tw16899829786455025840:=0
def tw13160504802963445071:=0
def tw591959016527307005:=0
def tw977512076041815475:=0
def tw12147665669636231765:=0
def tw36298284907231195:=0
def tw12843764043397292189:=0
def tw13462424878891718212:=0
def tw11326235942716756430:=0
def tw4002271763688809667:=0
def tw4684226298888400098:=0
def tw4817042036850715440:=0
def tw15062127977220616739:=0
def tw11843415546741370313:=0
def tw11844019762684407370:=0
def tw5239429619861171699:=0
def tw13757698761724263525:=0
def tw8997383693586321770:=0
def tw17862349074038704544:=0
def tw10958628066121416707:=0
def tw2046362190076281809:=0
def tw3436067635600285980:=0
def tw10539347186207431242:=0
def tw17823556299335049440:=0
def tw8865387616306378214:=0
def tw6124413428159637790:=0
def tw16315454978102356719:=0
def tw2773992215795510196:=0
def tw15621116118777243554:=0
def tw8331849164307833061:=0
def tw6327569006664949090:=0
def tw2358075552688931204:=0
def tw7363655315013122544:=0
def tw12058884036946728934:=0
def tw16902085369446701243:=0
def tw9456574344343218679:=0
def tw17155049476370652306:=0
def tw17678831435119133177:=0
def tw13032259773685033708:=0
def tw12382822922155266910:=0
def tw7485256538410118956:=0
def tw9223045988441327695:=0
def tw6194202620331982285:=0
def tw8274446707539698164:=0
def tw2466311954974566718:=0
def tw10295913840692754127:=0
def tw12125097214300078407:=0
def tw5832146486336120021:=0
def tw5341297951324810720:=0
def tw2424988045566436242:=0
def tw14731159723063609737:=0
def tw6472337539984862722:=0
def tw2868442198168577507:=0
def tw8498532028676091811:=0
def tw18248855084332350957:=0
def tw14935156969734317764:=0
def tw2768188642542392010:=0
def tw11368310244458860372:=0
def tw15504105790966721872:=0
def tw9461873434466728008:=0
def tw7151132215420815488:=0
def tw18328257000508772394:=0
def tw3303267245142563540:=0
def tw4772062507164038959:=0
def tw18400553757987027518:=0
def tw11267315532378154396:=0
def tw8115137120850386438:=0
def tw14398111036562950334:=0
def tw15433366417846715934:=0
def tw13394580363473044415:=0
def tw5467331546851215429:=0
def tw15402603294489630176:=0
def tw6798380500665416597:=0
def tw9972681490609642005:=0
def tw6084841979344569690:=0
def tw16860917588515726111:=0
def tw17883462748017686043:=0
def tw15541240446876304647:=0
def tw11033627544408312984:=0
def tw10519837036962490867:=0
def tw18031968618487185184:=0
def tw1840220198017710270:=0
def tw5289818103960998278:=0
def tw7322748291113730364:=0
def tw15685335758407661847:=0
def tw7212858340449540239:=0
def tw11489344026974618541:=0
def tw10911716485165742097:=0
def tw7592715696027808041:=0
def tw14538725608371270373:=0
def tw7873786274422454737:=0
def tw3592811809046731828:=0
def tw13034982811429478159:=0
def tw6690350156832105676:=0
def tw13385558918117058561:=0
def tw12099505692703838030:=0
def tw15771247859494662083:=0
def tw11824586356888161845:=0
def tw17937168697417666835:=0
def tw7050804516273991350:=0
end PySem.W.Fast
section
open PySem PySem.W PyProof.Rows
set_option maxHeartbeats 0
open_top hd for PySem.Challenge.rw_sidebook_k43_two_hands_agree
end
def Fe:=@beq_eq_false_iff_ne
def sh:=@beq_iff_eq
def cc:=@congrArg
def Ua:=@decide_eq_false
def lb:=@decide_eq_true
def jc:=@decide_eq_true_eq
def yi:=@if_false
def ka:=@if_neg
def ia:=@if_pos
def xg:=@if_true
def Pn:=@or_false
open Array renaming append_assoc->wl,getElem?_eq_getElem->ui,getElem?_eq_some_iff->Gd,getElem?_extract->Kr,getElem?_push->Rt,getElem?_toList->Wr,length_toList->qg,toArray_toList->Ys
open Bool renaming and_assoc->Ry,and_eq_true->Ca,and_false->Zp,and_self->vA,false_and->Yp,false_eq_true->Kg,false_ne_true->ub,false_or->uA,or_eq_true->Ig
open Classical renaming choose_spec->zaB
open Decidable renaming byContradiction->zaF
open Function renaming comp_def->Ws
open Int renaming fdiv_eq_ediv_of_nonneg->Bq,le_refl->eg,min_def->NI,sub_eq_add_neg->bw
open List renaming all_cons->Ye,all_eq_true->Vb,all_map->iC,all_nil->kC,any_append->Qh,any_cons->Ze,any_eq_false->Ov,any_eq_true->jg,append_assoc->Wg,append_nil->Ph,drop_eq_getElem_cons->rg,drop_eq_nil_of_le->Yr,filterMap_cons->Xh,filter_cons->ye,filter_eq_self->ug,find?_cons->Qo,foldl_cons->Cj,getD_eq_getElem?_getD->Md,getElem?_append_left->Hb,getElem?_append_right->Ld,getElem?_cons_zero->gj,getElem?_eq_getElem->Ub,getElem?_eq_none_iff->qc,getElem?_eq_some_iff->ja,getElem?_map->jb,getElem?_of_mem->Pt,getElem?_replicate->Jr,getElem?_set->Wc,getElem?_set_ne->fk,getElem?_set_self->Df,getElem?_take_of_lt->Rq,getElem?_toArray->Kj,getElem_mem->fj,getElem_of_mem->Hk,length_append->Ia,length_cons->Fb,length_drop->Hw,length_filter_le->Lj,length_map->zb,length_nil->Oo,length_set->No,length_singleton->Ts,length_take->uh,lookup_cons->yb,map_append->Ic,map_cons->Ra,map_map->dc,map_nil->Vr,mem_append->Kf,mem_append_left->ib,mem_append_right->Ya,mem_cons->Ea,mem_cons_of_mem->Na,mem_cons_self->Ha,mem_filter->Jf,mem_filterMap->Ll,mem_map->gb,mem_map_of_mem->Tc,mem_of_getElem?->Fa,mem_range->Xp,mem_singleton->oi,nil_append->Qx,nodup_append->We,nodup_cons->ge,not_mem_nil->we,of_mem_zip->Ko,range_succ_eq_map->Xr,set_append_left->Tt,set_append_right->Us,set_cons_succ->Cc,set_cons_zero->Dc,size_toArray->wa,take_length->ej
open List.Pairwise renaming filter->fF,imp->eF
open List.Perm renaming cons_inv->zaE
open List.cons renaming injEq->Qt
open Nat renaming le_of_eq->bF,le_of_lt->og,le_refl->ya,le_succ->Jh,le_trans->Ib,lt_irrefl->Zd,lt_of_le_of_lt->Wv,lt_of_lt_of_le->Sa,lt_succ_of_lt->Pi,lt_succ_self->pd,lt_trans->Xs,ne_of_gt->fh,ne_of_lt->Pa,not_lt->Xv,one_ne_zero->Vy,succ_le_succ->Nx,zero_le->Sg
open Ne renaming symm->Xe
open Option renaming bind_eq_some_iff->Oi,getD_none->Ru,isSome_iff_exists->Ve,isSome_map->Nl,map_eq_some_iff->Eb,map_some->On
open Option.some renaming inj->Lb,injEq->Xj
open Prod renaming ext->uX
open Prod.mk renaming inj->Mr
open PyProof.Rows renaming AllBare->Ii,IntsAre->Ep,IsTup->Su,callWith_builtin1->KI,callWith_type1->ae,iadd_int->JI,slot_tuple_getitem->Rc,Subscript_->qA,args_tuple_getitem->pA,boot_list->Gm,boot_min->NN,boot_range->oA,boot_sum->Px,boot_tuple->gh,entry_tuple_getitem->Qy,envOfC->yg,get?_update_seq->OI,seqObj->sm,slicePart_none->JN,subscriptTail_builtinR->Tv,tupleItemsOf_->vX
open PyProof.Rows.IsTup renaming new->Rv
open PySem renaming Around->Qa,BindsTo->yh,Builtin->dw,CmpOp->Uq,Drawn->mC,Env->qh,ExceptHandler->Tg,Expr->Ma,FuncData->qf,GenState->Dp,IsPair->RN,IsPart->qm,Keyword->Ek,Model->lm,NameKind->Ff,Obj->jd,Operator->om,OsState->pC,PassesOwn->Yj,PlainAttrs->Eo,Pos->Ce,Program->Aa,boot_len->Jb,mem_of_lookup->jf,Result->zA,Sem->bq,SetTable->zh,Shared->aa,World->Wa,assign->mm,assignEach->Te,atKey->Uu,attributeBase->ee,backTo->Vc,backToKw->Zj,behindInMarks->Ge,behindIsImport->PN,binaryOp->Be,bindC->Ux,bindL->Sx,bindSpecialIfBound?->Yy,callSpecialIfBound?->Xy,callWith->Vx,call_list_seq->LX,call_meets->rA,call_meetsIn->Cp,callerA->Fp,cellsFrom->lF,checkBuiltinCall->pF,cmpInfo_Eq->xA,codeAny_builtin->xi,codeAny_call_builtin->Ox,codeAny_handlers_test->Jw,codeAny_mono->Bk,compareOp->Sb,concat_meets->Pv,eval->Yb,foldedSetIterable->xh,getItem->sj,getMethod->Hm,handleBy->QN,holding->Jg,inplaceOp->iF,intBits_le_64->tX,isTrue->yA,keywordEach->mh,noFill_tuple_add->Cq,noteFrame->nh,oneThing_ref->aw,plainId_quiet->Dj,rangeSize_one->rX,rawInt->zf,richCompare->tm,seqIndex?->Tu,seqIndex_neg->Sv,seqIndex_of->Mx,seq_tuple_add->tu,setFlight->ak,setItem->cw,sliceBounds->ji,slot_list_getitem->gC,standAt->Dk,starEach->qa,storeName->gF,subscripted->Vq,swappedStores->Rn,swapsWith->Qi,swapsWithSole->Qn,sysModules->jh,tryCompare->kt,tupleKind->Fq,tupleKind_room_in1->Yi,typeOf->ft,valueAt->Zr,wpAny_Call_Name_kw->Uf,wpAny_Call_method_late->Vv,wpAny_Name->lA,wpAny_askSetting->dF,wpAny_assign_Name->cC,wpAny_bind->da,wpAny_cRoomFor->dt,wpAny_call->Co,wpAny_callSpecial?_slot->Qu,wpAny_call_entry->Dq,wpAny_comprehension_free->wu,wpAny_execs_cons->aF,wpAny_execs_nil->si,wpAny_field->im,wpAny_handleBy_cons->Sy,wpAny_holding->Qd,wpAny_isSame_ref_other->Ck,wpAny_isTrue_Compare1->Gw,wpAny_letGo->Tq,wpAny_load->nA,wpAny_loadName_cell->Py,wpAny_loadName_local->Lx,wpAny_loadPart_at->qe,wpAny_mono->Hc,wpAny_newFunctionEnv->km,wpAny_newList->MX,wpAny_newObj_type->pf,wpAny_passesOwn->ag,wpAny_pure->ua,wpAny_pyIter_enum->jC,wpAny_pyIter_list->Ap,wpAny_pyIter_tuple->sA,wpAny_pyIter_zip->cF,wpAny_seqItems->Zs,wpAny_sequenceKey->dC,wpAny_standAt->qu,wpAny_truthy_bool->Td,wpAny_tryCatch->Ef,wpAny_typeOf->Qv,wpAny_updateSeq->Lr,wp_field_iff->Zv,wp_setField_iff->LI
open PySem.Around renaming frames_deeper->Ur
open PySem.Bind renaming checkArgs->Xg
open PySem.BindsTo renaming of_defaults->Dh
open PySem.Builtin renaming bitAnd->Yh
open PySem.Builtin.List renaming listTooLong->Im
open PySem.Builtin.Range renaming rangeSize->jF
open PySem.Builtin.Slice renaming sliceAdjust->Ol,sliceApplied->nF,slicePartIndex->mF,slicePlaces->Lf
open PySem.Builtin.Tuple renaming tupleExact->Vf,tupleHashOf->oF,tupleItemsOf->yl
open PySem.Calls renaming Name_function_global->zp,callWith_builtin->nj,evalArgs_plain->Wj
open PySem.CmpOf renaming ints_lt->Uy
open PySem.CmpOp renaming In->ON,NotIn->nC
open PySem.DictEntry renaming refKey->zaG
open PySem.EntryCells renaming newEntry->Gq
open PySem.F renaming cmpArgs_eq->LN,cmpEntry_eq->QI,cmpKind_eq->MN,cmpSplit_eq->RI,cmp_object->Do,args_tuple_add_2->ti,entry_min_loop->Zi,entry_tuple_add->Gi,excBase_ValueError->ve,plainAttrs_dict->Eg,plainAttrs_list->Bd,plain_min_loop->yf,slot_dict_delitem->Po,slot_dict_items->Hi,slot_dict_pop->Sq,slot_dict_setdefault->An,slot_list_append->Re,slot_tuple_add->Xi,type_dict_items->aq,type_list_append->Se
open PySem.Heap renaming FlyingW->oC,HeldW->cq,SameBut->kg,get?_eq_some->Yv,get?_push_of_some->na,get?_push_size->qb,get?_update_other->rj,get?_update_self->Ss,lt_size->za,size_push->Vg
open PySem.Heap.DictOf renaming new->KN
open PySem.Heap.IsSliceOf renaming new->fC
open PySem.Heap.IsTuple renaming push->MI
open PySem.Heap.SameBut renaming update->ij
open PySem.IsL renaming update->zaA
open PySem.Manifest renaming signature?->Ah
open PySem.NameKind renaming cell->vd,free->Gb
open PySem.Obj renaming data_mapFields->jm,mapFields->bj,mapSeq->Qg
open PySem.PassesOwn renaming leaving->zaC,looking->zaD
open PySem.Sem renaming wp_bind'->zn,wp_mono->vu
open PySem.SeqAt renaming EqAt->Xd,RcAt->ki,RcNeAt->Zh,in_listAt->Iw,in_tupleAt->Uv,notIn_listAt->uu,notIn_tupleAt->Ot
open PySem.SeqAt.EqAt renaming bool_bool->AX,bool_int->BX,bool_none->zX,bool_str->DX,int_bool->FX,int_int->GX,int_none->EX,int_str->Pq,none_bool->wX,none_int->xX,none_str->yX,same->Ml,str_bool->IX,str_int->Qq,str_none->HX,str_str->JX
open PySem.SetTable renaming below->Vu,fresh->Wu,has->Kw,insertAt->Ik
open PySem.SetTable.below renaming go->Gp
open PySem.Str renaming ofString->jt
open PySem.Value renaming bool->xl,int->aj,isInt->lC,isStrOf->Wy,none->Mc,ref->Ec,str->SI
open PySem.W.WData renaming int->UI
open PySem.Walks renaming list->Bp
open PySem.WalksT renaming zip2->wA
open PySem.Within renaming cons->II
noncomputable section
namespace L2
open PySem PySem.Spec PyProof.Rows
abbrev ud:=Sum Int Str
noncomputable def CA:ud->Value->Bool
 | .inl k,v=>lC k v
 | .inr x,v=>Wy x v
noncomputable def Ĉ(w:Wa):ud->Int
 | .inl k=>hashInt k
 | .inr x=>hashStr w x
theorem vv:∀ {k:ud} {v:Value},CA k v=true->(∃ i t,k=Sum.inl i/\v=aj i t)\/(∃ x t,k=Sum.inr x/\v=SI x t)
 | .inl i,v,h=>by
  obtain⟨t,e⟩:=Value.isInt_shape h;exact .inl ⟨i,t,rfl,e⟩
 | .inr x,v,h=>by
  obtain⟨t,e⟩:=Value.isStrOf_shape h;exact .inr ⟨x,t,rfl,e⟩
theorem Ō(i:Int)(t:Tok):CA (.inl i) (.int i t)=true:=by simp[CA,lC]
theorem Z5(x:Str)(t:Tok):CA (.inr x) (.str x t)=true:=by simp[CA,Wy]
theorem X5(a b:Int):decide ((Sum.inl a:ud)=Sum.inl b)=(a == b):=by
 by_cases e:a=b
 ·subst e;simp
 ·have h:¬ (Sum.inl a:ud)=Sum.inl b:=λq=>e (Sum.inl.inj q);rw[Ua h];exact(Fe.mpr e).symm
theorem V3(a b:Str):decide ((Sum.inr a:ud)=Sum.inr b)=decide (a=b):=by
 by_cases e:a=b
 ·subst e;simp
 ·have h:¬ (Sum.inr a:ud)=Sum.inr b:=λq=>e (Sum.inr.inj q);rw[Ua h,Ua e]
theorem N5(a:Int)(b:Str):decide ((Sum.inl a:ud)=Sum.inr b)=false:=Ua (λq=>nomatch q)
theorem Y8(a:Str)(b:Int):decide ((Sum.inr a:ud)=Sum.inl b)=false:=Ua (λq=>nomatch q)
def um(c:Aa)(w:Wa):PySem.KeyKind c w ud where
 is:=CA
 hash:=Ĉ w
 inj:=λv a b g f=>by
  rcases vv g with⟨i,t,rfl,rfl⟩|⟨x,t,rfl,rfl⟩
  ·rcases vv f with⟨j,u,rfl,e⟩|⟨y,u,rfl,e⟩
   ·injection e with e1 _;rw[e1]
   ·exact nomatch e
  ·rcases vv f with⟨j,u,rfl,e⟩|⟨y,u,rfl,e⟩
   ·exact nomatch e
   ·injection e with e1 _;rw[e1]
 byValue:=λk v h=>by
  rcases vv h with⟨i,t,rfl,rfl⟩|⟨x,t,rfl,rfl⟩<;>rfl
 pyHash:=λd h=>by
  rcases vv d with⟨i,t,rfl,rfl⟩|⟨x,t,rfl,rfl⟩
  ·exact wpAny_pyHash_int h
  ·exact wpAny_pyHash_str h
 eqBool:=λl d h=>by
  rcases vv l with⟨i,t,rfl,rfl⟩|⟨x,t,rfl,rfl⟩
  ·rcases vv d with⟨j,u,rfl,rfl⟩|⟨y,u,rfl,rfl⟩
   ·rw[X5]at h;exact wpAny_eqBool_int h
   ·rw[N5]at h;exact Pq i t y u _ _ _ _ h
  ·rcases vv d with⟨j,u,rfl,rfl⟩|⟨y,u,rfl,rfl⟩
   ·rw[Y8]at h;exact Qq x t j u _ _ _ _ h
   ·rw[V3]at h;exact wpAny_eqBool_str h
 «strs»:=λk x t v h=>by
  rcases vv h with⟨i,u,rfl,e⟩|⟨y,u,rfl,e⟩
  ·exact nomatch e
  ·injection e with e1 _;subst e1;cases v<;>rfl
theorem i4(a:Aa)(w:Wa)(i:Int)(t:Tok):(um a w).is (.inl i) (.int i t)=true:=Ō i t
theorem sZ(a:Aa)(w:Wa)(x:Str)(t:Tok):(um a w).is (.inr x) (.str x t)=true:=Z5 x t
inductive V where
 |wc|bl (b:Bool)|int (i:Int)|str (x:Str)|VG (b:Array UInt8)|Gz (b:UInt64)|ref (a:Addr)|ty (n:String)
 deriving DecidableEq
def Pd:V->Value->Prop
 | .wc,u=>u=Mc
 | .bl b,u=>u=xl b
 | .int i,u=>∃ t,u=aj i t
 | .str x,u=>∃ t,u=SI x t
 | .VG b,u=>∃ t,u=Value.bytes b t
 | .Gz b,u=>∃ t,u=Value.float b t
 | .ref a,u=>u=Ec a
 | .ty n,u=>u=Value.type n
abbrev ue:List V->List Value->Prop:=Paired Pd
theorem ue.length(r:ue xs a):xs.length=a.length:=Paired.length r
theorem ue.get:∀ {xs:List V} {us:List Value} {i:Nat} {x:V},ue xs us->xs[i]?=some x->∃ u,us[i]?=some u/\Pd x u
 |_,_,_,_,.nil,e=>by simp at e
 |_,_,0,_,.cons r _,e=>by simp at e;subst e;exact⟨_,rfl,r⟩
 |_,_,i+1,x,.cons _ t,e=>by
  obtain⟨u,a,b⟩:=ue.get t (by simpa using e);exact⟨u,by simpa using a,b⟩
theorem ue.set(r:Pd x u):∀ {xs:List V} {us:List Value} (i:Nat),ue xs us->ue (xs.set i x) (us.set i u)
 |_,_,_,.nil=>.nil
 |_,_,0,.cons _ t=>.cons r t
 |_,_,i+1,.cons q t=>.cons q (ue.set r i t)
theorem ue.append:∀ {xs a:List V} {us ws:List Value},ue xs us->ue a ws->ue (xs++a) (us++ws)
 |_,_,_,_,.nil,s=>s
 |_,_,_,_,.cons r t,s=>.cons r (ue.append t s)
theorem ue.take:∀ {xs:List V} {us:List Value} (n:Nat),ue xs us->ue (xs.take n) (us.take n)
 |_,_,0,_=>.nil
 |_,_,_+1,.nil=>.nil
 |_,_,n+1,.cons r t=>.cons r (ue.take n t)
theorem ue.drop:∀ {xs:List V} {us:List Value} (n:Nat),ue xs us->ue (xs.drop n) (us.drop n)
 |_,_,0,r=>r
 |_,_,_+1,.nil=>.nil
 |_,_,n+1,.cons _ t=>ue.drop n t
theorem ue.none_of:∀ {xs:List V} {us:List Value} {i:Nat},ue xs us->xs[i]?=none->us[i]?=none:=fun {xs us i} r e=>by
 have a:=r.length;have b:=qc.mp e;exact qc.mpr (by omega)
def Zo:Option V->Option Value->Prop
 |some v,some u=>Pd v u
 |none,none=>True
 |_,_=>False
def KV{a:Type}:List (a × V)->List (a × Value)->Prop:=Paired λ(p:a × V) (q:a × Value)=>p.1=q.1/\Pd p.2 q.2
noncomputable def kV:ud->V
 | .inl i=>.int i
 | .inr x=>.str x
inductive HO where
 |la (xs:List V)
 |Ka (xs:List V)
 |dK (kvs:List (ud × V))|dT (kvs:List (List ud × V))
 |set (S:Int->Bool) (n:Nat)
 |Jd (C dx:Addr) (fs:List (Str × V))
 |own (x:Addr)
 |xd (fs:List (Str × V))
 |met (f x:Addr)
 |IH (lo hi:Int)
 |vc (o:jd) (u:HO)
 |Um (ps:Array Value)
 |ext (φ:Heap->Prop)
abbrev Hp:=Addr->Option HO
noncomputable def pc(H:Hp)(a:Addr)(o:HO):Hp:=λb=>if b=a then some o else H b
theorem vh:pc H a o a=some o:=by unfold pc;rw[ia rfl]
theorem de(h:b≠a):pc H a o b=H b:=by unfold pc;rw[ka h]
theorem HN{H:Hp}(h:H a=some o)(c:H b=some u)(d:o≠u):a≠b:=by
 intro e;subst e;rw[h]at c;exact d (Lb c)
theorem kq{H:Hp}(h:H a=some o)(c:H b=none):a≠b:=by
 intro e;subst e;rw[h]at c;cases c
section
variable(P:Aa)(w:Wa)
def Ym(H:Hp)(h:Heap)(a:Addr):HO->Prop
 | .la xs=>xs.length<=sizeLine/\∃ (b:List Value) (n:Nat),ue xs b/\h.get? a=some { cls:=.type "list",data:=.seq b.toArray n }
 | .Ka xs=>xs.length<=sizeLine/\∃ b:List Value,ue xs b/\Su h a b.toArray
 | .dK c=>c.length<=sizeLine/\(a == jh)=false/\∃ l,KV c l/\h.DictOf (um P w) a l
 | .dT c=>c.length<=sizeLine/\(a == jh)=false/\∃ xs:List (List ud × Addr × Value),
   Paired (λ(p:List ud × V) (q:List ud × Addr × Value)=>p.1=q.1/\H q.2.1=some (.Ka (p.1.map kV))/\Pd p.2 q.2.2) c xs/\
   ∃ o i m,h.get? a=some o/\o.ExactDict/\o.data=.dict i m/\i.toList=xs.map (entryOfKey (Fq (um P w)))/\(xs.map (·.1)).Nodup
 | .set S n=>h.SetOf (intKind P w) a S n
 | .Jd C g e=>H g=some (.own a)/\e.length<=1000/\g≠a/\h.get? a=some (W.instObj C g)/\
   ∃ d,h.Ns1 g d/\(∀ f,Zo (e.lookup f) (d f))/\PySem.Within d (e.map (·.1))
 | .own _=>∃ o,h.get? a=some o
 | .xd e=>∃ d,h.Ns1 a d/\∀ f,Zo (e.lookup f) (d f)
 | .IH lo r=>∃ t u v,h.get? a=some { cls:=.type "range",data:=.fields #[.int lo t,.int r u,.int 1 v] }
 | .vc o u=>h.get? a=some o/\Ym H h a u
 | .Um s=>h.get? a=some { cls:=.none,data:=.fields s }
 | .met f x=>h.get? a=some (W.methodObj (.ref f) (.ref x))
 | .ext φ=>φ h/\(∃ o,h.get? a=some o)/\∀ j k:Heap,φ j->(∀ o,j.get? a=some o->k.get? a=some o)->φ k
def lj(H:Hp)(h:Heap):Prop:=∀ a o,H a=some o->Ym P w H h a o
end
section
variable{P:Aa}{w:Wa}{H H':Hp}{h h':Heap}{a:Addr}{o:HO}
theorem Ym.lt(x:Ym P w H h a o):a<h.objs.size:=by
 cases o with
 |la xs=>obtain⟨_,_,_,_,e⟩:=x;exact za e
 |Ka xs=>obtain⟨_,_,_,p⟩:=x;exact p.lt
 |dK b=>obtain⟨_,_,_,_,o,_,_,e,_⟩:=x;exact za e
 |dT b=>obtain⟨_,_,_,_,o,_,_,e,_⟩:=x;exact za e
 |set S n=>obtain⟨o,_,_,_,e,_⟩:=x;exact za e
 |Jd C d c=>obtain⟨_,_,_,e,_⟩:=x;exact za e
 |own y=>obtain⟨_,e⟩:=x;exact za e
 |xd c=>obtain⟨_,⟨_,_,_,e,_⟩,_⟩:=x;exact za e
 |IH lo g=>obtain⟨_,_,_,e⟩:=x;exact za e
 |vc i u=>obtain⟨e,_⟩:=x;exact za e
 |Um j=>exact za (x)
 |met f y=>exact za (x)
 |ext k=>obtain⟨_,⟨_,e⟩,_⟩:=x;exact za e
theorem Paired.Hr:∀ {c:List e} {d:List g},Paired F c d->(∀ a b,F a b->G a b)->Paired G c d
 |_,_,.nil,_=>.nil
 |_,_,.cons r t,f=>.cons (f _ _ r) (Paired.Hr t f)
theorem Ym.Zk(x:Ym P w H h a o)(k:∀ b u,(b=a\/H b=some (.own a))->h.get? b=some u->h'.get? b=some u)
  (D:∀ b,H b=some (.own a)->H' b=some (.own a)) (E:∀ b xs,H b=some (.Ka xs)->H' b=some (.Ka xs)):Ym P w H' h' a o:=by
 induction o with
 |la xs=>obtain⟨z,j,n,r,e⟩:=x;exact⟨z,j,n,r,k _ _ (.inl rfl) e⟩
 |Ka xs=>obtain⟨z,j,r,ob,e,c⟩:=x;exact⟨z,j,r,ob,k _ _ (.inl rfl) e,c⟩
 |dK l=>obtain⟨z,y,I,r,ob,i,g,e,c⟩:=x;exact⟨z,y,I,r,ob,i,g,k _ _ (.inl rfl) e,c⟩
 |dT l=>
  obtain⟨z,y,xs,r,ob,i,g,e,c⟩:=x;exact⟨z,y,xs,Paired.Hr r λp q z=>⟨z.1,E _ _ z.2.1,z.2.2⟩,ob,i,g,k _ _ (.inl rfl) e,c⟩
 |set S n=>obtain⟨ob,i,g,t,e,c⟩:=x;exact⟨ob,i,g,t,k _ _ (.inl rfl) e,c⟩
 |Jd C J B=>
  obtain⟨d,z,G,e,m,⟨s,i,g,A,c⟩,r⟩:=x;exact⟨D _ d,z,G,k _ _ (.inl rfl) e,m,⟨s,i,g,k _ _ (.inr d) A,c⟩,r⟩
 |own y=>obtain⟨ob,e⟩:=x;exact⟨ob,k _ _ (.inl rfl) e⟩
 |xd B=>obtain⟨m,⟨s,i,g,e,c⟩,r⟩:=x;exact⟨m,⟨s,i,g,k _ _ (.inl rfl) e,c⟩,r⟩
 |IH lo K=>obtain⟨t,u,v,e⟩:=x;exact⟨t,u,v,k _ _ (.inl rfl) e⟩
 |vc ob u F=>obtain⟨e,q⟩:=x;exact⟨k _ _ (.inl rfl) e,F q⟩
 |Um L=>
  have e:=x;exact k a _ (.inl rfl) e
 |met f y=>
  have e:=x;exact k a _ (.inl rfl) e
 |ext M=>obtain⟨p,⟨o,e⟩,st⟩:=x;exact⟨st _ _ p λo q=>k _ _ (.inl rfl) q,⟨o,k _ _ (.inl rfl) e⟩,st⟩
theorem lj.lt(x:lj P w H h)(e:H a=some o):a<h.objs.size:=(x a o e).lt
theorem lj.fresh(x:lj P w H h)(e:h.objs.size<=a):H a=none:=by
 cases q:H a with
 |none=>rfl
 |some u=>exact absurd (Sa (x.lt q) e) (Zd _)
theorem lj.kept(x:lj P w H h)(k:∀ b u,h.get? b=some u->h'.get? b=some u):lj P w H h':=λa o e=>
 (x a o e).Zk (λb u _ q=>k b u q) (λ_ q=>q) λ_ _ q=>q
theorem lj.laid(x:lj P w H h)(k:∀ b u,h.get? b=some u->h'.get? b=some u)(i:h.objs.size<=a)(d:Ym P w (pc H a o) h' a o):lj P w (pc H a o) h':=λb u e=>by
 have g:=x.fresh i;by_cases f:b=a
 ·subst f;rw[vh]at e;cases e;exact d
 ·rw[de f]at e;exact(x b u e).Zk (λc v _ q=>k c v q) (λc q=>by rw[de (kq q g)];exact q) λc xs q=>by rw[de (kq q g)];exact q
end
def Rd(H:Hp)(a:Addr)(u:HO):Prop:=H a=some u\/∃ o,H a=some (.vc o u)
theorem Rd.of(h:H a=some u):Rd H a u:=.inl h
theorem Rd.ok(r:Rd H a u)(x:lj P w H h):Ym P w H h a u:=by
 rcases r with r|⟨o,r⟩
 ·exact x a u r
 ·obtain⟨_,q⟩:=x a _ r;exact q
def UD:Option HO->Prop
 |some (.la _)=>True
 |some (.dK _)=>True
 |some (.dT _)=>True
 |some (.set _ _)=>True
 |some (.Jd _ _ _)=>True
 |some (.ext _)=>True
 |_=>False
section
variable{P:Aa}{w:Wa}{H:Hp}{h h':Heap}{x e:Addr}{o':HO}
theorem lj.write(ok:lj P w H h)(j:UD (H x))(n:e=x\/H e=some (.own x))(k:∀ b u,b≠e->h.get? b=some u->h'.get? b=some u)(l:∃ u,h'.get? e=some u)
  (m:Ym P w (pc H x o') h' x o'):lj P w (pc H x o') h':=λb u q=>by
 have d:∀ c y,H c=some (.own y)->c≠x:=λc y r z=>by subst z;rw[r]at j;exact j
 have f:∀ c xs,H c=some (.Ka xs)->c≠x:=λc xs r z=>by subst z;rw[r]at j;exact j
 by_cases g:b=x
 ·subst g;rw[vh]at q;cases q;exact m
 ·rw[de g]at q;by_cases a:b=e
  ·have o:H b=some (.own x):=by
    rcases n with z|z
    ·exact absurd (a.trans z) g
    ·rw[a];exact z
   rw[q]at o;cases o;obtain⟨v,p⟩:=l;exact⟨v,by rw[a];exact p⟩
  ·refine(ok b u q).Zk (λc v i r=>k c v ?_ r) (λc r=>by rw[de (d c b r)];exact r) λc xs r=>by rw[de (f c xs r)];exact r
   rcases i with rfl|i
   ·exact a
   ·rintro rfl;rcases n with z|z
    ·exact d c b i z
    ·rw[i]at z;cases z;exact g rfl
end
structure Un(fs ex:List Addr)(H H':Hp)(h h':Heap):Prop where
 keep:∀ b o,h.get? b=some o->H b=none->b ∉ fs->b ∉ ex->h'.get? b=some o
 slot:∀ b o,h.get? b=some o->H b=none->b∈fs->b ∉ ex->∃ sl,h'.get? b=some { o with slots:=sl }
 free:∀ b o,h.get? b=some o->H b=none->b ∉ ex->H' b=none
 there:∀ b o,h.get? b=some o->b ∉ ex->∃ o',h'.get? b=some o'
 vj:∀ b xs,H b=some (.Ka xs)->H' b=some (.Ka xs)
 Fi:∀ b o u,H b=some (.vc o u)->H' b=some (.vc o u)
 jj:∀ b ps,H b=some (.Um ps)->∃ more,H' b=some (.Um (ps++more))
section
variable{fs fs' ex ex':List Addr}{H H1 H2:Hp}{h h1 h2 h':Heap}{a x e:Addr}{o:HO}
theorem Un.any(u:Un fs ex H H1 h h1){a:jd}(q:h.get? b=some a)(n:H b=none)(d:b ∉ ex):∃ e,h1.get? b=some { a with slots:=e }:=by
 by_cases c:b∈fs
 ·exact u.slot b a q n c d
 ·exact⟨a.slots,u.keep b a q n c d⟩
theorem Un.trans(a:Un fs ex H H1 h h1)(b:Un fs ex H1 H2 h1 h2):Un fs ex H H2 h h2 where
 keep:=λc e q n g d=>b.keep c e (a.keep c e q n g d) (a.free c e q n d) g d
 slot:=λc e q n g d=>by
  obtain⟨p,f⟩:=a.slot c e q n g d;obtain⟨k,i⟩:=b.slot c _ f (a.free c e q n d) g d;exact⟨k,i⟩
 free:=λc e q n d=>by
  obtain⟨j,f⟩:=a.there c e q d;exact b.free c j f (a.free c e q n d) d
 there:=λc e q d=>by
  obtain⟨j,f⟩:=a.there c e q d;exact b.there c j f d
 vj:=λc xs q=>b.vj c xs (a.vj c xs q)
 Fi:=λc e xs q=>b.Fi c e xs (a.Fi c e xs q)
 jj:=λc o q=>by
  obtain⟨l,f⟩:=a.jj c o q;obtain⟨m,i⟩:=b.jj c _ f;exact⟨l++m,by rw[i,wl]⟩
theorem Un.kept(k:∀ b u,h.get? b=some u->h'.get? b=some u):Un fs ex H H h h':=
 ⟨λb a q _ _ _=>k b a q,λb a q _ _ _=>⟨a.slots,k b a q⟩,λ_ _ _ n _=>n,λb a q _=>⟨a,k b a q⟩,λ_ _ q=>q,λ_ _ _ q=>q,λ_ c q=>⟨#[],by rw[q];simp⟩⟩
theorem Un.refl:Un fs ex H H h h:=Un.kept λ_ _ q=>q
theorem Un.laid(k:∀ b u,h.get? b=some u->h'.get? b=some u)(d:h.objs.size<=a)(c:H a=none):Un fs ex H (pc H a o) h h' where
 keep:=λb u q _ _ _=>k b u q
 slot:=λb u q _ _ _=>⟨u.slots,k b u q⟩
 free:=λb u q n _=>by rw[de (Pa (Sa (za q) d))];exact n
 there:=λb u q _=>⟨u,k b u q⟩
 vj:=λb xs q=>by rw[de (kq q c)];exact q
 Fi:=λb u xs q=>by rw[de (kq q c)];exact q
 jj:=λb e q=>⟨#[],by rw[de (kq q c),q];simp⟩
theorem Un.write(c:UD (H x))(j:e=x\/H e=some (.own x))(k:∀ b u,b≠e->h.get? b=some u->h'.get? b=some u)(d:∃ u,h'.get? e=some u):Un fs ex H (pc H x o) h h':=by
 have i:∀ b,H b=none->b≠x:=λb n z=>by subst z;rw[n]at c;exact c
 have g:∀ b,H b=none->b≠e:=λb n z=>by
  subst z;rcases j with r|r
  ·exact i b n r
  ·rw[n]at r;cases r
 have f:∀ b u,H b=some u->¬ UD (some u)->b≠x:=λb u q l z=>by subst z;rw[q]at c;exact l c
 refine⟨λb u q n _ _=>k b u (g b n) q,λb u q n _ _=>⟨u.slots,k b u (g b n) q⟩,λb u q n _=>by rw[de (i b n)];exact n,λb u q _=>?_,
  λb xs q=>by rw[de (f b _ q λz=>z)];exact q,λb u xs q=>by rw[de (f b _ q λz=>z)];exact q,λb m q=>⟨#[],by rw[de (f b _ q λz=>z),q];simp⟩⟩
 by_cases a:b=e
 ·subst a;exact d
 ·exact⟨u,k b u a q⟩
theorem Un.mono(u:Un fs ex H H1 h h1)(f:∀ b∈fs,b∈fs')(d:∀ b∈ex,b∈ex'):Un fs' ex' H H1 h h1:=
 ⟨λb c q n e a=>u.keep b c q n (λz=>e (f b z)) λz=>a (d b z),λ_ _ q n _ a=>u.any q n λz=>a (d _ z),λb c q n a=>u.free b c q n λz=>a (d b z),λb c q a=>u.there b c q λz=>a (d b z),u.vj,u.Fi,u.jj⟩
end
noncomputable def mG(h:Heap)(H:Hp):List Addr:=(List.range h.objs.size).filter λa=>(H a).isSome
def wy(h:Heap)(H:Hp):Heap:=W.hideAll h (mG h H)
theorem D9(h:Heap)(H:Hp):(wy h H).objs.size=h.objs.size:=W.hideAll_size _ _
theorem zs7(e:h.get? b=some o)(n:H b=none):(wy h H).get? b=some o:=
 W.hideAll_get _ e λa=>by
  have q:=(Jf.mp a).2;rw[n]at q;simp at q
theorem k9(e:(wy h H).get? b=some o):h.get? b=some o/\H b=none:=by
 have a:=W.of_hideAll (mG h H) e;refine⟨a,?_⟩;cases q:H b with
 |none=>rfl
 |some x=>
  have c:b∈mG h H:=Jf.mpr ⟨Xp.mpr (za a),by simp[q]⟩;have z:(wy h H).get? b=none:=W.hideAll_none (mG h H) c;rw[z]at e;cases e
noncomputable def oY(g h:Heap)(L:Addr):List (Addr × jd):=(List.range h.objs.size).filterMap λa=>if a=L\/(g.get? a).isSome=true then none else (h.get? a).map λo=>(a,o)
def rest(g h:Heap)(L d:Addr):List (Addr × jd):=(oY g h L).filter λp=>decide (p.1≠d)
structure Mod(K:W.Frag)(mg:Str->Option Value)(base:Heap):Prop where
 Ky:K.In base
 glob:base.Ns mainGlobals mg
 blt:∃ mb,base.Ns builtinsNs mb/\∀ x:Str,x ≠ "__name__"->mb x=bootBuiltins x
 nolimit:base.NoLimit
structure Cx where
 prog:Aa
 w:Wa
 K:W.Frag
 mg:Str->Option Value
 base:Heap
 A:Qa
 N:List Str
 s₀:aa
 H₀:Hp
 env:qh
 outer:List qh
 stack:List qh
 ex:List Addr
 fn:Str->Bool
 Da:Bool
 pn:List (Addr × jd)
 xe:Value->aa->Prop
noncomputable def gk(l:List qh):List Addr:=l.filterMap (·.frame)
abbrev Cx.fs(X:Cx):List Addr:=gk X.outer
def VH(sc:Scope)(x:Str):Prop:=sc.names.lookup x=some .local\/sc.names.lookup x=some .cell\/sc.names.lookup x=some .free
def Loc(sc:Scope)(x:Str):Prop:=sc.names.lookup x=some .local\/sc.names.lookup x=some .cell
def É(a:qh)(h:Heap)(m:Str->Option Value)(x:Str)(u:Value):Prop:=
 (a.kindOf x=some .local/\m x=some u)\/((a.kindOf x=some .cell\/a.kindOf x=some .free)/\∃ c,a.cells.lookup x=some c/\h.IsCell c (some u))
structure Cx.Ok(X:Cx):Prop where
 mod:Mod X.K X.mg X.base
 kind:X.env.scope.kind=.function
 glob:X.env.globals=mainGlobals
 blt:X.env.builtins=builtinsNs
 above:X.s₀.heap.objs.size<=X.env.locals
 inj:∀ x y c,X.env.cells.lookup x=some c->X.env.cells.lookup y=some c->x=y
 has:∀ x,(X.env.kindOf x=some .cell\/X.env.kindOf x=some .free)->∃ c,X.env.cells.lookup x=some c
 My:∀ x c,X.fn x=true->X.env.cells.lookup x=some c->X.s₀.heap.objs.size<=c
 hd:X.Da=true->X.A.handled=none
 frames:X.A.frames=some X.stack
 zq:X.stack=X.outer\/(X.stack=X.env::X.outer/\X.env.frame=some X.env.locals)
 cz:∀ b∈X.ex,b≠X.env.locals/\∀ x c,X.env.cells.lookup x=some c->c≠b
 bs:∀ b o,X.base.get? b=some o->X.s₀.heap.get? b=some o/\X.H₀ b=none
 As:X.base.objs.size<=X.s₀.heap.objs.size
 Br:∀ b o,X.base.get? b=some o->b ∉ X.ex
 Ir:∀ b∈X.ex,b ∉ X.fs
 Vj:X.s₀.heap.FunFrames X.base X.outer
 Mv:∀ b∈X.fs,X.H₀ b=none
structure Za(X:Cx)(pins:List (Addr × jd))(σ:List (Option V))(H:Hp)(s:aa):Prop where
 ok:X.Ok
 os:s.os=X.s₀.os
 bare:Ii s.gens
 base:Un X.fs X.ex X.H₀ H X.s₀.heap s.heap
 loc:∃ m,s.heap.Ns X.env.locals m/\∀ (i:Nat) (x:Str) (v:V),X.N[i]?=some x->σ[i]?=some (some v)->VH X.env.scope x->∃ u,Pd v u/\É X.env s.heap m x u
 cell:∀ x c,X.env.cells.lookup x=some c->∃ v,s.heap.IsCell c v
 free:H X.env.locals=none
 Ug:∀ x c,X.env.cells.lookup x=some c->H c=none
 pin:∀ p∈X.pn++pins,s.heap.get? p.1=some p.2/\H p.1=none/\p.1≠X.env.locals/\p.1 ∉ X.fs/\∀ v,p.2.data≠.cell v
 zd:lj X.prog X.w H s.heap
 len:σ.length=X.N.length
section
variable{X:Cx}{pins:List (Addr × jd)}{σ:List (Option V)}{H H':Hp}{s:aa}{h':Heap}
theorem Cx.Ok.sJ(ok:X.Ok)(e:X.base.get? b=some o):b ∉ X.fs:=λa=>by
 have:=(ok.Vj.mem a).1;rw[e]at this;cases this
theorem Za.bs(I:Za X pins σ H s):∀ b o,X.base.get? b=some o->s.heap.get? b=some o/\H b=none:=λb o e=>
 ⟨I.base.keep b o (I.ok.bs b o e).1 (I.ok.bs b o e).2 (I.ok.sJ e) (I.ok.Br b o e),I.base.free b o (I.ok.bs b o e).1 (I.ok.bs b o e).2 (I.ok.Br b o e)⟩
theorem Za.bk(I:Za X pins σ H s):∀ b o,X.base.get? b=some o->s.heap.get? b=some o:=λb o e=>(I.bs b o e).1
theorem Za.mod(I:Za X pins σ H s):Mod X.K X.mg X.base:=I.ok.mod
theorem Za.sk(I:Za X pins σ H s):X.K.In s.heap:=I.ok.mod.Ky.keeps I.bk
theorem Za.nolimit(I:Za X pins σ H s):s.heap.NoLimit:=I.ok.mod.nolimit.keeps I.bk
theorem Za.fr(I:Za X pins σ H s):∃ m,Fr X.base X.env.locals s.heap m:=
 let ⟨m,a,_⟩:=I.loc
 ⟨m,a,I.bk,Ib I.ok.As I.ok.above⟩
theorem Za.lt(I:Za X pins σ H s):X.env.locals<s.heap.objs.size:=let ⟨_,a,_⟩:=I.loc;a.lt
theorem Za.sz(I:Za X pins σ H s):X.s₀.heap.objs.size<=s.heap.objs.size:=Ib I.ok.above (og I.lt)
theorem Za.yC(I:Za X pins σ H s)(h:s.heap.objs.size<=a):a ∉ X.fs:=λb=>by
 obtain⟨_,o,c,_⟩:=I.ok.Vj.mem b;exact absurd (Sa (za c) (Ib I.sz h)) (Zd _)
theorem Za.sC(I:Za X pins σ H s):∀ x c,X.env.cells.lookup x=some c->c≠X.env.locals:=λx c e z=>by
 obtain⟨v,o,f,d⟩:=I.cell x c e;obtain⟨m,⟨i,h,g,b,a,_⟩,_⟩:=I.loc;rw[z,b]at f;cases f;rw[a]at d;cases d
theorem Za.Vj(I:Za X pins σ H s):s.heap.FunFrames X.base X.outer:=by
 have a:∀ l,(∀ b∈gk l,b∈X.fs)->X.s₀.heap.FunFrames X.base l->s.heap.FunFrames X.base l:=by
  intro l;induction l with
  |nil=>intro _ _;trivial
  |cons env r p=>
   intro g j;obtain⟨i,⟨L,o,f,k,m,h⟩,n⟩:=j;have c:=g L (by unfold gk;rw[Xh,f];exact Ha);obtain⟨q,e⟩:=I.base.slot L o m (I.ok.Mv L c) c λz=>I.ok.Ir L z c;exact⟨i,⟨L,_,f,k,e,h⟩,p (λb d=>g b (by unfold gk;rw[Xh,f];exact Na _ d)) n⟩
 exact a X.outer (λ_ d=>d) I.ok.Vj
theorem Za.stack(I:Za X pins σ H s):s.heap.FunFrames X.base X.stack:=by
 rcases I.ok.zq with e|⟨e,a⟩
 ·rw[e];exact I.Vj
 ·rw[e];obtain⟨m,b,_⟩:=I.loc;refine .cons (by rw[I.ok.kind];decide) a b ?_ I.Vj;exact Heap.get?_none_of_le (Ib I.ok.As I.ok.above)
theorem Za.Bs(I:Za X pins σ H s):∀ b∈gk X.stack,b∈X.env.locals::X.fs:=λb a=>by
 rcases I.ok.zq with e|⟨e,c⟩
 ·rw[e]at a;exact Na _ a
 ·rw[e]at a;unfold gk at a;rw[Xh,c]at a;exact a
theorem Za.Pk(I:Za X pins σ H s):∀ b∈gk X.stack,H b=none:=λb a=>by
 rcases Ea.mp (I.Bs b a)with e|a
 ·rw[e];exact I.free
 ·obtain⟨_,o,c,_⟩:=I.ok.Vj.mem a;exact I.base.free b o c (I.ok.Mv b a) λz=>I.ok.Ir b z a
theorem Za.step{ch:List Addr}(I:Za X pins σ H s)
  (h:∀ b∈ch,(b∈X.ex\/X.s₀.heap.objs.size<=b)/\b≠X.env.locals/\(∀ x c,X.env.cells.lookup x=some c->c≠b)/\∀ p∈X.pn++pins,p.1≠b)
  (j:∀ b o,b≠X.env.locals->b ∉ X.fs->b ∉ ch->s.heap.get? b=some o->H b=none->h'.get? b=some o)
  (B:∀ b o,b≠X.env.locals->b∈X.fs->b ∉ ch->s.heap.get? b=some o->H b=none->∃ R,h'.get? b=some { o with slots:=R }) (f:∀ b o,b ∉ ch->s.heap.get? b=some o->H b=none->H' b=none)
  (D:∀ b o,b ∉ ch->s.heap.get? b=some o->∃ L,h'.get? b=some L)
  (N:∀ b xs,H b=some (.Ka xs)->H' b=some (.Ka xs)) (G:∀ b o u,H b=some (.vc o u)->H' b=some (.vc o u)) (M:∀ b O,H b=some (.Um O)->∃ J,H' b=some (.Um (O++J)))
  (ns:∀ m,s.heap.Ns X.env.locals m->h'.Ns X.env.locals m) (Q:lj X.prog X.w H' h') (hg:Ii T) :
  Za X pins σ H' { s with heap:=h',gens:=T,drawn:=Z,toks:=t' }:=by
 have K:∀ b o,X.s₀.heap.get? b=some o->b≠X.env.locals:=λb o e=>Pa (Sa (za e) I.ok.above);have A:∀ b o,X.s₀.heap.get? b=some o->b ∉ X.ex->b ∉ ch:=λb o e a C=>by
  rcases(h b C).1 with z|z
  ·exact a z
  ·exact absurd (Sa (za e) z) (Zd _)
 have g:∀ x c,X.env.cells.lookup x=some c->∀ v,s.heap.IsCell c v->h'.IsCell c v:=λx c e v ⟨o,E,P⟩=>by
  have t:=λz=>(h c z).2.2.1 x c e rfl;by_cases U:c∈X.fs
  ·obtain⟨R,q⟩:=B c o (I.sC x c e) U t E (I.Ug x c e);exact⟨_,q,P⟩
  ·exact⟨o,j c o (I.sC x c e) U t E (I.Ug x c e),P⟩
 refine⟨I.ok,I.os,hg,⟨λb o e n C a=>?_,λb o e n C a=>?_,λb o e n a=>?_,λb o e a=>?_,λb xs e=>N b xs (I.base.vj b xs e),λb o xs e=>G b o xs (I.base.Fi b o xs e),λb O e=>?_⟩,?_,λx c e=>?_,?_,λx c e=>?_,λp V=>?_,Q,I.len⟩
 ·exact j b o (K b o e) C (A b o e a) (I.base.keep b o e n C a) (I.base.free b o e n a)
 ·obtain⟨R,y⟩:=I.base.slot b o e n C a;obtain⟨S,F⟩:=B b _ (K b o e) C (A b o e a) y (I.base.free b o e n a);exact⟨S,F⟩
 ·obtain⟨L,y⟩:=I.base.there b o e a;exact f b L (A b o e a) y (I.base.free b o e n a)
 ·obtain⟨L,y⟩:=I.base.there b o e a;exact D b L (A b o e a) y
 ·obtain⟨m1,y⟩:=I.base.jj b O e;obtain⟨m2,F⟩:=M b _ y;exact⟨m1++m2,by rw[F,wl]⟩
 ·obtain⟨m,hn,hl⟩:=I.loc;refine⟨m,ns m hn,λi x v y F e3=>?_⟩;obtain⟨u,r,l⟩:=hl i x v y F e3;refine⟨u,r,?_⟩;rcases l with l|⟨k,c,e,z⟩
  ·exact .inl l
  ·exact .inr ⟨k,c,e,g x c e _ z⟩
 ·obtain⟨v,z⟩:=I.cell x c e;exact⟨v,g x c e v z⟩
 ·obtain⟨m,⟨o,_,_,E,_⟩,_⟩:=I.loc;exact f _ o (λz=>(h _ z).2.1 rfl) E I.free
 ·obtain⟨v,o,E,P⟩:=I.cell x c e;exact f c o (λz=>(h c z).2.2.1 x c e rfl) E (I.Ug x c e)
 ·obtain⟨e,n,W,Y,d⟩:=I.pin p V;have t:=λz=>(h p.1 z).2.2.2 p V rfl;exact⟨j p.1 p.2 W Y t e n,f p.1 p.2 t e n,W,Y,d⟩
theorem Za.un(I:Za X pins σ H s)(u:Un X.fs [] H H' s.heap h')(g:lj X.prog X.w H' h'):Za X pins σ H' { s with heap:=h',toks:=t' }:=by
 obtain⟨m,⟨o,p,l,h,r⟩,_⟩:=id I.loc;obtain⟨v,i⟩:=u.any h I.free (by simp);exact I.step (ch:=[]) (λ_ z=>nomatch z) (λb o _ f _ e n=>u.keep b o e n f (by simp)) (λb o _ f _ e n=>u.slot b o e n f (by simp)) (λb o _ e n=>u.free b o e n (by simp)) (λb o _ e=>u.there b o e (by simp)) u.vj u.Fi u.jj (λq j=>by
  obtain⟨t,d,c,a,k⟩:=j;rw[h]at a;cases a;exact⟨_,d,c,i,k⟩) g I.bare
theorem Za.call(I:Za X pins σ H s)(u:Un (gk X.stack) ch H H' s.heap h')(j:lj X.prog X.w H' h')(v:Ii k)
  (d:∀ b∈ch,(b∈X.ex\/X.s₀.heap.objs.size<=b)/\b≠X.env.locals/\(∀ x c,X.env.cells.lookup x=some c->c≠b)/\∀ p∈X.pn++pins,p.1≠b) :
  Za X pins σ H' { s with heap:=h',gens:=k,drawn:=q,toks:=t' }:=by
 obtain⟨m,⟨o,C,B,l,r⟩,_⟩:=id I.loc;obtain⟨F,i⟩:=u.any l I.free λz=>(d _ z).2.1 rfl;exact I.step d (λb o i t a e n=>u.keep b o e n (λz=>(Ea.mp (I.Bs b z)).elim i t) a) (λb o _ _ a e n=>u.any e n a) (λb o a e n=>u.free b o e n a) (λb o a e=>u.there b o e a) u.vj u.Fi u.jj (λD y=>by
  obtain⟨E,h,g,f,A⟩:=y;rw[l]at f;cases f;exact⟨_,h,g,i,A⟩) j v
theorem Za.turned(I:Za X pins σ H s)(k:∀ b o,b≠it->s.heap.get? b=some o->h'.get? b=some o)(y:H it=none)(f:it≠X.env.locals)
  (i:it∈X.ex\/X.s₀.heap.objs.size<=it) (j:∀ x c,X.env.cells.lookup x=some c->c≠it) (l:∀ p∈X.pn++pins,p.1≠it):Za X pins σ H { s with heap:=h',toks:=t' }:=by
 have d:∀ b u,H b=some u->b≠it:=λb u e z=>by rw[z,y]at e;cases e
 refine I.step (ch:=[it]) (λb t=>?_) (λb o _ _ a e _=>k b o (λz=>a (by simp[z])) e) (λb o _ _ a e _=>⟨o.slots,k b o (λz=>a (by simp[z])) e⟩) (λ_ _ _ _ n=>n)
  (λb o a e=>⟨o,k b o (λz=>a (by simp[z])) e⟩) (λ_ _ e=>e) (λ_ _ _ e=>e) (λb B e=>⟨#[],by rw[e];simp⟩) (λm w=>?_) (λb u e=>?_) I.bare
 ·have e:b=it:=by simpa using t
  subst e;exact⟨i,f,j,l⟩
 ·obtain⟨o,h,g,A,r⟩:=w;exact⟨o,h,g,k _ o (Xe f) A,r⟩
 ·refine(I.zd b u e).Zk (λc v a q=>k c v ?_ q) (λ_ q=>q) λ_ _ q=>q;rcases a with z|z
  ·rw[z];exact d b u e
  ·exact d c _ z
theorem Za.tok(I:Za X pins σ H s)(t:Nat):Za X pins σ H { s with toks:=t }:=I.un Un.refl I.zd
theorem Za.kept(I:Za X pins σ H s)(k:∀ b u,s.heap.get? b=some u->h'.get? b=some u):Za X pins σ H { s with heap:=h',toks:=t' }:=I.un (Un.kept k) (I.zd.kept k)
theorem Za.laid(I:Za X pins σ H s)(k:∀ b u,s.heap.get? b=some u->h'.get? b=some u)(c:s.heap.objs.size<=a)(d:Ym X.prog X.w (pc H a o) h' a o) :
  Za X pins σ (pc H a o) { s with heap:=h',toks:=t' }:=I.un (Un.laid k c (I.zd.fresh c)) (I.zd.laid k c d)
theorem Za.write(I:Za X pins σ H s)(f:UD (H x))(d:e=x\/H e=some (.own x))(k:∀ b u,b≠e->s.heap.get? b=some u->h'.get? b=some u)(a:∃ u,h'.get? e=some u)
  (c:Ym X.prog X.w (pc H x o) h' x o):Za X pins σ (pc H x o) { s with heap:=h',toks:=t' }:=I.un (Un.write f d k a) (I.zd.write f d k a c)
theorem Za.Jj(I:Za X pins σ H s)(h:∀ p∈a,s.heap.get? p.1=some p.2/\H p.1=none/\p.1≠X.env.locals/\p.1 ∉ X.fs/\∀ v,p.2.data≠.cell v):Za X a σ H s:=
 ⟨I.ok,I.os,I.bare,I.base,I.loc,I.cell,I.free,I.Ug,λp b=>(Kf.mp b).elim (λz=>I.pin p (ib _ z)) (h p),I.zd,I.len⟩
theorem MM{N:List Str}(e:N.Nodup){i j:Nat}(a:N[i]?=some x)(b:N[j]?=some x):i=j:=by
 obtain⟨f,c⟩:=ja.mp a;obtain⟨g,d⟩:=ja.mp b;exact(List.getElem_inj e).mp (c.trans d.symm)
theorem YR(I:Za X pins σ H s)(hN:X.N.Nodup)(T:X.N[i]?=some x)(B:Loc X.env.scope x)(r:Pd v u)
  (h:∀ s',Za X pins (σ.set i (some v)) H s'->(∃ a,kg a s.heap s'.heap/\(a=X.env.locals\/X.env.cells.lookup x=some a))->Q () s') (hf:X.fn x=true\/X.env.scope.names.lookup x=some .local:=by first|exact .inl rfl|exact .inr rfl|assumption):wpAny M A (gF X.env x u) Q E s:=by
 obtain⟨m,hn,hl⟩:=id I.loc;have S:(X.env.scope.kind == .class || (X.env.scope.kind == .module && X.env.locals != X.env.globals))=false:=by rw[I.ok.kind];rfl
 have F:i<σ.length:=by rw[I.len];exact(ja.mp T).1
 have J:=I.sC;have l:∀ {a:Addr} {h':Heap},(∃ o,s.heap.get? a=some o/\H a=none)->kg a s.heap h'->lj X.prog X.w H h':=fun {a h'} ha f b ob e=>by
  obtain⟨_,_,C⟩:=ha;refine(I.zd b ob e).Zk (λc w' t q=>(f.2 c ?_).trans q) (λ_ q=>q) λ_ _ q=>q;rintro rfl;rcases t with rfl|t
  ·rw[C]at e;cases e
  ·rw[C]at t;cases t
 rcases B with G|G
 ·refine wpAny_storeName_local G hn (λh' a0 f=>?_) S;obtain⟨oL,_,_,a1,_⟩:=id hn;refine h _ ⟨I.ok,I.os,I.bare,⟨λb o e n K B=>?_,λb o e n K B=>?_,I.base.free,λb o e B=>?_,I.base.vj,I.base.Fi,I.base.jj⟩,⟨_,a0,λj y v' g D e3=>?_⟩,λy c e=>?_,I.free,I.Ug,λp hp=>?_,l ⟨oL,a1,I.free⟩ f,by simpa using I.len⟩ ⟨_,f,.inl rfl⟩
  ·exact(f.2 b (Pa (Sa (za e) I.ok.above))).trans (I.base.keep b o e n K B)
  ·obtain⟨sl,g⟩:=I.base.slot b o e n K B;exact⟨sl,(f.2 b (Pa (Sa (za e) I.ok.above))).trans g⟩
  ·obtain⟨o',g⟩:=I.base.there b o e B;exact⟨o',(f.2 b (Pa (Sa (za e) I.ok.above))).trans g⟩
  ·by_cases O:j=i
   ·subst O;rw[T]at g;cases g;rw[Df F]at D;cases D;exact⟨u,r,.inl ⟨G,by simp⟩⟩
   ·rw[fk (Xe O)]at D;obtain⟨u',r',q⟩:=hl j y v' g D e3;refine⟨u',r',?_⟩;rcases q with⟨k,e⟩|⟨k,c,e,z⟩
    ·refine .inl ⟨k,?_⟩;have:y≠x:=λe=>O (MM hN g (e ▸ T));simp[this,e]
    ·exact .inr ⟨k,c,e,z.sameBut f (J y c e)⟩
  ·obtain⟨w',z⟩:=I.cell y c e;exact⟨w',z.sameBut f (J y c e)⟩
  ·obtain⟨e,n,Z,nf,d⟩:=I.pin p hp;exact⟨(f.2 p.1 Z).trans e,n,Z,nf,d⟩
 ·have L:X.fn x=true:=by
   rcases hf with z|z
   ·exact z
   ·rw[z]at G;cases G
  obtain⟨c,t⟩:=I.ok.has x (.inl G);obtain⟨w',z⟩:=I.cell x c t;refine wpAny_storeName_cell I.ok.kind G t z (λh' P f=>?_);obtain⟨oc,U,W⟩:=id z;refine h { s with heap:=h' } ⟨I.ok,I.os,I.bare,⟨λb o e n K B=>?_,λb o e n K B=>?_,I.base.free,λb o e B=>?_,I.base.vj,I.base.Fi,I.base.jj⟩,⟨m,hn.sameBut f (Xe (J x c t)),λj y v' g D e3=>?_⟩,λy Y e=>?_,I.free,I.Ug,λp hp=>?_,l ⟨oc,U,I.Ug x c t⟩ f,by simpa using I.len⟩ ⟨c,f,.inr t⟩
  ·exact(f.2 b (Pa (Sa (za e) (I.ok.My x c L t)))).trans (I.base.keep b o e n K B)
  ·obtain⟨sl,g⟩:=I.base.slot b o e n K B;exact⟨sl,(f.2 b (Pa (Sa (za e) (I.ok.My x c L t)))).trans g⟩
  ·obtain⟨o',g⟩:=I.base.there b o e B;exact⟨o',(f.2 b (Pa (Sa (za e) (I.ok.My x c L t)))).trans g⟩
  ·by_cases O:j=i
   ·subst O;rw[T]at g;cases g;rw[Df F]at D;cases D;exact⟨u,r,.inr ⟨.inl G,c,t,P⟩⟩
   ·rw[fk (Xe O)]at D;obtain⟨u',r',q⟩:=hl j y v' g D e3;refine⟨u',r',?_⟩;rcases q with q|⟨k,Y,e,z'⟩
    ·exact .inl q
    ·refine .inr ⟨k,Y,e,z'.sameBut f ?_⟩;rintro rfl;exact O (MM hN g (I.ok.inj _ _ _ e t ▸ T))
  ·by_cases R:Y=c
   ·subst R;exact⟨_,P⟩
   ·obtain⟨w2,z2⟩:=I.cell y Y e;exact⟨w2,z2.sameBut f R⟩
  ·obtain⟨e,n,Z,nf,d⟩:=I.pin p hp;refine⟨(f.2 p.1 ?_).trans e,n,Z,nf,d⟩;intro q;rw[q,U]at e;have q':=Lb e;exact d w' (by rw[<-q'];exact W)
theorem uH(I:Za X pins σ H s)(c:X.N.Nodup)(e:X.N[i]?=some x)(f:Loc X.env.scope x)(r:Pd v u)
  (h:∀ a,Za X pins (σ.set i (some v)) H a->Q () a) (d:X.fn x=true\/X.env.scope.names.lookup x=some .local:=by first|exact .inl rfl|exact .inr rfl|assumption):wpAny M A (gF X.env x u) Q E s:=
 YR I c e f r (λa b _=>h a b) d
theorem Za.iv(I:Za X pins σ H s)(g:s'.os=s.os)(u:Un (gk X.stack) ch H H' s.heap s'.heap)(d:lj X.prog X.w H' s'.heap)(f:Ii s'.gens)
  (a:∀ b∈ch,(b∈X.ex\/X.s₀.heap.objs.size<=b)/\b≠X.env.locals/\(∀ x c,X.env.cells.lookup x=some c->c≠b)/\∀ p∈X.pn++pins,p.1≠b):Za X pins σ H' s':=by
 obtain⟨h',i,h,t',j⟩:=s';have e:=g;subst e;exact I.call u d f a
end
abbrev XK:=Value->Option Addr->Hp->Prop
abbrev St:=List (Option V)
abbrev VK:=V->Hp->Prop
abbrev TE:=St->Hp->VK->Prop
abbrev TT:=St->Hp->(Bool->Hp->Prop)->Prop
abbrev TA:=St->Hp->(List V->Hp->Prop)->Prop
structure Wk where
 nx:St->Hp->Prop
 rt:VK
 bk:St->Hp->Prop:=λ_ _=>False
 ct:St->Hp->Prop:=λ_ _=>False
abbrev TS:=Wk->St->Hp->Prop
def EP(X:Cx)(a:List (Addr × jd))(d:St)(Q:VK)(u:Value)(c:aa):Prop:=∃ v b,Za X a d b c/\Pd v u/\Q v b
def TP(X:Cx)(a:List (Addr × jd))(e:St)(Q:Bool->Hp->Prop)(b:Bool)(d:aa):Prop:=∃ c,Za X a e c d/\Q b c
def AP(X:Cx)(a:List (Addr × jd))(f:St)(Q:List V->Hp->Prop)(e:List Value)(d:aa):Prop:=∃ c b,Za X a f b d/\ue c e/\Q c b
def SP(X:Cx)(b:List (Addr × jd))(D:Wk)(f:Flow)(d:aa):Prop:=
 match f with
 | .next=>∃ a c,Za X b a c d/\D.nx a c
 | .brk=>∃ a c,Za X b a c d/\D.bk a c
 | .cont=>∃ a c,Za X b a c d/\D.ct a c
 | .ret u=>∃ v a c,Za X b a c d/\Pd v u/\D.rt v c
def PE(X:Cx)(e:Ma)(t:TE):Prop:=
 ∀ (a:List (Addr × jd)) (s:aa) (σ:St) (H:Hp) (Q:VK),Za X a σ H s->t σ H Q->wpAny (model X.prog X.w) X.A (Yb e X.env) (EP X a σ Q) X.xe s
def PT(X:Cx)(e:Ma)(t:TT):Prop:=
 ∀ (a:List (Addr × jd)) (s:aa) (σ:St) (H:Hp) (Q:Bool->Hp->Prop),Za X a σ H s->t σ H Q->wpAny (model X.prog X.w) X.A (yA e X.env (Yb e X.env)) (TP X a σ Q) X.xe s
def PW(X:Cx)(e:Ma)(t:TT):Prop:=
 ∀ (a:bq Value) (pins:List (Addr × jd)) (s:aa) (σ:St) (H:Hp) (Q:Bool->Hp->Prop),Za X pins σ H s->t σ H Q->wpAny (model X.prog X.w) X.A (yA e X.env a) (TP X pins σ Q) X.xe s
theorem PW.pt(h:PW X e t):PT X e t:=h _
def PA(X:Cx)(b:List Ma)(t:TA):Prop:=
 ∀ (a:Ce) (pins:List (Addr × jd)) (s:aa) (σ:St) (H:Hp) (Q:List V->Hp->Prop),Za X pins σ H s->t σ H Q->wpAny (model X.prog X.w) X.A (spliced (Vc a (qa b X.env))) (AP X pins σ Q) X.xe s
def PS(X:Cx)(st:Stmt)(t:TS):Prop:=
 ∀ (a:List (Addr × jd)) (s:aa) (σ:St) (H:Hp) (D:Wk),Za X a σ H s->t D σ H->wpAny (model X.prog X.w) X.A (exec st X.env) (SP X a D) X.xe s
def Fs(X:Cx)(st:List Stmt)(t:TS):Prop:=
 ∀ (a:List (Addr × jd)) (s:aa) (σ:St) (H:Hp) (D:Wk),Za X a σ H s->t D σ H->wpAny (model X.prog X.w) X.A (execs st X.env) (SP X a D) X.xe s
theorem pe{t:bq c}{Q b:c->aa->Prop}(h:wpAny M A t Q E s)(d:∀ a s,Q a s->b a s):wpAny M A t b E s:=Hc h d λ_ _ x=>x
section
variable{X:Cx}
theorem bin(p:PE X a k)(q:PE X b l){R:V->V->Hp->Prop}(I:Za X c e H s)(h:k e H λx j=>l e j λy d=>R x y d) {Q:m->aa->Prop} {f:Value->Value->bq m}
  (r:∀ v u s2 x y d,Za X c e d s2->Pd x v->Pd y u->R x y d->wpAny (model X.prog X.w) X.A (f v u) Q X.xe s2) :
  wpAny (model X.prog X.w) X.A (Yb a X.env) (λv g=>wpAny (model X.prog X.w) X.A (Yb b X.env) (λu i=>wpAny (model X.prog X.w) X.A (f v u) Q X.xe i) X.xe g) X.xe s:=by
 refine pe (p c s e H _ I h) λv s1 zz=>?_;obtain⟨x,j,n,B,t⟩:=zz;refine pe (q c s1 e j _ n t) λu s2 zz=>?_;obtain⟨y,d,o,C,z⟩:=zz;exact r v u s2 x y d o B C z
noncomputable def t3(i:Nat):TE:=λa H Q=>∃ v,a[i]?=some (some v)/\Q v H
noncomputable def tC(v:V):TE:=λ_ H Q=>Q v H
theorem ô(n:X.N[i]?=some x)(t:VH X.env.scope x)(g:(x == ("__debug__" : Str))=false:=by decide)(f:(x == ("__classdict__" : Str))=false:=by decide):PE X (.Name x j) (t3 i):=by
 intro d s w H Q I h;obtain⟨v,e,h⟩:=h;obtain⟨m,q,o⟩:=I.loc;obtain⟨u,r,l⟩:=o i x v n e t;have wh:EP X d w Q u s:=⟨v,H,I,r,h⟩
 rcases l with⟨b,p⟩|⟨b,c,k,a⟩
 ·exact lA (Lx I.ok.kind b q p wh) g
 ·rcases b with b|b
  ·exact lA (Py I.ok.kind b k a wh) g
  ·exact lA (wpAny_loadName_free I.ok.kind b k a wh f) g
theorem yni{i j pos}:PE X (.Constant (.int i) j pos) (tC (.int i)):=λ_ _ _ H _ I h=>wpAny_Constant_int ⟨.int i,H,I.tok _,⟨_,rfl⟩,h⟩
theorem N8{b j pos}:PE X (.Constant (.bool b) j pos) (tC (.bl b)):=λ_ _ _ H _ I h=>Constant_bool ⟨.bl b,H,I,rfl,h⟩
theorem ynk{j pos}:PE X (.Constant .none j pos) (tC .wc):=λ_ _ _ H _ I h=>Constant_none ⟨.wc,H,I,rfl,h⟩
theorem B1{x j pos}:PE X (.Constant (.str x) j pos) (tC (.str x)):=λ_ _ _ H _ I h=>Calls.Constant_str ⟨.str x,H,I.tok _,⟨_,rfl⟩,h⟩
def Gl(X:Cx)(x:Str):Prop:=X.env.kindOf x=some .globalImplicit
theorem BB(I:Za X a f H s)(d:Gl X x)(e:X.mg x=some u)(h:Q u s)
  (c:(x == ("__debug__" : Str))=false:=by decide):wpAny (model X.prog X.w) X.A (Yb (.Name x b) X.env) Q E s:=
 zp I.ok.kind d (Calls.loadGlobal_global (by rw[I.ok.glob];exact I.mod.glob.keeps I.bk) e h) c
theorem Xw(I:Za X a k H s)(f:Gl X x)(g:X.mg x=none)(j:bootBuiltins x=some u)(h:Q u s)
  (i:x ≠ "__name__":=by decide) (e:(x == ("__debug__" : Str))=false:=by decide):wpAny (model X.prog X.w) X.A (Yb (.Name x b) X.env) Q E s:=by
 obtain⟨l,c,d⟩:=I.mod.blt;exact zp I.ok.kind f (Calls.loadGlobal_builtin (by rw[I.ok.glob];exact I.mod.glob.keeps I.bk) g (by rw[I.ok.blt];exact c.keeps I.bk) ((d x i).trans j) h) e
theorem zL(c:Gl X x)(d:X.mg x=some u)(r:Pd v u)(b:(x == ("__debug__" : Str))=false:=by decide):PE X (.Name x a) (tC v):=
 λ_ _ _ H _ I h=>BB I c d ⟨v,H,I,r,h⟩ b
theorem C0(c:Gl X x)(d:X.mg x=none)(f:bootBuiltins x=some u)(r:Pd v u)(e:x ≠ "__name__":=by decide)(b:(x == ("__debug__" : Str))=false:=by decide):PE X (.Name x a) (tC v):=
 λ_ _ _ H _ I h=>Xw I c d f ⟨v,H,I,r,h⟩ e b
variable{a b:Ma}{ta tb:TE}{pos:Ce}
def PC(X:Cx)(f:Uq)(a b:Ma)(t:TE):Prop:=
 ∀ (c:List (Addr × jd)) (s:aa) (σ:St) (H:Hp) (Q:VK),Za X c σ H s->t σ H Q->
  wpAny (model X.prog X.w) X.A (Yb a X.env) (λv d=>wpAny (model X.prog X.w) X.A (Yb b X.env) (λu e=>wpAny (model X.prog X.w) X.A (Sb f v u) (EP X c σ Q) X.xe e) X.xe d) X.xe s
theorem aY(b:Ma){a:Uq}(h:a≠.In)(e:a≠.NotIn):Ge a b=false:=by
 have c:(a == ON)=false:=by cases a<;>first|rfl|exact absurd rfl h
 have d:(a == nC)=false:=by cases a<;>first|rfl|exact absurd rfl e
 cases b<;>simp[Ge,c,d]
noncomputable def tB(t:TE):TT:=λb H Q=>t b H λx a=>∃ c,x=.bl c/\Q c a
theorem yn6(h:PC X g a b t)(f:Ge g b=false:=by first|exact aY _ (by decide) (by decide)|rfl):PT X (.Compare a [g] [b] pos) (tB t):=by
 intro e s n H Q I k;refine Gw (pe (h e s n H _ I k) λv s1 f=>pe f λu s2 j=>pe j λc s3 zz=>?_) f;obtain⟨x,H1,i,m,l⟩:=zz;obtain⟨d,rfl,q⟩:=l;cases m;exact Td ⟨H1,i,q⟩
theorem PY(h:PE X e t)(f:∀ a,yA e X.env a=(do let v <-a;Dk e.pos;Jg [v] (truthy v)):=by intro _;rfl):PT X e (tB t):=by
 intro b s σ H Q I g;refine isTrue_plain (pe (h b s σ H _ I g) λv s1 ⟨x,H1,c,j,i⟩=>?_) (f _);obtain⟨d,rfl,q⟩:=i;cases j;exact Td ⟨H1,c,q⟩
variable{tA tB':TT}{rest:List Ma}
noncomputable def Q7(t u:TT):TT:=λb H Q=>t b H λc a=>if c=true then u b a Q else Q false a
noncomputable def tOr(t u:TT):TT:=λb H Q=>t b H λc a=>if c=true then Q true a else u b a Q
noncomputable def Ô(t:TT):TT:=λb H Q=>t b H λc a=>Q (!c) a
theorem ď(d:PT X a tA):PW X (.BoolOp .And [a] pos) tA:=by
 intro g b s f H Q I h;refine isTrue_and (pe (d b s f H Q I h) λc s1 e=>?_);cases c with
 |true=>exact isTrue_and_nil e
 |false=>exact e
theorem z9(d:PT X a tA):PW X (.BoolOp .Or [a] pos) tA:=by
 intro g b s f H Q I h;refine isTrue_or (pe (d b s f H Q I h) λc s1 e=>?_);cases c with
 |false=>exact isTrue_or_nil e
 |true=>exact e
theorem ċ(i:PT X a tA)(j:PW X (.BoolOp .And (b::rest) pos) tB'):PW X (.BoolOp .And (a::b::rest) pos) (Q7 tA tB'):=by
 intro k d s g H Q I h;refine isTrue_and (pe (i d s g H _ I h) λc s1 zz=>?_);obtain⟨H1,e,f⟩:=zz;cases c with
 |true=>exact j k d s1 g H1 Q e f
 |false=>exact⟨H1,e,f⟩
theorem XZ(i:PT X a tA)(j:PW X (.BoolOp .Or (b::rest) pos) tB'):PW X (.BoolOp .Or (a::b::rest) pos) (tOr tA tB'):=by
 intro k d s g H Q I h;refine isTrue_or (pe (i d s g H _ I h) λc s1 zz=>?_);obtain⟨H1,e,f⟩:=zz;cases c with
 |true=>exact⟨H1,e,f⟩
 |false=>exact j k d s1 g H1 Q e f
theorem o1(e:PT X a tA):PT X (.UnaryOp .Not a pos) (Ô tA):=by
 intro b s f H Q I h;exact isTrue_not (e b s f H (λc d=>Q (!c) d) I h)
noncomputable def ywf(ta tb:TE):TE:=λb H Q=>ta b H λx a=>∃ c,x=.bl c/\if c=true then tb b a Q else Q (.bl false) a
noncomputable def Ū(ta tb:TE):TE:=λb H Q=>ta b H λx a=>∃ c,x=.bl c/\if c=true then Q (.bl true) a else tb b a Q
noncomputable def m5(ta:TE):TE:=λb H Q=>ta b H λx a=>∃ c,x=.bl c/\Q (.bl (!c)) a
theorem Ŋ{op}(h:PE X a t):PE X (.BoolOp op [a] pos) t:=λb s d H Q I c=>BoolOp_one (h b s d H Q I c)
theorem C3(i:PE X a ta)(j:PE X (.BoolOp .And (b::rest) pos) tb):PE X (.BoolOp .And (a::b::rest) pos) (ywf ta tb):=by
 intro d s g H Q I h;refine BoolOp_and (pe (i d s g H _ I h) λv s1 zz=>?_);obtain⟨x,H1,f,k,e⟩:=zz;obtain⟨c,rfl,e⟩:=e;cases k;refine Td ?_;cases c with
 |true=>exact j d s1 g H1 Q f e
 |false=>exact⟨.bl false,H1,f,rfl,e⟩
theorem X6(i:PE X a ta)(j:PE X (.BoolOp .Or (b::rest) pos) tb):PE X (.BoolOp .Or (a::b::rest) pos) (Ū ta tb):=by
 intro d s g H Q I h;refine BoolOp_or (pe (i d s g H _ I h) λv s1 zz=>?_);obtain⟨x,H1,f,k,e⟩:=zz;obtain⟨c,rfl,e⟩:=e;cases k;refine Td ?_;cases c with
 |false=>exact j d s1 g H1 Q f e
 |true=>exact⟨.bl true,H1,f,rfl,e⟩
theorem X7(f:PE X a ta):PE X (.UnaryOp .Not a pos) (m5 ta):=by
 intro b s i H Q I h;refine UnaryOp_ (pe (f b s i H _ I h) λv s1 zz=>?_);obtain⟨x,H1,e,g,d⟩:=zz;obtain⟨c,rfl,d⟩:=d;cases g;exact not_of (Td ⟨.bl (!c),H1,e,rfl,d⟩)
noncomputable def ĝ(t:TT)(ta tb:TE):TE:=λa H Q=>t a H λc b=>if c=true then ta a b Q else tb a b Q
theorem ã(l:PT X c tA)(j:PE X a ta)(k:PE X b tb):PE X (.IfExp c a b pos) (ĝ tA ta tb):=by
 intro e s f H Q I h;refine wpAny_IfExp (pe (l e s f H _ I h) λd s1 zz=>?_);obtain⟨H1,g,i⟩:=zz;cases d with
 |true=>exact j e s1 f H1 Q g i
 |false=>exact k e s1 f H1 Q g i
end
def Mf(K:W.Frag)(H:Hp)(a:Addr)(xs:List V):Prop:=
 Rd H a (.la xs)\/
  ∃ (o:jd) (b:Array Value) (n:Nat),K.lookup a=some o/\o.cls=.type "list"/\o.dict=none/\o.data=.seq b n/\b.size<=sizeLine/\ue xs b.toList
def ii(K:W.Frag)(H:Hp)(a:Addr)(xs:List V):Prop:=
 Rd H a (.Ka xs)\/
  ∃ (o:jd) (b:Array Value) (n:Nat),K.lookup a=some o/\o.cls=.type "tuple"/\o.data=.seq b n/\b.size<=sizeLine/\ue xs b.toList
noncomputable def UY:Value->Option V
 | .none=>some .wc
 | .bool b=>some (.bl b)
 | .int i _=>some (.int i)
 | .str x _=>some (.str x)
 | .bytes b _=>some (.VG b)
 | .float b _=>some (.Gz b)
 | .ref a=>some (.ref a)
 | .type n=>some (.ty n)
 |_=>none
theorem Pd.abs(r:Pd x u):UY u=some x:=by
 cases x with
 |wc=>cases r;rfl
 |bl _=>cases r;rfl
 |int _=>obtain⟨t,rfl⟩:=r;rfl
 |str _=>obtain⟨t,rfl⟩:=r;rfl
 |VG _=>obtain⟨t,rfl⟩:=r;rfl
 |Gz _=>obtain⟨t,rfl⟩:=r;rfl
 |ref _=>cases r;rfl
 |ty _=>cases r;rfl
theorem Pd.inj(r:Pd x u)(q:Pd y u):x=y:=Lb (r.abs.symm.trans q.abs)
theorem ue.inj:∀ {xs a:List V} {us:List Value},ue xs us->ue a us->xs=a
 |_,_,_,.nil,.nil=>rfl
 |_,_,_,.cons r t,.cons b c=>by rw[r.inj b,ue.inj t c]
section
variable{X:Cx}{pins:List (Addr × jd)}{σ:St}{H:Hp}{s:aa}{a:Addr}{xs ys:List V}
theorem Mf.of{K:W.Frag}(h:H a=some (.la xs)):Mf K H a xs:=.inl (.inl h)
theorem ii.of{K:W.Frag}(h:H a=some (.Ka xs)):ii K H a xs:=.inl (.inl h)
theorem Za.list(I:Za X pins σ H s)(h:Mf X.K H a xs):∃ its:List Value,ue xs its/\PlainL s.heap a its.toArray/\xs.length<=sizeLine:=by
 rcases h with h|⟨o,its,n,d,b,c,f,g,r⟩
 ·obtain⟨z,its,n,r,e⟩:=h.ok I.zd;exact⟨its,r,⟨_,n,e,rfl,rfl,rfl⟩,z⟩
 ·refine⟨its.toList,r,⟨o,n,I.sk a o d,b,c,by simpa using f⟩,?_⟩;have e:=r.length;simp only[qg]at e;omega
theorem Za.tuple(I:Za X pins σ H s)(h:ii X.K H a xs):∃ its:List Value,ue xs its/\Su s.heap a its.toArray/\xs.length<=sizeLine:=by
 rcases h with h|⟨o,its,n,c,b,d,f,r⟩
 ·obtain⟨z,its,r,p⟩:=h.ok I.zd;exact⟨its,r,p,z⟩
 ·refine⟨its.toList,r,⟨o,I.sk a o c,b,n,by simpa using d⟩,?_⟩;have e:=r.length;simp only[qg]at e;omega
theorem Za.Rk(I:Za X pins σ H s)(h:Mf X.K H a xs)(h':Mf X.K H a ys):xs=ys:=by
 obtain⟨its,r,⟨o,n,e,_,_,d⟩,_⟩:=I.list h;obtain⟨b,g,⟨j,i,f,_,_,c⟩,_⟩:=I.list h';rw[e]at f;cases f;rw[d]at c;injection c with d1 _;have:its=b:=by simpa using cc Array.toList d1
 subst this;exact r.inj g
theorem Za.Ut(I:Za X pins σ H s)(h:ii X.K H a xs)(h':ii X.K H a ys):xs=ys:=by
 obtain⟨its,r,⟨o,e,_,n,d⟩,_⟩:=I.tuple h;obtain⟨b,g,⟨j,f,_,i,c⟩,_⟩:=I.tuple h';rw[e]at f;cases f;rw[d]at c;injection c with d1 _;have:its=b:=by simpa using cc Array.toList d1
 subst this;exact r.inj g
end
abbrev Cx.Qm(X:Cx)(E:Value->aa->Prop):Cx:={ X with xe:=E }
noncomputable abbrev Cx.vp(X:Cx):Cx:=X.Qm λ_ _=>False
theorem Cx.Ok.Qm{X:Cx}(ok:X.Ok)(E:Value->aa->Prop):(X.Qm E).Ok:=
 ⟨ok.mod,ok.kind,ok.glob,ok.blt,ok.above,ok.inj,ok.has,ok.My,ok.hd,ok.frames,ok.zq,ok.cz,ok.bs,ok.As,ok.Br,ok.Ir,ok.Vj,ok.Mv⟩
theorem Cx.Ok.pi{X:Cx}(ok:(X.Qm E).Ok):X.Ok:=
 ⟨ok.mod,ok.kind,ok.glob,ok.blt,ok.above,ok.inj,ok.has,ok.My,ok.hd,ok.frames,ok.zq,ok.cz,ok.bs,ok.As,ok.Br,ok.Ir,ok.Vj,ok.Mv⟩
section
variable{X:Cx}{pins:List (Addr × jd)}{σ:St}{H:Hp}{s:aa}{E:Value->aa->Prop}
theorem Za.Qm(I:Za X pins σ H s)(E:Value->aa->Prop):Za (X.Qm E) pins σ H s:=⟨I.ok.Qm E,I.os,I.bare,I.base,I.loc,I.cell,I.free,I.Ug,I.pin,I.zd,I.len⟩
theorem Za.pi(I:Za (X.Qm E) pins σ H s):Za X pins σ H s:=⟨I.ok.pi,I.os,I.bare,I.base,I.loc,I.cell,I.free,I.Ug,I.pin,I.zd,I.len⟩
theorem SP.pi(h:SP (X.Qm E) pins D f c):SP X pins D f c:=by
 cases f with
 |next=>obtain⟨a,b,I,q⟩:=h;exact⟨a,b,I.pi,q⟩
 |brk=>obtain⟨a,b,I,q⟩:=h;exact⟨a,b,I.pi,q⟩
 |cont=>obtain⟨a,b,I,q⟩:=h;exact⟨a,b,I.pi,q⟩
 |ret u=>obtain⟨v,a,b,I,r,q⟩:=h;exact⟨v,a,b,I.pi,r,q⟩
theorem PE.vp(h:PE X.vp e t):PE X e t:=λpins s σ H Q I c=>
 Hc (h pins s σ H Q (I.Qm _) c) (λ_ _ ⟨v,a,b,r,q⟩=>⟨v,a,b.pi,r,q⟩) λ_ _ z=>False.elim z
theorem PT.vp(h:PT X.vp e t):PT X e t:=λpins s σ H Q I c=>
 Hc (h pins s σ H Q (I.Qm _) c) (λ_ _ ⟨a,b,q⟩=>⟨a,b.pi,q⟩) λ_ _ z=>False.elim z
theorem Fs.vp{st:List Stmt}(h:Fs X.vp st t):Fs X st t:=λpins s σ H D I a=>
 Hc (h pins s σ H D (I.Qm _) a) (λ_ _ q=>q.pi) λ_ _ z=>False.elim z
end
section
variable{X:Cx}{st:Stmt}{rest:List Stmt}{t u:TS}{e:Ma}{te:TE}{pos:Ce}
noncomputable def ğ:TS:=λD a H=>D.nx a H
noncomputable def K6(t u:TS):TS:=λD a H=>t { D with nx:=u D } a H
theorem bT:Fs X [] ğ:=λ_ _ σ H _ I h=>si ⟨σ,H,I,h⟩
theorem aQ(e:PS X st t)(g:Fs X rest u):Fs X (st::rest) (K6 t u):=by
 intro a s i H D I h;refine aF (pe (e a s i H { D with nx:=u D } I h) λf s1 q=>?_);cases f with
 |next=>
  obtain⟨b,c,d,q⟩:=q;exact g a s1 b c D d q
 |ret v=>exact q
 |brk=>exact q
 |cont=>exact q
theorem L6(b:PS X st t):Fs X [st] t:=by
 intro a s c H D I h;refine aF (pe (b a s c H D I h) λf s1 q=>?_);cases f with
 |next=>exact si q
 |ret v=>exact q
 |brk=>exact q
 |cont=>exact q
theorem Za.quiet(I:Za X a b H s):interactive X.env=false:=by simp[interactive,I.ok.kind]
noncomputable def ü(te:TE):TS:=λD σ H=>te σ H λ_ a=>D.nx σ a
theorem W5(d:PE X e te)(f:Qi e none pos.line X.env=pure false:=by rfl):PS X (.Expr e pos) (ü te):=by
 intro a s b H D I h;exact wpAny_Expr_any (pe (d a s b H _ I h) λv s1 ⟨x,H1,c,i,g⟩=>⟨b,H1,c,g⟩) I.quiet f
noncomputable def F7(te:TE):TS:=λD a H=>te a H D.rt
theorem QY(d:PE X e te):PS X (.Return (some e) pos) (F7 te):=by
 intro a s b H D I h;exact wpAny_Return_some (pe (d a s b H _ I h) λv s1 ⟨x,H1,c,g,f⟩=>⟨x,b,H1,c,g,f⟩)
noncomputable def é(c:TT)(t u:TS):TS:=λD a H=>c a H λb d=>if b=true then t D a d else u D a d
theorem cQ(m:PT X c j)(k:Fs X a t)(l:Fs X b u):PS X (.If c a b pos) (é j t u):=by
 intro e s f H D I h;refine wpAny_If (pe (m e s f H _ I h) λd s1 zz=>?_);obtain⟨H1,g,i⟩:=zz;cases d with
 |true=>exact k e s1 f H1 D g i
 |false=>exact l e s1 f H1 D g i
end
abbrev TG:=V->St->Hp->(St->Hp->Prop)->Prop
abbrev ky:=List V->St->Hp->(St->Hp->Prop)->Prop
def PG(X:Cx)(a:Ma)(t:TG):Prop:=
 ∀ (b:List (Addr × jd)) (s:aa) (σ:St) (H:Hp) (v:V) (u:Value) (Q:St->Hp->Prop),Za X b σ H s->Pd v u->t v σ H Q->
  wpAny (model X.prog X.w) X.A (mm a X.env u) (λ_ e=>∃ c d,Za X b c d e/\Q c d) X.xe s
def JE(X:Cx)(f:List Ma)(t:ky):Prop:=
 ∀ (a:List (Addr × jd)) (s:aa) (σ:St) (H:Hp) (d:List V) (us:List Value) (Q:St->Hp->Prop),Za X a σ H s->ue d us->t d σ H Q->
  wpAny (model X.prog X.w) X.A (assignInOrder ((Te f X.env).map (·.2)) us) (λ_ e=>∃ b c,Za X a b c e/\Q b c) X.xe s
abbrev zH:=V->V->V->Hp->(Hp->Prop)->Prop
def RK(X:Cx)(t:zH):Prop:=
 ∀ (a:List (Addr × jd)) (s:aa) (σ:St) (H:Hp) (o i v:V) (d c u:Value) (Q:Hp->Prop),Za X a σ H s->Pd o d->Pd i c->Pd v u->t o i v H Q->
  wpAny (model X.prog X.w) X.A (cw d c u) (λ_ e=>∃ b,Za X a σ b e/\Q b) X.xe s
abbrev wH:=V->V->Hp->VK->Prop
def BM(X:Cx)(b:om)(t:wH):Prop:=
 ∀ (a:List (Addr × jd)) (s:aa) (σ:St) (H:Hp) (x y:V) (v u:Value) (Q:VK),Za X a σ H s->Pd x v->Pd y u->t x y H Q->
  wpAny (model X.prog X.w) X.A (iF b v u) (EP X a σ Q) X.xe s
section
variable{X:Cx}{pos:Ce}
noncomputable def eQ(i:Nat):TG:=λv a H Q=>Q (a.set i (some v)) H
theorem MZ(c:X.N.Nodup)(e:X.N[i]?=some x)(f:Loc X.env.scope x)(d:X.fn x=true\/X.env.scope.names.lookup x=some .local:=by first|exact .inl rfl|exact .inr rfl|assumption):PG X (.Name x pos) (eQ i):=by
 intro a s j H v u Q I r h;exact cC (uH I c e f r (λg b=>⟨_,H,b,h⟩) d)
noncomputable def yz3:ky:=λa b H Q=>a=[]/\Q b H
noncomputable def ysi(t:TG)(u:ky):ky:=λc d H Q=>∃ v r,c=v::r/\t v d H λa b=>u r a b Q
theorem yd2:JE X [] yz3:=by
 intro a s b H d c Q I r h;obtain⟨e,h⟩:=h;subst e;cases r;exact assignInOrder_nil ⟨b,H,I,h⟩
theorem w6(g:PG X e t)(i:JE X b u)
  (j:(Te (e::b) X.env).map (·.2)=mm e X.env::(Te b X.env).map (·.2):=by rfl):JE X (e::b) (ysi t u):=by
 intro a s σ H o m Q I r h;obtain⟨v,n,f,h⟩:=h;subst f;cases r with
 |cons r l=>
  rw[j];refine assignInOrder_cons (pe (g a s σ H _ _ _ I r h) λ_ s1 zz=>?_);obtain⟨c,H1,d,k⟩:=zz;exact i a s1 c H1 _ _ Q d l k
noncomputable def uZ(K:W.Frag)(n:Nat)(t:ky):TG:=λv b H Q=>∃ a xs,v=.ref a/\ii K H a xs/\xs.length=n/\t xs b H Q
theorem J0(p:X.Da=true)(h:JE X d t)
  (w:(Te d X.env).length=n:=by rfl) (f:(Te d X.env).findIdx? (·.1)=none:=by rfl):PG X (.Tuple d k pos) (uZ X.K n t):=by
 intro c s j H v u Q I r g;obtain⟨a,xs,m,x,q,g⟩:=g;subst m;cases r;obtain⟨its,i,y,A⟩:=I.tuple x;refine assign_Tuple_tuple (I.ok.hd p) y (by simp[w,<-q,i.length]) f λh' z=>?_;have l:Za X c j H { s with heap:=h' }:=I.kept λb o e=>z b o (Pa (za e)) e;exact h c _ j H xs _ Q l (by simpa using i) g
noncomputable def yz4(f e:TE)(t:zH):TG:=λv a H Q=>f a H λo b=>e a b λi c=>t o i v c λd=>Q a d
theorem VT(n:PE X o e)(m:PE X i d)(p:RK X t)
  (C:∀ v,mm (.Subscript o i pos) X.env v=(do
   let b <-Jg [v] (Yb o X.env);let c <-Jg [v,b] (Yb i X.env)
   Dk pos
   Jg [v,b,c] (cw b c v)
   release [v,b,c] []):=by intro _;rfl):PG X (.Subscript o i pos) (yz4 e d t):=by
 intro a s σ H v u Q I r h;refine da (Qd (pe (n a s σ H _ I h) λb s1 zz=>?_));obtain⟨x,H1,j,A,q⟩:=zz;refine da (Qd (pe (m a s1 σ H1 _ j q) λc s2 zz=>?_));obtain⟨y,f,k,B,w⟩:=zz;refine da (qu (da (Qd (pe (p a s2 σ f x y v b c u _ k A B r w) λ_ s3 zz=>?_))));obtain⟨g,l,z⟩:=zz;exact wpAny_release ⟨σ,g,l,z⟩
noncomputable def HP(c:TE)(g:TG):TS:=λD a H=>c a H λx b=>g x a b D.nx
theorem IL(i:PE X e c)(j:PG X b g)(k:Qn [b] e pos.line X.env=pure false:=by rfl)(l:Rn [b] e X.env=pure none:=by rfl)
  (f:(Te [b] X.env).map (·.2)=[mm b X.env]:=by rfl):PS X (.Assign [b] e pos) (HP c g):=by
 intro a s σ H D I h;refine wpAny_Assign_stores (pe (i a s σ H _ I h) λv s1 zz=>?_) k l;obtain⟨x,H1,d,n,m⟩:=zz;rw[f];exact pe (j a s1 σ H1 x v _ d n m) λ_ s2 q=>q
theorem B9(g:X.N.Nodup)(l:X.N[i]?=some x)(n:Loc X.env.scope x)(j:PE X e c)(m:Qi e (some (.Name x a)) pos.line X.env=pure false:=by rfl)(k:X.fn x=true\/X.env.scope.names.lookup x=some .local:=by first|exact .inl rfl|exact .inr rfl|assumption) :
  PS X (.Assign [.Name x a] e pos) (HP c (eQ i)):=by
 intro b s q H D I h;refine wpAny_Assign_Name (pe (j b s q H _ I h) λv s1 zz=>?_) m;obtain⟨y,H1,d,p,o⟩:=zz;exact uH d g l n p (λs2 f=>⟨_,H1,f,o⟩) k
noncomputable def Z3(i:Nat)(d:TE)(e:wH):TS:=λD a H=>∃ x,a[i]?=some (some x)/\d a H λy b=>e x y b λz c=>D.nx (a.set i (some z)) c
theorem Z2(K:X.N.Nodup)(q:X.N[i]?=some x)(n:Loc X.env.scope x)(M:PE X e t)(S:BM X o B)(O:X.fn x=true\/X.env.scope.names.lookup x=some .local:=by first|exact .inl rfl|exact .inr rfl|assumption) :
  PS X (.AugAssign (.Name x f) o e pos) (Z3 i t B):=by
 intro a s σ H D I h;obtain⟨v,J,h⟩:=h;obtain⟨m,R,P⟩:=I.loc;have p:VH X.env.scope x:=by rcases n with k|k;exact .inl k;exact .inr (.inl k)
 obtain⟨u,r,l⟩:=P i x v q J p;refine wpAny_AugAssign_Name ?_;have go:wpAny (model X.prog X.w) X.A (Yb e X.env) (λw g=>wpAny (model X.prog X.w) X.A (iF o u w) (λr j=>wpAny (model X.prog X.w) X.A (gF X.env x r) (λ_=>SP X a D .next) X.xe j) X.xe g) X.xe s:=by
  refine pe (M a s σ H _ I h) λw s1 zz=>?_;obtain⟨y,H1,E,V,T⟩:=zz;refine pe (S a s1 σ H1 v y u w _ E r V T) λz s2 zz=>?_;obtain⟨Z,C,F,W,U⟩:=zz;exact uH F K q n W (λY G=>⟨_,C,G,U⟩) O
 rcases l with⟨b,Q⟩|⟨b,c,L,d⟩
 ·exact Lx I.ok.kind b R Q go
 ·rcases b with b|b
  ·exact Py I.ok.kind b L d go
  ·rcases n with k|k
   ·have:X.env.scope.names.lookup x=some .free:=b;rw[k]at this;cases this
   ·have:X.env.scope.names.lookup x=some .free:=b;rw[k]at this;cases this
noncomputable def OO(f:Int->Int->Int):wH:=λx y H Q=>∃ i j,x=.int i/\y=.int j/\Q (.int (f i j)) H
theorem KO:BM X .Add (OO λi j=>i+j):=by
 intro a s f H x y v u Q I d e h;obtain⟨i,j,b,c,q⟩:=h;subst b;subst c;obtain⟨t,rfl⟩:=d;obtain⟨t',rfl⟩:=e;exact iadd_int ⟨.int _,H,I.tok _,⟨_,rfl⟩,q⟩
end
section
variable{X:Cx}{pos:Ce}
noncomputable def ø(c:TT)(h:TS):TS:=λD a H=>∃ W:Nat->St->Hp->Prop,(∃ m,W m a H)/\∀ m a H,W m a H->
 c a H λb f=>if b=true then ∃ N:St->Hp->Prop,(∀ d e,N d e->∃ g,g<m/\W g d e)/\h { D with nx:=N,ct:=N,bk:=D.nx } a f else D.nx a f
theorem zvo(C:Yj (model X.prog X.w) X.A X.env X.xe)(K:PT X c F)(J:Fs X g E):PS X (.While c g [] pos) (ø F E):=by
 intro a s Q H D I h;obtain⟨W,⟨L,O⟩,j⟩:=h;refine wpAny_While (codeAny_whileLoop (λn M=>∃ k u,Za X a k u M/\W n k u) ?_ L ⟨Q,H,I,O⟩);rintro n s1 ⟨e,x,G,P⟩;refine ag C (pe (K a s1 e x _ G (j n e x P)) λb s2 zz=>?_);obtain⟨y,z,l⟩:=zz;cases b with
 |true=>
  obtain⟨N,B,l⟩:=l;refine ag C (pe (J a s2 e y _ z l) λf R m=>?_);cases f with
  |next=>
   obtain⟨d,i,o,r⟩:=m;obtain⟨q,p,t⟩:=B d i r;exact⟨q,p,d,i,o,t⟩
  |cont=>
   obtain⟨d,i,o,r⟩:=m;obtain⟨q,p,t⟩:=B d i r;exact⟨q,p,d,i,o,t⟩
  |brk=>exact m
  |ret v=>exact m
 |false=>
  exact si ⟨e,y,z,l⟩
end
structure It where
 go:Nat->Hp->Prop
 DA:Nat->Hp->V->Hp->Prop
 stop:Nat->Hp->Prop
def Wm(X:Cx)(a:List (Addr × jd))(H:Hp)(b:Addr):Prop:=
 H b=none/\b≠X.env.locals/\b ∉ X.fs/\(b∈X.ex\/X.s₀.heap.objs.size<=b)/\(∀ x c,X.env.cells.lookup x=some c->c≠b)/\∀ p∈X.pn++a,p.1≠b
theorem Za.Zq(I:Za X a i H s)(d:s.heap.objs.size<=b)(g:f b=none):Wm X a f b:=by
 refine⟨g,fh (Sa I.lt d),I.yC d,.inr (Ib I.sz d),λx c e z=>?_,λp h z=>?_⟩
 ·obtain⟨v,q⟩:=I.cell x c e;exact absurd (Sa q.lt (by rw[z];exact d)) (Zd _)
 ·exact absurd (Sa (za (I.pin p h).1) (by rw[z];exact d)) (Zd _)
structure gr(P:Aa)(w:Wa)(K:W.Frag)(tg:Ma)(J:It)(fp:List Addr)(it:Addr)(tn:Nat->Heap->Prop):Prop where
 mem:it∈fp
 obj:∀ i h,tn i h->∀ b∈fp,∃ o,h.get? b=some o/\∀ v,o.data≠.cell v
 keep:∀ i h h',tn i h->(∀ b∈fp,∀ o,h.get? b=some o->h'.get? b=some o)->tn i h'
 item:∀ (X:Cx),X.prog=P->X.w=w->X.K=K->X.Da=true->∀ (i:Nat) (pins:List (Addr × jd)) (s:aa) (σ:St) (H:Hp) (E:Value->aa->Prop),Za X pins σ H s->(∀ b∈fp,Wm X pins H b)->tn i s.heap->J.go i H->
  wpAny (model P w) X.A (pyNext (.ref it)) (λr s1=>∃ u,r=some u/\
   wpAny (model P w) X.A (letOwnedTupleGo tg (.ref it) u) (λ_ s2=>∃ x H',Za X pins σ H' s2/\Pd x u/\J.DA i H x H'/\tn (i+1) s2.heap/\∀ b∈fp,H' b=none) E s1) E s
 done:∀ (X:Cx),X.prog=P->X.w=w->X.K=K->X.Da=true->∀ (i:Nat) (pins:List (Addr × jd)) (s:aa) (σ:St) (H:Hp) (E:Value->aa->Prop),Za X pins σ H s->(∀ b∈fp,Wm X pins H b)->tn i s.heap->J.stop i H->
  wpAny (model P w) X.A (pyNext (.ref it)) (λr s1=>r=none/\Za X pins σ H s1) E s
 self:∀ (A:Qa) (i:Nat) (s:aa) (Q:Value->aa->Prop) (E:Value->aa->Prop),tn i s.heap->Q (.ref it) s->wpAny (model P w) A (pyIter (.ref it)) Q E s
abbrev TI:=St->Hp->(It->Hp->Prop)->Prop
def DT(X:Cx)(a:List (Addr × jd))(i:St)(h:Ma)(R:It->Hp->Prop)(d:Value)(s2:aa):Prop:=
 ∃ (f:Addr) (e:List Addr) (g:Nat->Heap->Prop) (J:It) (c:Hp),d=.ref f/\Za X a i c s2/\gr X.prog X.w X.K h J e f g/\g 0 s2.heap/\(∀ b∈e,Wm X a c b)/\R J c
def PI(X:Cx)(c b:Ma)(d:TI):Prop:=
 ∀ (a:List (Addr × jd)) (s:aa) (σ:St) (H:Hp) (R:It->Hp->Prop),Za X a σ H s->d σ H R->
  wpAny (model X.prog X.w) X.A (Yb b X.env) (λv s1=>wpAny (model X.prog X.w) X.A (pyIter v) (DT X a σ c R) X.xe s1) X.xe s
theorem xN (i : s.heap.get? b = some o) (e : o.cls = .type n) (f : o.data = .fields d)
    (g : ["enumerate","zip","dict_itemiterator","dict_reverseitemiterator","odict_iterator","itertools.zip_longest","itertools.pairwise"].contains n = false) (a : Q () s) : wpAny M A (letOwnedTupleGo c (.ref b) u) Q E s := by
  cases c <;> first
    | exact ua a
    | (cases u <;> first
        | exact ua a
        | (refine da (nA i ?_)
           rw [e, f];show wpAny M A (if (["enumerate","zip","dict_itemiterator","dict_reverseitemiterator","odict_iterator","itertools.zip_longest","itertools.pairwise"].contains n && d[0]? == some (zf _)) = true then _ else _) Q E s;rw [ka (by intro h; rw [g, Yp] at h; cases h)];exact ua a))
noncomputable def oM(K:W.Frag)(a:Addr):It:=
 ⟨λi H=>∃ xs x,Mf K H a xs/\xs[i]?=some x,λi H x b=>b=H/\∀ xs,Mf K H a xs->xs[i]?=some x,λi H=>∃ xs,Mf K H a xs/\xs.length<=i⟩
noncomputable def LK(K:W.Frag)(a:Addr):It:=
 ⟨λi H=>∃ xs x,ii K H a xs/\xs[i]?=some x,λi H x b=>b=H/\∀ xs,ii K H a xs->xs[i]?=some x,λi H=>∃ xs,ii K H a xs/\xs.length<=i⟩
noncomputable def sF(lo:Int)(n:Nat):It:=⟨λi _=>i<n,λi H x a=>a=H/\x=.int (lo+i),λi _=>n<=i⟩
theorem J7{P:Aa}{w:Wa}{K:W.Frag}{U:Ma}(a j:Addr):gr P w K U (oM K a) [j] j (λi h=>h.IsListIter j a i) where
 mem:=by simp
 obj:=λi h st b g=>by
  have e:b=j:=by simpa using g
  subst e;obtain⟨o,e,c,d⟩:=st;exact⟨o,e,λv z=>by rw[d]at z;cases z⟩
 keep:=λi h h' st k=>st.at λo e=>k j (by simp) o e
 item:=by
  intro X C F B L i f s σ H E I m st D;subst C F B;obtain⟨xs,x,n,G⟩:=D;obtain⟨its,J,p,S⟩:=I.list n;obtain⟨u,Q,T⟩:=J.get G;obtain⟨q,r,O,t,y,A⟩:=m j (by simp);refine wpAny_pyNext_list_item st p.isList (by simpa using Q) λh' l sb=>?_;have M:Za X f σ H { s with heap:=h' }:=I.turned (λb o g e=>(sb.2 b g).trans e) q r t y A;obtain⟨o,e,c,d⟩:=id l;exact⟨u,rfl,xN e c d (by decide) ⟨x,H,M,T,⟨rfl,λY R=>by rw[I.Rk R n];exact G⟩,l,λb g=>(m b g).1⟩⟩
 done:=by
  intro X C F B L i f s σ H E I m st D;subst C F B;obtain⟨xs,n,G⟩:=D;obtain⟨its,J,p,S⟩:=I.list n;obtain⟨q,r,O,t,y,A⟩:=m j (by simp);have V:=J.length;exact wpAny_pyNext_list_end (I.ok.hd L) st p.isList (by simp;omega) λh' N=>⟨rfl,I.turned (λb o g e=>N b o g e) q r t y A⟩
 self:=λ_ _ _ _ _ st h=>wpAny_pyIter_listiter st h
theorem r8{P:Aa}{w:Wa}{K:W.Frag}{U:Ma}(a j:Addr):gr P w K U (LK K a) [j] j (λi h=>h.IsTupleIter j a i) where
 mem:=by simp
 obj:=λi h st b g=>by
  have e:b=j:=by simpa using g
  subst e;obtain⟨o,e,c,d⟩:=st;exact⟨o,e,λv z=>by rw[d]at z;cases z⟩
 keep:=λi h h' st k=>st.at λo e=>k j (by simp) o e
 item:=by
  intro X C F B L i f s σ H E I m st D;subst C F B;obtain⟨xs,x,n,G⟩:=D;obtain⟨its,J,p,S⟩:=I.tuple n;obtain⟨u,Q,T⟩:=J.get G;obtain⟨q,r,O,t,y,A⟩:=m j (by simp);refine wpAny_pyNext_tuple_item st (p) (by simpa using Q) λh' l sb=>?_;have M:Za X f σ H { s with heap:=h' }:=I.turned (λb o g e=>(sb.2 b g).trans e) q r t y A;obtain⟨o,e,c,d⟩:=id l;exact⟨u,rfl,xN e c d (by decide) ⟨x,H,M,T,⟨rfl,λY R=>by rw[I.Ut R n];exact G⟩,l,λb g=>(m b g).1⟩⟩
 done:=by
  intro X C F B L i f s σ H E I m st D;subst C F B;obtain⟨xs,n,G⟩:=D;obtain⟨its,J,p,S⟩:=I.tuple n;obtain⟨q,r,O,t,y,A⟩:=m j (by simp);have V:=J.length;exact wpAny_pyNext_tuple_end (I.ok.hd L) st (p) (by simp;omega) λh' N=>⟨rfl,I.turned (λb o g e=>N b o g e) q r t y A⟩
 self:=λ_ _ _ _ _ st h=>wpAny_pyIter_tupleiter st h
theorem Ì{P:Aa}{w:Wa}{K:PySem.W.Frag}{J:Ma}(a:Addr)(lo:Int)(n:Nat):gr P w K J (sF lo n) [a] a (λi h=>IsRangeIter h a (lo+(i:Nat) * 1) ((n:Int) - (i:Nat)) 1) where
 mem:=by simp
 obj:=λi h st b d=>by
  have e:b=a:=by simpa using d
  subst e;exact⟨_,st,λv z=>by
   have M:=z;cases M⟩
 keep:=λi h h' st k=>k a (by simp) _ st
 item:=by
  intro X u A r x i c s σ H E I g st y;subst u A r;obtain⟨j,l,D,m,p,q⟩:=g a (by simp);have W:=Walks.range (prog:=X.prog) (w:=X.w) (I.ok.hd x) a lo 1 n;refine W.item i s _ _ y st λv h' L F f G=>?_;obtain⟨t,rfl⟩:=F;have B:Za X c σ H { s with heap:=h',toks:=L }:=I.turned (λb o d e=>G b o (by simpa using d) e) j l m p q;refine⟨_,rfl,xN f rfl rfl (by decide) ⟨.int (lo+i),H,B,⟨t,?_⟩,⟨rfl,rfl⟩,f,λb d=>(g b d).1⟩⟩;rw[Int.mul_one]
 done:=by
  intro X u A r x i c s σ H E I g st y;subst u A r;obtain⟨j,l,D,m,p,q⟩:=g a (by simp);exact wpAny_pyNext_range_end (I.ok.hd x) st (by have:n<=i:=y;omega) λh' C=>⟨rfl,I.turned (λb o d e=>C b o d e) j l m p q⟩
 self:=λ_ _ _ _ _ st h=>wpAny_pyIter_rangeiter st h
section
variable{X:Cx}{tg:Ma}
theorem NP{lo a:Int}(I:Za X c f H s)(j:-(2 ^ 62)<=lo)(k:lo<2 ^ 62)(l:-(2 ^ 62)<=a)(m:a<2 ^ 62)
  (q:R (sF lo (a - lo).toNat) H):wpAny (model X.prog X.w) X.A (pyIter (.ref s.heap.objs.size)) (DT X c f tg R) E { s with heap:=s.heap.push { cls:=.type "range",data:=.fields #[.int lo t,.int a u,.int 1 v] },toks:=g }:=by
 refine wpAny_pyIter_range (IsRange.new ..) (small_one j k l m) ?_;have d:Za X c f H { s with heap:=s.heap.push { cls:=.type "range",data:=.fields #[.int lo t,.int a u,.int 1 v] },toks:=g }:=I.kept λb o e=>na _ e;refine⟨(s.heap.push { cls:=.type "range",data:=.fields #[.int lo t,.int a u,.int 1 v] }).objs.size,[(s.heap.push { cls:=.type "range",data:=.fields #[.int lo t,.int a u,.int 1 v] }).objs.size],_,_,H,rfl,
  d.kept λb o e=>na _ e,Ì _ lo (a - lo).toNat,?_,λb n=>?_,q⟩
 ·have h:lo+(0:Nat) * 1=lo:=by simp
  have i:((a - lo).toNat) - (0:Nat)=jF lo a 1:=by rw[rX];split<;>omega
  rw[h,i];exact qb _ rfl
 ·have e:b=(s.heap.push { cls:=.type "range",data:=.fields #[.int lo t,.int a u,.int 1 v] }).objs.size:=by simpa using n
  subst e;exact d.Zq (ya _) (d.zd.fresh (ya _))
def Y9(b:TA):TI:=λd H R=>b d H λc a=>∃ j:Int,c=[.int j]/\-(2 ^ 62)<=j/\j<2 ^ 62/\R (sF 0 j.toNat) a
def G2(b:TA):TI:=λd H R=>b d H λc a=>∃ i j:Int,c=[.int i,.int j]/\(-(2 ^ 62)<=i/\i<2 ^ 62/\-(2 ^ 62)<=j/\j<2 ^ 62)/\R (sF i (j - i).toNat) a
theorem U9(k:Gl X "range")(l:X.mg "range" = none)(i:PA X [a] f)(m:qa [a] X.env=[(false,Yb a X.env)]:=by rfl):PI X tg (.Call (.Name "range" p) [a] [] c) (Y9 f):=by
 intro b s v H R I h;refine Call_ (Xw I k l oA (ae (pe (i c b s v H _ I h) λus s1 zz=>?_) m rfl));obtain⟨w,H1,g,o,d⟩:=zz;obtain⟨j,e,d,n,q⟩:=d;subst e;cases o with
 |cons r u=>
  cases u;obtain⟨t,rfl⟩:=r;exact call_range_1 (NP g (by omega) (by omega) d n (by simpa using q))
theorem Ù(o:Gl X "range")(u:X.mg "range" = none)(n:PA X [a,b] l)(v:qa [a,b] X.env=[(false,Yb a X.env),(false,Yb b X.env)]:=by rfl)(c:qa [b] X.env=[(false,Yb b X.env)]:=by rfl) :
  PI X tg (.Call (.Name "range" p) [a,b] [] f) (G2 l):=by
 intro d s B H R I h;refine Call_ (Xw I o u oA (ae (pe (n f d s B H _ I h) λus s1 ⟨C,H1,m,A,g⟩=>?_) (by rw[v,c]) (by rw[c];rfl)));obtain⟨i,j,e,⟨g,w,x,y⟩,q⟩:=g;subst e;cases A with
 |cons r k=>
  cases k with
  |cons z k=>
   cases k;obtain⟨t,rfl⟩:=r;obtain⟨t',rfl⟩:=z;exact call_range_2 (NP m g w x y q)
noncomputable def w4(k:TI)(g:TG)(j:TS):TS:=λD a H=>k a H λJ f=>∃ W:Nat->Nat->St->Hp->Prop,(∃ m,W 0 m a f)/\∀ i m a H,W i m a H->
 (J.stop i H/\D.nx a H)\/(J.go i H/\∃ N:St->Hp->Prop,(∀ c b,N c b->∃ e,e<m/\W (i+1) e c b)/\∀ x b,J.DA i H x b->g x a b λd h=>j { D with nx:=N,ct:=N,bk:=D.nx } d h)
noncomputable def OC(a:List Addr)(h:Heap):List (Addr × jd):=a.filterMap λb=>(h.get? b).map λo=>(b,o)
theorem qF(c:b∈a)(e:h.get? b=some o):(b,o)∈OC a h:=Ll.mpr ⟨b,c,by rw[e];rfl⟩
theorem Ĳ(f:p∈OC a h):p.1∈a/\h.get? p.1=some p.2:=by
 obtain⟨b,d,e⟩:=Ll.mp f;cases q:h.get? b with
 |none=>rw[q]at e;cases e
 |some o=>
  rw[q]at e;have c:=Lb e;subst c;exact⟨d,q⟩
theorem Za.pinned(I:Za X a σ H s)(k:∀ b∈c,Wm X a H b)(l:∀ b∈c,∃ o,s.heap.get? b=some o/\∀ v,o.data≠.cell v):Za X (a++OC c s.heap) σ H s:=
 I.Jj λp m=>(Kf.mp m).elim (λz=>I.pin p (Ya _ z)) λz=>by
  obtain⟨g,e⟩:=Ĳ z;obtain⟨h,i,j,_⟩:=k p.1 g;obtain⟨o,f,d⟩:=l p.1 g;rw[e]at f;cases f;exact⟨e,h,i,j,d⟩
theorem Za.Qk(I:Za X (a++pl) b H s):Za X a b H s:=I.Jj λp c=>I.pin p (Ya _ (ib _ c))
theorem NO(L:Yj (model X.prog X.w) X.A X.env X.xe)(hc:X.Da=true)(hi:PI X tg q wi)(hg:PG X tg g)(p:Fs X C tb)
  (hs:∀ x,xh q X.env x=pure x:=by intro _;rfl):PS X (.For tg q C [] Z) (w4 wi g tb):=by
 intro a s σ H D I h;refine wpAny_For (pe (hi a s σ H _ I h) λv s1 h1=>pe h1 λa2 s2 h2=>?_) hs;obtain⟨it,G,tn,J,H2,e,I2,T,a0,f2,W,⟨m0,w0⟩,R⟩:=h2;subst e;have t:∀ {B:Hp},(∀ b∈G,B b=none)->∀ b∈G,Wm X a B b:=λhn b p=>⟨hn b p,(f2 b p).2⟩
 refine codeAny_forLoop_any (λn s'=>∃ i y B,Za X a y B s'/\tn i s'.heap/\(∀ b∈G,B b=none)/\W i n y B) ?_ m0 ⟨0,σ,H2,I2,a0,λb p=>(f2 b p).1,w0⟩;rintro n s3 ⟨i,z,S,I3,O,K,w3⟩;rcases R i n z S w3 with⟨Q,qn⟩|⟨go,N,hN,P⟩
 ·refine ag L (pe (T.done X rfl rfl rfl hc i a s3 z S X.xe I3 (t K) O Q) λr s4 ⟨Y,I4⟩=>?_);subst Y;exact si ⟨z,S,I4,qn⟩
 ·refine ag L (pe (T.item X rfl rfl rfl hc i a s3 z S X.xe I3 (t K) O go) λr s4 zz=>?_);obtain⟨u,Y,h4⟩:=zz;subst Y;refine ag L (pe h4 λ_ s5 zz=>?_);obtain⟨x,H5,I5,r5,y5,F,V⟩:=zz;have U:=I5.pinned (t V) (T.obj _ _ F);refine ag L (pe (hg _ s5 z H5 x u _ U r5 (P x H5 y5)) λ_ s6 zz=>?_);obtain⟨a1,H6,I6,q6⟩:=zz;refine ag L (pe (p _ s6 a1 H6 _ I6 q6) λf s7 E=>?_);have l:∀ {c:St} {j:Hp},Za X (a++OC G s5.heap) c j s7->N c j->∃ m,m<n/\∃ i y B,Za X a y B s7/\tn i s7.heap/\(∀ b∈G,B b=none)/\W i m y B:=fun {c j} k M=>by
   obtain⟨m',hm,w7⟩:=hN c j M;refine⟨m',hm,i+1,c,j,k.Qk,T.keep _ _ _ F λb p o e=>(k.pin (b,o) (Ya _ (Ya _ (qF p e)))).1,λb p=>?_,w7⟩;obtain⟨o,e,d⟩:=T.obj _ _ F b p;exact(k.pin (b,o) (Ya _ (Ya _ (qF p e)))).2.1
  cases f with
  |next=>obtain⟨c,j,k,M⟩:=E;exact l k M
  |cont=>obtain⟨c,j,k,M⟩:=E;exact l k M
  |brk=>obtain⟨c,j,k,E⟩:=E;exact⟨c,j,k.Qk,E⟩
  |ret v=>obtain⟨x7,c,j,k,r7,E⟩:=E;exact⟨x7,c,j,k.Qk,r7,E⟩
end
abbrev R2:=V->V->Hp->VK->Prop
def di(X:Cx)(f:Value->Value->bq Value)(r:R2):Prop:=
 ∀ (a:List (Addr × jd)) (s:aa) (σ:St) (H:Hp) (x y:V) (v u:Value) (Q:VK),Za X a σ H s->Pd x v->Pd y u->r x y H Q->
  wpAny (model X.prog X.w) X.A (f v u) (EP X a σ Q) X.xe s
def VF(X:Cx)(f:Value->bq Value)(r:V->Hp->VK->Prop):Prop:=
 ∀ (a:List (Addr × jd)) (s:aa) (σ:St) (H:Hp) (x:V) (v:Value) (Q:VK),Za X a σ H s->Pd x v->r x H Q->
  wpAny (model X.prog X.w) X.A (f v) (EP X a σ Q) X.xe s
def zm(X:Cx)(f:Value)(r:List V->Hp->VK->Prop):Prop:=
 ∀ (a:List (Addr × jd)) (s:aa) (σ:St) (H:Hp) (xs:List V) (us:List Value) (Q:VK),Za X a σ H s->ue xs us->r xs H Q->
  wpAny (model X.prog X.w) X.A (call f us) (EP X a σ Q) X.xe s
noncomputable def GB(r:R2)(d e:TE):TE:=λa H Q=>d a H λx b=>e a b λy c=>r x y c Q
def X8(r:V->Hp->VK->Prop)(b:TE):TE:=λc H Q=>b c H λx a=>r x a Q
def rI(C:Int->Int->Prop)(g:Int->Int->V):R2:=λx y H Q=>∃ i j,x=.int i/\y=.int j/\C i j/\Q (g i j) H
noncomputable def qr(g:Int->Int->V):R2:=λx y H Q=>∃ i j,x=.int i/\y=.int j/\Q (g i j) H
def rU(g:Int->V):V->Hp->VK->Prop:=λx H Q=>∃ i,x=.int i/\Q (g i) H
section
variable{X:Cx}{a b c:Ma}{ta tb tc:TE}{pos:Ce}
theorem kL(m:PE X a ta)(n:PE X b tb){c:List (Addr × jd)}{R:V->V->Hp->Prop}(I:Za X c e H s)
  (h:ta e H λx j=>tb e j λy d=>R x y d) {f:Value->Value->bq Value}
  (o:∀ v u s2 x y d,Za X c e d s2->Pd x v->Pd y u->R x y d->wpAny (model X.prog X.w) X.A (f v u) Q X.xe s2) :
  wpAny (model X.prog X.w) X.A (Yb a X.env) (λv g=>wpAny (model X.prog X.w) X.A (Yb b X.env) (λu i=>wpAny (model X.prog X.w) X.A (f v u) Q X.xe i) X.xe g) X.xe s:=by
 refine pe (m c s e H _ I h) λv s1 zz=>?_;obtain⟨x,j,k,r,p⟩:=zz;refine pe (n c s1 e j _ k p) λu s2 zz=>?_;obtain⟨y,d,l,t,q⟩:=zz;exact o v u s2 x y d l r t q
theorem yuz(j:di X (Be d) r)(g:PE X a ta)(i:PE X b tb):PE X (.BinOp a d b pos) (GB r ta tb):=by
 intro c s m H Q I h;exact wpAny_BinOp (kL g i I h λv u s2 x y e f k l q=>j c s2 m e x y v u Q f k l q)
theorem TX{c:UnaryOp}(g:VF X (unaryOp c) r)(f:PE X a ta):PE X (.UnaryOp c a pos) (X8 r ta):=by
 intro b s d H Q I h;exact UnaryOp_ (pe (f b s d H _ I h) λv s1 ⟨x,H1,e,j,i⟩=>g b s1 d H1 x v Q e j i)
theorem RD{g:Int->Int->Int}
  (a:∀ (i j:Int) (t u:Tok) (s:aa) (Q:Value->aa->Prop) (E:Value->aa->Prop),C i j->Q (.int (g i j) s.toks) { s with toks:=s.toks+1 }->wpAny (model X.prog X.w) X.A (f (.int i t) (.int j u)) Q E s) :
  di X f (rI C λi j=>.int (g i j)):=by
 intro b s k H x y v u Q I d e h;obtain⟨i,j,rfl,rfl,c,q⟩:=h;obtain⟨t,rfl⟩:=d;obtain⟨t',rfl⟩:=e;exact a i j t t' s _ _ c ⟨.int (g i j),H,I.tok _,⟨_,rfl⟩,q⟩
theorem wM{g:Int->Int->Int}
  (a:∀ (i j:Int) (t u:Tok) (s:aa) (Q:Value->aa->Prop) (E:Value->aa->Prop),Q (.int (g i j) s.toks) { s with toks:=s.toks+1 }->wpAny (model X.prog X.w) X.A (f (.int i t) (.int j u)) Q E s) :
  di X f (qr λi j=>.int (g i j)):=by
 intro b s e H x y v u Q I c d h;obtain⟨i,j,rfl,rfl,q⟩:=h;obtain⟨t,rfl⟩:=c;obtain⟨t',rfl⟩:=d;exact a i j t t' s _ _ ⟨.int (g i j),H,I.tok _,⟨_,rfl⟩,q⟩
theorem uI{g:Int->Int->Bool}
  (a:∀ (i j:Int) (t u:Tok) (s:aa) (Q:Value->aa->Prop) (E:Value->aa->Prop),Q (.bool (g i j)) s->wpAny (model X.prog X.w) X.A (f (.int i t) (.int j u)) Q E s) :
  di X f (qr λi j=>.bl (g i j)):=by
 intro b s e H x y v u Q I c d h;obtain⟨i,j,rfl,rfl,q⟩:=h;obtain⟨t,rfl⟩:=c;obtain⟨t',rfl⟩:=d;exact a i j t t' s _ _ ⟨.bl (g i j),H,I,rfl,q⟩
def rT(i j:Int):Prop:=0<j/\j<1073741824
def dO(i j:Int):Prop:=0<=j/\j<=1000000/\i.natAbs<2 ^ 64
def AG(i j:Int):Prop:=(-(2 ^ 64)<i/\i<2 ^ 64)\/(-(2 ^ 64)<j/\j<2 ^ 64)
theorem AG.ok(h:AG i j):IntMulOk i j:=by
 rcases h with⟨a,b⟩|⟨a,b⟩
 ·exact .of_left (tX a b)
 ·exact .of_right (tX a b)
theorem F3(k:Nat):(0:Int)<=2 ^ k:=by
 exact Int.natCast_nonneg _
theorem G7:di X (Be .Add) (qr λi j=>.int (i+j)):=wM λ_ _ _ _ _ _ _ q=>add_int q
theorem Ku:di X (Be .Sub) (qr λi j=>.int (i - j)):=wM λ_ _ _ _ _ _ _ q=>sub_int q
theorem Ł:di X (Be .Mult) (rI AG λi j=>.int (i * j)):=RD λ_ _ _ _ _ _ _ a q=>mul_int q a.ok
theorem jE:di X (Be .FloorDiv) (rI rT λi j=>.int (i / j)):=RD λi j _ _ _ _ _ a q=>by
 have b:=a.1;have c:=a.2;exact floordiv_int (by omega) (by rw[Bq i (by omega)];exact q) (.inl (PyProof.noPylong_small (by omega)))
theorem Nw:di X (Be .Mod) (rI (λ_ j=>0<j) λi j=>.int (i % j)):=RD λi j _ _ _ _ _ a q=>by
 exact mod_int' (by omega) (by rw[Int.fmod_eq_emod_of_nonneg i (by omega)];exact q)
theorem UL:di X (Be .Pow) (rI dO λi j=>.int (i ^ j.toNat)):=RD λ_ _ _ _ _ _ _ a q=>pow_int_small a.1 a.2.1 a.2.2 q
theorem ĉ:di X (Be .RShift) (rI (λ_ j=>0<=j) λi j=>.int (i / 2 ^ j.toNat)):=RD λi j _ _ _ _ _ a q=>
 rshift_int a (by rw[Bq i (F3 _)];exact q)
theorem æ:di X (Be .BitAnd) (qr λi j=>.int (Yh i j)):=wM λ_ _ _ _ _ _ _ q=>and_int q
theorem Œ{g:Int->Int}
  (a:∀ (i:Int) (t:Tok) (s:aa) (Q:Value->aa->Prop) (E:Value->aa->Prop),Q (.int (g i) s.toks) { s with toks:=s.toks+1 }->wpAny (model X.prog X.w) X.A (f (.int i t)) Q E s) :
  VF X f (rU λi=>.int (g i)):=by
 intro b s d H x v Q I c h;obtain⟨i,rfl,q⟩:=h;obtain⟨t,rfl⟩:=c;exact a i t s _ _ ⟨.int (g i),H,I.tok _,⟨_,rfl⟩,q⟩
theorem lO:VF X (unaryOp .USub) (rU λi=>.int (-i)):=Œ λ_ _ _ _ _ q=>neg_int q
end
section
variable{X:Cx}{a b c:Ma}{ta tb tc:TE}{pos:Ce}
theorem gT{a:List (Addr × jd)}{c:St}{k b:Bool}(I:Za X a c H s)(q:Q (.bl k) H)(e:k=b):EP X a c Q (.bool b) s:=by
 subst e;exact⟨.bl k,H,I,rfl,q⟩
theorem dy:di X (Sb .Lt) (qr λi j=>.bl (decide (i<j))):=uI λ_ _ _ _ _ _ _ q=>lt_int q
theorem fQ:di X (Sb .LtE) (qr λi j=>.bl (decide (i<=j))):=uI λ_ _ _ _ _ _ _ q=>le_int q
theorem cT:di X (Sb .Gt) (qr λi j=>.bl (decide (j<i))):=uI λ_ _ _ _ _ _ _ q=>gt_int q
theorem QK:di X (Sb .GtE) (qr λi j=>.bl (decide (j<=i))):=uI λ_ _ _ _ _ _ _ q=>ge_int q
theorem zC:di X (Sb .Is) (λx y H Q=>y=.wc/\Q (.bl (decide (x=.wc))) H):=by
 intro a s d H x y v u Q I b c h;obtain⟨rfl,q⟩:=h;cases c;refine is_none_gen (gT I q ?_);cases x<;>first
  |(cases b;rfl)
  |(obtain⟨t,rfl⟩:=b;rfl)
theorem fU:di X (Sb .IsNot) (λx y H Q=>y=.wc/\Q (.bl (!decide (x=.wc))) H):=by
 intro a s d H x y v u Q I b c h;obtain⟨rfl,q⟩:=h;cases c;refine isnot_none_gen (gT I q ?_);cases x<;>first
  |(cases b;rfl)
  |(obtain⟨t,rfl⟩:=b;rfl)
theorem di.or{r b:R2}(h:di X f r)(h':di X f b):di X f (λx y H Q=>r x y H Q\/b x y H Q):=by
 intro a s e H x y v u Q I c d q;rcases q with q|q
 ·exact h a s e H x y v u Q I c d q
 ·exact h' a s e H x y v u Q I c d q
theorem lf(b:Ma){a:Uq}(h:a≠.In:=by decide)(e:a≠.NotIn:=by decide):Ge a b=false:=by
 have c:(a == ON)=false:=by cases a<;>first|rfl|exact absurd rfl h
 have d:(a == nC)=false:=by cases a<;>first|rfl|exact absurd rfl e
 cases b<;>simp[Ge,c,d]
theorem ydy(k:di X (Sb d) r)(g:PE X a ta)(i:PE X b tb)(j:Ge d b=false):PE X (.Compare a [d] [b] pos) (GB r ta tb):=by
 intro c s n H Q I h;exact wpAny_Compare1 (kL g i I h λv u s2 x y e f l m q=>k c s2 n e x y v u Q f l m q) j
noncomputable def ο(t:TE):TT:=λb H Q=>t b H λx a=>∃ k,x=.bl k/\Q k a
theorem HJ(t:di X (Sb f) r)(o:PE X a ta)(p:PE X b tb)(q:Ge f b=false):PT X (.Compare a [f] [b] pos) (ο (GB r ta tb)):=by
 intro d s g H Q I h;refine Gw (pe (o d s g H _ I h) λv s1 ⟨x,H1,l,C,w⟩=>pe (p d s1 g H1 _ l w) λu s2 ⟨y,i,m,D,A⟩=>
  pe (t d s2 g i x y v u _ m C D A) λc s3 ⟨z,j,n,E,k,e,B⟩=>?_) q
 subst e;cases E;exact Td ⟨j,n,B⟩
noncomputable def P6(r f:R2)(ta tb tc:TE):TE:=λa H Q=>ta a H λx c=>tb a c λy d=>r x y d λz b=>∃ k,z=.bl k/\
 (if k=true then tc a b λg e=>f y g e Q else Q (.bl false) b)
theorem zve(J:di X (Sb l) r)(j:di X (Sb g) p)(D:PE X a ta)(E:PE X b tb)(F:PE X c tc)
  (G:lastMarks [l,g] [b,c]=false:=by with_unfolding_all rfl):PE X (.Compare a [l,g] [b,c] pos) (P6 r p ta tb tc):=by
 intro f s i H Q I h;refine Compare_chain (pe (D f s i H _ I h) λv s1 ⟨x,H1,A,N,K⟩=>chain_link (pe (E f s1 i H1 _ A K) λu s2 ⟨y,t,B,q,L⟩=>
  pe (J f s2 i t x y v u _ B N q L) λd s3 ⟨z,m,n,O,k,e,o⟩=>?_)) G
 subst e;cases O;refine Td ?_;cases k with
 |false=>exact ite_ff ⟨.bl false,m,n,rfl,o⟩
 |true=>exact ite_tt (chain_last (pe (F f s3 i m _ n o) λR s4 ⟨S,w,C,P,M⟩=>j f s4 i w y S u R Q C q P M))
theorem vI:(sizeLine:Nat)<2 ^ 63:=by rw[sizeLine_eq];decide
theorem P2:di X (Be .Add) (λx y H Q=>∃ i j,x=.str i/\y=.str j/\i.length+j.length<=sizeLine/\Q (.str (i++j)) H):=by
 intro a s f H x y v u Q I c d h;obtain⟨i,j,rfl,rfl,b,q⟩:=h;obtain⟨t,rfl⟩:=c;obtain⟨t',rfl⟩:=d;exact add_str (λt' e=>⟨.str (i++j),H,I.tok _,⟨_,rfl⟩,q⟩) b
theorem Os{a:List Value}(r:ue [x] a):∃ u,a=[u]/\Pd x u:=by
 cases r with
 |cons b c=>cases c;exact⟨_,rfl,b⟩
theorem PM{a:List Value}(r:ue [x,y] a):∃ u b,a=[u,b]/\Pd x u/\Pd y b:=by
 cases r with
 |cons c d=>
  cases d with
  |cons e f=>cases f;exact⟨_,_,rfl,c,e⟩
theorem δ(c:X.Da=true):zm X (.builtin "max") (λxs H Q=>∃ i j,xs=[.int i,.int j]/\Q (.int (if j > i then j else i)) H):=by
 intro b s g H xs e Q I r h;obtain⟨i,j,rfl,q⟩:=h;obtain⟨u,f,rfl,⟨t,rfl⟩,⟨t',rfl⟩⟩:=PM r;refine max_two_ints (I.ok.hd c) λh' d k=>⟨_,H,I.kept k,?_,q⟩
 by_cases a:j > i
 ·rw[ia a,ia a];exact⟨_,rfl⟩
 ·rw[ka a,ka a];exact⟨_,rfl⟩
theorem EV(c:X.Da=true):zm X (.builtin "min") (λxs H Q=>∃ i j,xs=[.int i,.int j]/\Q (.int (if j<i then j else i)) H):=by
 intro b s g H xs e Q I r h;obtain⟨i,j,rfl,q⟩:=h;obtain⟨u,f,rfl,⟨t,rfl⟩,⟨t',rfl⟩⟩:=PM r;refine min_two_ints (I.ok.hd c) λh' d k=>⟨_,H,I.kept k,?_,q⟩
 by_cases a:j<i
 ·rw[ia a,ia a];exact⟨_,rfl⟩
 ·rw[ka a,ka a];exact⟨_,rfl⟩
theorem ż:zm X (.type "int") (λxs H Q=>(∃ i,xs=[.int i]/\Q (.int i) H)\/∃ k,xs=[.bl k]/\Q (.int (if k then 1 else 0)) H):=by
 intro a s d H xs c Q I r h;rcases h with⟨i,rfl,q⟩|⟨k,rfl,q⟩
 ·obtain⟨u,rfl,t,rfl⟩:=Os r;exact call_int_int ⟨.int i,H,I,⟨_,rfl⟩,q⟩
 ·obtain⟨u,rfl,b⟩:=Os r;cases b;exact call_int_bool ⟨.int (if k then 1 else 0),H,I.tok _,⟨_,rfl⟩,q⟩
end
structure Ds(h:Heap)(x dx C:Addr)(mA:Str->Option Value):Prop where
 obj:h.get? x=some (W.instObj C dx)
 ns:h.Ns1 dx mA
 ne:dx≠x
theorem V0{h:Heap}(n:h.Ns1 d g):∃ i,h.get? d=some i/\∀ b,W.lookIn b i=some (g b):=by
 obtain⟨o,f,s,p,k,l,_,m⟩:=n;refine⟨o,p,λb=>?_⟩;have e:=m b;unfold nsFind findBy at e;rw[<-Array.find?_toList]at e;unfold W.lookIn;rw[k];dsimp only;split
 ·rename_i y q
  rw[q]at e;exact cc some e
 ·rename_i q
  rw[q]at e;have a:f.toList.any (·.refKey)=false:=by
   rw[Ov];intro y r;obtain⟨z,t,c⟩:=l y (Array.mem_toList_iff.mp r);simp[zaG,c]
  have j:¬ f.toList.any (·.refKey)=true:=by rw[a];exact ub
  rw[ka j];exact cc some e
theorem Ds.look(I:Ds h x c C d):∃ b,W.InstAt h x (W.instObj C c) C (some b)/\∀ a,W.lookIn a b=some (d a):=
 let ⟨b,f,e⟩:=V0 I.ns
 ⟨b,⟨I.obj,rfl,rfl,f⟩,e⟩
section
variable{prog:Aa}{w:Wa}{A:Qa}{E:Value->aa->Prop}{s:aa}{K:W.Frag}{x dx C f:Addr}{mA:Str->Option Value}{name:Str}{v:Value}
theorem ë(X:K.In s.heap)(I:Ds s.heap x dx C mA)(d:W.plainGet K C name=true)(e:W.hasDictIn K C=true)
  (c:W.findIn K (.ref C) name=some none) (g:mA name=some v) (b:W.handedIn v=true) (h:Q v { s with toks:=s.toks+1 }) :
  wpAny (model prog w) A (getAttr (.ref x) name a) Q E s:=by
 obtain⟨i,J,f⟩:=I.look;exact W.get_value X J (W.plainGet_of d).1 (W.findObj_own e c rfl (by rw[f,g])) b h
theorem i5(X:K.In s.heap)(I:Ds s.heap x dx C mA)(a:W.plainGet K C name=true)
  (b:W.findIn K (.ref C) name=some (some (.ref f))) (d:W.isFn K (.ref f)=true) (e:mA name=none) (h:Q (.ref f,[.ref x]) s) :
  wpAny (model prog w) A (Hm (.ref x) name pl) Q E s:=by
 obtain⟨g,J,c⟩:=I.look;exact W.method_fn X J (W.plainGet_of a).1 (W.plainGet_of a).2 b (sh.mp d) (by show (W.lookIn name g).map (·.isSome)=some false;rw[c,e];rfl) h
theorem MY(X:K.In s.heap)(I:Ds s.heap x dx C mA)
  (o:W.findIn K (.ref C) "__setattr__" = some (some (.builtin "object.__setattr__"))) (n:W.plainOver K C=true) (q:W.takerIn K C name=some none) (m:W.hasDictIn K C=true)
  (r:PySem.Within mA i) (p:i.length<=sizeLine)
  (h:∀ h',Ds h' x dx C (λy=>if y=name then some v else mA y)->kg dx s.heap h'->Q () { s with heap:=h',toks:=s.toks+2 }) :
  wpAny (model prog w) A (setAttr (.ref x) name v) Q E s:=by
 obtain⟨B,J,z⟩:=I.look;refine W.set_plain X J o (W.osa_open X J n q λb=>?_);obtain⟨u,l,e⟩:=W.any_some m;have t:=I.obj;refine da (ua (da (da (wpAny_loadPart t (da (W.Looks.here (W.looks_clsIn X l) ?_))))));rw[e];refine ua (da (ua (da ?_)));refine wpAny_nsSet1 I.ns λh' a c=>?_;obtain⟨oD,k,j,g,f,d⟩:=a.count (II name v r);refine da (wpAny_lookBehind g (by rw[f];exact pastItsLine_dict (Ib d (by rw[Fb];omega))) ?_);exact ua (h _ ⟨(c.2 _ (Xe I.ne)).trans I.obj,a,I.ne⟩ c)
theorem K9(X:K.In s.heap)(j:W.makesIn K C=true)
  (i:W.findIn K (.ref C) "__init__" = some (some (.ref f))) (e:W.typeIn K (.ref f)=some (.type "function"))
  (h:codeAny (model prog w) (A.under (.builtin "type.__call__" ⟨.ref C::c,b⟩)) (.call (.ref f) ⟨.ref (s.heap.objs.size+1)::c,b⟩) (W.InitBack (s.heap.objs.size+1) R)
   { s with heap:=(s.heap.push W.emptyDict).push (W.instObj C s.heap.objs.size) }) :
  codeAny (model prog w) A (.call (.ref C) ⟨c,b⟩) R s:=by
 obtain⟨k,g,d,t,l⟩:=s;exact W.make_core (W.makes_of X j) (W.looks_findIn X i) (λa=>W.bind_fn X a e) (.inl rfl) h
end
noncomputable def ip(f:Str)(v:V):List (Str × V)->List (Str × V)
 |[]=>[(f,v)]
 |(g,x)::r=>if g=f then (g,v)::r else (g,x)::ip f v r
theorem WR(f g:Str)(v:V):∀ c:List (Str × V),(ip f v c).lookup g=if g=f then some v else c.lookup g
 |[]=>by
  show List.lookup g [(f,v)]=_;by_cases h:g=f
  ·have a:=sh.mpr h;simp only[List.lookup,a,ia h]
  ·have a:(g == f)=false:=Fe.mpr h;simp only[List.lookup,a,ka h]
 |(k,x)::r=>by
  have d:=WR f g v r;rw[show ip f v ((k,x)::r)=(if k=f then (k,v)::r else (k,x)::ip f v r)from rfl];by_cases b:k=f
  ·rw[ia b];by_cases h:g=k
   ·have a:(g == k)=true:=sh.mpr h;simp only[List.lookup,a,ia (h.trans b)]
   ·have a:(g == k)=false:=Fe.mpr h;simp only[List.lookup,a,ka (λe:g=f=>h (e.trans b.symm))]
  ·rw[ka b];by_cases h:g=k
   ·have a:(g == k)=true:=sh.mpr h;simp only[List.lookup,a,ka (λe:g=f=>b (h.symm.trans e))]
   ·have a:(g == k)=false:=Fe.mpr h;simp only[List.lookup,a];exact d
theorem IK(f:Str)(v:V):∀ a:List (Str × V),f∈(ip f v a).map (·.1)/\∀ g,g∈a.map (·.1)->g∈(ip f v a).map (·.1)
 |[]=>⟨by simp[ip],λg h=>by simp at h⟩
 |(k,x)::r=>by
  obtain⟨c,d⟩:=IK f v r;rw[show ip f v ((k,x)::r)=(if k=f then (k,v)::r else (k,x)::ip f v r)from rfl];by_cases b:k=f
  ·rw[ia b];subst b;exact⟨by simp,λg h=>by simpa using h⟩
  ·rw[ka b];refine⟨?_,λg h=>?_⟩
   ·rw[Ra];exact Na _ c
   ·rw[Ra]at h ⊢;rcases Ea.mp h with e|e
    ·exact Ea.mpr (.inl e)
    ·exact Na _ (d g e)
theorem YV(f:Str)(v:V):∀ a:List (Str × V),(ip f v a).length<=a.length+1
 |[]=>by simp[ip]
 |(k,x)::r=>by
  have c:=YV f v r;rw[show ip f v ((k,x)::r)=(if k=f then (k,v)::r else (k,x)::ip f v r)from rfl];by_cases b:k=f
  ·rw[ia b,Fb,Fb];omega
  ·rw[ka b,Fb,Fb];omega
theorem Zo.some_of(r:Zo (some v) o):∃ u,o=some u/\Pd v u:=by
 cases o with
 |none=>exact(r).elim
 |some u=>exact⟨u,rfl,r⟩
theorem Zo.none_of(r:Zo none o):o=none:=by
 cases o with
 |none=>rfl
 |some u=>exact(r).elim
theorem L5(r:Pd v u):W.handedIn u=true:=by
 cases v with
 |wc=>cases (r);rfl
 |bl b=>cases (r);rfl
 |int i=>obtain⟨t,e⟩:=(r);cases e;rfl
 |str x=>obtain⟨t,e⟩:=(r);cases e;rfl
 |VG b=>obtain⟨t,e⟩:=(r);cases e;rfl
 |Gz b=>obtain⟨t,e⟩:=(r);cases e;rfl
 |ref a=>cases (r);rfl
 |ty n=>cases (r);rfl
section
variable{P:Aa}{w:Wa}{H H':Hp}{h h':Heap}{a C dx:Addr}{fs fs':List (Str × V)}
theorem JG(c:lj P w H h)(e:H a=some (.Jd C dx fs)):∃ b,Ds h a dx C b/\(∀ f,Zo (fs.lookup f) (b f))/\PySem.Within b (fs.map (·.1))/\fs.length<=1000/\H dx=some (.own a):=by
 obtain⟨d,z,g,ob,b,n,r,q⟩:=(c a _ e)
 exact⟨b,⟨ob,n,g⟩,r,q,z,d⟩
end
structure Ro(K:W.Frag)(C:Addr):Prop where
 pg:W.plainGet K C Str.empty=true
 hd:W.hasDictIn K C=true
 po:W.plainOver K C=true
 sa:W.findIn K (.ref C) "__setattr__" = some (some (.builtin "object.__setattr__"))
theorem Ro.get{K:W.Frag}(c:Ro K C)(f:Str):W.plainGet K C f=true:=c.pg
def Rh(K:W.Frag)(C:Addr)(f:Str):Prop:=W.findIn K (.ref C) f=some none
theorem Rh.lD{K:W.Frag}(n:Rh K C f):W.takerIn K C f=some none:=by
 unfold W.takerIn;rw[n];rfl
structure Con(K:W.Frag)(C:Addr)(f:Str)(v:V)(u:Value):Prop where
 at_:W.findIn K (.ref C) f=some (some u)
 rel:Pd v u
 get:W.specialIn K u "__get__" = some none
 cp:W.copiedNames.contains f=false
structure dg(K:W.Frag)(C:Addr)(m:Str)(f:Addr):Prop where
 at_:W.findIn K (.ref C) m=some (some (.ref f))
 fn:W.isFn K (.ref f)=true
 kp:W.keepIn K (.ref f)=true
section
variable{X:Cx}{pins:List (Addr × jd)}{σ:St}{H:Hp}{s:aa}{a C dx:Addr}{fs:List (Str × V)}{f:Str}{v:V}{A:Qa}{E:Value->aa->Prop}
theorem kS(I:Za X pins σ H s)(e:H a=some (.Jd C dx fs))(c:Ro X.K C)(n:Rh X.K C f)(l:fs.lookup f=some v)
  (h:∀ u g,Za X pins σ H g->Pd v u->Q u g):wpAny (model X.prog X.w) A (getAttr (.ref a) f b) Q E s:=by
 obtain⟨j,O,r,_,_,_⟩:=JG I.zd e;obtain⟨u,i,d⟩:=Zo.some_of (by rw[<-l];exact r f);exact ë I.sk O (c.get f) c.hd n i (L5 d) (h u _ (I.tok _) d)
theorem jW(I:Za X pins σ H s)(e:H a=some (.Jd C dx fs))(c:Ro X.K C)(k:dg X.K C m g)(l:fs.lookup m=none)
  (h:Q (.ref g,[.ref a]) s):wpAny (model X.prog X.w) A (Hm (.ref a) m pl) Q E s:=by
 obtain⟨d,O,r,_,_,_⟩:=JG I.zd e;have b:=Zo.none_of (by rw[<-l];exact r m);exact i5 I.sk O (c.get m) k.at_ k.fn b h
theorem SV(I:Za X pins σ H s)(e:H a=some (.Jd C dx fs))(c:Ro X.K C)(n:Rh X.K C f)(D:fs.length<1000)(B:Pd y u)
  (h:∀ k,Za X pins σ (pc H a (.Jd C dx (ip f y fs))) k->Q () k):wpAny (model X.prog X.w) A (setAttr (.ref a) f u) Q E s:=by
 obtain⟨j,O,r,l,_,i⟩:=JG I.zd e;have x:(fs.map (·.1)).length<=sizeLine:=by rw[zb,sizeLine_eq];omega
 refine MY I.sk O c.sa c.po n.lD c.hd l x λh' d sb=>h _ ?_;have t:∃ o,h'.get? dx=some o:=let ⟨o,_,_,m,_⟩:=d.ns;⟨o,m⟩;refine I.write (by rw[e];exact True.intro) (.inr i) (λb q p z=>(sb.2 b p).trans z) t ?_;refine⟨by rw[de O.ne];exact i,?_,O.ne,d.obj,_,d.ns,λg=>?_,λg v=>?_⟩
 ·have:=YV f y fs;omega
 ·show Zo ((ip f y fs).lookup g) (if g=f then some u else j g);rw[WR];by_cases q:g=f
  ·rw[ia q,ia q];exact B
  ·rw[ka q,ka q];exact r g
 ·by_cases q:g=f
  ·rw[q];exact(IK f y fs).1
  ·refine(IK f y fs).2 g (l g λz=>v ?_);show (if g=f then some u else j g)=none;rw[ka q];exact z
theorem Za.made(I:Za X pins σ H s):Za X pins σ (pc (pc H s.heap.objs.size (.own (s.heap.objs.size+1))) (s.heap.objs.size+1) (.Jd C s.heap.objs.size []))
  { s with heap:=(s.heap.push W.emptyDict).push (W.instObj C s.heap.objs.size) }:=by
 have a:(s.heap.push W.emptyDict).get? s.heap.objs.size=some W.emptyDict:=qb s.heap rfl;have f:((s.heap.push W.emptyDict).push (W.instObj C s.heap.objs.size)).get? (s.heap.objs.size+1)=some (W.instObj C s.heap.objs.size):=by
  have:=qb (s.heap.push W.emptyDict) (o:=W.instObj C s.heap.objs.size) rfl
  rwa [Vg]at this
 have g:(s.heap.push W.emptyDict).Ns s.heap.objs.size (λ_=>none):=⟨W.emptyDict,#[],_,a,rfl,(λe h=>absurd h (by simp)),λ_=>rfl⟩
 have d:=I.laid (o:=.own (s.heap.objs.size+1)) (t':=s.toks) (λb u q=>na _ q) (ya _) ⟨_,a⟩;refine d.laid (λb u q=>na _ q) (bF (Vg _ _)) ?_;have c:s.heap.objs.size≠s.heap.objs.size+1:=Pa (pd _);refine⟨by rw[de c,vh],Sg _,c,f,λ_=>none,(Heap.Ns1.of_empty g).at λo q=>na _ q,λ_=>True.intro,λy i=>absurd rfl i⟩
theorem å{a:qh}(g:ee e f a (Yb e a)=Yb e a)
  (h:wpAny (model b w) A (Yb e a) (λo c=>wpAny (model b w) A (getAttr o f true) Q E c) E s):wpAny (model b w) A (Yb (.Attribute e f d) a) Q E s:=
 Attribute_any_ h (by rw[arm_eval_Attribute,g])
end
def xc4(K:W.Frag)(e:TE)(f:Str):TE:=λg H Q=>e g H λx b=>∃ a C d c v,x=.ref a/\b a=some (.Jd C d c)/\Ro K C/\Rh K C f/\c.lookup f=some v/\Q v b
def j7(K:W.Frag)(h i:TE)(f:Str):TS:=λD c H=>i c H λy g=>h c g λx d=>∃ a C e b,x=.ref a/\d a=some (.Jd C e b)/\Ro K C/\Rh K C f/\b.length<1000/\
 D.nx c (pc d a (.Jd C e (ip f y b)))
def EU(X:Cx)(b:om)(rd:V->V->Hp->VK->Prop):Prop:=
 ∀ (a:List (Addr × jd)) (s:aa) (σ:St) (H:Hp) (x y:V) (u v:Value) (Q:VK),Za X a σ H s->Pd x u->Pd y v->rd x y H Q->wpAny (model X.prog X.w) X.A (iF b u v) (EP X a σ Q) X.xe s
def ō(K:W.Frag)(k l:TE)(rd:V->V->Hp->VK->Prop)(f:Str):TS:=λD d H=>k d H λx e=>∃ a C j h v,x=.ref a/\e a=some (.Jd C j h)/\Ro K C/\Rh K C f/\h.lookup f=some v/\
 l d e λy i=>rd v y i λz g=>∃ c b,g a=some (.Jd C c b)/\b.length<1000/\D.nx d (pc g a (.Jd C c (ip f z b)))
section
variable{X:Cx}{o e value:Ma}{f:Str}{pos pos' tpos:Ce}{ta tv:TE}
theorem S7(k:PE X e ta)(j:ee e f X.env (Yb e X.env)=Yb e X.env):PE X (.Attribute e f pos) (xc4 X.K ta f):=by
 intro b s p H Q I h;refine å j (pe (k b s p H _ I h) λu s1 zz=>?_);obtain⟨x,H1,d,o,a,C,r,t,v,ex,i,c,n,l,q⟩:=zz;subst ex;obtain rfl:u=Ec a:=o;exact kS d i c n l λw s2 g m=>⟨v,H1,g,m,q⟩
theorem ñ(k:PE X o ta)(p:PE X value tv)(m:Qi value (some (.Attribute o f pos')) pos.line X.env=pure false):PS X (.Assign [.Attribute o f pos'] value pos) (j7 X.K ta tv f):=by
 intro b s d H D I h;refine plainObj_wpAny_Assign_Attribute (pe (p b s d H _ I h) λu s1 ⟨y,H1,e,w,q⟩=>pe (k b s1 d H1 _ e q) λr s2 ⟨x,z,g,v,a,C,A,B,ex,j,c,n,l,t⟩=>?_) m;subst ex;obtain rfl:r=Ec a:=v;exact SV g j c n l w λE i=>⟨d,_,i,t⟩
theorem P8(E:PE X o ta)(F:PE X value tv)(g:EU X i rd):PS X (.AugAssign (.Attribute o f tpos) i value pos) (ō X.K ta tv rd f):=by
 intro b s d H D I h;refine wpAny_AugAssign_AttributeAny (pe (E b s d H _ I h) λJ s1 zz=>?_);obtain⟨x,H1,k,O,a,C,T,U,v,ex,A,c,n,l,q⟩:=zz;subst ex;obtain rfl:J=Ec a:=O;refine kS k A c n l λu s2 m N=>pe (F b s2 d H1 _ m q) λR s3 ⟨y,j,p,P,L⟩=>pe (g b s3 d j v y u R _ p N P L) λY s4 ⟨z,S,r,Q,w,B,e,G,M⟩=>?_;exact SV r e c n G Q λW t=>⟨d,_,t,M⟩
def xbn:V->V->Hp->VK->Prop:=λx y H Q=>∃ i j,x=.int i/\y=.int j/\Q (.int (i+j)) H
theorem Ű:EU X .Add xbn:=by
 rintro a s d H x y u v Q I b c ⟨i,j,rfl,rfl,q⟩;obtain⟨t,rfl⟩:=(b)
 obtain⟨t',rfl⟩:=(c)
 exact JI ⟨.int (i+j),H,I.tok _,⟨_,rfl⟩,q⟩
end
section
variable{X:Cx}{pins:List (Addr × jd)}{σ:St}{H:Hp}{s:aa}{A:Qa}{E:Value->aa->Prop}{Q:Value->aa->Prop}{c:Value}{b:Bool}
inductive Vl(K:W.Frag)(H:Hp):V->Value->Prop where
 |wc:Vl K H .wc (.type "NoneType")
 |bl (x:Bool):Vl K H (.bl x) (.type "bool")
 |int (i:Int):Vl K H (.int i) (.type "int")
 |str (x:Str):Vl K H (.str x) (.type "str")
 |Gz (x:UInt64):Vl K H (.Gz x) (.type "float")
 |la {a:Addr} {xs:List V} (e:H a=some (.la xs)):Vl K H (.ref a) (.type "list")
 |vc {a:Addr} {o:jd} {xs:List V} (e:H a=some (.vc o (.la xs))):Vl K H (.ref a) (.type "list")
 |Ka {a:Addr} {xs:List V} (e:H a=some (.Ka xs)):Vl K H (.ref a) (.type "tuple")
 |dK {a:Addr} {kvs:List (ud × V)} (e:H a=some (.dK kvs)):Vl K H (.ref a) (.type "dict")
 |dT {a:Addr} {kvs:List (List ud × V)} (e:H a=some (.dT kvs)):Vl K H (.ref a) (.type "dict")
 |Jd {a C dx:Addr} {fs:List (Str × V)} (e:H a=some (.Jd C dx fs)) (cl:Ro K C) (ha:W.findIn K (.ref C) "__class__" = some (some (.builtin "object.__class__")))
   (hn:W.specialIn K (.builtin "object.__class__") "__get__" = some (some (.builtin "getset_descriptor.__get__"))) (htk:W.takesIn K (.builtin "object.__class__")=some true)
   (hm:W.mroIn K C (.type "object")=some true):Vl K H (.ref a) (.ref C)
theorem Ŏ(I:Za X pins σ H s)(f:Pd x u)(ty:Vl X.K H x t)(e:W.kitOne X.K t c=some b)(h:∀ D,Q (.bool b) { s with toks:=D }) :
  wpAny (model X.prog X.w) A (call (.builtin "isinstance") [u,c]) Q E s:=by
 cases ty with
 |wc=>cases (f);exact W.kia_one W.kitx_none I.sk True.intro e (λz=>nomatch z) h
 |bl y=>cases (f);exact W.kia_one W.kitx_bool I.sk True.intro e (λz=>nomatch z) h
 |int i=>obtain⟨t,q⟩:=(f);cases q;exact W.kia_one W.kitx_int I.sk True.intro e (λz=>nomatch z) h
 |str y=>obtain⟨t,q⟩:=(f);cases q;exact W.kia_one W.kitx_str I.sk True.intro e (λz=>nomatch z) h
 |Gz y=>obtain⟨t,q⟩:=(f);cases q;exact W.kia_one W.kitx_float I.sk True.intro e (λz=>nomatch z) h
 |@la a xs d=>
  cases (f);obtain⟨_,_,n,_,g⟩:=(I.zd a _ d)
  exact W.kia_one W.kitx_list I.sk ⟨_,g,rfl⟩ e (λz=>nomatch z) h
 |@vc a M xs d=>
  cases (f);obtain⟨_,_,_,n,_,g⟩:=(I.zd a _ d)
  exact W.kia_one W.kitx_list I.sk ⟨_,g,rfl⟩ e (λz=>nomatch z) h
 |@Ka a xs d=>
  cases (f);obtain⟨_,_,_,p⟩:=(I.zd a _ d)
  obtain⟨o,g,j,_⟩:=p;exact W.kia_one W.kitx_tuple I.sk ⟨o,g,j⟩ e (λz=>nomatch z) h
 |@dK a l d=>
  cases (f);obtain⟨_,_,P,_,p⟩:=(I.zd a _ d)
  obtain⟨o,r,m,g,j,_⟩:=p;exact W.kia_one W.kitx_dict I.sk ⟨o,g,j.1⟩ e (λz=>nomatch z) h
 |@dT a l d=>
  cases (f);obtain⟨_,_,xs,_,o,r,m,g,j,_⟩:=(I.zd a _ d)
  exact W.kia_one W.kitx_dict I.sk ⟨o,g,j.1⟩ e (λz=>nomatch z) h
 |@Jd a C F G d cl v B k hm=>
  cases (f);obtain⟨L,O,_⟩:=JG I.zd d;obtain⟨N,J,_⟩:=O.look;exact W.kia_one (W.kitx_own (cl.get _) cl.hd v B k hm) I.sk J e (λz=>nomatch z) h
end
structure Yd(k:Nat)(A:Qa):Prop where
 hd:A.handled=none
 dp:A.depth+3 * k+5<recursionLimit
 un:A.units+16 * k+200<cLine
theorem Yd.mono(r:Yd k A)(h:j<=k):Yd j A:=⟨r.hd,by have:=r.dp;omega,by have:=r.un;omega⟩
theorem Yd.deeper(r:Yd (k+1) A)(a:qh):Yd k (A.deeper a):=
 ⟨r.hd,by have:=r.dp;show A.depth+1+3 * k+5<_;omega,by have:=r.un;show A.units+3+16 * k+200<_;omega⟩
theorem Yd.in1(r:Yd (k+1) A):Yd k A.in1:=
 ⟨r.hd,by have:=r.dp;show A.depth+3 * k+5<_;omega,by have:=r.un;show A.units+1+16 * k+200<_;omega⟩
theorem V4{A:Qa}:(A.under (.builtin "type.__call__" ⟨.ref C::b,a⟩)).depth=A.depth+1:=by
 first|rfl|simp
theorem wY{A:Qa}:(A.under (.builtin "type.__call__" ⟨.ref C::b,a⟩)).units=A.units+1:=by
 first|rfl|simp
theorem Yd.make(r:Yd (k+1) A)(C:Addr)(b:List Value)(a:List (Str × Value)):Yd k (A.under (.builtin "type.__call__" ⟨.ref C::b,a⟩)):=
 ⟨r.hd,by have:=r.dp;rw[V4];omega,by have:=r.un;rw[wY];omega⟩
theorem Yd.depth(r:Yd k A):A.depth<recursionLimit:=by have:=r.dp;omega
theorem Yd.units(r:Yd k A):A.units+64<cLine:=by have:=r.un;omega
noncomputable def ÿ:TA:=λ_ H Q=>Q [] H
noncomputable def č(d:TE)(e:TA):TA:=λa H Q=>d a H λx b=>e a b λxs c=>Q (x::xs) c
section
variable{X:Cx}{e:Ma}{es:List Ma}{te:TE}{t:TA}{pos:Ce}
theorem iw:PA X [] ÿ:=λ_ _ _ _ H Q I h=>Calls.spliced_nil ⟨[],H,I,.nil,h⟩
theorem Wt(g:PE X e te)(i:PA X es t)(j:qa (e::es) X.env=(false,Yb e X.env)::qa es X.env:=by rfl):PA X (e::es) (č te t):=by
 intro pos a s b H Q I h;rw[j];refine Calls.spliced_cons (pe (g a s b H _ I h) λu s1 zz=>?_);obtain⟨x,H1,d,m,k⟩:=zz;exact pe (i pos a s1 b H1 _ d k) λus s2 ⟨xs,c,f,n,l⟩=>⟨x::xs,c,f,.cons m n,l⟩
def xdd(t:TA):TE:=λb H Q=>t b H λxs a=>xs.length<=sizeLine/\∀ p,a p=none->Q (.ref p) (pc a p (.Ka xs))
def xc7(t:TA):TE:=λb H Q=>t b H λxs a=>xs.length<=sizeLine/\∀ p,a p=none->Q (.ref p) (pc a p (.la xs))
theorem R8{x1}(h:PA X es t):PE X (.Tuple es x1 pos) (xdd t):=by
 intro a s g H Q I f;refine wpAny_Tuple_spliced (pe (h pos a s g H _ I f) λus s1 ⟨xs,H1,c,r,z,q⟩=>⟨by rw[<-r.length];exact z,?_⟩);have d:=c.zd.fresh (ya _);refine⟨.ref s1.heap.objs.size,pc H1 s1.heap.objs.size (.Ka xs),c.laid (λb u e=>na _ e) (ya _) ?_,rfl,q _ d⟩;exact⟨z,us,r,⟨_,qb _ rfl,rfl,_,rfl⟩⟩
theorem aW(h:PA X es t):PE X (.List es pos) (xc7 t):=by
 intro a s g H Q I f;refine wpAny_List_spliced (pe (h pos a s g H _ I f) λus s1 ⟨xs,H1,c,r,z,q⟩=>⟨by rw[<-r.length];exact z,?_⟩);have d:=c.zd.fresh (ya _);refine⟨.ref s1.heap.objs.size,pc H1 s1.heap.objs.size (.la xs),c.laid (λb u e=>na _ e) (ya _) ?_,rfl,q _ d⟩;exact⟨z,us,0,r,qb _ rfl⟩
end
abbrev Sp:=List V->Hp->VK->XK->Prop
abbrev fv:=List qh->Hp->aa->XK->Value->aa->Prop
structure bo(P:Aa)(w:Wa)(K:W.Frag)(mg:Str->Option Value)(base:Heap)(A:Qa)(outer:List qh)(s:aa)(H:Hp):Prop where
 frames:A.frames=some outer
 mod:Mod K mg base
 bs:∀ b o,base.get? b=some o->s.heap.get? b=some o/\H b=none
 As:base.objs.size<=s.heap.objs.size
 Vj:s.heap.FunFrames base outer
 Mv:∀ b∈gk outer,H b=none
 zd:lj P w H s.heap
 bare:Ii s.gens
def CE(a:List qh)(P:Aa)(w:Wa)(H:Hp)(s:aa)(Q:VK)(u:Value)(b:aa):Prop:=
 ∃ v c,b.os=s.os/\Ii b.gens/\Un (gk a) [] H c s.heap b.heap/\lj P w c b.heap/\Pd v u/\Q v c
def CR(c:fv)(a:List qh)(P:Aa)(w:Wa)(H:Hp)(s:aa)(Q:VK)(E:XK)(r:zA)(b:aa):Prop:=
 match r with
 | .ok (.ret u)=>CE a P w H s Q u b
 | .ok _=>False
 | .error e=>c a H s E e b
structure ri(P:Aa)(w:Wa)(K:W.Frag)(mg:Str->Option Value)(base:Heap)(CX:fv)(k:Nat)(f:Addr)(fd:qf)(ps:List Str)(sp:Sp):Prop where
 len:∀ vs H Q E,sp vs H Q E->vs.length=ps.length
 Nd:∀ (A:Qa) (outer:List qh) (s:aa) (H:Hp) (args:Args) (us:List Value) (vs:List V) (Q:VK) (E:XK),Yd k A->bo P w K mg base A outer s H->yh s fd args (ps.zip us)->ue vs us->sp vs H Q E->
  codeAny (model P w) A (.call (.ref f) args) (CR CX outer P w H s Q E) s
theorem ri.mono{K:W.Frag}(F:ri P w K g a d j f e i l)(h:j<=k) :
  ri P w K g a d k f e i l:=⟨F.len,λA b s H c n o Q E m=>F.Nd A b s H c n o Q E (m.mono h)⟩
theorem ri.imp{K:W.Frag}(F:ri P w K j a g k f i l m)
  (h:∀ c H Q E,e c H Q E->m c H Q E):ri P w K j a g k f i l e:=
 ⟨λc H Q E q=>F.len c H Q E (h _ _ _ _ q),λA b s H d u c Q E p o n t r=>F.Nd A b s H d u c Q E p o n t (h _ _ _ _ r)⟩
theorem bo.make{K:W.Frag}(e:bo P w K c b A a s H)(C:Addr)(f:List Value)(d:List (Str × Value)) :
  bo P w K c b (A.under (.builtin "type.__call__" ⟨.ref C::f,d⟩)) a s H:=⟨by first|exact e.frames|(simpa using e.frames),e.mod,e.bs,e.As,e.Vj,e.Mv,e.zd,e.bare⟩
theorem bo.in1{K:W.Frag}(e:bo P w K c b A a s H) :
  bo P w K c b A.in1 a s H:=⟨e.frames,e.mod,e.bs,e.As,e.Vj,e.Mv,e.zd,e.bare⟩
section
variable{X:Cx}{pins:List (Addr × jd)}{σ:St}{H:Hp}{s s':aa}
theorem Za.HE(I:Za X pins σ H s):bo X.prog X.w X.K X.mg X.base X.A X.stack s H:=
 ⟨I.ok.frames,I.ok.mod,I.bs,Ib I.ok.As I.sz,I.stack,I.Pk,I.zd,I.bare⟩
theorem Za.after(I:Za X pins σ H s)(h:CE X.stack X.prog X.w H s Q u s'):EP X pins σ Q u s':=by
 obtain⟨v,f,i,a,j,c,r,q⟩:=h;obtain⟨k,g,d,t,e⟩:=s';obtain rfl:e=s.os:=i;exact⟨v,f,I.call j c a (λb z=>absurd z (by simp)),r,q⟩
end
def Cs(K:W.Frag)(c:qf)(b:List Str)(a:List Value):Prop:=
 ∀ (s:aa) (us:List Value),K.In s.heap->(us++a).length=b.length->yh s c ⟨us,[]⟩ (b.zip (us++a))
theorem Cs.all{K:W.Frag}(h:∀ a:List Value,a.length=b.length->bindArgs c ⟨a,[]⟩=pure (b.zip a)):Cs K c b []:=λs a _ d=>by
 rw[Ph]at d ⊢;exact .of_eq (h a d)
section
variable{X:Cx}{CX:fv}{k:Nat}{f C:Addr}{fd:qf}{ps:List Str}{sp:Sp}{dvs:List V}{ds:List Value}{E:XK}{x m:Str}{p pos apos:Ce}{e o:Ma}{es:List Ma}{ta:TE}{t:TA}
structure Mk(K:W.Frag)(C f:Addr):Prop where
 makes:W.makesIn K C=true
 init:W.findIn K (.ref C) "__init__" = some (some (.ref f))
 fn:W.isFn K (.ref f)=true
 kp:W.keepIn K (.ref C)=true
end
section
variable{X:Cx}{CX:fv}{k:Nat}{f C:Addr}{fd:qf}{ps ks:List Str}{sp:Sp}{E:XK}{x m:Str}{p pos apos kpos:Ce}{e o:Ma}{es:List Ma}{kws:List Ek}{te ta:TE}{t tk:TA}{nm:Option Str}
structure HL(K:W.Frag)(fd:qf)(ps ks:List Str)(g:List Value->List Value->List Value)(gV:List V->List V->List V):Prop where
 to:∀ (s:aa) (us ws:List Value),K.In s.heap->(g us ws).length=ps.length->yh s fd ⟨us,ks.zip ws⟩ (ps.zip (g us ws))
 rel:∀ {vs:List V} {us:List Value} {zs:List V} {ws:List Value},ue vs us->ue zs ws->ue (gV vs zs) (g us ws)
variable{g:List Value->List Value->List Value}{gV:List V->List V->List V}
end
structure va(N P:List Str)(sc:Scope):Prop where
 kind:sc.kind=.function
 co:sc.isCoroutine=false
 gen:sc.isGenerator=false
 nd:N.Nodup
 pre:N.take P.length=P
 par:∀ x∈P,sc.names.lookup x=some .local\/sc.names.lookup x=some .cell
 Oz:∀ y∈sc.names,y.2≠.free
theorem SN{b:Str->Option Ff}{x:Str}:∀ {a:List (Str × Value)} {m:Str->Option Value},(∀ v,(x,v) ∉ a)->Sx b a m x=m x
 |[],_,_=>rfl
 |(n,v)::r,m,h=>by
  unfold Sx;rw[SN λw c=>h w (Na _ c)];split
  ·have:x≠n:=by rintro rfl;exact h v Ha
   simp[this]
  ·rfl
theorem JR{b:Str->Option Ff}{x:Str}:∀ {a:List (Str × Value)} {m:Str->Option Value},(∀ v,(x,v) ∉ a)->Ux b a m x=m x
 |[],_,_=>rfl
 |(n,v)::r,m,h=>by
  unfold Ux;rw[JR λw c=>h w (Na _ c)];split
  ·rfl
  ·have:x≠n:=by rintro rfl;exact h v Ha
   simp[this]
theorem AW{a:Str->Option Ff}{x:Str}{v:Value}:∀ {P:List Str} {b:List Value} {i:Nat} {m:Str->Option Value},P.Nodup->P[i]?=some x->b[i]?=some v->a x=some .local->
  Sx a (P.zip b) m x=some v
 |[],_,_,_,_,h,_,_=>by simp at h
 |_::_,[],_,_,_,_,h,_=>by simp at h
 |p::P,w::b,0,m,f,c,d,e=>by
  simp at c d;subst c;subst d;show Sx a ((p,w)::P.zip b) m p=_;unfold Sx;rw[SN λv g=>(ge.mp f).1 (Ko g).1,ia e];simp
 |p::P,w::b,i+1,m,f,c,d,e=>by
  show Sx a ((p,w)::P.zip b) m x=_;exact AW (ge.mp f).2 (by simpa using c) (by simpa using d) e
theorem xU{a:Str->Option Ff}{x:Str}{v:Value}:∀ {P:List Str} {b:List Value} {i:Nat} {m:Str->Option Value},P.Nodup->P[i]?=some x->b[i]?=some v->a x≠some .local->
  Ux a (P.zip b) m x=some v
 |[],_,_,_,_,h,_,_=>by simp at h
 |_::_,[],_,_,_,_,h,_=>by simp at h
 |p::P,w::b,0,m,f,c,d,e=>by
  simp at c d;subst c;subst d;show Ux a ((p,w)::P.zip b) m p=_;unfold Ux;rw[JR λv g=>(ge.mp f).1 (Ko g).1,ka e];simp
 |p::P,w::b,i+1,m,f,c,d,e=>by
  show Ux a ((p,w)::P.zip b) m x=_;exact xU (ge.mp f).2 (by simpa using c) (by simpa using d) e
noncomputable def Hv(N:List Str)(a:List V):St:=a.map some++List.replicate (N.length - a.length) none
noncomputable def Tp(g:fv)(P:Aa)(w:Wa)(K:W.Frag)(mg:Str->Option Value)(base:Heap)(N:List Str)(b:Str)(a:Scope)(f:Addr)(d:Value)(A:Qa)(outer:List qh)(s:aa)(H:Hp)(E:XK):Cx where
 prog:=P
 w:=w
 K:=K
 mg:=mg
 base:=base
 A:=A.deeper (yg b a s.heap.objs.size f d)
 N:=N
 s₀:=s
 H₀:=H
 env:=yg b a s.heap.objs.size f d
 outer:=outer
 stack:=yg b a s.heap.objs.size f d::outer
 ex:=[]
 Da:=true
 fn:=λ_=>true
 pn:=[]
 xe:=λe i=>wpAny (model P w) (A.deeper (yg b a s.heap.objs.size f d)) (leaving (yg b a s.heap.objs.size f d) e) (λ_ c=>g outer H s E e c) (λh c=>g outer H s E h c) i
theorem DQ{sc:Scope}(h:sc.names.lookup x=some .cell):∃ c,(lF n sc.names []).lookup x=some c:=by
 have q:=W.cellsFrom_some sc.names n [] (.inl h);exact Ve.mp q
theorem Q9{K:W.Frag}
  (S:va N B d) (U:A.handled=none) (n:bo P w K L m A g s H) (hl:C.length=B.length) (r:ue C M)
  (x:InCallC s s.heap.objs.size (Sx (yg j d s.heap.objs.size f G).kindOf (B.zip M) λ_=>none) (lF (s.heap.objs.size+1) d.names []) (Ux (yg j d s.heap.objs.size f G).kindOf (B.zip M) λ_=>none) s1) :
  Za (Tp O P w K L m N j d f G A g s H E) [] (Hv N C) H s1:=by
 have X:B.length<=N.length:=by have:=cc List.length S.pre;rw[uh]at this;omega
 obtain⟨I,tk,rfl,Q⟩:=x.done;have t:∀ b:Addr,b ∉ (Tp O P w K L m N j d f G A g s H E).ex:=λb z=>absurd (show b∈[]from z) (by simp);refine⟨⟨n.mod,S.kind,rfl,rfl,ya _,λy z c I l=>?_,λy o=>?_,λy c _ h=>?_,λ_=>U,Ur n.frames,.inr ⟨rfl,rfl⟩,λb z=>absurd z (t b),n.bs,n.As,λb _ _=>t b,λb z=>absurd z (t b),n.Vj,n.Mv⟩,
  rfl,n.bare,Un.kept Q,⟨_,x.toInCall.ns,λi y v I l Z=>?_⟩,λy c h=>⟨_,x.cell y c h⟩,n.zd.fresh (ya _),λy c h=>?_,λp D=>absurd (show p∈[]from D) (by simp),n.zd.kept Q,?_⟩
 ·exact name_of_addr x.apart (jf I) (jf l)
 ·have o:d.names.lookup y=some .cell\/d.names.lookup y=some .free:=o;rcases o with o|o
  ·exact DQ o
  ·exact absurd rfl (S.Oz _ (jf o))
 ·exact og (x.above y c (jf h))
 ·have J:i<C.length:=by
   unfold Hv at l;by_cases J:i<C.length
   ·exact J
   ·rw[Ld (by simpa using J)]at l;rw[Jr]at l;split at l<;>cases l
  have T:C[i]?=some v:=by
   unfold Hv at l;rw[Hb (by simpa using J),jb]at l;cases e:C[i]? with
   |none=>rw[e]at l;cases l
   |some a=>rw[e]at l;cases l;rfl
  obtain⟨u,R,Y⟩:=r.get T;have D:B[i]?=some y:=by
   rw[<-S.pre,Rq (by omega)];exact I
  have F:B.Nodup:=by rw[<-S.pre];exact S.nd.sublist (List.take_sublist _ _)
  refine⟨u,Y,?_⟩;rcases S.par y (Fa D)with k|k
  ·exact .inl ⟨k,AW F D R k⟩
  ·obtain⟨c,e⟩:=DQ k;refine .inr ⟨.inl k,c,e,?_⟩;have q:=x.cell y c e;rw[xU F D R (by show d.names.lookup y≠_;rw[k];decide)]at q;exact q
 ·exact n.zd.fresh (og (x.above y c (jf h)))
 ·unfold Hv;show _=N.length;rw[Ia,zb,List.length_replicate];omega
theorem SO{K:W.Frag}{dV kV F pm g ct oc:Value} (lk:K.lookup f=some ⟨oc,od,.func (W.fnOf z d i j a dV kV F pm an g ct),Z⟩) (U:W.codeIn K g d=true) (S:va N T a)
  (M:∀ l H Q E,sp l H Q E->l.length=T.length)
  (B:∀ (A:Qa) (c:List qh) (s:aa) (H:Hp) (l:List V) (Q:VK) (E:XK),Yd k (A.deeper (yg d a s.heap.objs.size f g))->sp l H Q E->
   ∃ t,Fs (Tp O P w K R h N d a f g A c s H E) j t/\t { nx:=λ_ p=>Q .wc p,rt:=Q } (Hv N l) H) :
  ri P w K R h O (k+1) f (W.fnOf z d i j a dV kV F pm an g ct) T sp:=by
 refine⟨M,λA c s H a0 us l Q E X G hb r L=>?_⟩;have hl:=M _ _ _ _ L;have KX:=G.mod.Ky.keeps λb o e=>(G.bs b o e).1;have Y:=G.mod.nolimit.keeps λb o e=>(G.bs b o e).1;have C:∀ y∈T.zip us,a.names.lookup y.1=some .local\/(a.names.lookup y.1=some .cell/\((lF (s.heap.objs.size+1) a.names []).lookup y.1).isSome=true):=λ⟨n,v⟩ hy=>by
  rcases S.par n (Ko hy).1 with q|q
  ·exact .inl q
  ·exact .inr ⟨q,W.cellsFrom_some _ _ _ (.inl q)⟩
 refine codeAny_call_function X.depth (KX _ _ lk) rfl S.co S.gen rfl (W.codeRec_of KX U) (hb _ _ _ _ ?_);refine wpAny_newFunctionEnv_cells S.kind C λa1 he s1 x=>?_;subst he;refine⟨Y.keeps x.toInCall.keep,codeAny_func ?_⟩;obtain⟨t,ht,hq⟩:=B A c s H l Q E (X.deeper _) L;have I:Za (Tp O P w K R h N d a f g A c s H E) [] (Hv N l) H s1:=Q9 S X.hd G hl r x;refine Hc (ht [] s1 (Hv N l) H _ I hq) (λfl s' D=>?_) λe s' D=>D;have wh:∀ {m:St} {p:Hp} {v:V} {u:Value},Za (Tp O P w K R h N d a f g A c s H E) [] m p s'->Pd v u->Q v p->CE c P w H s Q u s':=
  fun {m p v u} J rv q=>⟨v,p,J.os,J.bare,J.base,J.zd,rv,q⟩
 cases fl with
 |ret u=>
  obtain⟨v,m,p,J,rv,q⟩:=D;exact wh J rv q
 |next=>
  obtain⟨m,p,J,q⟩:=D;exact wh (v:=V.wc) J rfl q
 |brk=>
  obtain⟨_,_,_,q⟩:=D;exact False.elim q
 |cont=>
  obtain⟨_,_,_,q⟩:=D;exact False.elim q
section
variable{X:Cx}{x:Str}{p pos:Ce}{e:Ma}{es:List Ma}{t:TA}{id T:String}{r:List V->Hp->VK->Prop}
def YL(r:List V->Hp->VK->Prop)(t:TA):TE:=λc H Q=>t c H λb a=>r b a Q
theorem uJ(i:zm X (.builtin id) r)(k:Gl X x)(l:X.mg x=none)(n:bootBuiltins x=some (.builtin id))(g:PA X (e::es) t)(m:x ≠ "__name__":=by decide)(b:(x == ("__debug__" : Str))=false:=by decide)
  (j:qa (e::es) X.env=(false,Yb e X.env)::qa es X.env:=by rfl) (c:(Vc pos (qa es X.env)).any (·.1)=false:=by rfl):PE X (.Call (.Name x p) (e::es) [] pos) (YL r t):=by
 intro a s d H Q I h;refine Uf (Xw I k l n ?_ m b);exact KI (pe (g pos a s d H _ I h) λus s1 ⟨u,H1,f,q,o⟩=>i a s1 d H1 u us Q f q o) j c
theorem OF(i:zm X (.type T) r)(k:Gl X x)(l:X.mg x=none)(n:bootBuiltins x=some (.type T))(g:PA X (e::es) t)(m:x ≠ "__name__":=by decide)(b:(x == ("__debug__" : Str))=false:=by decide)
  (j:qa (e::es) X.env=(false,Yb e X.env)::qa es X.env:=by rfl) (c:(Vc pos (qa es X.env)).any (·.1)=false:=by rfl):PE X (.Call (.Name x p) (e::es) [] pos) (YL r t):=by
 intro a s d H Q I h;refine Uf (Xw I k l n ?_ m b);exact ae (pe (g pos a s d H _ I h) λus s1 ⟨u,H1,f,q,o⟩=>i a s1 d H1 u us Q f q o) j c
end
end L2
namespace HT
open PySem PyProof.Rows
section
open PySem.SeqAt
open PySem.AutoSeq1 (wpAny_loadPart')
open PySem.MeetsSeq PySem.MeetsSeq2 PySem.MeetsSeq3
end
section
variable{prog:Aa}{w:Wa}{A:Qa}{E:Value->aa->Prop}{s:aa}
theorem bx(C:Su s.heap t d.toArray)(y:Su s.heap b a.toArray)(q:d≠[])
  (v:a=[]->Q (.ref t) s) (x:a≠[]->Q (.ref s.heap.objs.size) { s with heap:=s.heap.push { cls:=.type "tuple",data:=.seq (d++a).toArray } })
  (m:d.length+a.length<=sizeLine):wpAny (model prog w) A (Be .Add (.ref t) (.ref b)) Q E s:=by
 obtain⟨⟨cls,p,data,u⟩,h,z,n,B⟩:=id C;obtain⟨⟨o,f,j,g⟩,c,k,r,l⟩:=id y;subst z B k l;have e:d.toArray++a.toArray=(d++a).toArray:=by simp
 by_cases i:a=[]
 ·exact Pv ⟨_,h,rfl⟩ ⟨_,c,rfl⟩ Cq tu Xi Gi (ti _ _)
   (tuple_addW1 t b d.toArray a.toArray n r p f u g (by simpa using q) (by simp[i])) ⟨h,c,v i⟩
 ·refine Pv ⟨_,h,rfl⟩ ⟨_,c,rfl⟩ Cq tu Xi Gi (ti _ _)
   (tuple_addW2 t b d.toArray a.toArray n r p f u g (by simpa using q) (by simpa using i) (by rw[wa,wa];exact m)) ⟨h,c,?_⟩
  rw[e];exact x i
noncomputable def ig(n d:Nat):Option Int->Nat
 |none=>d
 |some v=>if v<0 then (v+(n:Int)).toNat else min v.toNat n
theorem ZO(v:Int)(n d:Nat):(if v<0 then max (v+(n:Int)) 0 else min v (n:Int))=((ig n d (some v):Nat):Int):=by
 show (if v<0 then max (v+n) 0 else min v n)=(if v<0 then (v+n).toNat else min v.toNat n);by_cases a:v<0
 ·simp only[ia a];omega
 ·simp only[ka a];omega
theorem zji(lo a:Option Int)(n:Nat):Ol lo a 1 (n:Int)=(((ig n 0 lo:Nat):Int),((ig n n a:Nat):Int)):=by
 refine uX ?_ ?_
 ·cases lo with
  |none=>rfl
  |some v=>exact ZO v n 0
 ·cases a with
  |none=>rfl
  |some v=>exact ZO v n n
theorem X3(i j:Nat):Lf (i:Int) (j:Int) 1=j - i:=by
 unfold Lf;split<;>omega
theorem cV(p:qm v o)(h:Q o s):wpAny (model prog w) A (mF v) Q E s:=by
 cases p with
 |none=>exact JN h
 |int i t=>exact slicePart_int h
theorem MT{lo b:Option Int}{n:Nat}(i:s.heap.IsSliceOf d e f .none)(pl:qm e lo)(j:qm f b)
  (h:Q (((ig n 0 lo:Nat):Int),1,ig n n b - ig n 0 lo) s):wpAny (model prog w) A (nF (.ref d) (pure (n:Int))) Q E s:=by
 obtain⟨k,c,g,a⟩:=id i;refine da (da (im c a rfl (da (im c a rfl (da (im c a rfl (ua ?_)))))));refine da (JN ?_);refine da (cV pl (da (cV j (da (ua ?_)))));show wpAny _ _ (match Ol lo b 1 n with|(lo,b)=>pure (lo,(1:Int),Lf lo b 1)) _ _ s;rw[zji lo b n];show wpAny _ _ (pure (((ig n 0 lo):Int),1,Lf (ig n 0 lo:Nat) ((ig n n b:Nat):Int) 1)) _ _ s;rw[X3];exact ua h
theorem P9(xs:Array Value)(i k:Nat):((List.range k).filterMap λ(m:Nat)=>xs[((i:Int)+(m:Int) * 1).toNat]?).toArray=((xs.toList.drop i).take k).toArray:=by
 have e:(λ(m:Nat)=>xs[(i+(m:Int) * 1).toNat]?)=λm=>xs[i+m]?:=by
  funext m;have:(i+(m:Int) * 1).toNat=i+m:=by omega
  rw[this]
 rw[e];have:=pick_run xs i k;rw[List.filterMap_map]at this;have a:((λx=>xs[x]?) ∘ λx=>i+x)=λm=>xs[i+m]?:=rfl;rw[a]at this;rw[this]
theorem Vk{lo c:Option Int}(d:Su s.heap t a)(k:s.heap.IsSliceOf j l n .none)(pl:qm l lo)(v:qm n c)
  (r:¬ (ig a.size 0 lo=0/\ig a.size a.size c=a.size))
  (h:Q (.ref s.heap.objs.size) { s with heap:=s.heap.push { cls:=.type "tuple",data:=.seq ((a.toList.drop (ig a.size 0 lo)).take (ig a.size a.size c - ig a.size 0 lo)).toArray } })
  (p:a.size<=sizeLine):wpAny (model prog w) A (sj (.ref t) (.ref j)) Q E s:=by
 have b:sizeOk (.seq ((a.toList.drop (ig a.size 0 lo)).take (ig a.size a.size c - ig a.size 0 lo)).toArray):=by
  show ((a.toList.drop (ig a.size 0 lo)).take (ig a.size a.size c - ig a.size 0 lo)).toArray.size<=sizeLine;rw[wa,uh,Hw,qg];omega
 obtain⟨u,i,f,o⟩:=id k;have e:s.TypeIs (.ref j) "slice":=⟨u,i,f⟩
 unfold sj;try with_reducible refine Qd ?_
 refine da (dC d.typeIs (by decide) ?_);refine da (Qu d.typeIs Rc
  (Dq Rc d.typeIs Qy ?_ (pA _ _)))
 show wpAny _ _ (yl (.ref t) >>= _) _ _ s;refine da (vX d ?_);refine da (Qv e ?_);refine da (MT k pl v ?_);have g:¬ ((((ig a.size 0 lo):Int) == 0 && (1:Int) == 1 && (ig a.size a.size c - ig a.size 0 lo) == a.size)=true):=by
  intro q;rw[Ca,Ca]at q;have x:((ig a.size 0 lo:Nat):Int)=0:=eq_of_beq q.1.1;have y:ig a.size a.size c - ig a.size 0 lo=a.size:=eq_of_beq q.2;exact r ⟨by omega,by omega⟩
 show wpAny _ _ (if (((ig a.size 0 lo:Nat):Int) == 0 && (1:Int) == 1 && (ig a.size a.size c - ig a.size 0 lo) == a.size)=true then _ else _) _ _ s;rw[ka g,P9];first
  |exact da (m:=Vf _) (pf (ua ⟨_,rfl,ua h⟩) b)
  |exact da (m:=Vf _) (pf (da (ua (ua ⟨_,rfl,ua h⟩))) b)
  |exact da (da (m:=Vf _) (pf (ua (ua ⟨_,rfl,ua h⟩)) b))
  |exact da (da (m:=Vf _) (pf (ua ⟨_,rfl,ua h⟩) b))
end
end HT
namespace L2
open PySem PySem.Spec PyProof.Rows
abbrev TO:=St->Hp->(Option Int->Hp->Prop)->Prop
def PO(X:Cx)(e:Option Ma)(t:TO):Prop:=
 ∀ (a:List (Addr × jd)) (s:aa) (σ:St) (H:Hp) (Q:Option Int->Hp->Prop),Za X a σ H s->t σ H Q->
  wpAny (model X.prog X.w) X.A (evalPart e X.env) (λu c=>∃ o b,Za X a σ b c/\qm u o/\Q o b) X.xe s
noncomputable def S3:TO:=λ_ H Q=>Q none H
noncomputable def m9(t:TE):TO:=λb H Q=>t b H λx a=>∃ i,x=.int i/\Q (some i) a
theorem nV:∀ {b:List Value},ue (a.map V.int) b->Ep b a:=by
 induction a with
 |nil=>intro b r;rw[Vr]at r;cases r;exact .nil
 |cons n a c=>
  intro b r;cases r with
  |cons d f=>
   obtain⟨t,e⟩:=d;subst e;exact .cons n t (c f)
section
variable{X:Cx}{e:Ma}{te:TE}{lo hi:Option Ma}{tl th:TO}{pos p2:Ce}
theorem θ:PO X none S3:=by
 intro a s b H Q I h;exact ua ⟨none,H,I,.none,h⟩
theorem WZ(h:PE X e te):PO X (some e) (m9 te):=by
 intro a s g H Q I c;refine pe (h a s g H _ I c) λu s1 zz=>?_;obtain⟨x,H1,b,f,d⟩:=zz;obtain⟨i,rfl,q⟩:=d;obtain⟨t,rfl⟩:=f;exact⟨some i,H1,b,.int i t,q⟩
def ew(X:Cx)(r:V->Option Int->Option Int->Hp->VK->Prop):Prop:=
 ∀ (a:List (Addr × jd)) (s:aa) (σ:St) (H:Hp) (x:V) (v c d:Value) (lo hi:Option Int) (b:Addr) (Q:VK),Za X a σ H s->Pd x v->s.heap.IsSliceOf b c d .none->qm c lo->qm d hi->r x lo hi H Q->
  ∃ T e,typeLookup (.type T) "__getitem__" = pure (some (.builtin e))/\s.TypeIs v T/\wpAny (model X.prog X.w) X.A (sj v (.ref b)) (EP X a σ Q) X.xe s
theorem ew.or(h:ew X r)(h':ew X d):ew X (λx lo hi H Q=>r x lo hi H Q\/d x lo hi H Q):=by
 intro a s j H x v g i lo hi f Q I e b pl c q;rcases q with q|q
 ·exact h a s j H x v g i lo hi f Q I e b pl c q
 ·exact h' a s j H x v g i lo hi f Q I e b pl c q
def B3(r:V->Option Int->Option Int->Hp->VK->Prop)(te:TE)(tl th:TO):TE:=λa H Q=>te a H λx b=>tl a b λl c=>th a c λu d=>r x l u d Q
theorem k8(y:ew X r)(p:PE X e te)(w:PO X lo tl)(A:PO X hi th):PE X (.Subscript e (.Slice lo hi none p2) pos) (B3 r te tl th):=by
 intro a s c H Q I h;refine qA (pe (p a s c H _ I h) λv s1 zz=>?_);obtain⟨x,H1,j,E,B⟩:=zz;refine wpAny_Slice (pe (w a s1 c H1 _ j B) λd s2 ⟨l,i,k,pl,C⟩=>pe (A a s2 c i _ k C) λf s3 ⟨u,g,m,pu,D⟩=>?_);refine ua ?_;have n:Za X a c g { s3 with heap:=s3.heap.push { cls:=.type "slice",data:=.fields #[d,f,.none] } }:=m.kept λb ob q=>na _ q;obtain⟨T,F,o,z,t⟩:=y a { s3 with heap:=s3.heap.push { cls:=.type "slice",data:=.fields #[d,f,.none] } } c g x v d f l u s3.heap.objs.size Q n E (fC ..) pl pu D;exact tail_any z o t (by with_unfolding_all rfl)
def lB(xs:List V)(lo hi:Option Int):List V:=(xs.drop (HT.ig xs.length 0 lo)).take (HT.ig xs.length xs.length hi - HT.ig xs.length 0 lo)
theorem yQ(xs:List V)(lo hi:Option Int):(lB xs lo hi).length<=xs.length:=by
 unfold lB;rw[uh,Hw];omega
def FR(K:W.Frag):V->Option Int->Option Int->Hp->VK->Prop:=λx lo hi H Q=>∃ a xs,x=.ref a/\ii K H a xs/\
 ¬ (HT.ig xs.length 0 lo=0/\HT.ig xs.length xs.length hi=xs.length)/\∀ p,H p=none->Q (.ref p) (pc H p (.Ka (lB xs lo hi)))
theorem Ń:ew X (FR X.K):=by
 intro f s p H x v n o lo hi m Q I l g pl k h;obtain⟨a,xs,rfl,j,i,q⟩:=h;cases l;obtain⟨its,r,d,e⟩:=I.tuple j;have c:its.toArray.size=xs.length:=by rw[wa];exact r.length.symm
 refine⟨"tuple",_,Rc.lookup,d.typeIs,?_⟩;refine HT.Vk d g pl k (by rw[c];exact i) ?_ (by rw[c];exact e);rw[c];refine⟨.ref s.heap.objs.size,_,I.laid (λb ob q=>na _ q) (ya _) ?_,rfl,q _ (I.zd.fresh (ya _))⟩;exact⟨Ib (yQ xs lo hi) e,_,(r.drop (HT.ig xs.length 0 lo)).take (HT.ig xs.length xs.length hi - HT.ig xs.length 0 lo),Rv _ _⟩
def K2(K:W.Frag):R2:=λx y H Q=>∃ a b xs c,x=.ref a/\y=.ref b/\ii K H a xs/\ii K H b c/\xs≠[]/\xs.length+c.length<=sizeLine/\
 (c=[]->Q (.ref a) H)/\(c≠[]->∀ p,H p=none->Q (.ref p) (pc H p (.Ka (xs++c))))
theorem ue.pq(r:ue xs a):a=[] ↔ xs=[]:=by
 cases r with
 |nil=>simp
 |cons _ _=>simp
theorem Å:di X (Be .Add) (K2 X.K):=by
 intro g s σ H x y v u Q I o p h;obtain⟨a,b,xs,r,rfl,rfl,i,j,k,e,m,n⟩:=h;cases o;cases p;obtain⟨its,d,l,_⟩:=I.tuple i;obtain⟨f,c,p2,_⟩:=I.tuple j;refine HT.bx l p2 (λz=>k (d.pq.mp z)) (λz=>⟨.ref a,H,I,rfl,m (c.pq.mp z)⟩) (λz=>?_) (by rw[<-d.length,<-c.length];exact e);refine⟨.ref s.heap.objs.size,_,I.laid (λb ob q=>na _ q) (ya _) ?_,rfl,n (λw=>z (c.pq.mpr w)) _ (I.zd.fresh (ya _))⟩;exact⟨by rw[Ia];exact e,_,d.append c,Rv _ _⟩
end
noncomputable def xt(n:Nat)(i:Int):Option Nat:=if 0<=i then (if i<n then some i.toNat else none)else if -(n:Int)<=i then some (i+n).toNat else none
def Sr{a:Type}(xs:List a)(i:Int):Option a:=(xt xs.length i).bind λj=>xs[j]?
theorem iO(h:xt n i=some j):Tu i n=some j/\j<n/\-(n:Int)<=i/\i<n:=by
 unfold xt at h;by_cases b:0<=i
 ·rw[ia b]at h;by_cases a:i<n
  ·rw[ia a]at h;have e:=Lb h;exact⟨by rw[Mx b a,e],by omega,by omega,a⟩
  ·rw[ka a]at h;cases h
 ·rw[ka b]at h;by_cases a:-n<=i
  ·rw[ia a]at h;have e:=Lb h;exact⟨by rw[Sv (by omega) a,e],by omega,a,by omega⟩
  ·rw[ka a]at h;cases h
theorem oU{xs:List a}{v:a}(h:Sr xs i=some v):∃ j,Tu i xs.length=some j/\xs[j]?=some v/\j<xs.length/\-(xs.length:Int)<=i/\i<xs.length:=by
 unfold Sr at h;cases e:xt xs.length i with
 |none=>rw[e]at h;cases h
 |some j=>
  rw[e]at h;obtain⟨b,c,d,f⟩:=iO e;exact⟨j,b,h,c,d,f⟩
theorem Tr{xs:List a}{j:Nat}{v:a}(h:xs[j]?=some v):Sr xs (j:Int)=some v:=by
 have b:=(ja.mp h).1;have e:xt xs.length j=some j:=by
  unfold xt;rw[ia (by omega),ia (by omega)];simp
 unfold Sr;rw[e];exact h
def OJ(b:Ma):Prop:=∀ o i,Vq b false o i=operate [o,i] (sj o i)
def yx(X:Cx)(r:R2):Prop:=
 ∀ (b a:Ma) (pins:List (Addr × jd)) (s:aa) (σ:St) (H:Hp) (x y:V) (v u:Value) (Q:VK),Za X pins σ H s->Pd x v->Pd y u->r x y H Q->
  Vq a false v u=operate [v,u] (sj v u)->wpAny (model X.prog X.w) X.A (subscriptTail b a v u) (EP X pins σ Q) X.xe s
def yu(X:Cx)(b:String)(r:V->List V->Hp->VK->Prop):Prop:=
 ∀ (a:List (Addr × jd)) (s:aa) (σ:St) (H:Hp) (x:V) (xs:List V) (v:Value) (us:List Value) (Q:VK),Za X a σ H s->Pd x v->ue xs us->r x xs H Q->
  wpAny (model X.prog X.w) X.A (call (.builtin b) (v::us)) (EP X a σ Q) X.xe s
section
variable{X:Cx}{a b:Ma}{ta tb:TE}{pos:Ce}
theorem yx.or(h:yx X r)(h':yx X e):yx X (λx y H Q=>r x y H Q\/e x y H Q):=by
 intro b a c s i H x y v u Q I f g q d;rcases q with q|q
 ·exact h b a c s i H x y v u Q I f g q d
 ·exact h' b a c s i H x y v u Q I f g q d
theorem yu.or{b:String}(h:yu X b r)(h':yu X b c):yu X b (λx xs H Q=>r x xs H Q\/c x xs H Q):=by
 intro a s g H x xs v f Q I e d q;rcases q with q|q
 ·exact h a s g H x xs v f Q I e d q
 ·exact h' a s g H x xs v f Q I e d q
theorem uY(i:yx X r)(f:PE X a ta)(g:PE X b tb)(j:OJ b):PE X (.Subscript a b pos) (GB r ta tb):=by
 intro c s m H Q I h;exact qA (kL f g I h λv u s2 x y d e k l q=>i a b c s2 m d x y v u Q e k l q (j _ _))
noncomputable def HK(K:W.Frag):R2:=λx y H Q=>∃ p xs i v,x=.ref p/\y=.int i/\Mf K H p xs/\Sr xs i=some v/\Q v H
noncomputable def gK(K:W.Frag):R2:=λx y H Q=>∃ p xs i v,x=.ref p/\y=.int i/\ii K H p xs/\Sr xs i=some v/\Q v H
theorem Y6:yx X (HK X.K):=by
 intro f e a s F H x y v u Q I D E h l;obtain⟨p,xs,i,z,rfl,rfl,C,A,q⟩:=h;cases D;obtain⟨t,rfl⟩:=E;obtain⟨its,r,pl,L⟩:=I.list C;obtain⟨j,b,m,G,n,o⟩:=oU A;obtain⟨w,g,d⟩:=r.get m;have B:=r.length;have J:=vI;have wh:EP X a F Q w s:=⟨z,H,I,d,q⟩
 by_cases k:0<=i
 ·have c:i.toNat=j:=by
   rw[Mx k o]at b;exact Lb b
  exact item_listR pl.isList k (by omega) (by rw[c];simpa using g) wh l
 ·have c:(i+its.toArray.size).toNat=j:=by
   rw[Sv (by omega) n]at b;rw[wa,<-B];exact Lb b
  exact Tv pl.isList.typeIs gC.lookup
   (wpAny_getItem_list_neg pl.isList (by omega) (by rw[wa]<;>omega) (by omega) (by rw[c];simpa using g) ⟨rfl,wh⟩) l
theorem Ä:yx X (gK X.K):=by
 intro d c a s B H x y v u Q I o A h n;obtain⟨p,xs,i,z,rfl,rfl,m,k,q⟩:=h;cases o;obtain⟨t,rfl⟩:=A;obtain⟨its,r,pl,G⟩:=I.tuple m;obtain⟨j,f,g,C,D,E⟩:=oU k;obtain⟨w,e,b⟩:=r.get g;have l:=r.length;have F:=vI;have wh:EP X a B Q w s:=⟨z,H,I,b,q⟩
 exact Tv pl.typeIs slot_tuple_getitem.lookup
  (getItem_tuple pl (by omega) (by omega) (by rw[wa,<-l];exact f) (by simpa using e) ⟨rfl,wh⟩) n
theorem zkd(a:List Value)(n j:Nat)(u:Value):Qg (·.setIfInBounds j u) { cls:=.type "list",data:=.seq a.toArray n }={ cls:=.type "list",data:=.seq (a.set j u).toArray n }:=by
 simp[Qg]
theorem Za.la{a:List (Addr × jd)}{b:St}{H:Hp}{s:aa}{p:Addr}{xs:List V}(I:Za X a b H s)(h:H p=some (.la xs)) :
  ∃ (its:List Value) (n:Nat),ue xs its/\s.heap.get? p=some { cls:=.type "list",data:=.seq its.toArray n }/\xs.length<=sizeLine:=by
 obtain⟨z,its,n,r,e⟩:=I.zd p _ h;exact⟨its,n,r,e,z⟩
theorem Za.zz{its a:List Value}(I:Za X c j H s)(h:H p=some (.la xs))
  (l:s.heap.get? p=some { cls:=.type "list",data:=.seq its.toArray n }) (i:f { cls:=.type "list",data:=.seq its.toArray n }={ cls:=.type "list",data:=.seq a.toArray d }) (r:ue g a) (m:g.length<=sizeLine) (t:Nat) :
  Za X c j (pc H p (.la g)) { s with heap:=s.heap.update p f,toks:=t }:=by
 have e:(s.heap.update p f).get? p=some { cls:=.type "list",data:=.seq a.toArray d }:=by
  rw[Ss f l (by rw[i]<;>rfl),i]
 refine I.write (by rw[h];trivial) (.inl rfl) (λb u k q=>(rj _ _ (Xe k)).trans q) ⟨_,e⟩ ?_;exact⟨m,a,d,r,e⟩
def OY:V->V->V->Hp->(Hp->Prop)->Prop:=λo i v H Q=>∃ p xs k j,o=.ref p/\i=.int k/\H p=some (.la xs)/\xt xs.length k=some j/\Q (pc H p (.la (xs.set j v)))
theorem L3:RK X OY:=by
 intro w s G H o i v F E u Q I A z B h;obtain⟨p,xs,k,j,rfl,rfl,m,x,q⟩:=h;cases A;obtain⟨t,rfl⟩:=z;obtain⟨its,n,r,d,y⟩:=I.la m;obtain⟨a,C,g,l⟩:=iO x;have c:=r.length;have D:=vI;have e:=
  I.zz m d (zkd its n j u) (r.set B j) (by rw[No];exact y) s.toks
 by_cases f:0<=k
 ·have b:k.toNat=j:=by
   rw[Mx f l]at a;exact Lb a
  exact W.ki_setAt d f (by omega) (by rw[wa,<-c];exact l) (by rw[b];exact⟨_,e,q⟩)
 ·have b:(k+its.toArray.size).toNat=j:=by
   rw[Sv (by omega) g]at a;rw[wa,<-c];exact Lb a
  exact W.ki_setBack d (by omega) (by rw[wa,<-c];exact g) (by omega) (by rw[b];exact⟨_,e,q⟩)
theorem ŵ(lo a:Option Int)(n:Nat):(ji lo a none n).1=((HT.ig n 0 lo:Nat):Int)/\(ji lo a none n).2.1=((HT.ig n n a:Nat):Int)/\(ji lo a none n).2.2=1:=by
 refine⟨?_,?_,rfl⟩
 ·cases lo with
  |none=>simp[ji,HT.ig]
  |some i=>
   simp only[ji,HT.ig,Ru];by_cases h:i<0
   ·simp only[h,xg]<;>omega
   ·simp only[h,yi]<;>omega
 ·cases a with
  |none=>simp[ji,HT.ig]
  |some i=>
   simp only[ji,HT.ig,Ru,show 1 > 0 by decide,xg];by_cases h:i<0
   ·simp only[h,xg]<;>omega
   ·simp only[h,yi]<;>omega
theorem zf5(a:List Value)(lo b:Option Int):slicePick a.toArray lo b none=((a.drop (HT.ig a.length 0 lo)).take (HT.ig a.length a.length b - HT.ig a.length 0 lo)).toArray:=by
 obtain⟨c,d,e⟩:=ŵ lo b a.toArray.size;unfold slicePick;rw[c,d,e];simp only[sliceRange_one,pick_run]<;>rfl
def SS(K:W.Frag):V->Option Int->Option Int->Hp->VK->Prop:=λx lo b H Q=>∃ a xs,x=.ref a/\Mf K H a xs/\∀ p,H p=none->Q (.ref p) (pc H p (.la (lB xs lo b)))
theorem A2:ew X (SS X.K):=by
 intro f s p H x v n o lo d m Q I l g pl k h;obtain⟨a,xs,rfl,i,q⟩:=h;cases l;obtain⟨its,r,e,j⟩:=I.list i;have c:=r.length;refine⟨"list",_,gC.lookup,e.isList.typeIs,?_⟩;refine wpAny_getItem_list_slice e.isList g pl k .none (by simp) ?_ (by rw[wa]<;>omega);rw[zf5,<-c];refine⟨.ref s.heap.objs.size,_,I.laid (λb ob q=>na _ q) (ya _) ?_,rfl,q _ (I.zd.fresh (ya _))⟩;exact⟨Ib (yQ xs lo d) j,_,0,(r.drop (HT.ig xs.length 0 lo)).take (HT.ig xs.length xs.length d - HT.ig xs.length 0 lo),qb _ rfl⟩
noncomputable def qj:V->Bool
 | .wc=>true
 | .bl _=>true
 | .int _=>true
 | .str _=>true
 |_=>false
noncomputable def Mj:V->V->Bool
 | .wc,.wc=>true
 | .bl a,.bl b=>a == b
 | .bl a,.int b=>(if a then 1 else 0) == b
 | .int a,.bl b=>a == (if b then 1 else 0)
 | .int a,.int b=>a == b
 | .str a,.str b=>a == b
 |_,_=>false
theorem qJ(f:Pd y u)(c:Pd x v)(g:qj y=true)(e:qj x=true):Xd A s u v (Mj y x):=by
 cases y with
 |wc=>
  cases f;cases x with
  |wc=>cases c;exact Ml _
  |bl b=>cases c;exact wX b
  |int b=>obtain⟨t,rfl⟩:=c;exact xX b t
  |str b=>obtain⟨t,rfl⟩:=c;exact yX b t
  |_=>exact absurd (e) ub
 |bl a=>
  cases f;cases x with
  |wc=>cases c;exact zX a
  |bl b=>cases c;exact AX a b
  |int b=>obtain⟨t,rfl⟩:=c;exact BX a b t
  |str b=>obtain⟨t,rfl⟩:=c;exact DX a b t
  |_=>exact absurd (e) ub
 |int a=>
  obtain⟨d,rfl⟩:=f;cases x with
  |wc=>cases c;exact EX a d
  |bl b=>cases c;exact FX a d b
  |int b=>obtain⟨t,rfl⟩:=c;exact GX a d b t
  |str b=>obtain⟨t,rfl⟩:=c;exact Pq a d b t
  |_=>exact absurd (e) ub
 |str a=>
  obtain⟨d,rfl⟩:=f;cases x with
  |wc=>cases c;exact HX a d
  |bl b=>cases c;exact IX a d b
  |int b=>obtain⟨t,rfl⟩:=c;exact Qq a d b t
  |str b=>obtain⟨t,rfl⟩:=c;exact JX a d b t
  |_=>exact absurd (e) ub
 |_=>exact absurd (g) ub
def Ls(x:V)(u:Value):Bool:=match u with
 | .none=>Mj .wc x
 | .bool b=>Mj (.bl b) x
 | .int i _=>Mj (.int i) x
 | .str z _=>Mj (.str z) x
 |_=>false
theorem RV(r:Pd y u)(f:qj y=true):Ls x u=Mj y x:=by
 cases y with
 |wc=>cases r;rfl
 |bl b=>cases r;rfl
 |int i=>obtain⟨t,rfl⟩:=r;rfl
 |str z=>obtain⟨t,rfl⟩:=r;rfl
 |_=>exact absurd (f) ub
theorem ID{x:V}:∀ {xs:List V} {us:List Value},ue xs us->xs.all qj=true->us.any (Ls x)=xs.any λy=>Mj y x
 |_,_,.nil,_=>rfl
 |y::xs,u::us,.cons r t,f=>by
  rw[Ye,Ca]at f;rw[Ze,Ze,RV r f.1,ID t f.2]
theorem aE{A:Qa}{s:aa}{x:V}{v:Value}(c:Pd x v)(b:qj x=true):∀ {xs:List V} {us:List Value},ue xs us->xs.all qj=true->∀ u∈us,Xd A s u v (Ls x u)
 |_,_,.nil,_=>λu a=>by cases a
 |y::xs,u::us,.cons r t,f=>λd a=>by
  rw[Ye,Ca]at f;rcases Ea.mp a with rfl|a
  ·rw[RV r f.1];exact qJ r c f.1 b
  ·exact aE c b t f.2 d a
def bB(x:V)(xs:List V):Bool:=xs.any λy=>Mj y x
def GG(K:W.Frag)(a:Bool):R2:=λx y H Q=>∃ p xs,y=.ref p/\(Mf K H p xs\/ii K H p xs)/\qj x=true/\xs.all qj=true/\Q (.bl (if a then !bB x xs else bB x xs)) H
theorem SH:di X (Sb .In) (GG X.K false):=by
 intro e s j H x y v u Q I f i h;obtain⟨p,xs,rfl,a,d,b,q⟩:=h;cases i;rcases a with a|a
 ·obtain⟨its,r,pl,g⟩:=I.list a;refine Iw (Ls x) pl.isList (λw c=>aE f d r b w (by simpa using c)) ⟨.bl _,H,I,rfl,?_⟩;rw[show its.toArray.any (Ls x)=its.any (Ls x) by simp,ID r b];exact q
 ·obtain⟨its,r,pl,g⟩:=I.tuple a;refine Uv (Ls x) pl (λw c=>aE f d r b w (by simpa using c)) ⟨.bl _,H,I,rfl,?_⟩;rw[show its.toArray.any (Ls x)=its.any (Ls x) by simp,ID r b];exact q
theorem KP:di X (Sb .NotIn) (GG X.K true):=by
 intro e s j H x y v u Q I f i h;obtain⟨p,xs,rfl,a,d,b,q⟩:=h;cases i;rcases a with a|a
 ·obtain⟨its,r,pl,g⟩:=I.list a;refine uu (Ls x) pl.isList (λw c=>aE f d r b w (by simpa using c)) ⟨.bl _,H,I,rfl,?_⟩;rw[show its.toArray.any (Ls x)=its.any (Ls x) by simp,ID r b];exact q
 ·obtain⟨its,r,pl,g⟩:=I.tuple a;refine Ot (Ls x) pl (λw c=>aE f d r b w (by simpa using c)) ⟨.bl _,H,I,rfl,?_⟩;rw[show its.toArray.any (Ls x)=its.any (Ls x) by simp,ID r b];exact q
theorem yq:zm X (.builtin "len") (λxs H Q=>∃ p b,xs=[.ref p]/\(Mf X.K H p b\/ii X.K H p b)/\Q (.int b.length) H):=by
 intro e s k H xs j Q I r h;obtain⟨p,b,rfl,c,q⟩:=h;obtain⟨u,rfl,g⟩:=Os r;cases g;have i:=vI;rcases c with c|c
 ·obtain⟨its,d,pl,f⟩:=I.list c;have a:=d.length;exact Calls.call_len_list pl.isList (by simp only[wa]<;>omega) ⟨.int b.length,H,I.tok _,⟨s.toks+1,by rw[wa,a]⟩,q⟩
 ·obtain⟨its,d,pl,f⟩:=I.tuple c;have a:=d.length;exact len_tuple pl (by simp only[wa]<;>omega) ⟨.int b.length,H,I.tok _,⟨s.toks+1,by rw[wa,a]⟩,q⟩
theorem zm.or{r b:List V->Hp->VK->Prop}(h:zm X f r)(h':zm X f b):zm X f (λxs H Q=>r xs H Q\/b xs H Q):=by
 intro a s e H xs d Q I c q;rcases q with q|q
 ·exact h a s e H xs d Q I c q
 ·exact h' a s e H xs d Q I c q
theorem SD:zm X (.type "list") (λxs H Q=>∃ p d,xs=[.ref p]/\(Mf X.K H p d\/ii X.K H p d)/\∀ l,H l=none->Q (.ref l) (pc H l (.la d))):=by
 intro k s z H xs A Q I r h;obtain⟨p,d,rfl,g,q⟩:=h;obtain⟨u,rfl,y⟩:=Os r;cases y;have wh:∀ its,ue d its->d.length<=sizeLine->∀ h' a,(∀ b x,s.heap.get? b=some x->h'.get? b=some x)->
   h'.get? s.heap.objs.size=some { cls:=.type "list",dict:=none,data:=.seq its.toArray a,slots:=#[] }->EP X k z Q (.ref s.heap.objs.size) { s with heap:=h' }:=λits c i h' a j e=>
  ⟨.ref s.heap.objs.size,_,I.laid j (ya _) (show Ym X.prog X.w _ h' _ (.la d)from⟨i,its,a,c,e⟩),rfl,q _ (I.zd.fresh (ya _))⟩
 rcases g with g|g
 ·obtain⟨its,c,pl,i⟩:=I.list g;have f:=c.length;obtain⟨o,v,m,n,t⟩:=pl.isList;exact LX p (.inl rfl) v m t (λh' a j e=>wh its c i h' a j e) (by simp only[wa]<;>omega)
 ·obtain⟨its,c,pl,i⟩:=I.tuple g;have f:=c.length;obtain⟨o,v,m,n,t⟩:=pl;exact LX p (.inr rfl) v m t (λh' a j e=>wh its c i h' a j e) (by simp only[wa]<;>omega)
theorem ZK:zm X (.type "tuple") (λxs H Q=>∃ p c,xs=[.ref p]/\((Mf X.K H p c/\∀ l,H l=none->Q (.ref l) (pc H l (.Ka c)))\/(ii X.K H p c/\Q (.ref p) H))):=by
 intro a s k H xs v Q I r h;obtain⟨p,c,rfl,h⟩:=h;obtain⟨u,rfl,t⟩:=Os r;cases t;rcases h with⟨d,q⟩|⟨d,q⟩
 ·obtain⟨its,f,pl,j⟩:=I.list d;have i:=f.length;refine call_tuple_list pl.isList (λh' n=>?_) (by simp only[wa]<;>omega);have g:Za X a k H { s with heap:=h' }:=I.kept n;have m:Za X a k (pc H h'.objs.size (.Ka c)) { s with heap:=h'.push { cls:=.type "tuple",data:=.seq its.toArray } }:=
   g.laid (λb o e=>na _ e) (ya _) (⟨j,its,f,Rv _ _⟩)
  exact⟨.ref h'.objs.size,_,m,rfl,q _ (g.zd.fresh (ya _))⟩
 ·obtain⟨its,f,pl,j⟩:=I.tuple d;exact call_tuple_same pl ⟨.ref p,H,I,rfl,q⟩
def PV(K:W.Frag)(T:String)(x:V)(H:Hp):Prop:=match x with
 | .str _=>T = "str"
 | .int _=>T = "int"
 | .ref p=>(T = "list"/\∃ xs,Mf K H p xs)\/(T = "tuple"/\∃ o,K.lookup p=some o/\o.cls=.type "tuple"/\o.dict=none)\/
   (T = "dict"/\((∃ a,H p=some (.dK a))\/∃ a,H p=some (.dT a)))\/(T = "set"/\∃ S n,H p=some (.set S n))
 |_=>False
theorem A4(I:Za X d σ H s)(r:Pd x v)(ty:PV X.K T x H) :
  s.TypeIs v T/\∀ a,v=.ref a->∃ ob,s.heap.get? a=some ob/\ob.dict=none:=by
 cases x with
 |str z=>
  obtain⟨t,rfl⟩:=r;cases (ty);exact⟨typeIs_str s z t,λ_ e=>nomatch e⟩
 |int i=>
  obtain⟨t,rfl⟩:=r;cases (ty);exact⟨typeIs_int s i t,λ_ e=>nomatch e⟩
 |ref p=>
  cases r;rcases ty with⟨rfl,xs,k⟩|⟨rfl,o,b,j,g⟩|⟨rfl,b⟩|⟨rfl,S,n,b⟩
  ·obtain⟨its,_,pl,_⟩:=I.list k;refine⟨pl.isList.typeIs,λa e=>?_⟩;cases e;obtain⟨o,n,e,c,g,_⟩:=pl;exact⟨o,e,g⟩
  ·refine⟨⟨o,I.sk p o b,j⟩,λa e=>?_⟩;cases e;exact⟨o,I.sk _ o b,g⟩
  ·have z:∃ o,s.heap.get? p=some o/\o.ExactDict:=by
    rcases b with⟨h,b⟩|⟨h,b⟩
    ·obtain⟨_,_,_,_,o,_,_,e,ex,_⟩:=I.zd p _ b;exact⟨o,e,ex⟩
    ·obtain⟨_,_,_,_,o,_,_,e,ex,_⟩:=I.zd p _ b;exact⟨o,e,ex⟩
   obtain⟨o,e,ex⟩:=z;refine⟨⟨o,e,ex.1⟩,λa f=>?_⟩;cases f;exact⟨o,e,ex.2.1⟩
  ·obtain⟨o,_,_,_,e,ex,_⟩:=I.zd p _ b;refine⟨⟨o,e,ex.1⟩,λa f=>?_⟩;cases f;exact⟨o,e,ex.2.1⟩
 |_=>exact False.elim ty
def Ñ(K:W.Frag)(T:String)(r:V->List V->Hp->VK->Prop)(d:TE)(t:TA):TE:=λb H Q=>d b H λx a=>PV K T x a/\t b a λxs c=>r x xs c Q
variable{o e:Ma}{es:List Ma}{to:TE}{t:TA}{name:Str}{apos cpos:Ce}{T id:String}{r:V->List V->Hp->VK->Prop}
theorem yux(B:Eo T)(g:Slot T name id)(i:ft (.builtin id)=pure (.type "method_descriptor"))(y:yu X id r)(z:PE X o to)(w:PA X (e::es) t)
  (c:ee o name X.env (Yb o X.env)=Yb o X.env:=by rfl)
  (f:((Vc cpos (qa (e::es) X.env)).all (λx=>!x.1) && (Zj cpos (mh [] X.env)).all (λx=>x.1.isSome)
   && decide ((e::es).length+([]:List Ek).length+(if ([]:List Ek).isEmpty then 0 else 1)<30))=true:=by rfl)
  (d:(apos.endLine == cpos.line)=true:=by rfl) (A:qa (e::es) X.env=(false,Yb e X.env)::qa es X.env:=by rfl) (b:(Vc cpos (qa es X.env)).any (·.1)=false:=by rfl) :
  PE X (.Call (.Attribute o name apos) (e::es) [] cpos) (Ñ X.K T r to t):=by
 intro a s j H Q I h;refine Vv c f d rfl (pe (z a s j H _ I h) λv s1 zz=>?_);obtain⟨x,H1,k,m,ty,C⟩:=zz;obtain⟨q,u⟩:=A4 k m ty;refine⟨T,id,B,g,i,q,u,?_⟩;have l:=w cpos a s1 j H1 _ k C;rw[A]at l ⊢;refine nj (by show (false || (Vc cpos (qa es X.env)).any (·.1))=false;rw[b]<;>rfl) (Wj ?_);exact pe l λus s2 ⟨F,n,p,E,D⟩=>y a s2 j n x F v us Q p m E D
end
def AN(X:Cx)(b:String)(r:V->List V->Hp->VK->Prop):Prop:=
 ∀ (a:List (Addr × jd)) (s:aa) (σ:St) (H:Hp) (x:V) (xs:List V) (v:Value) (us:List Value) (Q:VK),Za X a σ H s->Pd x v->ue xs us->r x xs H Q->
  wpAny (model X.prog X.w) X.A (call (.builtin b) (v::us)) (EP X a σ Q) X.xe s
theorem ue.one{x:V}{us:List Value}:ue [x] us->∃ u,us=[u]/\Pd x u:=by rintro(_|⟨r,_|_⟩);exact⟨_,rfl,r⟩
theorem ue.two{x y:V}{us:List Value}:ue [x,y] us->∃ u v,us=[u,v]/\Pd x u/\Pd y v:=by rintro(_|⟨r,(_|⟨q,_|_⟩)⟩);exact⟨_,_,rfl,r,q⟩
theorem ue.zero:∀ {a:List Value},ue [] a->a=[]
 |_,.nil=>rfl
theorem ue.eraseIdx:∀ {xs:List V} {us:List Value} (i:Nat),ue xs us->ue (xs.eraseIdx i) (us.eraseIdx i)
 |_,_,_,.nil=>.nil
 |_,_,0,.cons _ t=>t
 |_,_,i+1,.cons r t=>.cons r (ue.eraseIdx i t)
theorem ES{a:Type}:∀ (l:List a) (i:Nat),(l.eraseIdx i).length<=l.length
 |[],_=>ya _
 |_::_,0=>Jh _
 |_::r,i+1=>Nx (ES r i)
section
variable{X:Cx}{pins:List (Addr × jd)}{σ:St}{H:Hp}{s:aa}{l b:Addr}{xs ys zs:List V}
theorem Za.Xz{its a:List Value}(I:Za X pins σ H s)(b:H l=some (.la xs))
  (e:s.heap.get? l=some { cls:=.type "list",data:=.seq its.toArray n }) (d:f its.toArray=a.toArray) (h:ue ys a) (i:ys.length<=sizeLine) :
  Za X pins σ (pc H l (.la ys)) { s with heap:=s.heap.update l (Qg f),toks:=t' }:=by
 have q:=zaA e f;rw[d]at q;refine I.write (by rw[b];exact trivial) (.inl rfl) (λj u c g=>(rj s.heap (Qg f) (Xe c)).trans g) ⟨_,q⟩ ?_;exact⟨i,a,_,h,q⟩
theorem Za.kz(I:Za X pins σ H s)(a:ue ys its)(b:ys.length<=sizeLine) :
  Za X pins σ (pc H s.heap.objs.size (.la ys)) { s with heap:=s.heap.push { cls:=.type "list",data:=.seq its.toArray },toks:=t' }:=
 I.laid (λ_ _ q=>na _ q) (ya _) ⟨b,its,0,a,qb _ rfl⟩
theorem Za.fresh(I:Za X pins σ H s):H s.heap.objs.size=none:=I.zd.fresh (ya _)
theorem Za.iu(I:Za X pins σ H s)(a:H l=some (.la xs)):xs.length<=sizeLine/\∃ (its:List Value) (n:Nat),ue xs its/\xs.length=its.length/\s.heap.get? l=some { cls:=.type "list",data:=.seq its.toArray n }:=by
 obtain⟨z,its,n,r,e⟩:=I.zd l _ a;exact⟨z,its,n,r,r.length,e⟩
theorem bY(h:n<=sizeLine):Im n=false:=by
 exact Ua (by omega)
end
section
variable{X:Cx}
def iK:V->List V->Hp->VK->Prop:=λx a H Q=>∃ l xs y,x=.ref l/\a=[y]/\H l=some (.la xs)/\xs.length<sizeLine/\Q .wc (pc H l (.la (xs++[y])))
theorem MB:AN X "list.append" iK:=by
 intro b s m H x k v j Q I f d h;obtain⟨l,xs,y,rfl,rfl,a,i,q⟩:=h;cases f;obtain⟨u,rfl,c⟩:=d.one;obtain⟨z,its,n,r,g,e⟩:=I.iu a;refine rA F.slot_list_append ⟨_,e,rfl⟩ F.entry_list_append (F.args_list_append_2 _ _) (PySem.list_append l its.toArray n u (by rw[wa];omega)) ⟨e,?_⟩;refine⟨.wc,_,I.Xz a e (by simp) (r.append (.cons c .nil)) ?_,rfl,q⟩;rw[Ia,Ts];omega
def wV:V->List V->Hp->VK->Prop:=λx c H Q=>∃ l b xs a,x=.ref l/\c=[.ref b]/\H l=some (.la xs)/\H b=some (.la a)/\xs.length+a.length<=sizeLine/\Q .wc (pc H l (.la (xs++a)))
theorem Ů:AN X "list.extend" wV:=by
 intro g s G H x C v B Q I w t h;obtain⟨l,b,xs,E,rfl,rfl,f,j,A,q⟩:=h;cases w;obtain⟨u,rfl,p⟩:=t.one;cases p;obtain⟨z,its,n,r,y,e⟩:=I.iu f;obtain⟨D,a,m,o,k,i⟩:=I.iu j;have d:its.toArray.size+a.toArray.size<=sizeLine:=by rw[wa,wa];omega
 have c:¬ (!its.toArray.isEmpty && Im (its.toArray.size+a.toArray.size))=true:=by
  rw[bY d,Zp];exact ub
 refine rA F.slot_list_extend ⟨_,e,rfl⟩ F.entry_list_extend (F.args_list_extend_2 _ _)
  (AutoSeq1.list_extend_list_list_0 l its.toArray n b a.toArray m c (by rw[wa];omega) (by omega)) ⟨e,i,?_⟩
 refine⟨.wc,_,I.Xz f e (by simp) (r.append o) ?_,rfl,q⟩;rw[Ia];omega
def qQ:V->List V->Hp->VK->Prop:=λx a H Q=>∃ l xs i k y,x=.ref l/\a=[.int i]/\H l=some (.la xs)/\-(2 ^ 63)<=i/\i<2 ^ 63/\Tu i xs.length=some k/\xs[k]?=some y/\Q y (pc H l (.la (xs.eraseIdx k)))
theorem l4:AN X "list.pop" qQ:=by
 intro c s E H x D v C Q I B A h;obtain⟨l,xs,i,k,y,rfl,rfl,b,d,f,g,o,q⟩:=h;cases B;obtain⟨u,rfl,p⟩:=A.one;obtain⟨t,rfl⟩:=p;obtain⟨z,its,n,r,j,e⟩:=I.iu b;obtain⟨w,m,a⟩:=r.get o;refine rA F.slot_list_pop ⟨_,e,rfl⟩ F.entry_list_pop (F.args_list_pop_2 _ _)
  (MeetsSeq.list_pop_at l its.toArray n i t k w (fitsIndex_both d f) (by rw[wa,<-j];exact g) (by rw[<-Wr];exact m) (by rw[wa];omega)) ⟨e,?_⟩
 refine⟨y,_,I.Xz b e ?_ (r.eraseIdx k) ?_,a,q⟩
 ·show its.toArray.eraseIdxIfInBounds k=(its.eraseIdx k).toArray;rw[List.eraseIdxIfInBounds_toArray]
 ·have:=ES xs k;omega
def ξ:R2:=λx y H Q=>∃ l b xs a,x=.ref l/\y=.ref b/\H l=some (.la xs)/\H b=some (.la a)/\xs.length+a.length<=sizeLine/\∀ p,H p=none->Q (.ref p) (pc H p (.la (xs++a)))
theorem IV:di X (Be .Add) ξ:=by
 intro c s C H x y v u Q I m o h;obtain⟨l,b,xs,B,rfl,rfl,i,g,t,q⟩:=h;cases m;cases o;obtain⟨z,its,n,r,p,e⟩:=I.iu i;obtain⟨A,a,w,k,j,d⟩:=I.iu g;refine PySem.P.add_list e d ?_ (by rw[wa,wa];omega);have f:its.toArray++a.toArray=(its++a).toArray:=by simp
 rw[f];exact⟨.ref _,_,I.kz (r.append k) (by rw[Ia];omega),rfl,q _ I.fresh⟩
end
section
variable{prog:Aa}{w:Wa}{A:Qa}{E:Value->aa->Prop}{s:aa}
set_option maxRecDepth 100000 in
end
section
variable{X:Cx}
end
end L2
namespace Att
open PySem PySem.W PySem.Calls PyProof.Rows
theorem ű:∀ (c:List Int) (d:List Value),WellAll P h d (c.map UI)->Ep d c:=by
 intro c;induction c with
 |nil=>
  intro d w;cases w;exact .nil
 |cons n c e=>
  intro d w;cases w with
  |cons a b=>
   cases a;exact .cons _ _ (e _ b)
theorem m8{l:OpenLaw}(v:l.most=some n)
  (b:l.row.toRowW.claim.pre args=true) (m:WellAll P h e args) :
  ∃ a o c,e=[Ec a]/\args=[WData.list (c.map UI)]/\h.get? a=some { cls:=.type "list",data:=.seq o.toArray }/\Ep o c/\c.length<=n:=by
 have k:=(pre_splitW b).1;have u:=(pre_splitW b).2;obtain⟨d,r,rfl,p,s⟩:=hasAllW_cons k;obtain rfl:=hasAllW_nil s;obtain⟨xs,rfl,t⟩:=hasW_list p;obtain⟨c,rfl⟩:=items_int t;have g:c.length<=n:=by
  have i:(WTm.not (.lt (.lit (.int n)) (.len (.arg 0)))).holds [] { args:=[.list (c.map .int)] }=true:=by
   have i:=(holds_andW u).1;rw[v]at i;exact i
  have j:=condW_of i (w_not (w_lt w_lit (w_len_list (w_arg rfl))));refine Nat.le_of_not_lt λq=>?_;first
   |(rw[lb q']at j;exact absurd j (by decide))
   |(simp at j;omega)
 cases m with
 |cons x y=>
  cases y;cases x with
  |list w f=>exact⟨_,_,c,rfl,rfl,w,ű c _ f,g⟩
theorem F6(l:OpenLaw)(a:List WData):l.row.toRowW.claim.post a (.bool true) a=true:=
 postW_of
  (show WShape.has [] (.bool true) .bool=true by first|rfl|decide|simp)
  (w_eq_bool (w_res rfl) w_lit) rfl
theorem vr{l:OpenLaw}
  (S:l.most=some n) (y:d.params.defaults=[])
  (j:∀ (w:Wa) (e b:aa) (t B:Str->Option Value) (fa:Addr) (o:jd) (C s g:Value) (a:Addr) (i:List Value) (u:List Int),
   Ground q c [] D w e t B b.heap->E w b.heap->
   b.heap.get? fa=some o->o.data=.func (docDef d.name d.params d.body d.scope C s g)->b.heap.CodeRec s d.name->t d.name=some (.ref fa)->
   b.heap.get? a=some { cls:=.type "list",data:=.seq i.toArray }->Ep i u->u.length<=n->b.gens=#[]->
   codeAny (model l.prog w) Fp (.call (.ref fa) ⟨[.ref a],[]⟩) (λr v=>r=.ok (.ret (.bool true))/\OldK b.heap v.heap/\v.os=b.os/\Ii v.gens) b) :
  WalkO q c D E l.row.toRowW d [] (λf i=>PySem.call f i):=by
 intro w e b t B G Y fa o C s g K kV T O x H z P F J W p I V A Q;obtain rfl:K=.none:=Dflts.none H y;obtain rfl:kV=.none:=Dflts.noKw H;obtain⟨a,i,u,rfl,rfl,m,h,k⟩:=m8 S p A;refine enter_call (Bk (j w e b t B fa o C s g a i u G Y T (fd_plain O) x z m h k P) λr v U=>?_);obtain⟨rfl,L,M,N⟩:=U;exact⟨.inl ⟨.bool true,.bool true,[],rfl,λ_=>rfl,.bool true,F6 l _,λ_=>⟨List.Pairwise.nil,λ_ R=>(nomatch R)⟩⟩,L,M,N⟩
section
variable{prog:Aa}{w:Wa}{A:Qa}{E:Value->aa->Prop}{s:aa}{K:Frag}
end
end Att
namespace L2
open PySem PySem.Spec PyProof.Rows
theorem BG:∀ {a:List Value} {ns:List Int},Ep a ns->ue (ns.map V.int) a
 |_,_,.nil=>.nil
 |_,_,.cons n t h=>.cons ⟨t,rfl⟩ (BG h)
noncomputable abbrev Li{K:W.Frag}{h:Heap}(_:K.In h):W.Frag:=K
noncomputable def pp(s:Stmt):Arguments:=match s with
 | .FunctionDef _ a _ _ _ _ _ _ _ _=>a
 |_=>{ posonlyargs:=[],args:=[],vararg:=none,kwonlyargs:=[],kw_defaults:=[],kwarg:=none,defaults:=[] }
noncomputable def Ej(s:Stmt):List Stmt:=match s with
 | .FunctionDef _ _ b _ _ _ _ _ _ _=>b
 |_=>[]
noncomputable def Qc(s:Stmt):Scope:=match s with
 | .FunctionDef _ _ _ _ _ _ sc _ _ _=>sc
 |_=>{ kind:=.function,names:=[],isGenerator:=false,isCoroutine:=false }
noncomputable abbrev OT:fv:=λ_ _ _ _ _ _=>False
noncomputable abbrev E0:XK:=λ_ _ _=>False
structure vy(K:W.Frag)(x qual:Str)(st:Stmt)(f:Addr)(fd:qf):Prop where
 ex:∃ (oc:Value) (od:Option Addr) (kV doc pm:Value) (an:Option Addr) (cdv ct:Value) (osl:Array (Option Value)),
  fd=W.fnOf x qual (pp st) (Ej st) (Qc st) .none kV doc pm an cdv ct/\K.lookup f=some ⟨oc,od,.func fd,osl⟩/\W.codeIn K cdv qual=true
 kp:W.keepIn K (.ref f)=true
section
variable{P:Aa}{w:Wa}{K:W.Frag}{mg:Str->Option Value}{base:Heap}
theorem vy.ok{st:Stmt}(F:vy K x b st f n)(S:va N l (Qc st))(j:∀ e H Q E,m e H Q E->e.length=l.length)
  (d:∀ (c:Value) (A:Qa) (a:List qh) (s:aa) (H:Hp) (e:List V) (Q:VK) (E:XK),Yd k (A.deeper (yg b (Qc st) s.heap.objs.size f c))->m e H Q E->
   ∃ t,Fs (Tp OT P w K mg base N b (Qc st) f c A a s H E).vp (Ej st) t/\t { nx:=λ_ o=>Q .wc o,rt:=Q } (Hv N e) H):ri P w K mg base OT (k+1) f n l m:=by
 obtain⟨y,z,kV,p,B,v,c,ct,u,rfl,lk,g⟩:=F.ex;refine SO lk g S j λA a s H e Q E r i=>?_;obtain⟨t,h,q⟩:=d c A a s H e Q E r i;exact⟨t,h.vp,q⟩
theorem vy.binds{st:Stmt}(F:vy K x a st f j)
  (h:∀ (kV c e:Value) (d:Option Addr) (b ct:Value) (i:List Value),i.length=g.length->bindArgs (W.fnOf x a (pp st) (Ej st) (Qc st) .none kV c e d b ct) ⟨i,[]⟩=pure (g.zip i)):Cs K j g []:=by
 obtain⟨m,n,kV,c,e,d,b,ct,l,rfl,lk,k⟩:=F.ex;exact .all (h kV c e d b ct)
theorem bW{st:Stmt}{kV d h b ct:Value}(l:K.lookup f=some ⟨i,j,.func (W.fnOf x a (pp st) (Ej st) (Qc st) .none kV d h g b ct),e⟩)
  (c:W.codeIn K b a=true) (k:W.keepIn K (.ref f)=true):vy K x a st f (W.fnOf x a (pp st) (Ej st) (Qc st) .none kV d h g b ct):=⟨⟨i,j,kV,d,h,g,b,ct,e,rfl,l,c⟩,k⟩
end
theorem SW(h:n<=1000):n<sizeLine:=Wv h (by decide)
section
variable{X:Cx}
end
def ww(H a:Hp):Prop:=∀ b o,H b=some o->a b=some o
theorem ww.refl(H:Hp):ww H H:=λ_ _ h=>h
theorem ww.trans(a:ww H d)(b:ww d e):ww H e:=λc o h=>b c o (a c o h)
theorem ww.free(e:ww H a)(h:a l=Option.none):H l=Option.none:=by
 cases q:H l with
 |none=>rfl
 |some o=>
  rw[e l o q]at h;cases h
theorem ww.seq{K:W.Frag}(e:ww H b)(h:Mf K H a xs):Mf K b a xs:=by
 rcases h with(h|⟨o,h⟩)|h
 ·exact .inl (.inl (e _ _ h))
 ·exact .inl (.inr ⟨o,e _ _ h⟩)
 ·exact .inr h
end L2
namespace L4
open PySem PySem.Spec PyProof.Rows L2
theorem tO(a:c):∃ b,b=a:=⟨a,rfl⟩
def Ab{b:Type}(a:b):b:=Classical.choose (tO a)
@[simp] theorem Rr(a:b):Ab a=a:=zaB (tO a)
inductive D where
 |wc|bl (b:Bool)|int (i:Int)|str (x:Str)|Ka (xs:List D)|Fh (ns:List Int)|ref (n:Nat)
 |la (xs:List D)|yc (ks:List ud) (xs:List D)|obj (c:Nat) (ns:List Str) (xs:List D)|Dt (c:Nat)|gt (ss:List Str)
inductive Ob where
 |la (xs:List D)
 |yc (kvs:List (ud × D))
 |Jd (c:Nat) (fs:List (Str × D))
 |Sf (kvs:List (ud × D))
 |vl (ks:List (List ud))
abbrev Ta:=List Ob
abbrev St:=L2.St
abbrev Ev:=List (Option D)
structure Xn where
 cls:Nat
inductive Hl(α:Type) where
 |ok (a:α) (σ:Ta)
 |ex (x:Xn) (σ:Ta)
 |Pb
abbrev M(a:Type):=Ta->Hl a
def ret{b:Type}(a:b):M b:=λc=>.ok a c
def Pb{a:Type}:M a:=λ_=>.Pb
def Hl.bind{c d:Type}(o:Hl c)(k:c->M d):Hl d:=match o with
 | .ok a b=>k a b
 | .ex x b=>.ex x b
 | .Pb=>.Pb
def Fd{a b:Type}(m:M a)(k:a->M b):M b:=λc=>(m c).bind k
inductive Fl where
 |nx (ρ:Ev)|rt (d:D)|bk (ρ:Ev)|ct (ρ:Ev)|xc (ρ:Ev) (x:Xn)
structure Tab where
 P:Addr
 line:Int
 col:Int
 qual:Str
structure Tx where
 nq:List Tab
 bm:Addr
structure Tb where
 K:W.Frag
 ca:Nat->Addr
 tx:Tx
def Gu(q:Str)(c:Addr):Heap->Prop:=λh=>∃ o a t,h.get? c=some o/\o.data=.fields a/\a[1]?=some (.str q t)
def MH(a:Addr):Heap->Prop:=λh=>∃ o,h.get? a=some o/\o.cls=.type "module"/\o.dict=some builtinsNs/\o.data=.plain
def Bt(T:Tb)(b:List Addr)(H:Hp):Prop:=∀ t∈T.tx.nq,(T.tx.bm ∉ b/\∃ d,H T.tx.bm=some (.vc d (.ext (MH T.tx.bm))))/\t.P ∉ b/\∃ a,H t.P=some (.Um a)/\(a=#[]\/∃ c,a=#[zf t.line,zf t.col,.ref c]/\c ∉ b/\H c=some (.ext (Gu t.qual c)))
theorem Bt.grow(h:Bt T d H)(k:∀ b u,H b=some u->a b=some u):Bt T d a:=λt m=>by
 obtain⟨⟨f,o,g⟩,i,p,j,l⟩:=h t m;exact⟨⟨f,o,k _ _ g⟩,i,p,k _ _ j,l.imp id λ⟨c,e,n,z⟩=>⟨c,e,n,k _ _ z⟩⟩
theorem Bt.sub(h:Bt T a H)(k:∀ b∈d,b∈a):Bt T d H:=λt m=>by
 obtain⟨⟨f,g⟩,i,o,j,l⟩:=h t m;exact⟨⟨λz=>f (k _ z),g⟩,λz=>i (k _ z),o,j,l.imp id λ⟨c,e,n,z⟩=>⟨c,e,λy=>n (k _ y),z⟩⟩
theorem Bt.more(h:Bt T a H)(l:H p=none):Bt T (a++[p]) H:=λt m=>by
 obtain⟨⟨i,o,f⟩,j,q,g,k⟩:=h t m;have d:∀ {b:Addr} {u:HO},H b=some u->b ∉ a->b ∉ a++[p]:=fun {b u} e n z=>(Kf.mp z).elim n λy=>by
  have r:b=p:=by simpa using y
  subst r;rw[l]at e;cases e
 exact⟨⟨d f i,o,f⟩,d g j,q,g,k.imp id λ⟨c,e,n,z⟩=>⟨c,e,d z n,z⟩⟩
theorem Bt.out(h:Bt T g H)(r:∀ b,b≠a->i b=H b)(q:a∈g\/∃ f,H a=some (.dK f)):Bt T g i:=λt s=>by
 obtain⟨⟨k,v,m⟩,l,w,o,p⟩:=h t s;have j:∀ {b:Addr} {u:HO},H b=some u->b ∉ g->(∀ f,u≠.dK f)->i b=some u:=fun {b u} e n d=>by
  rw[r b (λz=>by
   subst z;rcases q with y|⟨f,y⟩
   ·exact n y
   ·rw[e]at y;cases y;exact d f rfl)]
  exact e
 exact⟨⟨k,v,j m k (λ_ z=>by cases z)⟩,l,w,j o l (λ_ z=>by cases z),p.imp id λ⟨c,e,n,z⟩=>⟨c,e,n,j z n (λ_ y=>by cases y)⟩⟩
noncomputable def Tb.cv(T:Tb)(x:Xn):Value:=.ref (T.ca x.cls)
noncomputable def GA(c:Nat):Option Nat:=if c<100 then none else some (c / 100 - 1)
def j3(C a:Addr):Heap->Prop:=λh=>∃ o,h.get? a=some o/\o.cls=.ref C
def Jy(C:Addr)(c:Option Addr)(a:Addr):Heap->Prop:=λh=>∃ o,h.get? a=some o/\o.cls=.ref C/\∀ b,c=some b->o.dict=some b/\∃ d,o.data=.fields d
def cH(b:Addr)(n:Nat):Heap->Prop:=λh=>∃ o,h.get? b=some o/\∃ a c t,o.data=.dict a c/\StrKeys a/\nsFind a "pot" = some (.int n t)
def XF(K:W.Frag)(H:Hp)(a:Addr)(c:List Int):Prop:=
 (∃ o,H a=some (.vc o (.la (c.map V.int))))\/
  ∃ (o:jd) (b:Array Value) (n:Nat),K.lookup a=some o/\o.cls=.type "list"/\o.dict=none/\o.data=.seq b n/\b.size<=sizeLine/\ue (c.map V.int) b.toList
theorem XF.seq{K:W.Frag}(h:XF K H a b):Mf K H a (b.map V.int):=by
 rcases h with⟨o,h⟩|h
 ·exact .inl (.inr ⟨o,h⟩)
 ·exact .inr h
def QB(K:W.Frag)(a:Addr)(c:List Str):Prop:=∃ (o:jd) (b:Array Value) (n:Nat),K.lookup a=some o/\o.cls=.type "tuple"/\o.data=.seq b n/\b.size<=sizeLine/\ue (c.map V.str) b.toList
mutual
def La(T:Tb)(d:List Addr)(H:Hp):D->V->Prop
 | .wc,v=>v=.wc
 | .bl b,v=>v=.bl b
 | .int i,v=>v=.int i
 | .str x,v=>v=.str x
 | .Ka ds,v=>∃ p f,v=.ref p/\H p=some (.Ka f)/\Db T d H ds f
 | .Fh ns,v=>∃ a,v=.ref a/\XF T.K H a ns
 | .ref n,v=>∃ a,v=.ref a/\d[n]?=some a
 | .la ds,v=>∃ a f,v=.ref a/\a ∉ d/\H a=some (.la f)/\Db T d H ds f
 | .yc ks ds,v=>∃ a e,v=.ref a/\a ∉ d/\Rd H a (.dK e)/\e.map (·.1)=ks/\Db T d H ds (e.map (·.2))
 | .obj c ns ds,v=>∃ a k h,v=.ref a/\a ∉ d/\H a=some (.Jd (T.ca c) k h)/\h.map (·.1)=ns/\Db T d H ds (h.map (·.2))
 | .Dt c,v=>∃ a j,v=.ref a/\a ∉ d/\H a=some (.ext (Jy (T.ca c) j a))/\∀ n,GA c=some n->∃ g,j=some g/\g ∉ d/\H g=some (.ext (cH g n))
 | .gt ss,v=>∃ a,v=.ref a/\QB T.K a ss
def Db(T:Tb)(b:List Addr)(H:Hp):List D->List V->Prop
 |[],a=>a=[]
 |d::ds,a=>∃ v r,a=v::r/\La T b H d v/\Db T b H ds r
end
def Kp(o b:HO):Prop:=b=o\/(∃ d a,o=.dK a/\b=.vc d (.dK a))\/∃ e c,o=.Um e/\b=.Um c
theorem Kp.trans(x:Kp a b)(y:Kp b c):Kp a c:=by
 rcases x with rfl|⟨h,d,rfl,rfl⟩|⟨g,e,rfl,rfl⟩
 ·exact y
 ·rcases y with rfl|⟨_,_,z,_⟩|⟨_,_,z,_⟩
  ·exact .inr (.inl ⟨h,d,rfl,rfl⟩)
  ·cases z
  ·cases z
 ·rcases y with rfl|⟨_,_,z,_⟩|⟨_,f,_,rfl⟩
  ·exact .inr (.inr ⟨g,e,rfl,rfl⟩)
  ·cases z
  ·exact .inr (.inr ⟨g,f,rfl,rfl⟩)
structure ie(μ:List Addr)(H:Hp)(μ':List Addr)(H':Hp):Prop where
 pre:∃ r,μ'=μ++r
 Ka:∀ p xs,H p=some (.Ka xs)->H' p=some (.Ka xs)
 vc:∀ p o u,H p=some (.vc o u)->H' p=some (.vc o u)
 keep:∀ p o,H p=some o->p ∉ μ->(∃ o',H' p=some o'/\Kp o o')/\p ∉ μ'
theorem ie.refl(a:List Addr)(H:Hp):ie a H a H:=⟨⟨[],by simp⟩,λ_ _ h=>h,λ_ _ _ h=>h,λ_ _ h n=>⟨⟨_,h,.inl rfl⟩,n⟩⟩
theorem ie.trans(a:ie g H c e)(b:ie c e d f):ie g H d f:=by
 obtain⟨⟨r,rfl⟩,A,k,s⟩:=a;obtain⟨⟨z,rfl⟩,B,l,t⟩:=b;exact⟨⟨r++z,by simp⟩,λp xs h=>B p xs (A p xs h),λp o u h=>l p o u (k p o u h),λp o h n=>let ⟨⟨x,m,i⟩,v⟩:=s p o h n;let ⟨⟨y,q,j⟩,w⟩:=t p x m v;⟨⟨y,q,i.trans j⟩,w⟩⟩
theorem ie.dj(e:ie i H b f)(p:Addr)(o:HO)(h:H p=some o)(n:p ∉ i)(g:(∀ a,o≠.dK a)/\∀ d,o≠.Um d:=by exact⟨(λ_ z=>by cases z),(λ_ z=>by cases z)⟩):f p=some o/\p ∉ b:=by
 obtain⟨⟨l,j,c⟩,k⟩:=e.keep p o h n;rcases c with rfl|⟨_,a,z,_⟩|⟨d,_,z,_⟩
 ·exact⟨j,k⟩
 ·exact absurd z (g.1 a)
 ·exact absurd z (g.2 d)
theorem ie.rd(e:ie k H b f)(p:Addr)(a:List (ud × V))(h:Rd H p (.dK a))(n:p ∉ k):Rd f p (.dK a)/\p ∉ b:=by
 rcases h with h|⟨d,h⟩
 ·obtain⟨⟨l,g,c⟩,j⟩:=e.keep p _ h n;rcases c with rfl|⟨d,i,z,rfl⟩|⟨_,_,z,_⟩
  ·exact⟨.inl g,j⟩
  ·cases z;exact⟨.inr ⟨d,g⟩,j⟩
  ·cases z
 ·exact⟨.inr ⟨d,e.vc _ _ _ h⟩,(e.keep p _ h n).2⟩
theorem ie.get(e:ie c H b d){n:Nat}(h:c[n]?=some a):b[n]?=some a:=by
 obtain⟨⟨r,rfl⟩,_,_⟩:=e;rw[Hb (ja.mp h).1];exact h
mutual
theorem La.mono{T:Tb}{w m:List Addr}{H s:Hp}(e:ie w H m s):∀ (d:D) (v:V),La T w H d v->La T m s d v
 | .wc,v,h=>by simpa [La]using h
 | .bl b,v,h=>by simpa [La]using h
 | .int i,v,h=>by simpa [La]using h
 | .str x,v,h=>by simpa [La]using h
 | .Ka ds,v,h=>by
  rw[La]at h ⊢;obtain⟨p,k,g,f,j⟩:=h;exact⟨p,k,g,e.Ka _ _ f,Db.mono e ds k j⟩
 | .Fh ns,v,h=>by
  rw[La]at h ⊢;obtain⟨a,g,f⟩:=h;refine⟨a,g,?_⟩;rcases f with⟨o,f⟩|f
  ·exact .inl ⟨o,e.vc _ _ _ f⟩
  ·exact .inr f
 | .ref n,v,h=>by
  rw[La]at h ⊢;obtain⟨a,g,f⟩:=h;exact⟨a,g,e.get f⟩
 | .la ds,v,h=>by
  rw[La]at h ⊢;obtain⟨a,k,g,f,j,l⟩:=h;exact⟨a,k,g,(e.dj _ _ j f).2,(e.dj _ _ j f).1,Db.mono e ds k l⟩
 | .yc ks ds,v,h=>by
  rw[La]at h ⊢;obtain⟨a,k,g,f,j,r,l⟩:=h;exact⟨a,k,g,(e.rd _ _ j f).2,(e.rd _ _ j f).1,r,Db.mono e ds _ l⟩
 | .obj c ns ds,v,h=>by
  rw[La]at h ⊢;obtain⟨a,A,k,g,f,j,r,l⟩:=h;exact⟨a,A,k,g,(e.dj _ _ j f).2,(e.dj _ _ j f).1,r,Db.mono e ds _ l⟩
 | .Dt c,v,h=>by
  rw[La]at h ⊢;obtain⟨a,z,g,f,j,l⟩:=h;exact⟨a,z,g,(e.dj _ _ j f).2,(e.dj _ _ j f).1,λn q=>let ⟨y,B,t,u⟩:=l n q;⟨y,B,(e.dj _ _ u t).2,(e.dj _ _ u t).1⟩⟩
 | .gt ss,v,h=>by rw[La]at h ⊢;exact h
theorem Db.mono{T:Tb}{g a:List Addr}{H f:Hp}(e:ie g H a f):∀ (b:List D) (c:List V),Db T g H b c->Db T a f b c
 |[],c,h=>by simpa [Db]using h
 |d::b,c,h=>by
  rw[Db]at h ⊢;obtain⟨v,r,i,j,k⟩:=h;exact⟨v,r,i,La.mono e d v j,Db.mono e b r k⟩
end
theorem Db.nil:Db T a H [] []:=by rw[Db]
theorem Db.cons{T:Tb}{b:List Addr}{H:Hp}{d:D}{v:V}{c:List D}{a:List V}(e:La T b H d v)(f:Db T b H c a):Db T b H (d::c) (v::a):=by
 rw[Db];exact⟨v,a,rfl,e,f⟩
theorem Db.length:∀ {b:List D} {a:List V},Db T e H b a->b.length=a.length
 |[],a,h=>by rw[Db]at h;subst h;rfl
 |d::b,a,h=>by
  obtain⟨v,r,rfl,_,c⟩:=h;simp[Db.length c]
theorem Db.get:∀ {b:List D} {a:List V} {i:Nat} {d:D},Db T g H b a->b[i]?=some d->∃ v,a[i]?=some v/\La T g H d v
 |[],a,i,d,h,e=>by simp at e
 |d::b,a,0,x,h,e=>by
  obtain⟨v,r,rfl,c,f⟩:=h;simp at e;subst e;exact⟨v,rfl,c⟩
 |d::b,a,i+1,x,h,e=>by
  obtain⟨v,r,rfl,c,f⟩:=h;simpa using Db.get f (by simpa using e)
theorem Db.append:∀ {e a:List D} {c b:List V},Db T g H e c->Db T g H a b->Db T g H (e++a) (c++b)
 |[],a,c,b,h,f=>by rw[Db]at h;subst h;simpa using f
 |d::e,a,c,b,h,f=>by
  obtain⟨v,r,rfl,i,j⟩:=h;exact Db.cons i (Db.append j f)
theorem Db.set(g:La T e H d v):∀ {b:List D} {a:List V} (i:Nat),Db T e H b a->Db T e H (b.set i d) (a.set i v)
 |[],a,i,h=>by rw[Db]at h;subst h;simpa using Db.nil
 |x::b,a,0,h=>by
  obtain⟨w,r,rfl,f,c⟩:=h;exact Db.cons g c
 |x::b,a,i+1,h=>by
  obtain⟨w,r,rfl,f,c⟩:=h;exact Db.cons f (Db.set g i c)
theorem Db.drop:∀ {b:List D} {a:List V} (n:Nat),Db T c H b a->Db T c H (b.drop n) (a.drop n)
 |b,a,0,h=>by simpa using h
 |[],a,n+1,h=>by rw[Db]at h;subst h;simpa using Db.nil
 |x::b,a,n+1,h=>by
  obtain⟨w,r,rfl,e,d⟩:=h;simpa using Db.drop n d
theorem Db.take:∀ {b:List D} {a:List V} (n:Nat),Db T c H b a->Db T c H (b.take n) (a.take n)
 |b,a,0,h=>by simpa using Db.nil
 |[],a,n+1,h=>by rw[Db]at h;subst h;simpa using Db.nil
 |x::b,a,n+1,h=>by
  obtain⟨w,r,rfl,d,e⟩:=h;exact Db.cons d (Db.take n e)
def Vt(T:Tb)(a:List Addr)(H:Hp):List (Str × D)->List (Str × V)->Prop:=Paired λp q=>p.1=q.1/\La T a H p.2 q.2
def Dl(T:Tb)(a:List Addr)(H:Hp):List (ud × D)->List (ud × V)->Prop:=Paired λp q=>p.1=q.1/\La T a H p.2 q.2
def fq(T:Tb)(e:List Addr)(H:Hp)(a:Addr):Ob->Prop
 | .la ds=>∃ b,H a=some (.la b)/\Db T e H ds b
 | .yc d=>∃ b,H a=some (.dK b)/\Dl T e H d b
 | .Jd c g=>∃ f b,H a=some (.Jd (T.ca c) f b)/\Vt T e H g b
 | .Sf d=>∃ h b,H a=some (.vc h (.dK b))/\Dl T e H d b
 | .vl ks=>∃ b,H a=some (.dT b)/\b.map (·.1)=ks
structure Sd(T:Tb)(μ:List Addr)(H:Hp)(σ:Ta):Prop where
 len:μ.length=σ.length
 nd:μ.Nodup
 obs:∀ (n:Nat) (o:Ob),σ[n]?=some o->∃ a,μ[n]?=some a/\fq T μ H a o
 tb:Bt T μ H
def Th(T:Tb)(b:List Addr)(H:Hp)(a:Ev)(st:St):Prop:=a.length=st.length/\∀ (i:Nat) (d:D),a[i]?=some (some d)->∃ v,st[i]?=some (some v)/\La T b H d v
theorem Th.mono{st:St}(e:ie c H a b)(h:Th T c H f st):Th T a b f st:=
 ⟨h.1,λi d q=>let ⟨v,g,j⟩:=h.2 i d q;⟨v,g,La.mono e d v j⟩⟩
theorem Th.set{st:St}(h:Th T b H c st)(i:Nat)(r:La T b H d v):Th T b H (c.set i (some d)) (st.set i (some v)):=by
 refine⟨by simpa using h.1,λj x q=>?_⟩;rw[Wc]at q;by_cases a:i=j
 ·subst a;rw[ia rfl]at q;split at q
  ·rename_i g
   cases q;exact⟨v,by rw[Wc,ia rfl,ia (by rw[<-h.1];exact g)],r⟩
  ·cases q
 ·rw[ka a]at q;obtain⟨w,e,f⟩:=h.2 j x q;exact⟨w,by rw[Wc,ka a];exact e,f⟩
def jY(e:Addr)(b d:Value)(h:Heap):Prop:=∃ c a,h.get? e=some c/\c.cls=b/\c.data=.fields a/\1<a.size/\a[0]?=some d/\a[1]?=some .none
def ir(B:Heap)(l:List qh)(e:Addr)(a b:Value)(h:Heap):Prop:=B.StaysIn h/\B.get? e=none/\h.FunFrames B l/\((∃ c,h.TracedAtW B e a b c)\/jY e a b h)
def Q5(o:jd)(n:Nat):Prop:=∃ a b t,o.data=.dict a b/\StrKeys a/\nsFind a "pot" = some (.int n t)
def pD(d:Option Nat)(e:Addr)(B h f:Heap)(c:Hp):Prop:=∀ n,d=some n->∃ a oD b,h.get? e=some b/\b.dict=some a/\B.get? a=some oD/\Q5 oD n/\c a=none/\f.get? a=none
structure Zy(P:Aa)(w:Wa)(outer:List qh)(H:Hp)(s:aa)(cls:Value)(fd:Option Nat)(H':Hp)(e:Value)(s':aa):Prop where
 ex:∃ (ea:Addr) (a0:Value) (B:Heap),e=.ref ea/\ir B outer ea cls a0 s'.heap/\H' ea=none/\s.heap.get? ea=none/\
  (∀ b o,H' b=some o->∃ ob,B.get? b=some ob)/\(∀ b o,s.heap.get? b=some o->H b=none->b ∉ gk outer->B.get? b=some o)/\(∀ b o,s.heap.get? b=some o->b ∉ gk outer->∃ o',B.get? b=some o')/\pD fd ea B s'.heap s.heap H'
 os:s'.os=s.os
 bare:Ii s'.gens
 un:Un (gk outer) [] H H' s.heap s'.heap
 zd:lj P w H' s'.heap
noncomputable def Il(P:Aa)(w:Wa):fv:=λa H s E e f=>∃ b d c,Zy P w a H s b d c e f/\E b d c
structure UB(X:Cx)(st:St)(cls:Value)(fd:Option Nat)(H':Hp):Prop where
 bI:∀ (pins:List (Addr × jd)) (H:Hp) (s:aa) (e:Value) (s':aa),Za X pins st H s->Zy X.prog X.w X.stack H s cls fd H' e s'->X.xe e s'
noncomputable abbrev XE(X:Cx)(st:St):XK:=λa c b=>UB X st a c b
def gc{d e:Type}(T:Tb)(E:XK)(R:List Addr->Hp->d->e->Prop)(f:List Addr)(H:Hp)(o:Hl d)(Q:e->Hp->Prop):Prop:=match o with
 | .ok a σ=>∀ b g c,ie f H b c->Sd T b c σ->R b c a g->Q g c
 | .ex x σ=>∀ b c,ie f H b c->Sd T b c σ->E (T.cv x) (GA x.cls) c
 | .Pb=>False
theorem gc.mono{R:List Addr->Hp->j->k->Prop}{o:Hl j}{Q:k->Hp->Prop}(e:ie l H c i)(h:gc T E R l H o Q):gc T E R c i o Q:=by
 cases o with
 |ok a σ=>exact λb g d f r q=>h b g d (e.trans f) r q
 |ex x σ=>exact λb d f r=>h b d (e.trans f) r
 |Pb=>exact h
theorem gc.imp{R:List Addr->Hp->e->f->Prop}{o:Hl e}{Q d:f->Hp->Prop}(h:gc T E R i H o Q)(k:∀ g b,Q g b->d g b):gc T E R i H o d:=by
 cases o with
 |ok a σ=>exact λc g b j r q=>k _ _ (h c g b j r q)
 |ex x σ=>exact h
 |Pb=>exact h
theorem gc.bind{R:List Addr->Hp->j->u->Prop}{p:List Addr->Hp->t->v->Prop}{m:M j}{k:j->M t}{Q:v->Hp->Prop}{o:u->Hp->Prop}
  (h:gc T E p l H (Fd m k i) Q) (f:∀ a b c g d,m i=.ok a b->ie l H c d->Sd T c d b->R c d a g->gc T E p c d (k a b) Q->o g d):gc T E R l H (m i) o:=by
 unfold Fd at h;cases e:m i with
 |ok a b=>
  rw[e]at h;exact λn g w s r q=>f a b n g w e s r q (h.mono s)
 |ex x b=>rw[e]at h;exact h
 |Pb=>rw[e]at h;exact h
theorem gc.here{R:List Addr->Hp->c->b->Prop}{d:c}{g:b}{Q:b->Hp->Prop}(h:gc T E R a H (.ok d e) Q)(r:Sd T a H e)(p:R a H d g):Q g H:=h a g H (ie.refl _ _) r p
section
variable(T:Tb)(X:Cx)
def tF(f:Ev->M D):TE:=λst H Q=>∃ a b c,Th T a H b st/\Sd T a H c/\gc T (XE X st) (La T) a H (f b c) Q
def tK:List Addr->Hp->Bool->Bool->Prop:=λ_ _ a b=>b=a
def tT(f:Ev->M Bool):TT:=λst H Q=>∃ a b c,Th T a H b st/\Sd T a H c/\gc T (XE X st) tK a H (f b c) Q
def tL(f:Ev->M (List D)):TA:=λst H Q=>∃ a b c,Th T a H b st/\Sd T a H c/\gc T (XE X st) (Db T) a H (f b c) Q
inductive zr where
 |nx (st:St)|rt (v:V)|bk (st:St)|ct (st:St)|xc (st:St) (cls:Value) (fd:Option Nat)
def wm(T:Tb)(a:List Addr)(H:Hp):Fl->zr->Prop
 | .nx ρ,.nx st=>Th T a H ρ st
 | .rt d,.rt v=>La T a H d v
 | .bk ρ,.bk st=>Th T a H ρ st
 | .ct ρ,.ct st=>Th T a H ρ st
 | .xc ρ x,.xc st cls fd=>Th T a H ρ st/\cls=T.cv x/\fd=GA x.cls
 |_,_=>False
def Tl(X:Cx)(D:Wk):zr->Hp->Prop
 | .nx st,H=>D.nx st H
 | .rt v,H=>D.rt v H
 | .bk st,H=>D.bk st H
 | .ct st,H=>D.ct st H
 | .xc st cls fd,H=>UB X st cls fd H
noncomputable abbrev EN:XK:=λ_ _ _=>False
def tS(g:Ev->M Fl):TS:=λD st H=>∃ a b c,Th T a H b st/\Sd T a H c/\gc T EN (wm T) a H (g b c) (Tl X D)
end
def xs{c:Type}(d:Ev)(m:M c)(k:c->M Fl):M Fl:=λe=>match m e with
 | .ok a b=>k a b
 | .ex x b=>.ok (.xc d x) b
 | .Pb=>.Pb
theorem gc.xs{D:Wk}{R:List Addr->Hp->p->t->Prop}{st:St}{m:M p}{k:p->M Fl}{s:t->Hp->Prop}(v:Th T l H u st)
  (h:gc T EN (wm T) l H (L4.xs u m k n) (Tl X D)) (f:∀ a b c g i,m n=.ok a b->ie l H c i->Sd T c i b->R c i a g->gc T EN (wm T) c i (k a b) (Tl X D)->s g i):gc T (XE X st) R l H (m n) s:=by
 unfold L4.xs at h;cases e:m n with
 |ok a b=>
  rw[e]at h;exact λd g o j r q=>f a b d g o e j r q (h.mono j)
 |ex x b=>
  rw[e]at h;intro d o j r;exact h d (.xc st (T.cv x) (GA x.cls)) o j r ⟨v.mono j,rfl,rfl⟩
 |Pb=>rw[e]at h;exact h
abbrev FE(T:Tb)(X:Cx)(e:Ma)(f:Ev->M D):Prop:=PE X e (tF T X f)
abbrev FT(T:Tb)(X:Cx)(e:Ma)(f:Ev->M Bool):Prop:=PT X e (tT T X f)
abbrev FW(T:Tb)(X:Cx)(e:Ma)(f:Ev->M Bool):Prop:=PW X e (tT T X f)
abbrev FA(T:Tb)(X:Cx)(a:List Ma)(f:Ev->M (List D)):Prop:=PA X a (tL T X f)
abbrev FS(T:Tb)(X:Cx)(st:Stmt)(g:Ev->M Fl):Prop:=PS X st (tS T X g)
abbrev Pl(T:Tb)(X:Cx)(st:List Stmt)(g:Ev->M Fl):Prop:=Fs X st (tS T X g)
end L4
namespace L4
open PySem PySem.Spec PyProof.Rows L2
noncomputable def ai:Nat:=1000
theorem Dy(h:n<=ai):n<=sizeLine:=og (SW h)
theorem EW(h:n<ai):n<sizeLine:=SW (og h)
theorem qN{l:List g}(h:l.Nodup){i j:Nat}{a:g}(k:l[i]?=some a)(m:l[j]?=some a):i=j:=by
 obtain⟨c,d⟩:=ja.mp k;obtain⟨e,f⟩:=ja.mp m;have b:=List.pairwise_iff_getElem.mp h;rcases Nat.lt_trichotomy i j with z|z|z
 ·exact absurd (d.trans f.symm) (b i j c e z)
 ·exact z
 ·exact absurd (f.trans d.symm) (b j i e c z)
section
variable{T:Tb}{μ μ':List Addr}{H H':Hp}{σ:Ta}
theorem EJ(e:ie μ H μ' H'){xs:List (a × D)}{b:List (a × V)}(h:Paired (λ(p:a × D) (q:a × V)=>p.1=q.1/\La T μ H p.2 q.2) xs b) :
  Paired (λ(p:a × D) (q:a × V)=>p.1=q.1/\La T μ' H' p.2 q.2) xs b:=L2.Paired.Hr h λp q z=>⟨z.1,La.mono e _ _ z.2⟩
theorem fq.mono(e:ie μ H μ' H')(d:H' a=H a):∀ {o:Ob},fq T μ H a o->fq T μ' H' a o
 | .la ds,⟨b,h,r⟩=>⟨b,d.trans h,Db.mono e _ _ r⟩
 | .yc f,⟨b,h,r⟩=>⟨b,d.trans h,EJ e r⟩
 | .Jd c j,⟨g,b,h,r⟩=>⟨g,b,d.trans h,EJ e r⟩
 | .Sf f,⟨i,b,h,r⟩=>⟨i,b,d.trans h,EJ e r⟩
 | .vl ks,⟨b,h,r⟩=>⟨b,d.trans h,r⟩
theorem fq.some:∀ {o:Ob},fq T μ H a o->∃ u,H a=Option.some u/\(∀ xs,u≠.Ka xs)
 | .la ds,⟨b,h,r⟩=>⟨_,h,(λ_ z=>by cases z)⟩
 | .yc d,⟨b,h,r⟩=>⟨_,h,(λ_ z=>by cases z)⟩
 | .Jd c f,⟨e,b,h,r⟩=>⟨_,h,(λ_ z=>by cases z)⟩
 | .Sf d,⟨g,b,h,r⟩=>⟨_,h,(λ_ z=>by cases z)⟩
 | .vl ks,⟨b,h,r⟩=>⟨_,h,(λ_ z=>by cases z)⟩
theorem fq.HD:∀ {o:Ob},(∀ b,o≠.Sf b)->fq T μ H a o->∃ u,H a=Option.some u/\(∀ xs,u≠.Ka xs)/\(∀ e w,u≠.vc e w)
 | .la ds,_,⟨d,h,r⟩=>⟨_,h,(λ_ z=>by cases z),(λ_ _ z=>by cases z)⟩
 | .yc b,_,⟨d,h,r⟩=>⟨_,h,(λ_ z=>by cases z),(λ_ _ z=>by cases z)⟩
 | .Jd c g,_,⟨f,d,h,r⟩=>⟨_,h,(λ_ z=>by cases z),(λ_ _ z=>by cases z)⟩
 | .Sf b,n,_=>absurd rfl (n b)
 | .vl ks,_,⟨d,h,r⟩=>⟨_,h,(λ_ z=>by cases z),(λ_ _ z=>by cases z)⟩
theorem Sd.keep(r:Sd T μ H σ)(e:ie μ H μ H')(k:∀ a∈μ,H' a=H a)(t:Bt T μ H'):Sd T μ H' σ:=
 ⟨r.len,r.nd,λn o h=>let ⟨a,b,c⟩:=r.obs n o h;⟨a,b,c.mono e (k a (Fa b))⟩,t⟩
theorem Sd.mem(r:Sd T μ H σ)(h:a∈μ):∃ u,H a=some u/\(∀ xs,u≠.Ka xs):=by
 obtain⟨n,c⟩:=Pt h;have f:n<σ.length:=by rw[<-r.len];exact(ja.mp c).1
 obtain⟨e,b,d⟩:=r.obs n σ[n] (by simp);rw[c]at b;cases b;exact d.some
theorem Wl(a:H p=none):ie μ H μ (pc H p o):=
 ⟨⟨[],by simp⟩,λq xs h=>by rw[de (kq h a)];exact h,λq b u h=>by rw[de (kq h a)];exact h,λq b h n=>⟨⟨b,by rw[de (kq h a)];exact h,.inl rfl⟩,n⟩⟩
theorem Sd.fresh(r:Sd T μ H σ)(c:H p=none):Sd T μ (pc H p o) σ:=
 r.keep (Wl c) (λa d=>by obtain⟨u,h,_⟩:=r.mem d;rw[de (kq h c)]) (r.tb.grow λb u h=>by rw[de (kq h c)];exact h)
theorem Zw(a:H p=none):ie μ H (μ++[p]) (pc H p o):=
 ⟨⟨[p],rfl⟩,(Wl (μ:=μ) a).Ka,(Wl (μ:=μ) a).vc,λq b h n=>⟨((Wl a).keep q b h n).1,λz=>(Kf.mp z).elim n λz=>kq h a (by simpa using z)⟩⟩
theorem Sd.push(r:Sd T μ H σ)(c:H p=none)(q:fq T (μ++[p]) (pc H p o) p ob):Sd T (μ++[p]) (pc H p o) (σ++[ob]):=by
 refine⟨by simp[r.len],?_,λn x h=>?_,(r.tb.more c).grow λb u h=>by rw[de (kq h c)];exact h⟩
 ·rw[We];refine⟨r.nd,by simp,λa l b m e=>?_⟩;have i:b=p:=by simpa using m
  subst i;subst e;obtain⟨u,h,_⟩:=r.mem l;rw[c]at h;cases h
 ·by_cases f:n<σ.length
  ·rw[Hb f]at h;obtain⟨a,k,d⟩:=r.obs n x h;obtain⟨u,s,_⟩:=d.some;exact⟨a,by rw[Hb (by rw[r.len];exact f)];exact k,d.mono (Zw c) (de (kq s c))⟩
  ·rw[Ld (by omega)]at h;have g:n - σ.length=0:=by
    have:=(ja.mp h).1;simp at this;omega
   rw[g]at h;simp at h;subst h;have j:n=μ.length:=by rw[r.len];omega
   subst j;exact⟨p,by simp,q⟩
theorem vE(r:Sd T μ H σ):La T (μ++[p]) (pc H p o) (.ref σ.length) (.ref p):=by
 rw[La];exact⟨p,rfl,by rw[<-r.len];simp⟩
theorem Nv(f:a∈μ)(c:H a=some u)(d:∀ xs,u≠.Ka xs)(e:∀ b w,u≠.vc b w):ie μ H μ (pc H a o):=
 ⟨⟨[],by simp⟩,λq xs h=>by rw[de (HN h c (λz=>d xs z.symm))];exact h,λq b w h=>by rw[de (HN h c (λz=>e b w z.symm))];exact h,λq b h n=>⟨⟨b,by rw[de (λz=>n (by rw[z];exact f))];exact h,.inl rfl⟩,n⟩⟩
theorem Sd.write(r:Sd T μ H σ)(d:μ[n]?=some a)(q:fq T μ (pc H a o) a ob)(t:∀ c,σ[n]?≠some (.Sf c):=by intro c z;simp_all [bi]):ie μ H μ (pc H a o)/\Sd T μ (pc H a o) (σ.set n ob):=by
 obtain⟨u,s,f,g⟩:∃ u,H a=some u/\(∀ xs,u≠.Ka xs)/\(∀ ob w,u≠.vc ob w):=by
  have p:n<σ.length:=by rw[<-r.len];exact(ja.mp d).1
  obtain⟨v,f,g⟩:=r.obs n σ[n] (by simp);rw[d]at f;cases f;exact g.HD λc z=>t c (by rw[Ub p,z])
 have e:ie μ H μ (pc H a o):=Nv (Fa d) s f g;refine⟨e,by simp[r.len],r.nd,λm x h=>?_,r.tb.out (λb l=>de l) (.inl (Fa d))⟩;rw[Wc]at h;by_cases i:n=m
 ·subst i;rw[ia rfl]at h;split at h
  ·cases h;exact⟨a,d,q⟩
  ·cases h
 ·rw[ka i]at h;obtain⟨b,j,k⟩:=r.obs m x h;refine⟨b,j,k.mono e (de λz=>i ?_)⟩;subst z;exact qN r.nd d j
theorem Sd.at(r:Sd T μ H σ){n:Nat}{v:V}{o:Ob}(h:La T μ H (.ref n) v)(e:σ[n]?=some o):∃ a,v=.ref a/\μ[n]?=some a/\fq T μ H a o:=by
 obtain⟨a,rfl,c⟩:=h;obtain⟨f,b,d⟩:=r.obs n o e;rw[c]at b;cases b;exact⟨a,rfl,c,d⟩
end
noncomputable def ba(i:Nat):Ev->M D:=λρ σ=>match ρ[i]? with
 |some (some d)=>.ok d σ
 |_=>.Pb
noncomputable def eC(d:D):Ev->M D:=λ_=>ret d
noncomputable def bL(o:D->D->M D)(m:M D)(x:D):M D:=Fd m (o x)
def Ba(o:D->D->M D)(a b:Ev->M D):Ev->M D:=λc=>Fd (a c) (bL o (b c))
def Cd(o:D->M D)(a:Ev->M D):Ev->M D:=λb=>Fd (a b) o
noncomputable def eB(d:D):M Bool:=match d with
 | .bl b=>ret b
 |_=>Pb
def ql{a:Type}(p q:M a)(c:Bool):M a:=if c=true then p else q
noncomputable def NM(c:Bool):M Bool:=ret (!c)
def zy{a:Type}(k:Bool->M a)(d:D):M a:=Fd (eB d) k
def eT(f:Ev->M D):Ev->M Bool:=λa=>Fd (f a) eB
def Jv(a b:Ev->M Bool):Ev->M Bool:=λc=>Fd (a c) (ql (b c) (ret false))
def Go(a b:Ev->M Bool):Ev->M Bool:=λc=>Fd (a c) (ql (ret true) (b c))
def il(a:Ev->M Bool):Ev->M Bool:=λb=>Fd (a b) NM
def kj(a b:Ev->M D):Ev->M D:=λc=>Fd (a c) (zy (ql (b c) (ret (.bl false))))
def gN(a b:Ev->M D):Ev->M D:=λc=>Fd (a c) (zy (ql (ret (.bl true)) (b c)))
noncomputable def pN(c:Bool):M D:=ret (.bl (!c))
def jJ(a:Ev->M D):Ev->M D:=λb=>Fd (a b) (zy pN)
def Gx(t:Ev->M Bool)(a b:Ev->M D):Ev->M D:=λc=>Fd (t c) (ql (a c) (b c))
def Ja:Ev->M (List D):=λ_=>ret []
noncomputable def RJ(x:D)(xs:List D):M (List D):=ret (x::xs)
def OK(m:M (List D))(x:D):M (List D):=Fd m (RJ x)
def ra(e:Ev->M D)(r:Ev->M (List D)):Ev->M (List D):=λa=>Fd (e a) (OK (r a))
def Bw(a:List D):M D:=if a.length<=ai then ret (.Ka a)else Pb
def gg(a:Ev->M (List D)):Ev->M D:=λb=>Fd (a b) Bw
def FB(b:List D):M D:=λa=>.ok (.ref a.length) (a++[.la b])
def QH(a:List D):M D:=if a.length<=ai then FB a else Pb
def Xu(a:Ev->M (List D)):Ev->M D:=λb=>Fd (a b) QH
def Iy(a:List D):M D:=if a.length<=ai then ret (.la a)else Pb
def ci(a:Ev->M (List D)):Ev->M D:=λb=>Fd (a b) Iy
def Jl(T:Tb)(r:R2)(o:D->D->M D):Prop:=∀ (E:XK) a H b x y v u Q,Sd T a H b->La T a H x v->La T a H y u->gc T E (La T) a H (o x y b) Q->r v u H Q
def wP(T:Tb)(r:V->Hp->VK->Prop)(o:D->M D):Prop:=∀ (E:XK) a H b x v Q,Sd T a H b->La T a H x v->gc T E (La T) a H (o x b) Q->r v H Q
def dr(T:Tb)(r:List V->Hp->VK->Prop)(o:List D->M D):Prop:=∀ (E:XK) a H c xs b Q,Sd T a H c->Db T a H xs b->gc T E (La T) a H (o xs c) Q->r b H Q
section
variable{T:Tb}{X:Cx}{a b c:Ma}{fa fb:Ev->M D}{ta tb:Ev->M Bool}{pos:Ce}
theorem ga(i:Nat)(j:X.N[i]?=some x:=by rfl)(n:VH X.env.scope x:=by first|exact Or.inl rfl|exact Or.inr (Or.inl rfl)|exact Or.inr (Or.inr rfl))(k:(x == ("__debug__" : Str))=false:=by decide)
  (c:(x == ("__classdict__" : Str))=false:=by decide):FE T X (.Name x pos) (ba i):=by
 intro b s st H Q I h;obtain⟨q,p,r,l,m,a⟩:=h;refine ô j n k c b s st H Q I ?_;unfold ba at a;cases e:p[i]? with
 |none=>rw[e]at a;exact a.elim
 |some o=>
  cases o with
  |none=>rw[e]at a;exact a.elim
  |some d=>
   rw[e]at a;obtain⟨v,f,g⟩:=l.2 i d e;exact⟨v,f,a.here m g⟩
theorem mB(h:PE X e (tC v))(r:∀ b H,La T b H d v):FE T X e (eC d):=by
 intro a s st H Q I f;obtain⟨b,j,k,i,g,c⟩:=f;exact h a s st H Q I (gc.here c g (r _ _))
theorem Xa{j}:FE T X (.Constant (.int i) j pos) (eC (.int i)):=mB yni λ_ _=>by rw[La]
theorem Up{j}:FE T X (.Constant (.bool i) j pos) (eC (.bl i)):=mB N8 λ_ _=>by rw[La]
theorem Ms{j}:FE T X (.Constant .none j pos) (eC .wc):=mB ynk λ_ _=>by rw[La]
theorem kf{j}:FE T X (.Constant (.str i) j pos) (eC (.str i)):=mB B1 λ_ _=>by rw[La]
theorem Dx(b:Gl X x)(c:X.mg x=some u)(r:Pd (.int i) u)(a:(x == ("__debug__" : Str))=false:=by decide):FE T X (.Name x pos) (eC (.int i)):=mB (zL b c r a) λ_ _=>by rw[La]
theorem two(l:Jl T r o){st:St}(h:tF T X (Ba o fa fb) st H Q):GB r (tF T X fa) (tF T X fb) st H Q:=by
 obtain⟨w,ρ,σ,e,k,j⟩:=h;exact⟨w,ρ,σ,e,k,j.bind λx c a v z _ g s m p=>⟨a,ρ,c,e.mono g,s,p.bind λy d b u f _ i t n q=>l _ b f d x y v u Q t (La.mono i _ _ m) n q⟩⟩
theorem Hj(g:di X (Be d) r)(i:Jl T r o)(e:FE T X a fa)(f:FE T X b fb):FE T X (.BinOp a d b pos) (Ba o fa fb):=
 λc s st H Q I h=>yuz g e f c s st H Q I (two i h)
theorem Mu(i:di X (Sb d) r)(j:Jl T r o)(e:FE T X a fa)(f:FE T X b fb)(g:Ge d b=false):FE T X (.Compare a [d] [b] pos) (Ba o fa fb):=
 λc s st H Q I h=>ydy i e f g c s st H Q I (two j h)
theorem U8(f:yx X r)(i:Jl T r o)(d:FE T X a fa)(e:FE T X b fb)(g:OJ b):FE T X (.Subscript a b pos) (Ba o fa fb):=
 λc s st H Q I h=>uY f d e g c s st H Q I (two i h)
theorem yR(j:VF X (unaryOp e) r)(m:wP T r o)(g:FE T X a fa):FE T X (.UnaryOp e a pos) (Cd o fa):=by
 intro b s st H Q I h;refine TX j g b s st H Q I ?_;obtain⟨t,ρ,σ,i,l,k⟩:=h;exact⟨t,ρ,σ,i,l,k.bind λx d c v f _ u q n p=>m _ c f d x v Q q n p⟩
theorem GH{a:List Addr}{b:List Addr->Hp->e->f->Prop}{k:Bool->M e}{Q:f->Hp->Prop}(r:La T a H d v)(h:gc T E b a H (Fd (eB d) k σ) Q):∃ c,d=.bl c/\v=.bl c/\gc T E b a H (k c σ) Q:=by
 cases d with
 |bl c=>rw[La]at r;exact⟨c,rfl,r,h⟩
 |_=>exact h.elim
theorem eM{a:List Addr}(r:La T a H d v)(h:gc T E tK a H (eB d σ) Q):∃ c,v=.bl c/\gc T E tK a H (.ok c σ) Q:=by
 cases d with
 |bl c=>rw[La]at r;exact⟨c,r,h⟩
 |_=>exact h.elim
theorem rf(m:di X (Sb e) r)(t:Jl T r o)(g:FE T X a fa)(i:FE T X b fb)(l:Ge e b=false):FT T X (.Compare a [e] [b] pos) (eT (Ba o fa fb)):=by
 intro c s st H Q I h;refine HJ m g i l c s st H Q I ?_;refine two t ?_;obtain⟨y,ρ,σ,j,p,n⟩:=h;refine⟨y,ρ,σ,j,p,n.bind λd A z v B _ C x u w=>?_⟩;obtain⟨k,f,q⟩:=eM u w;exact⟨k,f,q.here x rfl⟩
theorem zj(h:FE T X e f)(i:∀ a,yA e X.env a=(do let v <-a;Dk e.pos;Jg [v] (truthy v)):=by intro _;rfl):FT T X e (eT f):=by
 intro b s st H Q I m;refine PY h i b s st H Q I ?_;obtain⟨r,ρ,σ,g,l,j⟩:=m;refine⟨r,ρ,σ,g,l,j.bind λd u t v w _ x p n o=>?_⟩;obtain⟨k,c,q⟩:=eM n o;exact⟨k,c,q.here p rfl⟩
theorem Yl(h:FT T X a ta):FT T X (.UnaryOp .Not a pos) (il ta):=by
 intro b s st H Q I g;refine o1 h b s st H Q I ?_;obtain⟨l,ρ,σ,d,f,e⟩:=g;exact⟨l,ρ,σ,d,f,e.bind λc n m v o _ p k i j=>by cases i;exact j.here k rfl⟩
variable{rest:List Ma}
theorem qy(h:FT T X a ta):FW T X (.BoolOp .And [a] pos) ta:=ď h
theorem Er(h:FT T X a ta):FW T X (.BoolOp .Or [a] pos) ta:=z9 h
theorem Uw(h:FT T X a ta)(l:FW T X (.BoolOp .And (b::rest) pos) tb):FW T X (.BoolOp .And (a::b::rest) pos) (Jv ta tb):=by
 intro q e s st H Q I o;refine ċ h l q e s st H Q I ?_;obtain⟨r,ρ,σ,i,n,m⟩:=o;refine⟨r,ρ,σ,i,n,m.bind λc g f v t _ k j p d=>?_⟩;cases p;cases c with
 |true=>unfold ql at d;rw[ia rfl]at d ⊢;exact⟨f,ρ,g,i.mono k,j,d⟩
 |false=>unfold ql at d;rw[ka ub]at d ⊢;exact d.here j rfl
theorem Np(h:FT T X a ta)(l:FW T X (.BoolOp .Or (b::rest) pos) tb):FW T X (.BoolOp .Or (a::b::rest) pos) (Go ta tb):=by
 intro q e s st H Q I o;refine XZ h l q e s st H Q I ?_;obtain⟨r,ρ,σ,i,n,m⟩:=o;refine⟨r,ρ,σ,i,n,m.bind λc g f v t _ k j p d=>?_⟩;cases p;cases c with
 |true=>unfold ql at d;rw[ia rfl]at d ⊢;exact d.here j rfl
 |false=>unfold ql at d;rw[ka ub]at d ⊢;exact⟨f,ρ,g,i.mono k,j,d⟩
theorem Kn{op}(h:FE T X a fa):FE T X (.BoolOp op [a] pos) fa:=Ŋ h
theorem xj(h:FE T X a fa)(m:FE T X (.BoolOp .And (b::rest) pos) fb):FE T X (.BoolOp .And (a::b::rest) pos) (kj fa fb):=by
 intro e s st H Q I p;refine C3 h m e s st H Q I ?_;obtain⟨u,ρ,σ,i,o,n⟩:=p;refine⟨u,ρ,σ,i,o,n.bind λd g f v w _ k j r t=>?_⟩;obtain⟨c,rfl,l,q⟩:=GH r t;refine⟨c,l,?_⟩;cases c with
 |true=>unfold ql at q;rw[ia rfl]at q ⊢;exact⟨f,ρ,g,i.mono k,j,q⟩
 |false=>unfold ql at q;rw[ka ub]at q ⊢;exact gc.here q j (by rw[La])
theorem ĵ(h:FE T X a fa)(m:FE T X (.BoolOp .Or (b::rest) pos) fb):FE T X (.BoolOp .Or (a::b::rest) pos) (gN fa fb):=by
 intro e s st H Q I p;refine X6 h m e s st H Q I ?_;obtain⟨u,ρ,σ,i,o,n⟩:=p;refine⟨u,ρ,σ,i,o,n.bind λd g f v w _ k j r t=>?_⟩;obtain⟨c,rfl,l,q⟩:=GH r t;refine⟨c,l,?_⟩;cases c with
 |true=>unfold ql at q;rw[ia rfl]at q ⊢;exact gc.here q j (by rw[La])
 |false=>unfold ql at q;rw[ka ub]at q ⊢;exact⟨f,ρ,g,i.mono k,j,q⟩
theorem M8(h:FE T X a fa):FE T X (.UnaryOp .Not a pos) (jJ fa):=by
 intro b s st H Q I j;refine X7 h b s st H Q I ?_;obtain⟨n,ρ,σ,f,i,g⟩:=j;refine⟨n,ρ,σ,f,i,g.bind λd p o v r _ t m k l=>?_⟩;obtain⟨c,rfl,e,q⟩:=GH k l;exact⟨c,e,gc.here q m (by rw[La])⟩
theorem ZA(n:FT T X c ta)(l:FE T X a fa)(m:FE T X b fb):FE T X (.IfExp c a b pos) (Gx ta fa fb):=by
 intro f s st H Q I q;refine ã n l m f s st H Q I ?_;obtain⟨t,ρ,σ,i,p,o⟩:=q;refine⟨t,ρ,σ,i,p,o.bind λd h g v u _ j k r e=>?_⟩;cases r;cases d with
 |true=>unfold ql at e;rw[ia rfl]at e ⊢;exact⟨g,ρ,h,i.mono j,k,e⟩
 |false=>unfold ql at e;rw[ka ub]at e ⊢;exact⟨g,ρ,h,i.mono j,k,e⟩
variable{e:Ma}{es:List Ma}{fe:Ev->M D}{fs:Ev->M (List D)}
theorem jo:FA T X [] Ja:=by
 intro pos a s st H Q I d;refine iw pos a s st H Q I ?_;obtain⟨f,g,h,e,c,b⟩:=d;exact gc.here b c Db.nil
theorem nb(j:FE T X e fe)(b:FA T X es fs)(l:qa (e::es) X.env=(false,Yb e X.env)::qa es X.env:=by rfl):FA T X (e::es) (ra fe fs):=by
 intro pos a s st H Q I m;refine Wt j b l pos a s st H Q I ?_;obtain⟨u,ρ,σ,g,b,k⟩:=m;exact⟨u,ρ,σ,g,b,k.bind λd f c v y _ h r n p=>⟨c,ρ,f,g.mono h,r,p.bind λA x w B z _ i t o q=>gc.here q t (Db.cons (La.mono i _ _ n) o)⟩⟩
theorem KA{a:List Addr}{e:Ta}{c:List V}(h:gc T E (La T) a H (.ok (.Ka d) e) Q)(r:Sd T a H e)(q:Db T a H d c)(b:H p=none):Q (.ref p) (pc H p (.Ka c)):=
 h a (.ref p) _ (Wl b) (r.fresh b) (by rw[La];exact⟨p,c,rfl,vh,Db.mono (Wl b) _ _ q⟩)
theorem EC{a:List Addr}{e:Ta}{c:List V}(h:gc T E (La T) a H (FB d e) Q)(r:Sd T a H e)(q:Db T a H d c)(b:H p=none):Q (.ref p) (pc H p (.la c)):=
 h (a++[p]) (.ref p) _ (Zw b) (r.push b ⟨c,vh,Db.mono (Zw b) _ _ q⟩) (vE r)
theorem Pg{x1}(h:FA T X es fs):FE T X (.Tuple es x1 pos) (gg fs):=by
 intro a s st H Q I j;refine R8 h a s st H Q I ?_;obtain⟨l,ρ,σ,g,i,d⟩:=j;refine⟨l,ρ,σ,g,i,d.bind λf n m r o _ q k e b=>?_⟩;unfold Bw at b;by_cases c:f.length<=ai
 ·rw[ia c]at b;exact⟨by rw[<-e.length];exact Dy c,λp d=>KA b k e d⟩
 ·rw[ka c]at b;exact b.elim
theorem LB(h:FA T X es fs):FE T X (.List es pos) (Xu fs):=by
 intro a s st H Q I j;refine aW h a s st H Q I ?_;obtain⟨l,ρ,σ,g,i,d⟩:=j;refine⟨l,ρ,σ,g,i,d.bind λf n m r o _ q k e b=>?_⟩;unfold QH at b;by_cases c:f.length<=ai
 ·rw[ia c]at b;exact⟨by rw[<-e.length];exact Dy c,λp d=>EC b k e d⟩
 ·rw[ka c]at b;exact b.elim
theorem rE{b:List Addr}{c:List V}(h:gc T E (La T) b H (.ok (.la d) σ) Q)(r:Sd T b H σ)(q:Db T b H d c)(a:H p=none):Q (.ref p) (pc H p (.la c)):=
 h b (.ref p) _ (Wl a) (r.fresh a) (by rw[La];exact⟨p,c,rfl,λf=>(by obtain⟨u,e,_⟩:=r.mem f;rw[a]at e;cases e),vh,Db.mono (Wl a) _ _ q⟩)
theorem Mi(h:FA T X es fs):FE T X (.List es pos) (ci fs):=by
 intro a s st H Q I j;refine aW h a s st H Q I ?_;obtain⟨l,ρ,σ,g,i,d⟩:=j;refine⟨l,ρ,σ,g,i,d.bind λf n m r o _ q k e b=>?_⟩;unfold Iy at b;by_cases c:f.length<=ai
 ·rw[ia c]at b;exact⟨by rw[<-e.length];exact Dy c,λp d=>rE b k e d⟩
 ·rw[ka c]at b;exact b.elim
end
noncomputable def oI(g:Int->Int->Int):D->D->M D
 | .int i,.int j=>ret (.int (g i j))
 |_,_=>Pb
noncomputable def oB(g:Int->Int->Bool):D->D->M D
 | .int i,.int j=>ret (.bl (g i j))
 |_,_=>Pb
def Ax(C:Int->Int->Bool)(g:Int->Int->Int):D->D->M D
 | .int i,.int j=>if C i j=true then ret (.int (g i j))else Pb
 |_,_=>Pb
def yJ(i j:Int):Bool:=Ab ((decide (-(2 ^ 64)<i) && decide (i<2 ^ 64)) || (decide (-(2 ^ 64)<j) && decide (j<2 ^ 64)))
def wJ(_ j:Int):Bool:=Ab (decide (0<j) && decide (j<1073741824))
def iM(_ j:Int):Bool:=Ab (decide (0<j))
def Yz(i j:Int):Bool:=Ab (decide (0<=j) && decide (j<=1000000) && decide (i.natAbs<2 ^ 64))
def BL(_ j:Int):Bool:=Ab (decide (0<=j))
abbrev cr:=oI (λi j=>i - j)
abbrev cG:=Ax yJ (λi j=>i * j)
abbrev Pz:=Ax wJ (λi j=>i / j)
abbrev Zt:=Ax iM (λi j=>i % j)
abbrev ux:=Ax Yz (λi j=>i ^ j.toNat)
abbrev fE:=Ax BL (λi j=>i / 2 ^ j.toNat)
abbrev uG:=oI (λi j=>Yh i j)
abbrev oLt:=oB (λi j=>decide (i<j))
abbrev oLe:=oB (λi j=>decide (i<=j))
abbrev xL:=oB (λi j=>decide (j<i))
abbrev RF:=oB (λi j=>decide (j<=i))
def ZF:D->M D
 | .int i=>ret (.int (-i))
 |_=>Pb
def rD(T:Tb)(o:D->D->M D):R2:=λv u H Q=>∃ (E:XK) (a:List Addr) (σ:Ta) (x y:D),Sd T a H σ/\La T a H x v/\La T a H y u/\gc T E (La T) a H (o x y σ) Q
theorem sg:Jl T (rD T o) o:=λE a H b x y v u Q r p q h=>⟨E,a,b,x,y,r,p,q,h⟩
section
variable{T:Tb}{X:Cx}
theorem Mp(h:La T a H (.int i) v):v=.int i:=by simpa [La]using h
theorem SR:Jl T (qr λi j=>.int (g i j)) (oI g):=by
 intro E a H σ x y v u Q r p q h;cases x with
 |int i=>
  cases y with
  |int j=>exact⟨i,j,Mp p,Mp q,gc.here h r (by rw[La])⟩
  |_=>exact h.elim
 |_=>exact h.elim
theorem YG:Jl T (qr λi j=>.bl (g i j)) (oB g):=by
 intro E a H σ x y v u Q r p q h;cases x with
 |int i=>
  cases y with
  |int j=>exact⟨i,j,Mp p,Mp q,gc.here h r (by rw[La])⟩
  |_=>exact h.elim
 |_=>exact h.elim
theorem gE(d:∀ i j,C i j=true->b i j):Jl T (rI b λi j=>.int (g i j)) (Ax C g):=by
 intro E f H σ x y v u Q r p q h;cases x with
 |int i=>
  cases y with
  |int j=>
   by_cases a:C i j=true
   ·have c:gc T E (La T) f H (ret (.int (g i j)) σ) Q:=by
     have e:Ax C g (.int i) (.int j)=ret (.int (g i j)):=by show (if C i j=true then _ else _)=_;rw[ia a]
     rw[e]at h;exact h
    exact⟨i,j,Mp p,Mp q,d i j a,gc.here c r (by rw[La])⟩
   ·have e:Ax C g (.int i) (.int j)=Pb:=by show (if C i j=true then _ else _)=_;rw[ka a]
    rw[e]at h;exact h.elim
  |_=>exact h.elim
 |_=>exact h.elim
theorem Au:Jl T (qr λi j=>.int (i - j)) cr:=SR
theorem D8:Jl T (rI AG λi j=>.int (i * j)) cG:=gE λi j h=>by
 simp only[yJ,Rr,Ig,Ca,jc]at h;exact h
theorem TC:Jl T (rI rT λi j=>.int (i / j)) Pz:=gE λi j h=>by
 simp only[wJ,Rr,Ca,jc]at h;exact h
theorem Fx:Jl T (rI (λ_ j=>0<j) λi j=>.int (i % j)) Zt:=gE λi j h=>by
 simp only[iM,Rr,jc]at h;exact h
theorem sN:Jl T (rI dO λi j=>.int (i ^ j.toNat)) ux:=gE λi j h=>by
 simp only[Yz,Rr,Ca,jc]at h;exact⟨h.1.1,h.1.2,h.2⟩
theorem y3:Jl T (rI (λ_ j=>0<=j) λi j=>.int (i / 2 ^ j.toNat)) fE:=gE λi j h=>by
 simp only[BL,Rr,jc]at h;exact h
theorem OX:Jl T (qr λi j=>.int (Yh i j)) uG:=SR
theorem By:Jl T (qr λi j=>.bl (decide (i<j))) oLt:=YG
theorem oV:Jl T (qr λi j=>.bl (decide (i<=j))) oLe:=YG
theorem UR:Jl T (qr λi j=>.bl (decide (j<i))) xL:=YG
theorem gM:Jl T (qr λi j=>.bl (decide (j<=i))) RF:=YG
theorem FP:wP T (rU λi=>.int (-i)) ZF:=by
 intro E a H σ x v Q r p h;cases x with
 |int i=>exact⟨i,Mp p,gc.here h r (by rw[La])⟩
 |_=>exact h.elim
end
noncomputable def sc:D->Option V
 | .wc=>some .wc
 | .bl b=>some (.bl b)
 | .int i=>some (.int i)
 | .str x=>some (.str x)
 |_=>none
noncomputable def bi(σ:Ta)(n:Nat):Option (List D):=match σ[n]? with
 |some (.la xs)=>some xs
 |_=>none
theorem sS{xs:List D}(h:bi a n=some xs):a[n]?=some (.la xs):=by
 unfold bi at h;cases e:a[n]? with
 |none=>rw[e]at h;cases h
 |some o=>rw[e]at h;cases o<;>simp at h;subst h;rfl
inductive Kd where
 |s (v:V)|t (xs:List D)|l (xs:List D)|o
def kd(σ:Ta):D->Kd
 | .wc=>.s .wc
 | .bl b=>.s (.bl b)
 | .int i=>.s (.int i)
 | .str x=>.s (.str x)
 | .Ka xs=>.t xs
 | .la xs=>.l xs
 | .ref n=>match bi σ n with
  |some xs=>.l xs
  |none=>.o
 |_=>.o
def Al(f:D->D->Option Bool):List D->List D->Option Bool
 |[],[]=>some true
 |[],_::_=>some false
 |_::_,[]=>some false
 |x::xs,y::a=>match f x y,Al f xs a with
  |some b,some c=>some (b && c)
  |_,_=>none
def Io(f:D->D->Option Bool):Kd->Kd->Option Bool
 | .s a,.s b=>some (Mj a b)
 | .t xs,.t c=>Al f xs c
 | .l xs,.l c=>Al f xs c
 | .s _,.t _=>some false
 | .t _,.s _=>some false
 | .s _,.l _=>some false
 | .l _,.s _=>some false
 | .t _,.l _=>some false
 | .l _,.t _=>some false
 |_,_=>none
def li(σ:Ta):Nat->D->D->Option Bool
 |0,x,y=>Io (λ_ _=>none) (kd σ x) (kd σ y)
 |n+1,x,y=>Io (li σ n) (kd σ x) (kd σ y)
def du(f:D->D->Option Bool)(xs c:List D)(j:Nat):Bool:=match xs[j]?,c[j]? with
 |some a,some b=>(f a b).getD false
 |_,_=>false
theorem gU(f:D->D->Option Bool):∀ (xs d:List D) (b:Bool),Al f xs d=some b->
  (∀ (j:Nat) (a c:D),xs[j]?=some a->d[j]?=some c->∃ k,f a c=some k)/\b=((List.range (min xs.length d.length)).all (du f xs d) && xs.length == d.length)
 |[],[],b,h=>by simp[Al]at h;subst h;simp
 |[],y::d,b,h=>by simp[Al]at h;subst h;simp
 |x::xs,[],b,h=>by simp[Al]at h;subst h;simp
 |x::xs,y::d,b,h=>by
  unfold Al at h;cases e:f x y with
  |none=>rw[e]at h;cases h
  |some m=>
   cases g:Al f xs d with
   |none=>rw[e,g]at h;cases h
   |some n=>
    rw[e,g]at h;cases h;obtain⟨t,u⟩:=gU f xs d n g;refine⟨λj a c i l=>?_,?_⟩
    ·cases j with
     |zero=>simp at i l;subst i;subst l;exact⟨m,e⟩
     |succ j=>exact t j a c (by simpa using i) (by simpa using l)
    ·have o:min (x::xs).length (y::d).length=min xs.length d.length+1:=by simp
     have p:∀ j,du f (x::xs) (y::d) (j+1)=du f xs d j:=λj=>by simp[du]
     have q:du f (x::xs) (y::d) 0=m:=by simp[du,e]
     rw[o,Xr,Ye,iC,q,u];have r:(du f (x::xs) (y::d) ∘ Nat.succ)=du f xs d:=funext λj=>p j;have s:((x::xs).length == (y::d).length)=(xs.length == d.length):=by simp
     rw[r,s,Ry]
section
variable{T:Tb}{μ:List Addr}{H:Hp}{σ:Ta}
theorem Sd.la(r:Sd T μ H σ){n:Nat}{v:V}{xs:List D}(h:La T μ H (.ref n) v)(e:bi σ n=some xs):∃ a b,v=.ref a/\μ[n]?=some a/\H a=some (.la b)/\Db T μ H xs b:=by
 obtain⟨a,rfl,c,b,d,f⟩:=r.at h (sS e);exact⟨a,b,rfl,c,d,f⟩
theorem CI(h:La T μ H d v)(e:sc d=some a):v=a:=by
 cases d<;>simp[sc]at e<;>subst e<;>simpa [La]using h
theorem lP(e:sc d=some a):qj a=true:=by
 cases d<;>simp[sc]at e<;>subst e<;>rfl
theorem tY(h:qj a=true):Mj a a=true:=by cases a<;>simp[qj,Mj]at h ⊢
theorem ny(r:Sd T μ H σ){d:D}{v:V}(h:La T μ H d v):match kd σ d with
  | .s a=>v=a/\qj a=true
  | .t xs=>∃ p c,v=.ref p/\H p=some (.Ka c)/\Db T μ H xs c
  | .l xs=>∃ p c,v=.ref p/\H p=some (.la c)/\Db T μ H xs c
  | .o=>True:=by
 cases d with
 |wc=>exact⟨by simpa [La]using h,rfl⟩
 |bl b=>exact⟨by simpa [La]using h,rfl⟩
 |int b=>exact⟨by simpa [La]using h,rfl⟩
 |str b=>exact⟨by simpa [La]using h,rfl⟩
 |Ka xs=>rw[La]at h;exact h
 |la xs=>rw[La]at h;obtain⟨a,c,f,_,g,i⟩:=h;exact⟨a,c,f,g,i⟩
 |ref n=>
  unfold kd;dsimp only;cases e:bi σ n with
  |none=>trivial
  |some xs=>obtain⟨a,c,f,_,g,i⟩:=r.la h e;exact⟨a,c,f,g,i⟩
 |_=>trivial
theorem pK{f:D->D->Option Bool}(j:∀ (x y:D) (v:V) (b:Bool),La T μ H x v->La T μ H y v->f x y=some b->b=true):∀ (xs a:List D) (g:List V) (b:Bool),Db T μ H xs g->Db T μ H a g->Al f xs a=some b->b=true
 |[],a,g,b,d,c,h=>by
  rw[Db]at d;subst d;cases a with
  |nil=>simp[Al]at h;exact h
  |cons y a=>rw[Db]at c;obtain⟨_,_,z,_⟩:=c;cases z
 |x::xs,a,g,b,d,c,h=>by
  rw[Db]at d;obtain⟨v,r,rfl,m,o⟩:=d;cases a with
  |nil=>rw[Db]at c;cases c
  |cons y a=>
   rw[Db]at c;obtain⟨s,q,z,n,p⟩:=c;cases z;unfold Al at h;cases e:f x y with
   |none=>rw[e]at h;cases h
   |some k=>
    cases i:Al f xs a with
    |none=>rw[e,i]at h;cases h
    |some l=>
     rw[e,i]at h;cases h;rw[j x y v k m n e,pK j xs a r l o p i];rfl
theorem bK(r:Sd T μ H σ)(A:∀ (x y:D) (v:V) (b:Bool),La T μ H x v->La T μ H y v->f x y=some b->b=true)(B:La T μ H x v)(C:La T μ H y v)(h:Io f (kd σ x) (kd σ y)=some b):b=true:=by
 have n:=ny r B;have g:=ny r C;generalize kd σ x=E at h n;generalize kd σ y=u at h g;cases E with
 |s a=>
  obtain⟨rfl,fa⟩:=n;cases u with
  |s c=>obtain⟨rfl,_⟩:=g;cases h;exact tY fa
  |t xs=>obtain⟨p,k,rfl,_⟩:=g;simp[qj]at fa
  |l xs=>obtain⟨p,k,rfl,_⟩:=g;simp[qj]at fa
  |o=>cases h
 |t xs=>
  obtain⟨p,k,rfl,i,w⟩:=n;cases u with
  |s c=>obtain⟨e,fa⟩:=g;rw[<-e]at fa;simp[qj]at fa
  |t m=>
   obtain⟨q,z,e,d,j⟩:=g;cases e;rw[i]at d;cases d;exact pK A xs m k b w j h
  |l m=>obtain⟨q,z,e,d,j⟩:=g;cases e;rw[i]at d;cases d
  |o=>cases h
 |l xs=>
  obtain⟨p,k,rfl,i,w⟩:=n;cases u with
  |s c=>obtain⟨e,fa⟩:=g;rw[<-e]at fa;simp[qj]at fa
  |t m=>obtain⟨q,z,e,d,j⟩:=g;cases e;rw[i]at d;cases d
  |l m=>
   obtain⟨q,z,e,d,j⟩:=g;cases e;rw[i]at d;cases d;exact pK A xs m k b w j h
  |o=>cases h
 |o=>cases h
theorem hX(r:Sd T μ H σ):∀ (n:Nat) (x y:D) (v:V) (b:Bool),La T μ H x v->La T μ H y v->li σ n x y=some b->b=true
 |0,x,y,v,b,a,c,h=>bK r (λ_ _ _ _ _ _ z=>by cases z) a c h
 |n+1,x,y,v,b,a,c,h=>bK r (λx y v b d e f=>hX r n x y v b d e f) a c h
end
section
variable{T:Tb}{X:Cx}{pins:List (Addr × jd)}{st:St}{μ:List Addr}{H:Hp}{s:aa}{σ:Ta}
theorem rF(fa:qj a=true)(r:Pd a u)(c:s.heap.IsTuple p e)(d:A.units<cLine):Xd A s u (.ref p) false/\Xd A s (.ref p) u false/\ki A s u (.ref p) false/\ki A s (.ref p) u false/\Zh A s u (.ref p) true/\Zh A s (.ref p) u true:=by
 cases a with
 |wc=>cases r;exact⟨.none_tuple c d,.tuple_none c d,.none_tuple c d,.tuple_none c d,.none_tuple c d,.tuple_none c d⟩
 |bl b=>cases r;exact⟨.bool_tuple b c d,.tuple_bool b c d,.bool_tuple b c d,.tuple_bool b c d,.bool_tuple b c d,.tuple_bool b c d⟩
 |int b=>obtain⟨t,rfl⟩:=r;exact⟨.int_tuple b t c d,.tuple_int b t c d,.int_tuple b t c d,.tuple_int b t c d,.int_tuple b t c d,.tuple_int b t c d⟩
 |str b=>obtain⟨t,rfl⟩:=r;exact⟨.str_tuple b t c d,.tuple_str b t c d,.str_tuple b t c d,.tuple_str b t c d,.str_tuple b t c d,.tuple_str b t c d⟩
 |_=>simp[qj]at fa
theorem hU(fa:qj a=true)(r:Pd a u)(c:s.heap.IsList p e)(d:A.units<cLine):ki A s u (.ref p) false/\ki A s (.ref p) u false/\Zh A s u (.ref p) true/\Zh A s (.ref p) u true:=by
 cases a with
 |wc=>cases r;exact⟨.none_list c d,.list_none c d,.none_list c d,.list_none c d⟩
 |bl b=>cases r;exact⟨.bool_list b c d,.list_bool b c d,.bool_list b c d,.list_bool b c d⟩
 |int b=>obtain⟨t,rfl⟩:=r;exact⟨.int_list b t c d,.list_int b t c d,.int_list b t c d,.list_int b t c d⟩
 |str b=>obtain⟨t,rfl⟩:=r;exact⟨.str_list b t c d,.list_str b t c d,.str_list b t c d,.list_str b t c d⟩
 |_=>simp[qj]at fa
theorem t7(fa:qj a=true)(r:Pd a u)(c:s.heap.IsList p e)(d:A.units<cLine):Xd A s u (.ref p) false:=by
 cases a with
 |wc=>cases r;exact .none_list c d
 |bl b=>cases r;exact .bool_list b c d
 |int b=>obtain⟨t,rfl⟩:=r;exact .int_list b t c d
 |str b=>obtain⟨t,rfl⟩:=r;exact .str_list b t c d
 |_=>simp[qj]at fa
theorem Μ(fa:qj a=true)(r:Pd a u)(c:s.heap.IsList p e)(d:A.units<cLine):Xd A s (.ref p) u false:=by
 cases a with
 |wc=>cases r;exact .list_none c d
 |bl b=>cases r;exact .list_bool b c d
 |int b=>obtain⟨t,rfl⟩:=r;exact .list_int b t c d
 |str b=>obtain⟨t,rfl⟩:=r;exact .list_str b t c d
 |_=>simp[qj]at fa
theorem yvk(f:Pd a u)(d:Pd b w)(fa:qj a=true)(e:qj b=true):ki A s u w (Mj a b)/\Zh A s u w (!Mj a b):=by
 cases a with
 |wc=>
  cases f;cases b with
  |wc=>cases d;exact⟨.none_none,.none_none⟩
  |bl y=>cases d;exact⟨.none_bool y,.none_bool y⟩
  |int y=>obtain⟨t,rfl⟩:=d;exact⟨.none_int y t,.none_int y t⟩
  |str y=>obtain⟨t,rfl⟩:=d;exact⟨.none_str y t,.none_str y t⟩
  |_=>simp[qj]at e
 |bl x=>
  cases f;cases b with
  |wc=>cases d;exact⟨.bool_none x,.bool_none x⟩
  |bl y=>cases d;exact⟨.bool_bool x y,.bool_bool x y⟩
  |int y=>obtain⟨t,rfl⟩:=d;exact⟨.bool_int x y t,.bool_int x y t⟩
  |str y=>obtain⟨t,rfl⟩:=d;exact⟨.bool_str x y t,.bool_str x y t⟩
  |_=>simp[qj]at e
 |int x=>
  obtain⟨c,rfl⟩:=f;cases b with
  |wc=>cases d;exact⟨.int_none x c,.int_none x c⟩
  |bl y=>cases d;exact⟨.int_bool x c y,.int_bool x c y⟩
  |int y=>obtain⟨t,rfl⟩:=d;exact⟨.int_int x c y t,.int_int x c y t⟩
  |str y=>obtain⟨t,rfl⟩:=d;exact⟨.int_str x c y t,.int_str x c y t⟩
  |_=>simp[qj]at e
 |str x=>
  obtain⟨c,rfl⟩:=f;cases b with
  |wc=>cases d;exact⟨.str_none x c,.str_none x c⟩
  |bl y=>cases d;exact⟨.str_bool x c y,.str_bool x c y⟩
  |int y=>obtain⟨t,rfl⟩:=d;exact⟨.str_int x c y t,.str_int x c y t⟩
  |str y=>obtain⟨t,rfl⟩:=d;exact⟨.str_str x c y t,.str_str x c y t⟩
  |_=>simp[qj]at e
 |_=>simp[qj]at fa
theorem AC{xs:List V}{i:Nat}(r:ue xs b)(h:b[i]?=some u):∃ x,xs[i]?=some x/\Pd x u:=by
 have e:=r.length;have d:=(ja.mp h).1;obtain⟨f,a,c⟩:=r.get (i:=i) (x:=xs[i]'(by omega)) (by simp);rw[h]at a;cases a;exact⟨_,by simp,c⟩
theorem KJ{i:Nat}(r:Db T μ H a c)(h:c[i]?=some v):∃ d,a[i]?=some d/\La T μ H d v:=by
 have g:=r.length;have f:=(ja.mp h).1;obtain⟨j,b,e⟩:=r.get (i:=i) (d:=a[i]'(by omega)) (by simp);rw[h]at b;cases b;exact⟨_,by simp,e⟩
theorem nN(J:∀ (x y:D) (v w:V) (z C:Value) (b:Bool),La T μ H x v->La T μ H y w->Pd v z->Pd w C->f x y=some b->Xd A s z C b)
  {xs c:List D} (r:Db T μ H xs B) (t:Db T μ H c E) (p:ue B a) (q:ue E d) (h:Al f xs c=some b) :
  (∀ j (n:j<a.toArray.size) (o:j<d.toArray.size),Xd A s a.toArray[j] d.toArray[j] (du f xs c j))/\b=((List.range (min a.toArray.size d.toArray.size)).all (du f xs c) && a.toArray.size == d.toArray.size):=by
 obtain⟨n,o⟩:=gU f xs c b h;have l1:=r.length;have l2:=t.length;have K:=p.length;have L:=q.length;refine⟨λj O P=>?_,?_⟩
 ·obtain⟨v,F,N⟩:=AC (i:=j) (u:=a.toArray[j]) p (by simp);obtain⟨w,G,e⟩:=AC (i:=j) (u:=d.toArray[j]) q (by simp);obtain⟨x,g,M⟩:=KJ r F;obtain⟨y,l,p4⟩:=KJ t G;obtain⟨k,m⟩:=n j x y g l;have I:du f xs c j=k:=by simp[du,g,l,m]
  rw[I];exact J x y v w _ _ k M p4 N e m
 ·simp only[wa];rw[o,l1,l2,K,L]
abbrev TW(A:Qa)(s:aa)(v w:Value)(b:Bool):Prop:=ki A s v w b/\Zh A s v w (!b)
theorem CK(I:Za X pins st H s)(r:Sd T μ H σ)(hu:A.units+1<cLine)
  (hf:∀ (x y:D) (v w:V) (N O:Value) (b:Bool),La T μ H x v->La T μ H y w->Pd v N->Pd w O->f x y=some b->Xd A.in1 s N O b) (hx:La T μ H x v) (hy:La T μ H y w) (M:Pd v N) (d:Pd w O) (h:Io f (kd σ x) (kd σ y)=some b):TW A s N O b:=by
 have g:A.units<cLine:=by omega
 have R:=ny r hx;have k:=ny r hy;generalize kd σ x=k1 at h R;generalize kd σ y=U at h k;cases k1 with
 |o=>cases h
 |s a=>
  obtain⟨rfl,fa⟩:=R;cases U with
  |o=>cases h
  |s c=>obtain⟨rfl,J⟩:=k;cases h;exact yvk M d fa J
  |t B=>
   obtain⟨q,P,rfl,j,u⟩:=k;cases h;cases d;obtain⟨its,_,n,_⟩:=L2.Za.tuple I (ii.of j);obtain⟨_,_,C,E,F,G⟩:=rF fa M n g;exact⟨C,F⟩
  |l B=>
   obtain⟨q,P,rfl,j,u⟩:=k;cases h;cases d;obtain⟨its,_,pl,_⟩:=L2.Za.list I (Mf.of j);obtain⟨C,E,F,G⟩:=hU fa M pl.isList g;exact⟨C,F⟩
 |t xs=>
  obtain⟨p,vs,rfl,S,Z⟩:=R;cases M;obtain⟨its,W,L,_⟩:=L2.Za.tuple I (ii.of S);cases U with
  |o=>cases h
  |s c=>
   obtain⟨rfl,J⟩:=k;cases h;obtain⟨_,_,C,E,F,G⟩:=rF J d L g;exact⟨E,G⟩
  |t B=>
   obtain⟨q,P,rfl,j,u⟩:=k;cases d;obtain⟨i,Y,n,_⟩:=L2.Za.tuple I (ii.of j);obtain⟨K,Q⟩:=nN hf Z u W Y h;rw[Q];exact⟨.tuples L n (by omega) K,.tuples L n (by omega) K⟩
  |l B=>
   obtain⟨q,P,rfl,j,u⟩:=k;cases h;cases d;obtain⟨i,_,pl,_⟩:=L2.Za.list I (Mf.of j);exact⟨.tuple_list L pl.isList g,.tuple_list L pl.isList g⟩
 |l xs=>
  obtain⟨p,vs,rfl,S,Z⟩:=R;cases M;obtain⟨its,W,pl,_⟩:=L2.Za.list I (Mf.of S);cases U with
  |o=>cases h
  |s c=>
   obtain⟨rfl,J⟩:=k;cases h;obtain⟨C,E,F,G⟩:=hU J d pl.isList g;exact⟨E,G⟩
  |t B=>
   obtain⟨q,P,rfl,j,u⟩:=k;cases h;cases d;obtain⟨i,_,n,_⟩:=L2.Za.tuple I (ii.of j);exact⟨.list_tuple pl.isList n g,.list_tuple pl.isList n g⟩
  |l B=>
   obtain⟨q,P,rfl,j,u⟩:=k;cases d;obtain⟨i,Y,m,_⟩:=L2.Za.list I (Mf.of j);obtain⟨K,Q⟩:=nN hf Z u W Y h;by_cases z:its.toArray.size=i.toArray.size
   ·have e:b=(List.range its.toArray.size).all (du f xs B):=by rw[Q,<-z];simp
    rw[e];exact⟨.lists pl.isList m.isList z (by omega) K,.lists pl.isList m.isList z (by omega) K⟩
   ·have e:b=false:=by rw[Q,Fe.mpr z,Zp]
    rw[e];exact⟨.lists_lengths pl.isList m.isList (by simpa using z) (by omega),.lists_lengths pl.isList m.isList (by simpa using z) (by omega)⟩
theorem JW(I:Za X pins st H s)(r:Sd T μ H σ)(U:A.units+1<cLine)
  (P:∀ (x y:D) (v w:V) (C E:Value) (b:Bool),La T μ H x v->La T μ H y w->Pd v C->Pd w E->f x y=some b->Xd A.in1 s C E b)
  (S:∀ (x y:D) (v:V) (b:Bool),La T μ H x v->La T μ H y v->f x y=some b->b=true) (F:La T μ H x v) (G:La T μ H y w) (m:Pd v C) (d:Pd w E) (h:Io f (kd σ x) (kd σ y)=some b):Xd A s C E b:=by
 have j:A.units<cLine:=by omega
 have J:=(CK I r U P F G m d h).1;by_cases i:v=w
 ·subst i;have O:=bK r S F G h;have k:=ny r F;have g:=ny r G;generalize kd σ x=M at h k;generalize kd σ y=B at h g;cases M with
  |o=>cases h
  |s a=>
   obtain⟨rfl,fa⟩:=k;cases B with
   |o=>cases h
   |s c=>obtain⟨rfl,n⟩:=g;cases h;exact qJ m d fa n
   |t z=>obtain⟨q,u,e,_⟩:=g;rw[e]at fa;simp[qj]at fa
   |l z=>obtain⟨q,u,e,_⟩:=g;rw[e]at fa;simp[qj]at fa
  |t xs=>
   obtain⟨p,N,rfl,_⟩:=k;cases m;cases d;rw[O];exact Ml _
  |l xs=>
   obtain⟨p,N,rfl,_⟩:=k;cases m;cases d;rw[O];exact Ml _
 ·have k:=ny r F;have g:=ny r G;generalize kd σ x=M at h k;generalize kd σ y=B at h g;cases M with
  |o=>cases h
  |s a=>
   obtain⟨rfl,fa⟩:=k;cases B with
   |o=>cases h
   |s c=>obtain⟨rfl,n⟩:=g;cases h;exact qJ m d fa n
   |t z=>
    obtain⟨q,u,rfl,L,Y⟩:=g;cases h;cases d;obtain⟨its,_,R,_⟩:=L2.Za.tuple I (ii.of L);exact(rF fa m R j).1
   |l z=>
    obtain⟨q,u,rfl,L,Y⟩:=g;cases h;cases d;obtain⟨its,_,pl,_⟩:=L2.Za.list I (Mf.of L);exact t7 fa m pl.isList j
  |t xs=>
   obtain⟨p,N,rfl,K,W⟩:=k;cases m;cases B with
   |o=>cases h
   |s c=>
    obtain⟨rfl,n⟩:=g;cases h;obtain⟨its,_,Q,_⟩:=L2.Za.tuple I (ii.of K);exact(rF n d Q j).2.1
   |t z=>obtain⟨q,u,rfl,_⟩:=g;cases d;exact .of_refs (λe=>i (by rw[e])) J
   |l z=>obtain⟨q,u,rfl,_⟩:=g;cases d;exact .of_refs (λe=>i (by rw[e])) J
  |l xs=>
   obtain⟨p,N,rfl,K,W⟩:=k;cases m;cases B with
   |o=>cases h
   |s c=>
    obtain⟨rfl,n⟩:=g;cases h;obtain⟨its,_,pl,_⟩:=L2.Za.list I (Mf.of K);exact Μ n d pl.isList j
   |t z=>obtain⟨q,u,rfl,_⟩:=g;cases d;exact .of_refs (λe=>i (by rw[e])) J
   |l z=>obtain⟨q,u,rfl,_⟩:=g;cases d;exact .of_refs (λe=>i (by rw[e])) J
theorem PH(I:Za X pins st H s)(r:Sd T μ H σ):∀ (n:Nat) (A:Qa) (x y:D) (v w:V) (c d:Value) (b:Bool),A.units+n+1<cLine->La T μ H x v->La T μ H y w->Pd v c->Pd w d->li σ n x y=some b->Xd A s c d b
 |0,A,x,y,v,w,c,d,b,o,i,j,k,a,h=>JW I r (by omega) (λ_ _ _ _ _ _ _ _ _ _ _ z=>by cases z) (λ_ _ _ _ _ _ z=>by cases z) i j k a h
 |n+1,A,x,y,v,w,c,d,b,o,i,j,k,a,h=>JW I r (by omega) (λx y v w c d b e f g l m=>PH I r n A.in1 x y v w c d b (by show A.units+1+n+1<cLine;omega) e f g l m) (λx y v b e f g=>hX r n x y v b e f g) i j k a h
theorem XV(I:Za X pins st H s)(r:Sd T μ H σ)(n:Nat)(o:A.units+n+1<cLine)(e:La T μ H x v)(f:La T μ H y w)(g:Pd v c)(a:Pd w d)(h:li σ n x y=some b):TW A s c d b:=by
 cases n with
 |zero=>exact CK I r (by omega) (λ_ _ _ _ _ _ _ _ _ _ _ z=>by cases z) e f g a h
 |succ n=>exact CK I r (by omega) (λx y v w c d b i j k l m=>PH I r n A.in1 x y v w c d b (by show A.units+1+n+1<cLine;omega) i j k l m) e f g a h
end
section
variable{T:Tb}{X:Cx}{pins:List (Addr × jd)}{st:St}{μ:List Addr}{H:Hp}{s:aa}{σ:Ta}
def Gf(x y:D):M D:=λσ=>match li σ 8 x y with
 |some b=>.ok (.bl b) σ
 |none=>.Pb
def ph(x y:D):M D:=λσ=>match li σ 8 x y with
 |some b=>.ok (.bl (!b)) σ
 |none=>.Pb
theorem Si(i:X.A.units+9<cLine):di X (Sb .Eq) (rD T Gf):=by
 intro pins s st H v u k j Q I g f h;obtain⟨E,μ,σ,x,y,r,c,d,a⟩:=h;unfold Gf at a;cases e:li σ 8 x y with
 |none=>rw[e]at a;exact a.elim
 |some b=>
  rw[e]at a;have:=(XV I r 8 (by omega) c d g f e).1 X.prog X.w X.xe (EP X pins st Q) ⟨.bl b,H,I,rfl,gc.here a r (by rw[La])⟩;exact this
theorem Xo(i:X.A.units+9<cLine):di X (Sb .NotEq) (rD T ph):=by
 intro pins s st H v u k j Q I g f h;obtain⟨E,μ,σ,x,y,r,c,d,a⟩:=h;unfold ph at a;cases e:li σ 8 x y with
 |none=>rw[e]at a;exact a.elim
 |some b=>
  rw[e]at a;have:=(XV I r 8 (by omega) c d g f e).2 X.prog X.w X.xe (EP X pins st Q) ⟨.bl (!b),H,I,rfl,gc.here a r (by rw[La])⟩;exact this
def Ft(x y:D):M D:=λσ=>match y with
 | .wc=>(match x with
  | .wc=>.ok (.bl true) σ
  |_=>.ok (.bl false) σ)
 |_=>.Pb
def xB(x y:D):M D:=λσ=>match y with
 | .wc=>(match x with
  | .wc=>.ok (.bl false) σ
  |_=>.ok (.bl true) σ)
 |_=>.Pb
theorem mV(h:La T μ H x v):decide (v=.wc)=(match x with | .wc=>true|_=>false):=by
 cases x with
 |wc=>rw[La]at h;subst h;rfl
 |Ka ds=>rw[La]at h;obtain⟨p,_,rfl,_⟩:=h;simp
 |Fh ds=>rw[La]at h;obtain⟨p,rfl,_⟩:=h;simp
 |ref ds=>rw[La]at h;obtain⟨p,rfl,_⟩:=h;simp
 |la ds=>rw[La]at h;obtain⟨p,_,rfl,_⟩:=h;simp
 |yc ks ds=>rw[La]at h;obtain⟨p,_,rfl,_⟩:=h;simp
 |obj c ks ds=>rw[La]at h;obtain⟨p,_,_,rfl,_⟩:=h;simp
 |Dt c=>rw[La]at h;obtain⟨p,_,rfl,_⟩:=h;simp
 |gt ds=>rw[La]at h;obtain⟨p,rfl,_⟩:=h;simp
 |_=>rw[La]at h;subst h;simp
theorem pE:Jl T (λx y H Q=>y=.wc/\Q (.bl (decide (x=.wc))) H) Ft:=by
 intro E μ H σ x y v u Q r p q h;cases y with
 |wc=>
  refine⟨by rw[La]at q;exact q,?_⟩;rw[mV p];cases x<;>exact gc.here h r (by rw[La])
 |_=>exact h.elim
theorem CT:Jl T (λx y H Q=>y=.wc/\Q (.bl (!decide (x=.wc))) H) xB:=by
 intro E μ H σ x y v u Q r p q h;cases y with
 |wc=>
  refine⟨by rw[La]at q;exact q,?_⟩;rw[mV p];cases x<;>exact gc.here h r (by rw[La]<;>rfl)
 |_=>exact h.elim
theorem k6(r:Db T μ H a b)(h:Sr a k=some d):∃ v,Sr b k=some v/\La T μ H d v:=by
 unfold Sr at h ⊢;rw[<-r.length];cases e:xt a.length k with
 |none=>rw[e]at h;cases h
 |some j=>rw[e]at h;exact r.get h
theorem rB:∀ (a:List Int),Db T μ H (a.map D.int) (a.map V.int)
 |[]=>Db.nil
 |n::a=>Db.cons (by rw[La]) (rB a)
def yj(σ:Ta):D->Option (List D)
 | .Ka xs=>some xs
 | .Fh ns=>some (ns.map D.int)
 | .ref n=>bi σ n
 | .la xs=>some xs
 | .gt ss=>some (ss.map D.str)
 |_=>none
def Oa(x i:D):M D:=λσ=>match i with
 | .int k=>(match yj σ x with
  |some xs=>(match Sr xs k with
   |some d=>.ok d σ
   |none=>.Pb)
  |none=>.Pb)
 |_=>.Pb
theorem GF:∀ (a:List Str),Db T μ H (a.map D.str) (a.map V.str)
 |[]=>Db.nil
 |n::ns=>Db.cons (by rw[La]) (GF ns)
theorem Ny(r:Sd T μ H σ){xs:List D}(h:La T μ H x v)(e:yj σ x=some xs):∃ p c,v=.ref p/\Db T μ H xs c/\(Mf T.K H p c\/ii T.K H p c):=by
 cases x with
 |Ka ds=>cases e;rw[La]at h;obtain⟨p,c,rfl,b,d⟩:=h;exact⟨p,c,rfl,d,.inr (ii.of b)⟩
 |Fh ns=>cases e;rw[La]at h;obtain⟨p,rfl,b⟩:=h;exact⟨p,_,rfl,rB ns,.inl b.seq⟩
 |ref n=>obtain⟨a,c,rfl,_,b,d⟩:=r.la h e;exact⟨a,c,rfl,d,.inl (Mf.of b)⟩
 |la ds=>cases e;rw[La]at h;obtain⟨p,c,rfl,_,b,d⟩:=h;exact⟨p,c,rfl,d,.inl (Mf.of b)⟩
 |gt ss=>cases e;rw[La]at h;obtain⟨p,rfl,b⟩:=h;exact⟨p,_,rfl,GF ss,.inr (.inr b)⟩
 |_=>cases e
theorem v7(l:T.K=X.K):Jl T (λx y H Q=>HK X.K x y H Q\/gK X.K x y H Q) Oa:=by
 intro E μ H σ x y v u Q r p q h;cases y with
 |int k=>
  unfold Oa at h;cases e:yj σ x with
  |none=>simp only[e]at h;exact h.elim
  |some xs=>
   simp only[e]at h;cases c:Sr xs k with
   |none=>rw[c]at h;exact h.elim
   |some d=>
    rw[c]at h;obtain⟨a,i,rfl,j,b⟩:=Ny r p e;obtain⟨w,f,g⟩:=k6 j c;rw[l]at b;rcases b with b|b
    ·exact .inl ⟨a,i,k,w,rfl,Mp q,b,f,gc.here h r g⟩
    ·exact .inr ⟨a,i,k,w,rfl,Mp q,b,f,gc.here h r g⟩
 |_=>exact h.elim
theorem xZ:yx X (λx y H Q=>HK X.K x y H Q\/gK X.K x y H Q):=Y6.or Ä
def fu(d:D):Bool:=(sc d).isSome
def Yu(x y:D):Bool:=match sc x,sc y with
 |some a,some b=>Mj a b
 |_,_=>false
def To(a:Bool)(x y:D):M D:=λσ=>match yj σ y with
 |some xs=>if (fu x && xs.all fu)=true then .ok (.bl (if a then !(xs.any λz=>Yu z x)else xs.any λz=>Yu z x)) σ else .Pb
 |none=>.Pb
theorem tW:∀ {c:List D} {b:List V},Db T μ H c b->c.all fu=true->b.all qj=true
 |[],b,h,_=>by rw[Db]at h;subst h;rfl
 |d::c,b,h,e=>by
  obtain⟨v,r,rfl,g,i⟩:=h;rw[Ye,Ca]at e ⊢;obtain⟨a,f⟩:=Ve.mp e.1;exact⟨by rw[CI g f];exact lP f,tW i e.2⟩
theorem WT{x:D}{a:V}(ex:sc x=some a):∀ {b:List D} {f:List V},Db T μ H b f->b.all fu=true->(b.any λz=>Yu z x)=f.any λy=>Mj y a
 |[],f,h,_=>by rw[Db]at h;subst h;rfl
 |d::b,f,h,e=>by
  obtain⟨v,r,rfl,i,j⟩:=h;rw[Ye,Ca]at e;obtain⟨c,g⟩:=Ve.mp e.1;rw[Ze,Ze,WT ex j e.2];have:Yu d x=Mj v a:=by unfold Yu;rw[g,ex,CI i g]
  rw[this]
theorem YD(l:T.K=X.K)(d:Bool):Jl T (GG X.K d) (To d):=by
 intro E μ H σ x y v u Q r p q h;unfold To at h;cases e:yj σ y with
 |none=>rw[e]at h;exact h.elim
 |some xs=>
  rw[e]at h;by_cases c:(fu x && xs.all fu)=true
  ·simp only[c]at h;rw[Ca]at c;obtain⟨a,f⟩:=Ve.mp c.1;obtain⟨b,j,rfl,g,i⟩:=Ny r q e;rw[l]at i;refine⟨b,j,rfl,i,by rw[CI p f];exact lP f,tW g c.2,?_⟩;have k:bB v j=xs.any λz=>Yu z x:=by unfold bB;rw[WT f g c.2,CI p f]
   rw[k];exact gc.here h r (by rw[La])
  ·simp only[c]at h;exact h.elim
def Fj(xs:List D):M D:=λσ=>match xs with
 |[x]=>(match yj σ x with
  |some a=>.ok (.int a.length) σ
  |none=>.Pb)
 |_=>.Pb
theorem jq(i:T.K=X.K):dr T (λxs H Q=>∃ p a,xs=[.ref p]/\(Mf X.K H p a\/ii X.K H p a)/\Q (.int a.length) H) Fj:=by
 intro E μ H σ xs f Q r p h
 match xs with
 |[]=>exact h.elim
 |[x]=>
  obtain⟨v,w,rfl,j,d⟩:=p;rw[Db]at d;subst d;unfold Fj at h;cases e:yj σ x with
  |none=>simp only[e]at h;exact h.elim
  |some a=>
   simp only[e]at h;obtain⟨b,f,rfl,g,c⟩:=Ny r j e;rw[i]at c;exact⟨b,f,rfl,c,by rw[<-g.length];exact gc.here h r (by rw[La])⟩
 |_::_::_=>exact h.elim
def Yq(xs:List D):M D:=λσ=>match xs with
 |[x]=>(match yj σ x with
  |some a=>FB a σ
  |none=>.Pb)
 |_=>.Pb
theorem ND(i:T.K=X.K):dr T (λxs H Q=>∃ p a,xs=[.ref p]/\(Mf X.K H p a\/ii X.K H p a)/\∀ l,H l=none->Q (.ref l) (pc H l (.la a))) Yq:=by
 intro E μ H σ xs f Q r p h
 match xs with
 |[]=>exact h.elim
 |[x]=>
  obtain⟨v,w,rfl,k,d⟩:=p;rw[Db]at d;subst d;unfold Yq at h;cases e:yj σ x with
  |none=>simp only[e]at h;exact h.elim
  |some a=>
   simp only[e]at h;obtain⟨b,f,rfl,g,c⟩:=Ny r k e;rw[i]at c;exact⟨b,f,rfl,c,λl j=>EC h r g j⟩
 |_::_::_=>exact h.elim
def fK:D->Bool
 | .gt _=>true
 |_=>false
def Cz(xs:List D):M D:=λσ=>match xs with
 |[x]=>(match yj σ x with
  |some a=>if fK x=true then .Pb else .ok (.Ka a) σ
  |none=>.Pb)
 |_=>.Pb
theorem dJ(m:T.K=X.K):dr T (λxs H Q=>∃ p g,xs=[.ref p]/\((Mf X.K H p g/\∀ l,H l=none->Q (.ref l) (pc H l (.Ka g)))\/(ii X.K H p g/\Q (.ref p) H))) Cz:=by
 intro E μ H σ xs f Q r p h
 match xs with
 |[]=>exact h.elim
 |[x]=>
  obtain⟨v,w,rfl,c,k⟩:=p;rw[Db]at k;subst k;have h:gc T E (La T) μ H (match yj σ x with|some g=>if fK x=true then .Pb else .ok (.Ka g) σ|none=>.Pb) Q:=h;cases e:yj σ x with
  |none=>simp only[e]at h;exact h.elim
  |some g=>
   simp only[e]at h;cases x with
   |gt ss=>exact h.elim
   |Ka ds=>
    cases e;have o:=c;rw[La]at c;obtain⟨b,f,rfl,d,j⟩:=c;exact⟨b,f,rfl,.inr ⟨ii.of d,gc.here h r o⟩⟩
   |Fh ns=>
    cases e;rw[La]at c;obtain⟨b,rfl,d⟩:=c;exact⟨b,_,rfl,.inl ⟨by rw[<-m];exact d.seq,λl i=>KA h r (rB ns) i⟩⟩
   |ref n=>
    obtain⟨a,f,rfl,_,d,j⟩:=r.la c e;exact⟨a,f,rfl,.inl ⟨Mf.of d,λl i=>KA h r j i⟩⟩
   |la ds=>
    cases e;rw[La]at c;obtain⟨b,f,rfl,_,d,j⟩:=c;exact⟨b,f,rfl,.inl ⟨Mf.of d,λl i=>KA h r j i⟩⟩
   |_=>cases e
 |_::_::_=>exact h.elim
end
def ah(o:List D->M D)(a:Ev->M (List D)):Ev->M D:=λb=>Fd (a b) o
section
variable{T:Tb}{X:Cx}{x:Str}{p pos:Ce}{e:Ma}{es:List Ma}{fs:Ev->M (List D)}{id ty:String}{r:List V->Hp->VK->Prop}{o:List D->M D}
theorem oO(i:dr T r o){st:St}(h:tF T X (ah o fs) st H Q):YL r (tL T X fs) st H Q:=by
 obtain⟨n,ρ,σ,e,g,f⟩:=h;exact⟨n,ρ,σ,e,g,f.bind λd b a m c _ p l j k=>i _ a c b d m Q l j k⟩
theorem Yk(f:zm X (.builtin id) r)(l:dr T r o)(i:Gl X x)(j:X.mg x=none)(m:bootBuiltins x=some (.builtin id))(d:FA T X (e::es) fs)(k:x ≠ "__name__":=by decide)(b:(x == ("__debug__" : Str))=false:=by decide)
  (g:qa (e::es) X.env=(false,Yb e X.env)::qa es X.env:=by rfl) (c:(Vc pos (qa es X.env)).any (·.1)=false:=by rfl):FE T X (.Call (.Name x p) (e::es) [] pos) (ah o fs):=
 λa s st H Q I h=>uJ f i j m d k b g c a s st H Q I (oO l h)
theorem zv(f:zm X (.type ty) r)(l:dr T r o)(i:Gl X x)(j:X.mg x=none)(m:bootBuiltins x=some (.type ty))(d:FA T X (e::es) fs)(k:x ≠ "__name__":=by decide)(b:(x == ("__debug__" : Str))=false:=by decide)
  (g:qa (e::es) X.env=(false,Yb e X.env)::qa es X.env:=by rfl) (c:(Vc pos (qa es X.env)).any (·.1)=false:=by rfl):FE T X (.Call (.Name x p) (e::es) [] pos) (ah o fs):=
 λa s st H Q I h=>OF f i j m d k b g c a s st H Q I (oO l h)
end
def rh(σ:Ta):D->Option (List D)
 | .ref n=>bi σ n
 | .la xs=>some xs
 |_=>none
theorem Sd.ls(r:Sd T g H σ){xs:List D}(h:La T g H x v)(e:rh σ x=some xs):∃ a b,v=.ref a/\H a=some (.la b)/\Db T g H xs b:=by
 cases x with
 |ref n=>obtain⟨a,b,c,_,d,f⟩:=r.la h e;exact⟨a,b,c,d,f⟩
 |la i=>cases e;rw[La]at h;obtain⟨a,b,c,_,d,f⟩:=h;exact⟨a,b,c,d,f⟩
 |_=>cases e
def Ew(o:D->List D->M D)(m:M (List D))(x:D):M D:=λσ=>match rh σ x with
 |some _=>Fd m (o x) σ
 |none=>.Pb
def Sw(o:D->List D->M D)(f:Ev->M D)(b:Ev->M (List D)):Ev->M D:=λa=>Fd (f a) (Ew o (b a))
def Rz(T:Tb)(r:V->List V->Hp->VK->Prop)(o:D->List D->M D):Prop:=∀ (E:XK) a H c x xs v b Q,Sd T a H c->La T a H x v->Db T a H xs b->gc T E (La T) a H (o x xs c) Q->r v b H Q
def Mn(x:D)(xs:List D):M D:=λσ=>match x,xs with
 | .ref n,[y]=>(match bi σ n with
  |some a=>if a.length<ai then .ok .wc (σ.set n (.la (a++[y])))else .Pb
  |none=>.Pb)
 |_,_=>.Pb
section
variable{T:Tb}{X:Cx}{o e:Ma}{es:List Ma}{f:Ev->M D}{fs:Ev->M (List D)}{name:Str}{apos cpos:Ce}{id:String}{r:V->List V->Hp->VK->Prop}{g:D->List D->M D}
theorem nz(P:Eo "list")(l:Slot "list" name id)(q:ft (.builtin id)=pure (.type "method_descriptor"))(J:yu X id r)(N:Rz T r g)(K:FE T X o f)(G:FA T X (e::es) fs)
  (c:ee o name X.env (Yb o X.env)=Yb o X.env:=by rfl)
  (i:((Vc cpos (qa (e::es) X.env)).all (λx=>!x.1) && (Zj cpos (mh [] X.env)).all (λx=>x.1.isSome)
   && decide ((e::es).length+([]:List Ek).length+(if ([]:List Ek).isEmpty then 0 else 1)<30))=true:=by rfl)
  (d:(apos.endLine == cpos.line)=true:=by rfl) (p:qa (e::es) X.env=(false,Yb e X.env)::qa es X.env:=by rfl) (b:(Vc cpos (qa es X.env)).any (·.1)=false:=by rfl) :
  FE T X (.Call (.Attribute o name apos) (e::es) [] cpos) (Sw g f fs):=by
 intro j s st H Q I h;refine yux P l q J K G c i d p b j s st H Q I ?_;obtain⟨W,ρ,σ,y,M,L⟩:=h;refine⟨W,ρ,σ,y,M,L.bind λx m t v Y _ D A z k=>?_⟩;unfold Ew at k;cases n:rh m x with
 |none=>rw[n]at k;exact k.elim
 |some xs=>
  rw[n]at k;obtain⟨a,U,rfl,F,Z⟩:=A.ls z n;refine⟨.inl ⟨rfl,U,Mf.of F⟩,t,ρ,m,y.mono D,A,k.bind λC w u V B _ E S O R=>?_⟩;exact N _ u B w x C (.ref a) V Q S (La.mono E _ _ z) O R
theorem bC:Rz T iK Mn:=by
 intro E l H σ x xs v d Q r p q h;cases x with
 |ref n=>
  match xs with
  |[]=>exact h.elim
  |[y]=>
   obtain⟨w,z,rfl,m,i⟩:=q;rw[Db]at i;subst i;unfold Mn at h;cases b:bi σ n with
   |none=>simp only[b]at h;exact h.elim
   |some k=>
    simp only[b]at h;by_cases c:k.length<ai
    ·rw[ia c]at h;obtain⟨a,d,rfl,g,e,f⟩:=r.la p b;have j:=r.write (ob:=.la (k++[y])) g ⟨_,vh,by
      have ex:ie l H l (pc H a (.la (d++[w]))):=Nv (Fa g) e (λ_ z=>by cases z) (λ_ _ z=>by cases z);exact Db.append (Db.mono ex _ _ f) (Db.cons (La.mono ex _ _ m) Db.nil)⟩
     exact⟨a,d,w,rfl,rfl,e,by rw[<-f.length];exact EW c,h _ _ _ j.1 j.2 (by rw[La])⟩
    ·rw[ka c]at h;exact h.elim
  |_::_::_=>exact h.elim
 |_=>exact h.elim
end
inductive BT where
 |int|bool|str|tuple|list|dict
noncomputable def BT.nm:BT->String
 | .int=>"int" | .bool=>"bool" | .str=>"str" | .tuple=>"tuple" | .list=>"list" | .dict=>"dict"
noncomputable def EG(σ:Ta)(c:BT):D->Option Bool
 | .wc=>some false
 | .bl _=>some (match c with | .int=>true | .bool=>true|_=>false)
 | .int _=>some (match c with | .int=>true|_=>false)
 | .str _=>some (match c with | .str=>true|_=>false)
 | .Ka _=>some (match c with | .tuple=>true|_=>false)
 | .Fh _=>none
 | .la _=>some (match c with | .list=>true|_=>false)
 | .yc _ _=>some (match c with | .dict=>true|_=>false)
 | .obj _ _ _=>none
 | .Dt _=>none
 | .gt _=>none
 | .ref n=>match σ[n]? with
  |some (.la _)=>some (match c with | .list=>true|_=>false)
  |some (.yc _)=>some (match c with | .dict=>true|_=>false)
  |_=>none
def Nq(c:BT)(x:D):M D:=λa=>match EG a c x with
 |some b=>.ok (.bl b) a
 |none=>.Pb
section
variable{T:Tb}{X:Cx}
def VR(K:W.Frag)(H:Hp)(x:V)(t:Value):Prop:=Vl K H x t\/∃ a b,x=.ref a/\Rd H a (.dK b)/\t=.type "dict"
def Ĕ(K:W.Frag)(c:String):List V->Hp->VK->Prop:=λxs H Q=>∃ x t b,xs=[x,.ty c]/\VR K H x t/\W.kitOne K t (.type c)=some b/\Q (.bl b) H
theorem zqn(c:String):zm X (.builtin "isinstance") (Ĕ X.K c):=by
 intro f s st H xs v Q I r h;obtain⟨x,t,b,rfl,ty,e,q⟩:=h;obtain⟨u,u2,rfl,g,d⟩:=PM r;cases d;rcases ty with ty|⟨a,k,rfl,rd,rfl⟩
 ·exact Ŏ I g ty e λl=>⟨.bl b,H,I.tok _,rfl,q⟩
 ·cases (g);obtain⟨_,_,w,_,p⟩:=(rd.ok I.zd)
  obtain⟨o,n,m,i,j,_⟩:=p;exact W.kia_one W.kitx_dict I.sk ⟨o,i,j.1⟩ e (λz=>nomatch z) λl=>⟨.bl b,H,I.tok _,rfl,q⟩
theorem t6(r:Sd T l H σ)(p:La T l H x v)(h:EG σ c x=some b):∃ t,VR X.K H v t/\W.kitOne X.K t (.type c.nm)=some b:=by
 cases x with
 |wc=>rw[La]at p;subst p;refine⟨_,.inl (.wc),?_⟩;cases c<;>cases h<;>rfl
 |bl i=>rw[La]at p;subst p;refine⟨_,.inl (.bl i),?_⟩;cases c<;>cases h<;>rfl
 |int i=>rw[La]at p;subst p;refine⟨_,.inl (.int i),?_⟩;cases c<;>cases h<;>rfl
 |str i=>rw[La]at p;subst p;refine⟨_,.inl (.str i),?_⟩;cases c<;>cases h<;>rfl
 |Ka ds=>rw[La]at p;obtain⟨q,f,rfl,d,_⟩:=p;refine⟨_,.inl (.Ka d),?_⟩;cases c<;>cases h<;>rfl
 |Fh ns=>cases h
 |la ds=>rw[La]at p;obtain⟨q,f,rfl,_,d,_⟩:=p;refine⟨_,.inl (.la d),?_⟩;cases c<;>cases h<;>rfl
 |yc ks ds=>rw[La]at p;obtain⟨q,f,rfl,_,d,_⟩:=p;refine⟨_,.inr ⟨q,_,rfl,d,rfl⟩,?_⟩;cases c<;>cases h<;>rfl
 |obj j ks ds=>cases h
 |Dt j=>cases h
 |gt ss=>cases h
 |ref n=>
  unfold EG at h;dsimp only at h;cases e:σ[n]? with
  |none=>rw[e]at h;cases h
  |some o=>
   rw[e]at h;obtain⟨a,rfl,_,k⟩:=r.at p e;cases o with
   |la xs=>obtain⟨f,g,_⟩:=k;refine⟨_,.inl (.la g),?_⟩;cases c<;>cases h<;>rfl
   |yc xs=>obtain⟨f,g,_⟩:=k;refine⟨_,.inl (.dK g),?_⟩;cases c<;>cases h<;>rfl
   |Jd j m=>cases h
   |Sf xs=>cases h
   |vl _=>cases h
theorem sw(c:BT)(C:FE T X e f)(E:Gl X "isinstance")(F:X.mg "isinstance" = none)(m:Gl X a)(n:X.mg a=none)(r:bootBuiltins a=some (.type c.nm))(o:a ≠ "__name__":=by decide)(l:(a == ("__debug__" : Str))=false:=by decide)
  (w:qa [e,.Name a j] X.env=(false,Yb e X.env)::qa [.Name a j] X.env:=by rfl) (q:(Vc g (qa [.Name a j] X.env)).any (·.1)=false:=by rfl) :
  FE T X (.Call (.Name "isinstance" p) [e,.Name a j] [] g) (Cd (Nq c) f):=by
 intro d s st H Q I h;refine uJ (zqn c.nm) E F boot_isinstance (Wt C (Wt (C0 m n r (v:=.ty c.nm) rfl o l) iw) w) (by decide) (by decide) w q d s st H Q I ?_;obtain⟨L,ρ,σ,B,J,G⟩:=h;refine⟨L,ρ,σ,B,J,G.bind λx u N v O _ P y K i=>?_⟩;unfold Nq at i;cases k:EG u c x with
 |none=>rw[k]at i;exact i.elim
 |some b=>
  rw[k]at i;obtain⟨t,z,A⟩:=t6 y K k;exact⟨v,t,b,rfl,z,A,gc.here i y (by rw[La])⟩
end
def Pf:Ev->M Fl:=λa=>ret (.nx a)
noncomputable def OE(h:Ev->M Fl):Fl->M Fl
 | .nx a=>h a
 | .rt d=>ret (.rt d)
 | .bk a=>ret (.bk a)
 | .ct a=>ret (.ct a)
 | .xc a x=>ret (.xc a x)
def Cb(g h:Ev->M Fl):Ev->M Fl:=λa=>Fd (g a) (OE h)
noncomputable def PK:D->M Fl:=λd=>ret (.rt d)
def gd(f:Ev->M D):Ev->M Fl:=λa=>xs a (f a) PK
noncomputable def YI(ρ:Ev):D->M Fl:=λ_=>ret (.nx ρ)
def nu(f:Ev->M D):Ev->M Fl:=λa=>xs a (f a) (YI a)
noncomputable def yE(i:Nat)(a:Ev):D->M Fl:=λd=>ret (.nx (a.set i (some d)))
def Ue(i:Nat)(f:Ev->M D):Ev->M Fl:=λa=>xs a (f a) (yE i a)
def Bf(t:Ev->M Bool)(a b:Ev->M Fl):Ev->M Fl:=λc=>xs c (t c) (ql (a c) (b c))
section
variable{T:Tb}{X:Cx}{st':Stmt}{rest:List Stmt}{g h:Ev->M Fl}{e:Ma}{f:Ev->M D}{pos:Ce}
theorem Xf:Pl T X [] Pf:=by
 intro a s st H D I e;obtain⟨f,h,i,b,d,c⟩:=e;exact bT a s st H D I (gc.here (g:=zr.nx st) c d b)
theorem ý{f:List Addr}{D:Wk}(r:Sd T f H σ)(q:wm T f H b a)(k:Fl->M Fl)
  (g:∀ ρ,b=.nx ρ->∀ st,a=.nx st->Th T f H ρ st->N st H) (e:(∀ ρ,b≠.nx ρ)->gc T EN (wm T) f H (.ok b σ) (Tl X D)):Tl X { D with nx:=N } a H:=by
 cases b with
 |nx ρ=>cases a with
  |nx st=>exact g ρ rfl st rfl q
  |_=>exact q.elim
 |rt d=>cases a with
  |rt v=>have z:=gc.here (e λ_ z=>by cases z) r q;exact z
  |_=>exact q.elim
 |bk ρ=>cases a with
  |bk v=>have z:=gc.here (e λ_ z=>by cases z) r q;exact z
  |_=>exact q.elim
 |ct ρ=>cases a with
  |ct v=>have z:=gc.here (e λ_ z=>by cases z) r q;exact z
  |_=>exact q.elim
 |xc ρ x=>cases a with
  |xc v c fd=>have z:=gc.here (e λ_ z=>by cases z) r q;exact z
  |_=>exact q.elim
theorem ic(k:FS T X st' g)(l:Pl T X rest h):Pl T X (st'::rest) (Cb g h):=by
 intro b s st H D I r;refine aQ k l b s st H D I ?_;obtain⟨v,ρ,σ,m,q,p⟩:=r;refine⟨v,ρ,σ,m,q,p.bind λj d c z w _ x f t e=>?_⟩;refine ý f t (λ_=>Pb) (λa i u y n=>?_) (λo=>?_)
 ·subst i;exact⟨c,a,d,n,f,e⟩
 ·cases j with
  |nx a=>exact(o a rfl).elim
  |_=>exact e
theorem Sh(a:FS T X st' g):Pl T X [st'] g:=L6 a
theorem ykf(c:FE T X e f):FS T X (.Return (some e) pos) (gd f):=by
 intro a s st H D I j;refine QY c a s st H D I ?_;obtain⟨n,ρ,σ,b,i,h⟩:=j;exact⟨n,ρ,σ,b,i,h.xs b λd p o v q _ r m l k=>gc.here (g:=zr.rt v) k m l⟩
theorem mv(h:FE T X e f)(k:Qi e none pos.line X.env=pure false:=by rfl):FS T X (.Expr e pos) (nu f):=by
 intro a s st H D I l;refine W5 h k a s st H D I ?_;obtain⟨o,ρ,σ,b,j,i⟩:=l;exact⟨o,ρ,σ,b,j,i.xs b λd q p v r _ c n t m=>gc.here (g:=zr.nx st) m n (b.mono c)⟩
theorem zN(j:X.N.Nodup)(m:X.N[i]?=some x)(r:Loc X.env.scope x)(k:FE T X e f)(p:Qi e (some (.Name x a)) pos.line X.env=pure false:=by rfl)(l:X.fn x=true\/X.env.scope.names.lookup x=some .local:=by first|exact .inl rfl|exact .inr rfl|assumption) :
  FS T X (.Assign [.Name x a] e pos) (Ue i f):=by
 intro b s st H D I q;refine B9 j m r k p l b s st H D I ?_;obtain⟨y,ρ,σ,c,o,n⟩:=q;exact⟨y,ρ,σ,c,o,n.xs c λd A z v B _ h w u t=>gc.here (g:=zr.nx (st.set i (some v))) t w ((c.mono h).set i u)⟩
theorem Hf(p:FT T X c m)(n:Pl T X a j)(o:Pl T X b k):FS T X (.If c a b pos) (Bf m j k):=by
 intro e s st H D I t;refine cQ p n o e s st H D I ?_;obtain⟨w,ρ,σ,h,r,q⟩:=t;refine⟨w,ρ,σ,h,r,q.xs h λc g f v x _ i l u d=>?_⟩;cases u;cases c with
 |true=>unfold ql at d;rw[ia rfl]at d ⊢;exact⟨f,ρ,g,h.mono i,l,d⟩
 |false=>unfold ql at d;rw[ka ub]at d ⊢;exact⟨f,ρ,g,h.mono i,l,d⟩
def gD(T:Tb)(e:D->Ev->Option Ev):TG:=λv st H Q=>∃ b f c d a,Th T b H c st/\Sd T b H f/\La T b H d v/\e d c=some a/\∀ st',Th T b H a st'->Q st' H
def Î(T:Tb)(e:List D->Ev->Option Ev):ky:=λf st H Q=>∃ b g d c a,Th T b H d st/\Sd T b H g/\Db T b H c f/\e c d=some a/\∀ st',Th T b H a st'->Q st' H
abbrev FG(T:Tb)(X:Cx)(t:Ma)(a:D->Ev->Option Ev):Prop:=PG X t (gD T a)
abbrev CG(T:Tb)(X:Cx)(b:List Ma)(a:List D->Ev->Option Ev):Prop:=JE X b (Î T a)
def je(i:Nat):D->Ev->Option Ev:=λd a=>some (a.set i (some d))
def Jp:List D->Ev->Option Ev
 |[],ρ=>some ρ
 |_::_,_=>none
def Bi(t:D->Ev->Option Ev)(u:List D->Ev->Option Ev):List D->Ev->Option Ev
 |[],_=>none
 |d::ds,ρ=>(t d ρ).bind λa=>u ds a
def Wo(n:Nat)(t:List D->Ev->Option Ev):D->Ev->Option Ev
 | .Ka ds,ρ=>if ds.length=n then t ds ρ else none
 |_,_=>none
theorem SB(c:X.N.Nodup)(g:X.N[i]?=some x)(l:Loc X.env.scope x)(f:X.fn x=true\/X.env.scope.names.lookup x=some .local:=by first|exact .inl rfl|exact .inr rfl|assumption):FG T X (.Name x pos) (je i):=by
 intro a s st H v u Q I r h;obtain⟨o,q,p,d,m,b,n,e,k,j⟩:=h;cases k;exact MZ c g l f a s st H v u Q I r (j _ (b.set i e))
theorem tw:CG T X [] Jp:=by
 intro a s st H l i Q I r h;obtain⟨m,o,n,b,j,f,k,c,e,g⟩:=h;cases b with
 |nil=>cases e;rw[Db]at c;subst c;exact yd2 a s st H [] i Q I r ⟨rfl,g _ f⟩
 |cons d b=>cases e
theorem jp(x:FG T X e t)(y:CG T X c u)
  (C:(Te (e::c) X.env).map (·.2)=mm e X.env::(Te c X.env).map (·.2):=by rfl):CG T X (e::c) (Bi t u):=by
 intro a s st H J F Q I r h;obtain⟨n,o,G,f,k,z,l,A,m,B⟩:=h;cases f with
 |nil=>cases m
 |cons d f=>
  obtain⟨v,w,rfl,i,j⟩:=A;obtain⟨b,p,q⟩:=Oi.mp m;refine w6 x y C a s st H (v::w) F Q I r ⟨v,w,rfl,n,o,G,d,b,z,l,i,p,λE g=>?_⟩;exact⟨n,o,b,f,k,g,l,j,q,B⟩
theorem kw(m:X.Da=true)(h:CG T X c t)
  (q:(Te c X.env).length=n:=by rfl) (f:(Te c X.env).findIdx? (·.1)=none:=by rfl):FG T X (.Tuple c k pos) (Wo n t):=by
 intro b s st H v u Q I r y;obtain⟨A,σ,ρ,d,g,l,x,o,a,w⟩:=y;cases d with
 |Ka ds=>
  obtain⟨p,z,rfl,j,i⟩:=o;unfold Wo at a;dsimp only at a;by_cases e:ds.length=n
  ·rw[ia e]at a;exact J0 m h q f b s st H (.ref p) u Q I r ⟨p,z,rfl,ii.of j,by rw[<-i.length];exact e,A,σ,ρ,ds,g,l,x,i,a,w⟩
  ·rw[ka e]at a;cases a
 |_=>cases a
noncomputable def EE(b:D->Ev->Option Ev)(c:Ev)(d:D):M Fl:=match b d c with
 |some a=>ret (.nx a)
 |none=>Pb
def IC(f:Ev->M D)(b:D->Ev->Option Ev):Ev->M Fl:=λa=>xs a (f a) (EE b a)
theorem rK(r:FE T X e f)(u:FG T X a t)(z:Qn [a] e pos.line X.env=pure false:=by rfl)(A:Rn [a] e X.env=pure none:=by rfl)
  (q:(Te [a] X.env).map (·.2)=[mm a X.env]:=by rfl):FS T X (.Assign [a] e pos) (IC f t):=by
 intro c s st H D I x;refine IL r u z A q c s st H D I ?_;obtain⟨C,ρ,σ,h,y,w⟩:=x;refine⟨C,ρ,σ,h,y,w.xs h λd n l v E _ p o B b=>?_⟩;unfold EE at b;cases j:t d ρ with
 |none=>simp only[j]at b;exact b.elim
 |some m=>simp only[j]at b;exact⟨l,n,ρ,d,m,h.mono p,o,B,j,λk i=>gc.here (g:=zr.nx k) b o i⟩
def iB(x i d:D):M Unit:=λσ=>match x,i with
 | .ref n,.int k=>(match bi σ n with
  |some xs=>(match xt xs.length k with
   |some j=>.ok () (σ.set n (.la (xs.set j d)))
   |none=>.Pb)
  |none=>.Pb)
 |_,_=>.Pb
def aA(ρ:Ev)(d x i:D):M Fl:=λσ=>match iB x i d σ with
 | .ok _ a=>.ok (.nx ρ) a
 |_=>.Pb
def mJ(a:Ev)(fi:Ev->M D)(d x:D):M Fl:=xs a (fi a) (aA a d x)
def QJ(a:Ev)(b fi:Ev->M D)(d:D):M Fl:=xs a (b a) (mJ a fi d)
def cB(f b fi:Ev->M D):Ev->M Fl:=λa=>xs a (f a) (QJ a b fi)
theorem AI{K fi:Ev->M D}(S:FE T X e f)(V:FE T X o K)(U:FE T X i fi)
  (Q:∀ v,mm (.Subscript o i b) X.env v=(do
   let r <-Jg [v] (Yb o X.env);let y <-Jg [v,r] (Yb i X.env)
   Dk b
   Jg [v,r,y] (cw r y v)
   release [v,r,y] []):=by intro _;rfl)
  (hs:Qn [.Subscript o i b] e pos.line X.env=pure false:=by rfl) (hw:Rn [.Subscript o i b] e X.env=pure none:=by rfl)
  (q:(Te [.Subscript o i b] X.env).map (·.2)=[mm (.Subscript o i b) X.env]:=by rfl):FS T X (.Assign [.Subscript o i b] e pos) (cB f K fi):=by
 intro l s st H D I Y;refine IL S (VT V U L3 Q) hs hw q l s st H D I ?_;obtain⟨μ,ρ,σ,g,Z,W⟩:=Y;refine⟨μ,ρ,σ,g,Z,W.xs g λd E B v H1 _ h r1 q1 p1=>?_⟩;refine⟨B,ρ,E,g.mono h,r1,p1.xs (g.mono h) λx F C vo H2 _ p r2 q2 p2=>?_⟩;refine⟨C,ρ,F,(g.mono h).mono p,r2,p2.xs ((g.mono h).mono p) λk G m vi J _ t O q3 c=>?_⟩;have R:=La.mono t _ _ (La.mono p _ _ q1);have hx:=La.mono t _ _ q2;unfold aA iB at c;cases x with
 |ref n=>
  cases k with
  |int k=>
   dsimp only at c;cases w:bi G n with
   |none=>rw[w]at c;exact c.elim
   |some xs=>
    rw[w]at c;dsimp only at c;cases u:xt xs.length k with
    |none=>rw[u]at c;exact c.elim
    |some j=>
     rw[u]at c;obtain⟨a,P,rfl,N,q,L⟩:=O.la hx w;have A:=O.write (ob:=.la (xs.set j d)) N ⟨_,vh,by
      have ex:ie m J m (pc J a (.la (P.set j v))):=Nv (Fa N) q (λ_ z=>by cases z) (λ_ _ z=>by cases z);exact Db.set (La.mono ex _ _ R) j (Db.mono ex _ _ L)⟩
     exact⟨a,P,k,j,rfl,Mp q3,q,by rw[<-L.length];exact u,c _ (.nx st) _ A.1 A.2 (((g.mono h).mono p).mono t |>.mono A.1)⟩
  |_=>exact c.elim
 |_=>exact c.elim
end
inductive Em where
 |seq (ds:List D)
 |gu (n:Nat)
def Em.nx:Em->Nat->Ta->Option (Option D)
 | .seq ds,i,_=>some ds[i]?
 | .gu n,i,σ=>(bi σ n).map λxs=>xs[i]?
def wG(T:Tb)(c:List Addr)(g:Hp)(a:Em)(J:It):Prop:=∀ b H f i,ie c g b H->Sd T b H f->match a.nx i f with
 |none=>True
 |some none=>J.stop i H
 |some (some d)=>J.go i H/\∀ x e,J.DA i H x e->e=H/\La T b H d x
def tI(T:Tb)(X:Cx)(f:Ev->M Em):TI:=λst H R=>∃ a b c,Th T a H b st/\Sd T a H c/\gc T (XE X st) (wG T) a H (f b c) R
abbrev FI(T:Tb)(X:Cx)(b a:Ma)(f:Ev->M Em):Prop:=PI X b a (tI T X f)
noncomputable def Fg(n:Nat):List D:=(List.range n).map λ(i:Nat)=>D.int (i:Int)
def yB(a:Int)(n:Nat):List D:=(List.range n).map λ(i:Nat)=>D.int (a+(i:Int))
def EA(d:D):M Em:=λσ=>match d with
 | .Ka ds=>.ok (.seq ds) σ
 | .la ds=>.ok (.seq ds) σ
 | .Fh ns=>.ok (.seq (ns.map D.int)) σ
 | .ref n=>(match bi σ n with
  |some _=>.ok (.gu n) σ
  |none=>.Pb)
 |_=>.Pb
def gi(f:Ev->M D):Ev->M Em:=λa=>Fd (f a) EA
def gw(j:Int):Bool:=Ab (decide (-(2 ^ 62)<=j) && decide (j<2 ^ 62))
def Fz(d:D):M Em:=λσ=>match d with
 | .int j=>if gw j=true then .ok (.seq (Fg j.toNat)) σ else .Pb
 |_=>.Pb
def Pu(f:Ev->M D):Ev->M Em:=λa=>Fd (f a) Fz
def TD(a b:D):M Em:=λσ=>match a,b with
 | .int i,.int j=>if (gw i && gw j)=true then .ok (.seq (yB i (j - i).toNat)) σ else .Pb
 |_,_=>.Pb
def PJ(m:M D)(a:D):M Em:=Fd m (TD a)
def KF(f g:Ev->M D):Ev->M Em:=λa=>Fd (f a) (PJ (g a))
section
variable{T:Tb}{X:Cx}{tg iter:Ma}{f:Ev->M D}
def w5(K:W.Frag)(c:TE):TI:=λd H R=>c d H λx b=>∃ a,x=.ref a/\(((∃ xs,Mf K b a xs)/\R (oM K a) b)\/((∃ xs,ii K b a xs)/\R (LK K a) b))
theorem e8(k:PE X l j):PI X tg l (w5 X.K j):=by
 intro d s t H R I h;refine pe (k d s t H _ I h) λv s1 zz=>?_;obtain⟨x,H1,c,n,i⟩:=zz;obtain⟨a,e,i⟩:=i;subst e;cases n;rcases i with⟨⟨xs,g⟩,q⟩|⟨⟨xs,g⟩,q⟩
 ·obtain⟨its,r,p,m⟩:=c.list g;refine Ap p.isList ?_;refine⟨s1.heap.objs.size,[s1.heap.objs.size],_,_,H1,rfl,c.kept λb o e=>na _ e,J7 a _,⟨_,qb _ rfl,rfl,rfl⟩,λb f=>?_,q⟩;have e:b=s1.heap.objs.size:=by simpa using f
  subst e;exact c.Zq (ya _) (c.zd.fresh (ya _))
 ·obtain⟨its,r,p,m⟩:=c.tuple g;refine sA (p) ?_;refine⟨s1.heap.objs.size,[s1.heap.objs.size],_,_,H1,rfl,c.kept λb o e=>na _ e,r8 a _,⟨_,qb _ rfl,rfl,rfl⟩,λb f=>?_,q⟩;have e:b=s1.heap.objs.size:=by simpa using f
  subst e;exact c.Zq (ya _) (c.zd.fresh (ya _))
theorem YQ{K:W.Frag}(h:∀ b f,ie j n b f->∃ c,Mf K f a c/\Db T b f k c):wG T j n (.seq k) (oM K a):=by
 intro b f p i ex r;obtain⟨c,l,o⟩:=h b f ex;show match some k[i]? with|none=>True|some none=>_|some (some d)=>_
 cases e:k[i]? with
 |none=>exact⟨c,l,by rw[<-o.length];exact qc.mp e⟩
 |some d=>
  obtain⟨v,g,m⟩:=o.get e;refine⟨⟨c,v,l,g⟩,λx q y=>?_⟩;obtain⟨rfl,y⟩:=y;have:=y c l;rw[g]at this;cases this;exact⟨rfl,m⟩
theorem f8{K:W.Frag}(h:∀ b f,ie j n b f->∃ c,ii K f a c/\Db T b f k c):wG T j n (.seq k) (LK K a):=by
 intro b f p i ex r;obtain⟨c,l,o⟩:=h b f ex;show match some k[i]? with|none=>True|some none=>_|some (some d)=>_
 cases e:k[i]? with
 |none=>exact⟨c,l,by rw[<-o.length];exact qc.mp e⟩
 |some d=>
  obtain⟨v,g,m⟩:=o.get e;refine⟨⟨c,v,l,g⟩,λx q y=>?_⟩;obtain⟨rfl,y⟩:=y;have:=y c l;rw[g]at this;cases this;exact⟨rfl,m⟩
theorem xm(O:T.K=X.K)(h:FE T X iter f):FI T X tg iter (gi f):=by
 intro t s st H R I U;refine e8 h t s st H R I ?_;obtain⟨Y,ρ,σ,N,S,Q⟩:=U;refine⟨Y,ρ,σ,N,S,Q.bind λd D C v G _ e1 w u c=>?_⟩;cases d with
 |Ka ds=>
  obtain⟨p,l,rfl,j,m⟩:=u;exact⟨p,rfl,.inr ⟨⟨l,ii.of j⟩,gc.here c w (f8 λb g ex=>⟨l,ii.of (ex.Ka _ _ j),Db.mono ex _ _ m⟩)⟩⟩
 |la ds=>
  obtain⟨p,l,rfl,P,j,m⟩:=u;exact⟨p,rfl,.inl ⟨⟨l,Mf.of j⟩,gc.here c w (YQ λb g ex=>⟨l,Mf.of (ex.dj _ _ j P).1,Db.mono ex _ _ m⟩)⟩⟩
 |Fh ns=>
  obtain⟨p,rfl,j⟩:=u;have q:∀ b g,ie C G b g->Mf X.K g p (ns.map V.int):=λb g ex=>by
   have m:La T b g (.Fh ns) (.ref p):=La.mono ex _ _ (by rw[La];exact⟨p,rfl,j⟩);obtain⟨p',J,o⟩:=m;cases J;rw[<-O];exact o.seq
  exact⟨p,rfl,.inl ⟨⟨_,q _ _ (ie.refl _ _)⟩,gc.here c w (YQ λb g ex=>⟨_,q b g ex,rB ns⟩)⟩⟩
 |ref n=>
  unfold EA at c;dsimp only at c;cases k:bi D n with
  |none=>rw[k]at c;exact c.elim
  |some xs=>
   rw[k]at c;obtain⟨a,l,rfl,_,j,m⟩:=w.la u k;refine⟨a,rfl,.inl ⟨⟨l,Mf.of j⟩,gc.here c w λb g z i ex W=>?_⟩⟩;show match (bi z n).map (λxs=>xs[i]?)with|none=>True|some none=>_|some (some d)=>_
   cases M:bi z n with
   |none=>trivial
   |some F=>
    obtain⟨a',B,L,_,o,E⟩:=W.la (La.mono ex _ _ u) M;cases L;show match some (F[i]?)with|none=>True|some none=>_|some (some d)=>_
    cases e:F[i]? with
    |none=>exact⟨B,Mf.of o,by rw[<-E.length];exact qc.mp e⟩
    |some d=>
     obtain⟨v,r,A⟩:=E.get e;refine⟨⟨B,v,Mf.of o,r⟩,λx Z y=>?_⟩;obtain⟨rfl,y⟩:=y;have:=y B (Mf.of o);rw[r]at this;cases this;exact⟨rfl,A⟩
 |_=>exact c.elim
theorem jZ(h:i<n):(Fg n)[i]?=some (.int i):=by simp[Fg,h]
theorem rZ(n:Nat):(Fg n).length=n:=by simp[Fg]
theorem þ(h:i<n):(yB a n)[i]?=some (.int (a+i)):=by simp[yB,h]
theorem Ż(a:Int)(n:Nat):(yB a n).length=n:=by simp[yB]
theorem XH(h:Gl X "range")(o:X.mg "range" = none)(n:FE T X a f)(e:qa [a] X.env=[(false,Yb a X.env)]:=by rfl):FI T X tg (.Call (.Name "range" p) [a] [] l) (Pu f):=by
 intro g s st H R I t;refine U9 h o (Wt n iw e) e g s st H R I ?_;obtain⟨z,ρ,σ,m,r,q⟩:=t;refine⟨z,ρ,σ,m,r,q.bind λd C A v F _ J w u b=>?_⟩;cases d with
 |int j=>
  subst u;unfold Fz at b;dsimp only at b;by_cases c:gw j=true
  ·rw[ia c]at b;simp only[gw,Rr,Ca,jc]at c;refine⟨j,rfl,c.1,c.2,gc.here b w λB G D i ex K=>?_⟩;show match some (Fg j.toNat)[i]? with|none=>True|some none=>_|some (some d)=>_
   by_cases k:i<j.toNat
   ·rw[jZ k];refine⟨k,λx E y=>?_⟩;obtain⟨rfl,rfl⟩:=y;exact⟨rfl,by rw[La,Int.zero_add]⟩
   ·rw[qc.mpr (by rw[rZ];omega)];exact Xv.mp k
  ·rw[ka c]at b;exact b.elim
 |_=>exact b.elim
theorem ť(n:Gl X "range")(C:X.mg "range" = none)(A:FE T X a f)(B:FE T X b g)(l:qa [a,b] X.env=[(false,Yb a X.env),(false,Yb b X.env)]:=by rfl)(c:qa [b] X.env=[(false,Yb b X.env)]:=by rfl) :
  FI T X tg (.Call (.Name "range" p) [a,b] [] q) (KF f g):=by
 intro m s st H R I G;refine Ù n C (Wt A (Wt B iw c) (by rw[l,c])) l c m s st H R I ?_;obtain⟨P,ρ,σ,u,F,E⟩:=G;refine⟨P,ρ,σ,u,F,E.bind λd t r v Y _ z N K J=>⟨r,ρ,t,u.mono z,N,J.bind λw U Q v2 Z _ e2 O L e=>?_⟩⟩;cases d with
 |int i=>
  cases w with
  |int j=>
   subst K;subst L;unfold TD at e;dsimp only at e;by_cases h:(gw i && gw j)=true
   ·rw[ia h]at e;simp only[gw,Rr,Ca,jc]at h;refine⟨i,j,rfl,⟨h.1.1,h.1.2,h.2.1,h.2.2⟩,gc.here e O λS H3 V k ex r3=>?_⟩;show match some (yB i (j - i).toNat)[k]? with|none=>True|some none=>_|some (some d)=>_
    by_cases o:k<(j - i).toNat
    ·rw[þ o];refine⟨o,λx W y=>?_⟩;obtain⟨rfl,rfl⟩:=y;exact⟨rfl,by rw[La]⟩
    ·rw[qc.mpr (by rw[Ż];omega)];exact Xv.mp o
   ·rw[ka h]at e;exact e.elim
  |_=>exact e.elim
 |_=>exact e.elim
end
noncomputable def xu(k:Ev->M Fl):Fl->M Fl
 | .nx a=>k a
 | .ct a=>k a
 | .bk a=>ret (.nx a)
 | .rt d=>ret (.rt d)
 | .xc b x=>ret (.xc b x)
def Cm(e:D->Ev->Option Ev)(a:Ev->M Fl):List D->Ev->M Fl
 |[],b=>ret (.nx b)
 |d::ds,b=>match e d b with
  |none=>Pb
  |some c=>Fd (a c) (xu (Cm e a ds))
def HA(c:D->Ev->Option Ev)(a:Ev->M Fl)(n:Nat):Nat->Nat->Ev->M Fl
 |0,_,_=>Pb
 |k+1,i,ρ=>λσ=>match bi σ n with
  |none=>.Pb
  |some xs=>match xs[i]? with
   |none=>.ok (.nx ρ) σ
   |some d=>match c d ρ with
    |none=>.Pb
    |some b=>Fd (a b) (xu (HA c a n k (i+1))) σ
def kM(b:D->Ev->Option Ev)(a:Ev->M Fl)(c:Ev):Em->M Fl
 | .seq ds=>Cm b a ds c
 | .gu n=>HA b a n 1001 0 c
def vt(b:Ev->M Em)(d:D->Ev->Option Ev)(a:Ev->M Fl):Ev->M Fl:=λc=>xs c (b c) (kM d a c)
section
variable{T:Tb}{X:Cx}
theorem WG{D:Wk}(l:Sd T d f h)(e:wm T d f j g)(i:gc T EN (wm T) d f (xu k j h) (Tl X D))
  (m:∀ b a,Th T d f b a->gc T EN (wm T) d f (k b h) (Tl X D)->N a f):Tl X { D with nx:=N,ct:=N,bk:=D.nx } g f:=by
 cases j with
 |nx b=>cases g with
  |nx a=>exact m b a e i
  |_=>exact e.elim
 |ct b=>cases g with
  |ct a=>exact m b a e i
  |_=>exact e.elim
 |bk b=>cases g with
  |bk a=>have z:Tl X D (zr.nx a) f:=gc.here i l e;exact z
  |_=>exact e.elim
 |rt o=>cases g with
  |rt v2=>have z:=gc.here i l e;exact z
  |_=>exact e.elim
 |xc b x=>cases g with
  |xc a c n=>have z:=gc.here i l e;exact z
  |_=>exact e.elim
variable{tgt iter:Ma}{body:List Stmt}{src:Ev->M Em}{t:D->Ev->Option Ev}{g:Ev->M Fl}{pos:Ce}
theorem Lu(U:Yj (model X.prog X.w) X.A X.env X.xe)(hc:X.Da=true)(hi:FI T X tgt iter src)(hg:FG T X tgt t)(hb:Pl T X body g)
  (hs:∀ x,xh iter X.env x=pure x:=by intro _;rfl):FS T X (.For tgt iter body [] pos) (vt src t g):=by
 intro P s st H D I hq;refine NO U hc hi hg hb hs P s st H D I ?_;obtain⟨e,ρ,σ,R,hr,U⟩:=hq;refine⟨e,ρ,σ,R,hr,U.xs R λsrc z k J N _ e1 r1 q1 p1=>?_⟩;cases src with
 |seq ds=>
  have G:gc T EN (wm T) k N (Cm t g ds ρ z) (Tl X D):=p1;refine⟨λi m o b=>m=ds.length - i/\∃ e ρ σ,ie k N e b/\Th T e b ρ o/\Sd T e b σ/\gc T EN (wm T) e b (Cm t g (ds.drop i) ρ σ) (Tl X D),⟨ds.length,by simp,k,ρ,z,ie.refl _ _,R.mono e1,r1,by simpa using G⟩,?_⟩;rintro i m o b ⟨rfl,f,r,j,ex,q,v,c⟩;have Z:=q1 f b j i ex v;have a:match (some ds[i]?)with|none=>True|some none=>J.stop i b|some (some d)=>J.go i b/\∀ x O,J.DA i b x O->O=b/\La T f b d x:=Z
  cases B:ds[i]? with
  |none=>
   rw[B]at a;rw[Yr (qc.mp B)]at c;exact .inl ⟨a,gc.here (g:=zr.nx o) c v q⟩
  |some d=>
   rw[B]at a;obtain⟨hl,ed⟩:=ja.mp B;have hd:ds.drop i=d::ds.drop (i+1):=by rw[<-ed];exact(rg hl)
   rw[hd]at c;unfold Cm at c;refine .inr ⟨a.1,λp l=>∃ e ρ σ,ie k N e l/\Th T e l ρ p/\Sd T e l σ/\gc T EN (wm T) e l (Cm t g (ds.drop (i+1)) ρ σ) (Tl X D),λp l h=>⟨ds.length - (i+1),by omega,rfl,h⟩,λx l y=>?_⟩;obtain⟨rfl,V⟩:=a.2 x l y;cases F:t d r with
   |none=>rw[F]at c;exact c.elim
   |some u=>
    rw[F]at c;exact⟨f,j,r,d,u,q,v,V,F,λp C=>⟨f,u,j,C,v,c.bind λfl M K gl H4 _ S Q Y p4=>WG Q Y p4 λL a0 E W=>⟨K,L,M,ex.trans S,E,Q,W⟩⟩⟩
 |gu n=>
  have G:gc T EN (wm T) k N (HA t g n 1001 0 ρ z) (Tl X D):=p1;refine⟨λi m o b=>∃ e ρ σ,ie k N e b/\Th T e b ρ o/\Sd T e b σ/\gc T EN (wm T) e b (HA t g n m i ρ σ) (Tl X D),⟨1001,k,ρ,z,ie.refl _ _,R.mono e1,r1,G⟩,?_⟩;rintro i m o b ⟨f,r,j,ex,q,v,c⟩;cases m with
  |zero=>exact c.elim
  |succ m=>
   unfold HA at c;have Z:=q1 f b j i ex v;have a:match ((bi j n).map λxs=>xs[i]?)with|none=>True|some none=>J.stop i b|some (some d)=>J.go i b/\∀ x O,J.DA i b x O->O=b/\La T f b d x:=Z
   cases el:bi j n with
   |none=>simp only[el]at c;exact c.elim
   |some xs=>
    simp only[el]at c a;cases B:xs[i]? with
    |none=>
     simp only[B,On]at c a;exact .inl ⟨a,gc.here (g:=zr.nx o) c v q⟩
    |some d=>
     simp only[B,On]at c a;refine .inr ⟨a.1,λp l=>∃ e ρ σ,ie k N e l/\Th T e l ρ p/\Sd T e l σ/\gc T EN (wm T) e l (HA t g n m (i+1) ρ σ) (Tl X D),λp l h=>⟨m,pd _,h⟩,λx l y=>?_⟩;obtain⟨rfl,V⟩:=a.2 x l y;cases F:t d r with
     |none=>simp only[F]at c;exact c.elim
     |some u=>
      simp only[F]at c;exact⟨f,j,r,d,u,q,v,V,F,λp C=>⟨f,u,j,C,v,c.bind λfl M K gl H4 _ S Q Y p4=>WG Q Y p4 λL a0 E W=>⟨K,L,M,ex.trans S,E,Q,W⟩⟩⟩
end
mutual
def cl:D->Bool
 | .Ka xs=>fg xs
 | .la xs=>fg xs
 | .yc _ xs=>fg xs
 | .obj _ _ xs=>fg xs
 | .ref _=>false
 | .wc=>true
 | .bl _=>true
 | .int _=>true
 | .str _=>true
 | .Fh _=>true
 | .Dt _=>true
 | .gt _=>true
def fg:List D->Bool
 |[]=>true
 |d::ds=>cl d && fg ds
end
def Fn(f:D->Option D):List D->Option (List D)
 |[]=>some []
 |d::ds=>match f d,Fn f ds with
  |some x,some xs=>some (x::xs)
  |_,_=>none
def fz(k:Nat)(σ:Ta):Nat->D->Option D
 |0,d=>if cl d=true then some d else match d with
  | .ref n=>if n<k then some (.ref n)else none
  |_=>none
 |m+1,d=>if cl d=true then some d else match d with
  | .ref n=>if n<k then some (.ref n)else match σ[n]? with
   |some (.la xs)=>(Fn (fz k σ m) xs).map .la
   |some (.yc a)=>(Fn (fz k σ m) (a.map (·.2))).map (.yc (a.map (·.1)))
   |some (.Jd c b)=>(Fn (fz k σ m) (b.map (·.2))).map (.obj c (b.map (·.1)))
   |some (.Sf _)=>none
   |some (.vl _)=>none
   |none=>none
  | .Ka xs=>(Fn (fz k σ m) xs).map .Ka
  | .la xs=>(Fn (fz k σ m) xs).map .la
  | .yc ks xs=>(Fn (fz k σ m) xs).map (.yc ks)
  | .obj c ns xs=>(Fn (fz k σ m) xs).map (.obj c ns)
  |_=>none
open Classical in
def Uh(b:Ta):Hl D->Hl D
 | .ok d a=>if a.take b.length=b then (match fz b.length a 6 d with
  |some c=>.ok c b
  |none=>.Pb)else .Pb
 | .ex x a=>if a.take b.length=b then .ex x b else .Pb
 | .Pb=>.Pb
def vc(f:M D):M D:=λa=>Uh a (f a)
section
variable{T:Tb}{μ μ':List Addr}{H H':Hp}{σ σ':Ta}
mutual
theorem vM(e:∃ r,μ'=μ++r):∀ (d:D) (v:V),cl d=true->La T μ' H d v->La T μ H d v
 | .wc,v,_,h=>by simpa [La]using h
 | .bl b,v,_,h=>by simpa [La]using h
 | .int i,v,_,h=>by simpa [La]using h
 | .str x,v,_,h=>by simpa [La]using h
 | .Ka ds,v,c,h=>by
  rw[La]at h ⊢;obtain⟨p,l,f,g,j⟩:=h;exact⟨p,l,f,g,wE e ds l (by simpa [cl]using c) j⟩
 | .Fh ns,v,_,h=>by rw[La]at h ⊢;exact h
 | .ref n,v,c,h=>by simp[cl]at c
 | .la ds,v,c,h=>by
  rw[La]at h ⊢;obtain⟨a,l,f,g,j,m⟩:=h;exact⟨a,l,f,λz=>g (by obtain⟨r,rfl⟩:=e;exact ib _ z),j,wE e ds l (by simpa [cl]using c) m⟩
 | .yc ks ds,v,c,h=>by
  rw[La]at h ⊢;obtain⟨a,l,f,g,j,o,m⟩:=h;exact⟨a,l,f,λz=>g (by obtain⟨r,rfl⟩:=e;exact ib _ z),j,o,wE e ds _ (by simpa [cl]using c) m⟩
 | .obj k ns ds,v,c,h=>by
  rw[La]at h ⊢;obtain⟨a,u,l,f,g,j,o,m⟩:=h;exact⟨a,u,l,f,λz=>g (by obtain⟨r,rfl⟩:=e;exact ib _ z),j,o,wE e ds _ (by simpa [cl]using c) m⟩
 | .Dt k,v,_,h=>by
  rw[La]at h ⊢;obtain⟨a,t,f,g,j,m⟩:=h;exact⟨a,t,f,λz=>g (by obtain⟨r,rfl⟩:=e;exact ib _ z),j,λn q=>let ⟨s,w,y,A⟩:=m n q;⟨s,w,λz=>y (by obtain⟨r,rfl⟩:=e;exact ib _ z),A⟩⟩
 | .gt ss,v,_,h=>by rw[La]at h ⊢;exact h
theorem wE(e:∃ r,μ'=μ++r):∀ (a:List D) (b:List V),fg a=true->Db T μ' H a b->Db T μ H a b
 |[],b,_,h=>by simpa [Db]using h
 |d::a,b,c,h=>by
  rw[Db]at h ⊢;obtain⟨v,r,g,i,j⟩:=h;have f:cl d=true/\fg a=true:=by simpa [fg,Ca]using c
  exact⟨v,r,g,vM e d v f.1 i,wE e a r f.2 j⟩
end
mutual
theorem La.down(e:∃ r,μ'=μ++r):∀ (d:D) (v0 v:V),La T μ H d v0->La T μ' H' d v->La T μ H' d v
 | .wc,v0,v,_,h=>by simpa [La]using h
 | .bl b,v0,v,_,h=>by simpa [La]using h
 | .int i,v0,v,_,h=>by simpa [La]using h
 | .str x,v0,v,_,h=>by simpa [La]using h
 | .Ka ds,v0,v,c,h=>by
  rw[La]at h c ⊢;obtain⟨p,m,g,f,l⟩:=h;obtain⟨G,j,_,_,w⟩:=c;exact⟨p,m,g,f,Db.down e ds j m w l⟩
 | .Fh ns,v0,v,_,h=>by rw[La]at h ⊢;exact h
 | .ref n,v0,v,c,h=>by
  rw[La]at h c ⊢;obtain⟨a,g,f⟩:=h;obtain⟨b,_,u⟩:=c;refine⟨a,g,?_⟩;obtain⟨r,rfl⟩:=e;rw[Hb (ja.mp u).1]at f;exact f
 | .la ds,v0,v,c,h=>by
  rw[La]at h c ⊢;obtain⟨a,m,g,f,l,o⟩:=h;obtain⟨_,j,_,_,_,s⟩:=c;exact⟨a,m,g,λz=>f (by obtain⟨r,rfl⟩:=e;exact ib _ z),l,Db.down e ds j m s o⟩
 | .yc ks ds,v0,v,c,h=>by
  rw[La]at h c ⊢;obtain⟨a,m,g,f,l,t,o⟩:=h;obtain⟨_,j,_,_,_,_,s⟩:=c;exact⟨a,m,g,λz=>f (by obtain⟨r,rfl⟩:=e;exact ib _ z),l,t,Db.down e ds _ _ s o⟩
 | .obj k ns ds,v0,v,c,h=>by
  rw[La]at h c ⊢;obtain⟨a,B,m,g,f,l,t,o⟩:=h;obtain⟨_,_,j,_,_,_,_,s⟩:=c;exact⟨a,B,m,g,λz=>f (by obtain⟨r,rfl⟩:=e;exact ib _ z),l,t,Db.down e ds _ _ s o⟩
 | .Dt k,v0,v,_,h=>by
  rw[La]at h ⊢;obtain⟨a,A,g,f,l,o⟩:=h;exact⟨a,A,g,λz=>f (by obtain⟨r,rfl⟩:=e;exact ib _ z),l,λn q=>let ⟨y,C,E,F⟩:=o n q;⟨y,C,λz=>E (by obtain⟨r,rfl⟩:=e;exact ib _ z),F⟩⟩
 | .gt ss,v0,v,_,h=>by rw[La]at h ⊢;exact h
theorem Db.down(e:∃ r,μ'=μ++r):∀ (b:List D) (a f:List V),Db T μ H b a->Db T μ' H' b f->Db T μ H' b f
 |[],a,f,_,h=>by simpa [Db]using h
 |d::b,a,f,c,h=>by
  rw[Db]at h c ⊢;obtain⟨v,r,j,k,l⟩:=h;obtain⟨m,r0,_,g,i⟩:=c;exact⟨v,r,j,La.down e d m v g k,Db.down e b r0 r i l⟩
end
theorem CF{f:Type}(e:∃ r,μ'=μ++r):∀ {xs:List (f × D)} {g h:List (f × V)},Paired (λ(p:f × D) (q:f × V)=>p.1=q.1/\La T μ H p.2 q.2) xs h->Paired (λ(p:f × D) (q:f × V)=>p.1=q.1/\La T μ' H' p.2 q.2) xs g->Paired (λ(p:f × D) (q:f × V)=>p.1=q.1/\La T μ H' p.2 q.2) xs g
 |_,_,_,.nil,.nil=>.nil
 |_,_,_,.cons a b,.cons c d=>.cons ⟨c.1,La.down e _ _ _ a.2 c.2⟩ (CF e b d)
theorem fq.down(e:∃ r,μ'=μ++r):∀ {o:Ob},fq T μ H a o->fq T μ' H' a o->fq T μ H' a o
 | .la ds,⟨_,_,c⟩,⟨b,h,r⟩=>⟨b,h,Db.down e _ _ _ c r⟩
 | .yc f,⟨_,_,c⟩,⟨b,h,r⟩=>⟨b,h,CF e c r⟩
 | .Jd c i,⟨_,_,_,d⟩,⟨g,b,h,r⟩=>⟨g,b,h,CF e d r⟩
 | .Sf f,⟨_,_,_,d⟩,⟨ob,b,h,r⟩=>⟨ob,b,h,CF e d r⟩
 | .vl ks,_,⟨b,h,r⟩=>⟨b,h,r⟩
theorem Sd.down(r0:Sd T μ H σ)(r:Sd T μ' H' σ')(e:ie μ H μ' H')(m:σ'.take σ.length=σ):Sd T μ H' σ/\ie μ H μ H':=by
 refine⟨⟨r0.len,r0.nd,λn o h=>?_,r.tb.sub λb k=>by obtain⟨z,rfl⟩:=e.pre;exact ib _ k⟩,⟨⟨[],by simp⟩,e.Ka,e.vc,λp o h n=>⟨(e.keep p o h n).1,n⟩⟩⟩;obtain⟨a,d,g⟩:=r0.obs n o h;have f:σ'[n]?=some o:=by
  have l:=(ja.mp h).1;rw[<-m,Rq l]at h;exact h
 obtain⟨b,i,j⟩:=r.obs n o f;have c:=e.get d;rw[i]at c;cases c;exact⟨a,d,g.down e.pre j⟩
theorem TM{c:Type}:∀ {xs:List (c × D)} {d:List (c × V)},Paired (λ(p:c × D) (q:c × V)=>p.1=q.1/\La T μ H p.2 q.2) xs d->d.map (·.1)=xs.map (·.1)/\Db T μ H (xs.map (·.2)) (d.map (·.2))
 |_,_,.nil=>⟨rfl,Db.nil⟩
 |_,_,.cons a b=>by
  obtain⟨e,f⟩:=TM b;exact⟨by simp[e,a.1],Db.cons a.2 f⟩
theorem aT{f:D->Option D}(j:∀ d i v,f d=some i->La T μ' H d v->La T μ H i v):∀ (b a:List D) (e:List V),Fn f b=some a->Db T μ' H b e->Db T μ H a e
 |[],a,e,h,r=>by cases h;simpa [Db]using r
 |d::b,a,e,h,r=>by
  unfold Fn at h;cases c:f d with
  |none=>rw[c]at h;cases h
  |some x=>
   cases g:Fn f b with
   |none=>rw[c,g]at h;cases h
   |some xs=>
    rw[c,g]at h;cases h;obtain⟨v,w,rfl,k,l⟩:=r;exact Db.cons (j d x v c k) (aT j b xs w g l)
theorem WP(e:∃ r,μ'=μ++r)(r:Sd T μ' H σ'):∀ (m:Nat) (d B:D) (v:V),fz μ.length σ' m d=some B->La T μ' H d v->La T μ H B v:=by
 have G:∀ n v,n<μ.length->La T μ' H (.ref n) v->La T μ H (.ref n) v:=λn v s h=>by
  obtain⟨a,j,f⟩:=h;obtain⟨q,rfl⟩:=e;rw[Hb s]at f;exact⟨a,j,f⟩
 intro m;induction m with
 |zero=>
  intro d B v h l;unfold fz at h;by_cases x:cl d=true
  ·rw[ia x]at h;cases h;exact vM e _ _ x l
  ·rw[ka x]at h;cases d with
   |ref n=>
    dsimp only at h;by_cases s:n<μ.length
    ·rw[ia s]at h;cases h;exact G n v s l
    ·rw[ka s]at h;cases h
   |_=>cases h
 |succ m R=>
  intro d B v h l;unfold fz at h;by_cases x:cl d=true
  ·rw[ia x]at h;cases h;exact vM e _ _ x l
  ·rw[ka x]at h;have go:=aT (λd B v a b=>R d B v a b);cases d with
   |ref n=>
    dsimp only at h;by_cases s:n<μ.length
    ·rw[ia s]at h;cases h;exact G n v s l
    ·rw[ka s]at h;cases K:σ'[n]? with
     |none=>rw[K]at h;cases h
     |some o=>
      rw[K]at h;obtain⟨a,rfl,P,y⟩:=r.at l K;have A:a ∉ μ:=λz=>by
       obtain⟨i,O⟩:=Pt z;obtain⟨q,rfl⟩:=e;have Q:=(ja.mp O).1;have:=qN r.nd (by rw[Hb Q];exact O) P;omega
      cases o with
      |la xs=>
       obtain⟨k,j,f⟩:=Eb.mp h;subst f;obtain⟨g,E,F⟩:=y;exact⟨a,g,rfl,A,E,go xs k g j F⟩
      |yc N=>
       obtain⟨k,j,f⟩:=Eb.mp h;subst f;obtain⟨g,E,F⟩:=y;obtain⟨L,M⟩:=TM F;exact⟨a,g,rfl,A,(.inl E),L,go _ k _ j M⟩
      |Jd c S=>
       obtain⟨k,j,f⟩:=Eb.mp h;subst f;obtain⟨I,g,E,F⟩:=y;obtain⟨L,M⟩:=TM F;exact⟨a,I,g,rfl,A,E,L,go _ k _ j M⟩
      |Sf N=>cases h
      |vl _=>cases h
   |Ka xs=>
    obtain⟨k,j,f⟩:=Eb.mp h;subst f;obtain⟨p,g,t,u,w⟩:=l;exact⟨p,g,t,u,go xs k g j w⟩
   |la xs=>
    obtain⟨k,j,f⟩:=Eb.mp h;subst f;obtain⟨p,g,t,C,u,w⟩:=l;exact⟨p,g,t,λz=>C (by obtain⟨r,rfl⟩:=e;exact ib _ z),u,go xs k g j w⟩
   |yc ks xs=>
    obtain⟨k,j,f⟩:=Eb.mp h;subst f;obtain⟨p,g,t,C,u,J,w⟩:=l;exact⟨p,g,t,λz=>C (by obtain⟨r,rfl⟩:=e;exact ib _ z),u,J,go xs k _ j w⟩
   |obj c ks xs=>
    obtain⟨k,j,f⟩:=Eb.mp h;subst f;obtain⟨p,I,g,t,C,u,J,w⟩:=l;exact⟨p,I,g,t,λz=>C (by obtain⟨r,rfl⟩:=e;exact ib _ z),u,J,go xs k _ j w⟩
   |_=>cases h
theorem gc.vc{E:XK}{f:M D}{Q:V->Hp->Prop}(r:Sd T μ H σ)(h:gc T E (La T) μ H (vc f σ) Q):gc T E (La T) μ H (f σ) Q:=by
 unfold L4.vc at h;cases e:f σ with
 |Pb=>rw[e]at h;exact h
 |ex x a=>
  rw[e]at h;unfold Uh at h;dsimp only at h;by_cases b:a.take σ.length=σ
  ·rw[ia b]at h;intro m i c g;obtain⟨l,j⟩:=Sd.down r g c b;exact h μ i j l
  ·rw[ka b]at h;exact h.elim
 |ok d a=>
  rw[e]at h;unfold Uh at h;dsimp only at h;by_cases b:a.take σ.length=σ
  ·rw[ia b]at h;cases k:fz σ.length a 6 d with
   |none=>rw[k]at h;exact h.elim
   |some n=>
    rw[k]at h;intro m v i c g o;obtain⟨l,j⟩:=Sd.down r g c b;exact h μ v i j l (WP c.pre g 6 d n v (by rw[r.len];exact k) o)
  ·rw[ka b]at h;exact h.elim
end
def Bh(f:Ev->M D):Ev->M D:=λa=>vc (f a)
theorem Kl(h:FE T X e f):FE T X e (Bh f):=by
 intro a s st H Q I g;obtain⟨i,j,k,c,b,d⟩:=g;exact h a s st H Q I ⟨i,j,k,c,b,gc.vc b d⟩
end L4
namespace L4
open PySem PySem.Spec PyProof.Rows L2
def DK(h c:Heap):Prop:=∀ (a:Nat) o,h.objs[a]?=some o->∃ b:jd,c.objs[a]?=some b/\b.dict=o.dict
theorem DK.refl(h:Heap):DK h h:=λ_ o e=>⟨o,e,rfl⟩
theorem DK.trans(x:DK d f)(y:DK f g):DK d g:=λa o e=>by
 obtain⟨i,h,q⟩:=x a o e;obtain⟨c,b,j⟩:=y a i h;exact⟨c,b,j.trans q⟩
theorem DK.push(h:Heap)(o:jd):DK h (h.push o):=λa u e=>by
 obtain⟨b,l⟩:=h;have e:=e;have c:=(Gd.mp e).1;refine⟨u,?_,rfl⟩;show (b.push o)[a]?=some u;rw[Array.getElem?_push_lt c];exact(ui c).symm.trans e
theorem DK.update(h:Heap)(b:Addr)(g:∀ o,(f o).dict=o.dict):DK h (h.update b f):=λa u e=>by
 obtain⟨c,l⟩:=h;have e:=e;show ∃ i:jd,(c.modify b f)[a]?=some i/\_;rw[Array.getElem?_modify];by_cases d:b=a
 ·rw[ia d,e];exact⟨f u,rfl,g u⟩
 ·rw[ka d];exact⟨u,e,rfl⟩
theorem DK.get(x:DK h b)(e:h.get? a=some o)(d:b.get? a=some c):c.dict=o.dict:=by
 obtain⟨u,f,g⟩:=x a o ((Yv _ _ _).1 e).1;have:=((Yv _ _ _).1 d).1;have z:=f.symm.trans this;cases z;exact g
structure KD{α:Type}(t:bq α):Prop where
 out:∀ (M:lm) (Γ:PySem.Ctx) (Q:α->Ce->aa->Prop) (E:Value->Ce->aa->Prop) (p:Ce) (s:aa),Sem.wp M Γ t Q E p s->Sem.wp M Γ t (λa p' s'=>Q a p' s'/\DK s.heap s'.heap) (λe p' s'=>E e p' s'/\DK s.heap s'.heap) p s
namespace KD
variable{α β:Type}
theorem cu(a:α):KD (Pure.pure a:bq α):=⟨λ_ _ _ _ _ s h=>⟨h,.refl _⟩⟩
theorem Dv(w:String):KD (PySem.unsupported w:bq α):=⟨λ_ _ _ _ _ _ h=>h⟩
theorem Fd(g:KD m)(e:∀ a,KD (f a)):KD (m >>= f):=⟨λM b Q E p s h=>by
 rw[zn]at h ⊢;refine vu M b m (λa c d z=>?_) (λ_ _ _ z=>z) p s (g.out M b _ _ p s h);exact vu M b (f a) (λ_ _ _ q=>⟨q.1,z.2.trans q.2⟩) (λ_ _ _ q=>⟨q.1,z.2.trans q.2⟩) c d ((e a).out M b _ _ c d z.1)⟩
theorem io{c:Prop}[Decidable c]{t u:bq α}(a:KD t)(b:KD u):KD (if c then t else u):=by split<;>assumption
theorem ld(a:Addr):KD (PySem.load a):=⟨λ_ _ _ _ _ _ h=>by obtain⟨o,b,h⟩:=h;exact⟨o,b,h,.refl _⟩⟩
theorem pc(a:Addr)(b:∀ o,(f o).dict=o.dict):KD (PySem.update a f):=⟨λ_ _ _ _ _ _ h=>⟨h.1,h.2,.update _ _ b⟩⟩
theorem zq:KD PySem.stack:=⟨λM a Q E p s h=>by
 exact⟨h,.refl _⟩⟩
theorem nv(o:jd):KD (PySem.alloc o):=⟨λ_ _ _ _ _ _ h=>⟨h,.push _ _⟩⟩
theorem fld(v:Value)(i:Nat):KD (PySem.field v i):=⟨λ_ g Q E p s h=>by
 rw[Zv]at h ⊢;obtain⟨a,o,f,x,b,c,d,e,h⟩:=h;exact⟨a,o,f,x,b,c,d,e,h,.refl _⟩⟩
theorem set(v:Value)(i:Nat)(x:Value):KD (PySem.setField v i x):=⟨λ_ m Q E p s h=>by
 rw[LI]at h ⊢;obtain⟨a,o,k,e,f,g,j,h⟩:=h;exact⟨a,o,k,e,f,g,j,h,.update _ _ λo=>by obtain⟨c,d,b,l⟩:=o;cases b<;>rfl⟩⟩
end KD
theorem f7(a:qh)(l:List qh):KD (PN a l):=by unfold PN;(repeat' with_reducible first|assumption|exact KD.cu _|exact KD.Dv _|exact KD.fld _ _|exact KD.set _ _ _|exact KD.ld _|exact KD.pc _ (λ_=>rfl)|exact KD.zq|exact KD.nv _|apply KD.io|apply KD.Fd|intro _|split)
theorem WY:KD underTheClaimsCaller:=by unfold underTheClaimsCaller;(repeat' with_reducible first|assumption|exact KD.cu _|exact KD.Dv _|exact KD.fld _ _|exact KD.set _ _ _|exact KD.ld _|exact KD.pc _ (λ_=>rfl)|exact KD.zq|exact KD.nv _|apply KD.io|apply KD.Fd|intro _|split)
theorem Z6(a:qh)(i:Bool)(l:List qh):KD (keptBack a i l):=by
 have:=WY;cases l<;>unfold keptBack<;>(repeat' with_reducible first|assumption|exact KD.cu _|exact KD.Dv _|exact KD.fld _ _|exact KD.set _ _ _|exact KD.ld _|exact KD.pc _ (λ_=>rfl)|exact KD.zq|exact KD.nv _|apply KD.io|apply KD.Fd|intro _|split)
theorem BR:∀ l:List qh,KD (readyFrames l)
 |[]=>KD.cu _
 |env::l=>by
  have c:=BR l;have b:=f7 env l;have a:=λi=>Z6 env i l;unfold readyFrames
  (repeat' with_reducible first|assumption|exact KD.cu _|exact KD.Dv _|exact KD.fld _ _|exact KD.set _ _ _|exact KD.ld _|exact KD.pc _ (λ_=>rfl)|exact KD.zq|exact KD.nv _|apply KD.io|apply KD.Fd|intro _|split)
  all_goals first|exact a _|skip
theorem ř(l:List qh):KD (frameObject l):=by
 cases l with
 |nil=>exact KD.cu _
 |cons env l=>
  have:=BR (env::l);unfold frameObject
  (repeat' with_reducible first|assumption|exact KD.cu _|exact KD.Dv _|exact KD.fld _ _|exact KD.set _ _ _|exact KD.ld _|exact KD.pc _ (λ_=>rfl)|exact KD.zq|exact KD.nv _|apply KD.io|apply KD.Fd|intro _|split)
theorem RZ:KD frameEnvs:=by unfold frameEnvs;(repeat' with_reducible first|assumption|exact KD.cu _|exact KD.Dv _|exact KD.fld _ _|exact KD.set _ _ _|exact KD.ld _|exact KD.pc _ (λ_=>rfl)|exact KD.zq|exact KD.nv _|apply KD.io|apply KD.Fd|intro _|split)
theorem ztg(a:qh):KD (PySem.frameOf a):=by
 have c:=RZ;have b:=ř;unfold PySem.frameOf
 (repeat' with_reducible first|assumption|exact KD.cu _|exact KD.Dv _|exact KD.fld _ _|exact KD.set _ _ _|exact KD.ld _|exact KD.pc _ (λ_=>rfl)|exact KD.zq|exact KD.nv _|apply KD.io|apply KD.Fd|intro _|split)
 all_goals first|exact b _|skip
theorem l9(f:Addr)(b:Bool):KD (entryPlaceOf f b):=by unfold entryPlaceOf;(repeat' with_reducible first|assumption|exact KD.cu _|exact KD.Dv _|exact KD.fld _ _|exact KD.set _ _ _|exact KD.ld _|exact KD.pc _ (λ_=>rfl)|exact KD.zq|exact KD.nv _|apply KD.io|apply KD.Fd|intro _|split)
theorem ztf(a b c d e:Value)(l:List Value):KD (Gq a b c d e l):=by
 unfold Gq newFields newObj newObjAsIs
 (repeat' with_reducible first|assumption|exact KD.cu _|exact KD.Dv _|exact KD.fld _ _|exact KD.set _ _ _|exact KD.ld _|exact KD.pc _ (λ_=>rfl)|exact KD.zq|exact KD.nv _|apply KD.io|apply KD.Fd|intro _|split)
theorem t4(e:Value)(a:qh):KD (nh e a):=by
 have d:=ztg a;have b:=l9;have c:=ztf;unfold nh
 (repeat' with_reducible first|assumption|exact KD.cu _|exact KD.Dv _|exact KD.fld _ _|exact KD.set _ _ _|exact KD.ld _|exact KD.pc _ (λ_=>rfl)|exact KD.zq|exact KD.nv _|apply KD.io|apply KD.Fd|intro _|split)
 all_goals first|exact b _ _|exact c _ _ _ _ _ _|skip
theorem ð(e:Value)(f:Option Addr):KD (ak e f):=by unfold ak;(repeat' with_reducible first|assumption|exact KD.cu _|exact KD.Dv _|exact KD.fld _ _|exact KD.set _ _ _|exact KD.ld _|exact KD.pc _ (λ_=>rfl)|exact KD.zq|exact KD.nv _|apply KD.io|apply KD.Fd|intro _|split)
theorem mO{M:lm}{t:bq e}{Q:e->aa->Prop}(k:KD t)(h:wpAny M A t Q E s):wpAny M A t (λa d=>Q a d/\DK s.heap d.heap) E s:=
 λc p b=>vu M c t (λ_ _ _ z=>z) (λ_ _ _ z=>z.1) p s (k.out M c _ _ p s (h c p b))
section
variable{P:Aa}{w:Wa}{H H':Hp}{h h':Heap}{a:Addr}{o:HO}
theorem GQ(x:Ym P w H h a o):∃ u,h.get? a=some u:=by
 cases o with
 |la xs=>obtain⟨_,_,_,_,e⟩:=x;exact⟨_,e⟩
 |Ka xs=>obtain⟨_,_,_,d,e,_⟩:=x;exact⟨_,e⟩
 |dK b=>obtain⟨_,_,_,_,o,_,_,e,_⟩:=x;exact⟨_,e⟩
 |dT b=>obtain⟨_,_,_,_,o,_,_,e,_⟩:=x;exact⟨_,e⟩
 |set S n=>obtain⟨o,_,_,_,e,_⟩:=x;exact⟨_,e⟩
 |Jd C g c=>obtain⟨_,_,_,e,_⟩:=x;exact⟨_,e⟩
 |own y=>obtain⟨_,e⟩:=x;exact⟨_,e⟩
 |xd c=>obtain⟨_,⟨_,_,_,e,_⟩,_⟩:=x;exact⟨_,e⟩
 |IH lo i=>obtain⟨_,_,_,e⟩:=x;exact⟨_,e⟩
 |vc d u=>obtain⟨e,_⟩:=x;exact⟨_,e⟩
 |Um j=>exact⟨_,x⟩
 |met f y=>exact⟨_,x⟩
 |ext k=>obtain⟨_,⟨_,e⟩,_⟩:=x;exact⟨_,e⟩
theorem aK(x:lj P w H h)(k:∀ b o u,H b=some o->h.get? b=some u->h'.get? b=some u):lj P w H h':=λb o e=>
 (x b o e).Zk (λc v a q=>by
  rcases a with rfl|a
  ·exact k _ _ _ e q
  ·exact k _ _ _ a q) (λ_ q=>q) λ_ _ q=>q
end
section
variable{X:Cx}{pins:List (Addr × jd)}{st:St}{H H':Hp}{s s':aa}{cls:Value}{h':Heap}{ea:Addr}{args:List Value}{M:lm}{E:Value->aa->Prop}{Q:Unit->aa->Prop}
theorem γ(x:oC B l ea cls a h):ir B l ea cls a h:=⟨x.1,x.2.1,x.2.2.1,.inl ⟨.none,x.2.2.2.at⟩⟩
theorem ir.there(x:ir B l ea cls b h):∃ a,h.get? ea=some a/\a.cls=cls:=by
 obtain⟨_,_,_,⟨f,q⟩|⟨c,g,d,e,_⟩⟩:=x
 ·exact q.there
 ·exact⟨c,d,e⟩
theorem ir.YJ(x:ir B l ea cls d h)(c:h.get? ea=some o):∃ a,o.data=.fields a:=by
 obtain⟨_,_,_,⟨k,g,a,T,oT,n,f,b,e,_⟩|⟨g,a,i,m,j,_⟩⟩:=x
 ·cases f.symm.trans c;exact⟨a,e⟩
 ·cases i.symm.trans c;exact⟨a,j⟩
theorem pD.next(x:pD a ea B h b H')(k:DK h h')(e:∃ o,h'.get? ea=some o):pD a ea B h' b H':=λn q=>by
 obtain⟨c,oD,i,d,f,g⟩:=x n q;obtain⟨o,e⟩:=e;exact⟨c,oD,o,e,(k.get d e).trans f,g⟩
theorem CN(x:ir B l ea cls d s.heap)(i:∀ a,ir B l ea cls d a->s.heap.UpToSlots a->DK s.heap a->Q () { s with heap:=a }):wpAny M A (ak (.ref ea) none) Q E s:=by
 obtain⟨f,g,h,⟨y,c⟩|c⟩:=x
 ·have k:wpAny M A (ak (.ref ea) none) (λ_ s'=>∃ a,s'={ s with heap:=a }/\ir B l ea cls d a/\s.heap.UpToSlots a) E s:=
   wpAny_setFlight_noneW f h c λa p q r t=>⟨a,rfl,γ ⟨p,g,q,r⟩,λb o e n=>⟨o.slots,t b o e n⟩⟩
  exact Hc (mO (ð _ _) k) (λ_ _ ⟨⟨a,e,u,v⟩,w⟩=>by subst e;exact i a u v w) λ_ _ z=>z
 ·obtain⟨G,H,m,D,j,F,C,a⟩:=id c;refine da (im m j a ?_);exact ua (i s.heap ⟨f,g,h,.inr c⟩ (.refl _) (.refl _))
theorem ę(w:A.frames=some (c::a))(u:c.frame=some L)(x:ir B (c::a) ea cls m s.heap)
  (K:∀ h,cq B (c::a) ea cls m L h->s.heap.UpToSlots h->Q () { s with heap:=h }):wpAny M A (nh (.ref ea) c) Q E s:=by
 obtain⟨H,z,I,⟨C,r⟩|r⟩:=x
 ·by_cases hm:C=zf L
  ·subst hm;exact wpAny_noteFrame_againW u r (K s.heap ⟨H,z,I,r⟩ (.refl _))
  ·obtain⟨U,W,T,oT,ts,l,N,j,h,y,i,D,d,Z⟩:=r;have V:3<ts.size:=(Gd.mp Z).1;have f:∀ b,b≠T->(s.heap.update T (bj (·.setIfInBounds 3 Mc))).get? b=s.heap.get? b:=λb F=>rj _ _ (Xe F);have nr:∀ b o,s.heap.get? b=some o->(∀ v,o.data≠.fields v)->b≠T:=λb o F hn q=>by
    rw[q,D]at F;cases F;exact hn ts d
   have g:=Ss (bj (·.setIfInBounds 3 Mc)) D (Obj.isFreed_of_fields (jm d _));have up:s.heap.UpToSlots (s.heap.update T (bj (·.setIfInBounds 3 Mc))):=λb o e n=>⟨o.slots,(f b (nr b o e n)).trans e⟩
   have F0:oC B (c::a) ea cls m (s.heap.update T (bj (·.setIfInBounds 3 Mc))):=
    ⟨λb o e=>(f b λq=>by rw[q,y]at e;cases e).trans (H b o e),z,I.of_keeps λb o e n=>⟨o,(f b (nr b o e n)).trans e,rfl⟩,
     U,W,T,_,_,(f ea (Xe i)).trans l,N,j,h,y,i,g,jm d _,by simp[V]⟩
   have P:=wpAny_looks_onW (M:=M) (E:=E) (s:={ s with heap:=s.heap.update T (bj (·.setIfInBounds 3 Mc)) }) w u F0 λh2 q1 q2=>K h2 q1 (up.trans q2);intro Γ p O;have k:=P Γ p O;unfold nh at k ⊢;simp only[u]at k ⊢;rw[zn,Zv]at k ⊢;obtain⟨a1,R,v1,x1,e1,g1,Y,i1,k⟩:=k;cases e1;have t:s.heap.get? ea=some R:=(f ea (Xe i)).symm.trans g1;have S:R=U:=by rw[l]at t;cases t;rfl
   subst S;rw[j]at Y;cases Y;rw[h]at i1;cases i1;refine⟨ea,R,W,.ref T,rfl,l,j,h,?_⟩;have nn:(Ec T != Mc)=true:=by simp
   simp only[nn,xg]at k ⊢;rw[zn,Zv]at k ⊢;obtain⟨a2,o2,v2,x2,e2,g2,d2,i2,k⟩:=k;cases e2;have J:=g.symm.trans g2;cases J;have G:=(jm d (·.setIfInBounds 3 Mc)).symm.trans d2;cases G;have X:x2=Mc:=by
    have:(ts.setIfInBounds 3 Mc)[3]?=some Mc:=by simp[V]
    rw[this]at i2;cases i2;rfl
   subst X;refine⟨T,oT,ts,C,rfl,D,d,Z,?_⟩;have n1:(Mc == zf L)=false:=by simp[zf]
   have n2:(C == zf L)=false:=by
    cases q:C == zf L with
    |false=>rfl
    |true=>exact absurd (sh.mp q) hm
   simp only[n1,n2,Kg,yi]at k ⊢;rw[zn,LI]at k ⊢;obtain⟨a3,o3,v3,e3,g3,d3,i3,k⟩:=k;cases e3;refine⟨T,oT,ts,rfl,D,d,V,?_⟩;simp only[Heap.update_setField_twice]at k;exact k
 ·obtain⟨U,W,l,N,j,hz,h0,h⟩:=r;unfold nh;simp only[u];refine da (im l j h ?_);refine wpAny_entryW (base:=B) (outer:=a) (a0:=m) w I u l H z j hz h0 λh4 hN=>?_;obtain⟨k1,k2,k3,k4⟩:=hN;rw[N]at k3;exact K h4 ⟨k1,z,k2,k3⟩ k4
theorem qW(f:A.frames=some (b::a))(j:b.frame=some L)(x:ir B (b::a) ea cls d s.heap)
  (i:∀ c,cq B (b::a) ea cls d L c->s.heap.UpToSlots c->DK s.heap c->Q () { s with heap:=c }):wpAny M A (nh (.ref ea) b) Q E s:=by
 have k:wpAny M A (nh (.ref ea) b) (λ_ s'=>∃ c,s'={ s with heap:=c }/\cq B (b::a) ea cls d L c/\s.heap.UpToSlots c) E s:=ę f j x λc g h=>⟨c,rfl,g,h⟩
 exact Hc (mO (t4 _ _) k) (λ_ _ ⟨⟨c,e,g,h⟩,l⟩=>by subst e;exact i c g h l) λ_ _ z=>z
theorem GT(x:cq B l ea cls a L h):ir B l ea cls a h:=⟨x.1,x.2.1,x.2.2.1,.inl ⟨_,x.2.2.2⟩⟩
theorem ě(d:A.frames=some (b::a))(h:b.frame=some L)(x:ir B (b::a) ea cls e s.heap)
  (g:∀ c,ir B a ea cls e c->s.heap.UpToSlots c->DK s.heap c->Q () { s with heap:=c }):wpAny M A (leaving b (.ref ea)) Q E s:=by
 refine da (qW d h x λc m n o=>?_);refine CN (GT m) λf p q r=>?_;obtain⟨i,j,⟨_,_,k⟩,l⟩:=p;exact g f ⟨i,j,k,l⟩ (n.trans q) (o.trans r)
theorem ZH(c:X.stack=X.env::X.outer)(a:X.env.frame=some X.env.locals):b∈gk X.stack ↔ b=X.env.locals\/b∈gk X.outer:=by
 rw[c];unfold gk;rw[Xh,a];exact Ea
theorem B5(I:Za X pins st H s)(m:X.stack=X.env::X.outer)(l:X.env.frame=some X.env.locals)(p:X.ex=[])(d:Un (gk X.stack) [] H H' s.heap f):Un (gk X.outer) [] X.H₀ H' X.s₀.heap f:=by
 have a:∀ b,b ∉ X.ex:=λb z=>by rw[p]at z;cases z
 have i:∀ b o,X.s₀.heap.get? b=some o->b≠X.env.locals:=λb o e=>Pa (Sa (za e) I.ok.above);refine⟨λb o e n g _=>?_,λb o e n g _=>?_,λb o e n _=>?_,λb o e _=>?_,λb xs e=>d.vj b xs (I.base.vj b xs e),λb o u e=>d.Fi b o u (I.base.Fi b o u e),λb t e=>?_⟩
 ·exact d.keep b o (I.base.keep b o e n g (a b)) (I.base.free b o e n (a b)) (λz=>((ZH m l).mp z).elim (i b o e) g) (by simp)
 ·obtain⟨v,c⟩:=I.base.slot b o e n g (a b);obtain⟨k,h⟩:=d.slot b _ c (I.base.free b o e n (a b)) ((ZH m l).mpr (.inr g)) (by simp);exact⟨k,h⟩
 ·obtain⟨j,c⟩:=I.base.there b o e (a b);exact d.free b j c (I.base.free b o e n (a b)) (by simp)
 ·obtain⟨j,c⟩:=I.base.there b o e (a b);exact d.there b j c (by simp)
 ·obtain⟨q,c⟩:=I.base.jj b t e;obtain⟨r,h⟩:=d.jj b _ c;exact⟨q++r,by rw[h,wl]⟩
theorem vN(F:Zy P w a H s cls x H' e s'){B:Heap}(z:∀ b o,s.heap.get? b=some o->H b=none->b ∉ gk a->B.get? b=some o)(A:∀ b o,H' b=some o->∃ v,B.get? b=some v)
  (y:∀ b o,s.heap.get? b=some o->b ∉ gk a->∃ g,B.get? b=some g) (p:∀ b o,B.get? b=some o->s'.heap.get? b=some o) (f:∀ b o,B.get? b=some o->l.get? b=some o) (j:s'.heap.UpToSlots l) (i:∀ b∈gk a,∃ o,s.heap.get? b=some o/\(∀ E,o.data≠.fields E)/\H b=none) :
  Un (gk a) [] H H' s.heap l/\lj P w H' l:=by
 refine⟨⟨λb o e n d _=>f b o (z b o e n d),λb o e n d t=>?_,F.un.free,λb o e t=>?_,F.un.vj,F.un.Fi,F.un.jj⟩,aK F.zd λb o u e q=>?_⟩
 ·obtain⟨D,c⟩:=F.un.slot b o e n d t;obtain⟨g,h,r,_⟩:=i b d;rw[e]at h;cases h;obtain⟨k,m⟩:=j b _ c r;exact⟨k,m⟩
 ·by_cases d:b∈gk a
  ·obtain⟨g,h,r,C⟩:=i b d;rw[e]at h;cases h;obtain⟨D,c⟩:=F.un.slot b o e C d t;obtain⟨k,m⟩:=j b _ c r;exact⟨_,m⟩
  ·obtain⟨g,c⟩:=y b o e d;exact⟨g,f b g c⟩
 ·obtain⟨v,c⟩:=A b o e;have:=p b v c;rw[q]at this;cases this;exact f b _ c
theorem lK(I:Za X pins st H s):∀ b∈gk X.stack,∃ o,s.heap.get? b=some o/\(∀ d,o.data≠.fields d)/\H b=none:=λb a=>by
 obtain⟨_,o,e,c⟩:=I.stack.mem a;exact⟨o,e,c,I.Pk b a⟩
theorem ū(I:Za X pins st H s)(f:X.stack=X.env::X.outer)(k:X.env.frame=some X.env.locals)(c:X.ex=[])(F:Zy X.prog X.w X.stack H s cls l H' e s')
  (O:∀ i,Zy X.prog X.w X.outer X.H₀ X.s₀ cls l H' e i->Q () i):wpAny M X.A (leaving X.env e) Q E s':=by
 obtain⟨ea,y,B,rfl,D,P,d,K,J,G,N⟩:=F.ex;have m:ir B (X.env::X.outer) ea cls y s'.heap:=by rw[<-f];exact D
 refine ě (by rw[<-f];exact I.ok.frames) k m λp x U V=>O _ ?_;obtain⟨T,t⟩:=vN F J K G D.1 x.1 U (lK I);have a:∀ b,b ∉ X.ex:=λb z=>by rw[c]at z;cases z
 have g:∀ b o,X.s₀.heap.get? b=some o->b≠X.env.locals:=λb o e=>Pa (Sa (za e) I.ok.above);have h:∀ b,s.heap.get? b=none->X.s₀.heap.get? b=none:=λb e=>by
  cases q:X.s₀.heap.get? b with
  |none=>rfl
  |some u=>obtain⟨v,C⟩:=I.base.there _ _ q (a _);rw[e]at C;cases C
 have r:pD l ea B p X.s₀.heap H':=λn q=>by
  obtain⟨L,oD,S,W,Y,Z,z4,z5,z6⟩:=N.next V (let ⟨o,e,_⟩:=x.there;⟨o,e⟩) n q;exact⟨L,oD,S,W,Y,Z,z4,z5,h _ z6⟩
 refine⟨⟨ea,y,B,rfl,x,P,?_,K,λb o e n j=>?_,λb o e j=>?_,r⟩,F.os.trans I.os,F.bare,B5 I f k c T,t⟩
 ·cases q:X.s₀.heap.get? ea with
  |none=>rfl
  |some u=>obtain⟨v,e⟩:=I.base.there _ _ q (a _);rw[d]at e;cases e
 ·exact J b o (I.base.keep b o e n j (a b)) (I.base.free b o e n (a b)) λz=>((ZH f k).mp z).elim (g b o e) j
 ·obtain⟨R,q⟩:=I.base.there b o e (a b);exact G b R q λz=>((ZH f k).mp z).elim (g b o e) j
end
theorem J8{P:Aa}{w:Wa}{K:W.Frag}{m:Str->Option Value}{d:Heap}{N:List Str}{g:Str}{c:Scope}{f:Addr}{l:Value}{A:Qa}{b:List qh}{s:aa}{H:Hp}{E:XK}{st:St}{a:Value}{j:Option Nat}{i:Hp}
  (h:E a j i):UB (Tp (Il P w) P w K m d N g c f l A b s H E) st a j i where
 bI:=λk o s1 e p I F=>ū I rfl rfl rfl F λn G=>⟨a,j,i,G,h⟩
theorem UB.made{st:St}(t:UB X st j none h)(I:Za X d st h s)(c:Heap.MadeExcOf s.heap h' f j i):X.xe (.ref f) { s with heap:=h' }:=by
 have r:=W.funFrames_hide I.stack (λl m a w=>Ll.mpr ⟨l,m,w⟩);have g:∀ b o,s.heap.get? b=some o->b ∉ gk X.stack->(W.hideAll s.heap (gk X.stack)).get? b=some o:=λb o e n=>W.hideAll_get _ e n;obtain⟨A,m,y,B⟩:=c.there;have p:∀ b o,h b=some o->b ∉ gk X.stack:=λb o e z=>by rw[I.Pk b z]at e;cases e
 have x:h f=none:=by
  cases q:h f with
  |none=>rfl
  |some u=>obtain⟨v,e⟩:=GQ (I.zd _ _ q);rw[c.new]at e;cases e
 refine t.bI d h s (.ref f) _ I ⟨⟨f,.ref A,W.hideAll s.heap (gk X.stack),rfl,⟨λb o q=>c.keeps b o (W.of_hideAll _ q),?_,r.of_keeps λb o e _=>⟨o,c.keeps b o e,rfl⟩,.inr ⟨_,_,m,rfl,rfl,by simp,rfl,rfl⟩⟩,x,c.new,λb o e=>?_,λb o e n k=>g b o e k,λb o e k=>⟨o,g b o e k⟩,λn q=>by cases q⟩,rfl,I.bare,⟨λb o e n k _=>c.keeps b o e,λb o e n k _=>⟨o.slots,c.keeps b o e⟩,λb o e n _=>n,λb o e _=>⟨o,c.keeps b o e⟩,λ_ _ e=>e,λ_ _ _ e=>e,λb C e=>⟨#[],by rw[e];simp⟩⟩,aK I.zd λb o u e q=>c.keeps b u q⟩
 ·cases q:(W.hideAll s.heap (gk X.stack)).get? f with
  |none=>rfl
  |some u=>have:=W.of_hideAll _ q;rw[c.new]at this;cases this
 ·obtain⟨u,q⟩:=GQ (I.zd _ _ e);exact⟨u,g b u q (p b o e)⟩
theorem Kq{K:W.Frag} :
  Yj (model P w) (Tp (Il P w) P w K g c N d b f e A a s H E).A (Tp (Il P w) P w K g c N d b f e A a s H E).env (Tp (Il P w) P w K g c N d b f e A a s H E).xe:=zaC
noncomputable def Ç:Fl->M D
 | .nx _=>ret .wc
 | .rt d=>ret d
 | .xc _ x=>λσ=>.ex x σ
 |_=>Pb
def Kz:Hl Fl->Hl D
 | .ok a σ=>Ç a σ
 |_=>.Pb
def Nd(n:Nat)(g:Ev->M Fl)(a:List D):M D:=λb=>Kz (g (a.map some++List.replicate (n - a.length) none) b)
def xq(T:Tb)(n:Nat)(f:List D->M D):Sp:=λd H Q E=>∃ b c a,Db T b H a d/\a.length=n/\Sd T b H c/\gc T E (La T) b H (f a c) Q
def ar(n:Nat)(f:List D->M D)(a:List D)(b:List D):M D:=if (b++a).length=n then f (b++a)else Pb
def yd(n:Nat)(f:List D->M D)(a:List D)(b:Ev->M (List D)):Ev->M D:=λc=>Fd (b c) (ar n f a)
section
variable{T:Tb}{X:Cx}
theorem OZ(h:Db T j H a g):Th T j H (a.map some++List.replicate (N.length - a.length) none) (L2.Hv N g):=by
 have f:=h.length;refine⟨by simp[L2.Hv,f],λi d e=>?_⟩;by_cases c:i<a.length
 ·rw[Hb (by simpa using c),jb]at e;cases b:a[i]? with
  |none=>rw[b]at e;cases e
  |some x=>
   rw[b]at e;cases e;obtain⟨v,k,l⟩:=h.get b;refine⟨v,?_,l⟩;unfold L2.Hv;rw[Hb (by simpa [<-f]using c),jb,k];rfl
 ·rw[Ld (by simpa using c),Jr]at e;split at e<;>cases e
variable{k:Nat}{f C:Addr}{fd:qf}{ps:List Str}{dvs:List V}{dval:List Value}{dds:List D}{x:Str}{p pos:Ce}{e:Ma}{es:List Ma}{fn:List D->M D}{fs:Ev->M (List D)}{sp:Sp}{t:TA}
theorem FL{st:St}(F:ri X.prog X.w X.K X.mg X.base (Il X.prog X.w) k f fd ps sp)(o:Yd k X.A)(l:Cs X.K fd ps dval)(m:ue dvs dval)
  (I:Za X a st H s) (r:ue vs b) (h:sp (vs++dvs) H Q (XE X st)):wpAny (model X.prog X.w) X.A (call (.ref f) b) (EP X a st Q) X.xe s:=by
 have g:=r.append m;have n:(b++dval).length=ps.length:=by rw[<-g.length];exact F.len _ _ _ _ h
 refine Co (Bk (F.Nd X.A X.stack s H ⟨b,[]⟩ (b++dval) (vs++dvs) Q (XE X st) o I.HE (l s b I.sk n) g h) λr q d=>?_);cases r with
 |error e=>obtain⟨i,fd,t,c,p⟩:=d;exact p.bI a H s e q I c
 |ok j=>
  cases j with
  |ret u=>exact I.after d
  |next=>exact False.elim d
  |brk=>exact False.elim d
  |cont=>exact False.elim d
theorem eN(F:ri X.prog X.w X.K X.mg X.base (Il X.prog X.w) k f fd ps (xq T ps.length fn))(M:Yd k X.A)(E:Gl X x)(J:X.mg x=some (.ref f))(G:W.keepIn X.K (.ref f)=true)(B:Cs X.K fd ps dval)(C:ue dvs dval)(g:∀ n H,Db T n H dds dvs)
  (z:FA T X (e::es) fs) (d:(x == ("__debug__" : Str))=false:=by decide) (D:qa (e::es) X.env=(false,Yb e X.env)::qa es X.env:=by rfl) (j:(Vc pos (qa es X.env)).any (·.1)=false:=by rfl) :
  FE T X (.Call (.Name x p) (e::es) [] pos) (yd ps.length fn dds fs):=by
 intro a s st H Q I h;refine Uf (BB I E J ?_ d);obtain⟨n,ρ,σ,y,l,L⟩:=h;refine W.callWith_K I.ok.mod.Ky G (pe (z pos a s st H (λm c=>xq T ps.length fn (m++dvs) c Q (XE X st)) I ⟨n,ρ,σ,y,l,L.bind λv t o m c _ P O N b=>?_⟩) λus s1 ⟨m,c,u,r,q⟩=>⟨u.sk,?_⟩) D j
 ·unfold ar at b;by_cases i:(v++dds).length=ps.length
  ·rw[ia i]at b;exact⟨o,t,v++dds,N.append (g _ _),i,O,b⟩
  ·rw[ka i]at b;exact b.elim
 ·exact FL F M B C u r q
variable{P:Aa}{w:Wa}{K:W.Frag}{mg:Str->Option Value}{base:Heap}
theorem pB{st:Stmt}{D kV i G d ct Y:Value}{C Z:Option Addr}
  (lk:K.lookup f=some ⟨Y,Z,.func (W.fnOf x a c (Ej st) (Qc st) D kV i G C d ct),r⟩) (q:W.codeIn K d a=true) (S:va N ps (Qc st))
  (V:∀ (A:Qa) (b:List qh) (s:aa) (H:Hp) (E:XK),Yd k (A.deeper (yg a (Qc st) s.heap.objs.size f d))->Pl T (Tp (Il P w) P w K mg base N a (Qc st) f d A b s H E) (Ej st) g) :
  ri P w K mg base (Il P w) (k+1) f (W.fnOf x a c (Ej st) (Qc st) D kV i G C d ct) ps (xq T ps.length (Nd N.length g)):=by
 refine SO lk q S (λvs H Q E h=>?_) (λA b s H vs Q E X h=>?_)
 ·obtain⟨I,σ,m,p,F,_⟩:=h;rw[<-p.length];exact F
 ·obtain⟨I,σ,m,p,F,U,e⟩:=h;refine⟨_,V A b s H E X,I,_,σ,OZ p,U,?_⟩;unfold Nd at e;cases n:g (m.map some++List.replicate (N.length - m.length) none) σ with
  |Pb=>rw[n]at e;exact e
  |ex x B=>rw[n]at e;exact e.elim
  |ok R B=>
   rw[n]at e;intro v o J L t j;have l:=e.mono L;cases R with
   |nx y=>cases o with
    |nx u=>have z:=gc.here l t (by rw[La]);exact z
    |_=>exact j.elim
   |rt d2=>cases o with
    |rt v2=>have z:=gc.here l t j;exact z
    |_=>exact j.elim
   |xc y x2=>cases o with
    |xc u c2 O=>
     obtain⟨_,rfl,rfl⟩:=j;exact J8 (l v J (ie.refl _ _) t)
    |_=>exact j.elim
   |_=>exact l.elim
theorem sG(F:ri P w K mg base (Il P w) k f fd ps (xq T ps.length fn)):ri P w K mg base (Il P w) k f fd ps (xq T ps.length (λa=>vc (fn a))):=
 F.imp λj H Q E h=>by
  obtain⟨g,i,a,c,d,b,e⟩:=h;exact⟨g,i,a,c,d,b,gc.vc b e⟩
end
def dk(e:qh)(a:List (Str × Ff))(b:List (Str × Addr)):List (Str × Addr):=
 a.foldl (λd y=>if (y.2 == .free)=true then (match e.cells.lookup y.1 with|some c=>(y.1,c)::d|none=>d)else d) b
theorem mM(b:qh):∀ (d:List (Str × Ff)) (acc:List (Str × Addr)),(∀ y∈d,y.2=.free->∃ c,b.cells.lookup y.1=some c)->
  (forIn d acc (λx (cs:List (Str × Addr))=>match x with|(name,kind)=>if (kind == .free)=true then (do let a <-cellOf b name;pure (ForInStep.yield ((name,a)::cs)))else pure (ForInStep.yield cs)):bq (List (Str × Addr)))=pure (dk b d acc)
 |[],acc,_=>rfl
 |(n,k)::r,acc,h=>by
  rw[List.forIn_cons];by_cases e:(k == Gb)=true
  ·obtain⟨c,i⟩:=h (n,k) Ha (by simpa using e);have j:cellOf b n=pure c:=by unfold cellOf;rw[i]
   simp only[e,j];show (forIn r ((n,c)::acc) _:bq (List (Str × Addr)))=_;rw[mM b r ((n,c)::acc) λy g=>h y (Na _ g)];have f:dk b ((n,k)::r) acc=dk b r ((n,c)::acc):=by
    unfold dk;rw[Cj];simp only[e,xg,i]
   rw[f]
  ·simp only[e];show (forIn r acc _:bq (List (Str × Addr)))=_;rw[mM b r acc λy g=>h y (Na _ g)];have f:dk b ((n,k)::r) acc=dk b r acc:=by
    unfold dk;rw[Cj];simp only[e];rfl
   rw[f]
theorem zJ(b:qh)(a:Scope)(h:∀ y∈a.names,y.2=.free->∃ c,b.cells.lookup y.1=some c):closureFor a b=pure (dk b a.names []):=by
 have e:=mM b a.names [] h;unfold closureFor;simp only[bind_pure];exact e
theorem yK(a:qh):∀ (b:List (Str × Ff)) (acc:List (Str × Addr)) (n:Str) (c:Addr),(∀ n c,acc.lookup n=some c->a.cells.lookup n=some c)->(dk a b acc).lookup n=some c->a.cells.lookup n=some c
 |[],acc,n,c,h,e=>h n c e
 |(y,k)::r,acc,n,c,h,e=>by
  refine yK a r _ n c (λn c q=>?_) e;by_cases g:(k == Gb)=true
  ·simp only[g,xg]at q;cases d:a.cells.lookup y with
   |none=>rw[d]at q;exact h n c q
   |some i=>
    rw[d]at q;rw[yb]at q;cases f:(n == y)with
    |true=>rw[f]at q;cases q;rw[eq_of_beq f];exact d
    |false=>rw[f]at q;exact h n c q
  ·simp only[g]at q;exact h n c q
theorem qP(a:qh):∀ (b:List (Str × Ff)) (acc:List (Str × Addr)) (n:Str),(∃ c,acc.lookup n=some c)->∃ c,(dk a b acc).lookup n=some c
 |[],acc,n,h=>h
 |(y,k)::r,acc,n,h=>by
  refine qP a r _ n ?_;by_cases d:(k == Gb)=true
  ·simp only[d,xg];cases f:a.cells.lookup y with
   |none=>exact h
   |some e=>
    rw[yb];cases g:(n == y)with
    |true=>exact⟨e,rfl⟩
    |false=>exact h
  ·simp only[d];exact h
theorem qE(b:qh):∀ (a:List (Str × Ff)) (acc:List (Str × Addr)) (n:Str),(n,Gb)∈a->(∃ c,b.cells.lookup n=some c)->∃ c,(dk b a acc).lookup n=some c
 |[],acc,n,h,_=>nomatch h
 |(y,k)::r,acc,n,h,d=>by
  rcases Ea.mp h with e|e
  ·cases e;refine qP b r _ _ ?_;obtain⟨c,d⟩:=d;refine⟨c,?_⟩;simp[d]
  ·exact qE b r _ n e d
theorem yN{a:qh}:∀ {c:List (Str × Ff)} {x:Str} {k:Ff},
  (c.map λ(n,k)=>if (k == Gb && a.scope.kind == .function && a.kindOf n == some .cell)then (n,vd)else (n,k)).lookup x=some k->∃ d,c.lookup x=some d/\(k=d\/(d=.free/\k=.cell))
 |[],_,_,h=>by simp at h
 |(n,d)::r,x,k,h=>by
  have g:=@yN a r x k;have b:List.lookup x ((if (d == Gb && a.scope.kind == .function && a.kindOf n == some .cell)=true then (n,vd)else (n,d))::(r.map λ(n,k)=>if (k == Gb && a.scope.kind == .function && a.kindOf n == some .cell)then (n,vd)else (n,k)))=some k:=h;cases f:x == n with
  |true=>
   by_cases e:(d == Gb && a.scope.kind == .function && a.kindOf n == some .cell)=true
   ·rw[ia e]at b;simp only[yb,f]at b ⊢;cases b;simp only[Ca]at e;exact⟨d,rfl,.inr ⟨by simpa using e.1.1,rfl⟩⟩
   ·rw[ka e]at b;simp only[yb,f]at b ⊢;cases b;exact⟨d,rfl,.inl rfl⟩
  |false=>
   by_cases e:(d == Gb && a.scope.kind == .function && a.kindOf n == some .cell)=true
   ·rw[ia e]at b;simp only[yb,f]at b ⊢;exact g b
   ·rw[ka e]at b;simp only[yb,f]at b ⊢;exact g b
theorem aX{env:qh}:∀ {a:List (Str × Ff)} {x:Str},a.lookup x=some .free->
  (a.map λ(n,k)=>if (k == Gb && env.scope.kind == .function && env.kindOf n == some .cell)then (n,vd)else (n,k)).lookup x=some .cell\/
  (a.map λ(n,k)=>if (k == Gb && env.scope.kind == .function && env.kindOf n == some .cell)then (n,vd)else (n,k)).lookup x=some .free
 |[],_,h=>by simp at h
 |(n,k)::r,x,h=>by
  have f:=@aX env r x;have b:∀ z,List.lookup x ((if (k == Gb && env.scope.kind == .function && env.kindOf n == some .cell)=true then (n,vd)else (n,k))::(r.map λ(n,k)=>if (k == Gb && env.scope.kind == .function && env.kindOf n == some .cell)then (n,vd)else (n,k)))=z->
   (List.map (λ(n,k)=>if (k == Gb && env.scope.kind == .function && env.kindOf n == some .cell)then (n,vd)else (n,k)) ((n,k)::r)).lookup x=z:=λz e=>e
  cases c:x == n with
  |true=>
   simp only[yb,c]at h;cases h;by_cases d:(Gb == Gb && env.scope.kind == .function && env.kindOf n == some .cell)=true
   ·exact .inl (b _ (by rw[ia d];simp only[yb,c]))
   ·exact .inr (b _ (by rw[ka d];simp only[yb,c]))
  |false=>
   simp only[yb,c]at h;have e:List.lookup x ((if (k == Gb && env.scope.kind == .function && env.kindOf n == some .cell)=true then (n,vd)else (n,k))::(r.map λ(n,k)=>if (k == Gb && env.scope.kind == .function && env.kindOf n == some .cell)then (n,vd)else (n,k))) =
     (r.map λ(n,k)=>if (k == Gb && env.scope.kind == .function && env.kindOf n == some .cell)then (n,vd)else (n,k)).lookup x:=by
    by_cases d:(k == Gb && env.scope.kind == .function && env.kindOf n == some .cell)=true
    ·rw[ia d];simp only[yb,c]
    ·rw[ka d];simp only[yb,c]
   rcases f h with q|q
   ·exact .inl (b _ (e.trans q))
   ·exact .inr (b _ (e.trans q))
theorem nw{a:List (Str × Ff)}(h:a.lookup x=some k):(x,k)∈a:=jf h
def Du(X:Cx)(b:List Str)(a:Scope)(cl:List (Str × Addr))(C:Addr)(s₀:aa)(H₀:Hp)(ex:List Addr):Cx:=
 { X with N:=b,s₀:=s₀,H₀:=H₀,env:=compEnvC a cl C X.env,outer:=X.stack,stack:=X.stack,ex:=ex,fn:=λ_=>false,pn:=[],xe:=λ_ _=>False }
structure fo(X:Cx)(x:Str)(M':List Str)(ix:List Nat)(scope:Scope):Prop where
 kind:scope.kind=.function
 cell:(scope.names.all λy=>!(y.2 == .cell))=true
 names:(scope.names.all λy=>!(y.2 == .local) || scope.names.lookup y.1 == some .local)=true
 free:(scope.names.all λy=>!(y.2 == .free) || (X.env.scope.names.lookup y.1 == some .cell || X.env.scope.names.lookup y.1 == some .free))=true
 at_:ix.map (λi=>X.N[i]?)=M'.map some
 VP:(M'.all λy=>(X.env.scope.names.lookup y == some .cell || X.env.scope.names.lookup y == some .free) && scope.names.lookup y == some .free)=true
def ML(a:List Nat)(b:Ev):Ev:=none::a.map λi=>(b[i]?).getD none
def dS(a:List Nat)(st:St):St:=none::a.map λi=>(st[i]?).getD none
theorem aO{st:St}(f:List Nat)(h:Th T l H a st):Th T l H (ML f a) (dS f st):=by
 refine⟨by simp[ML,dS],λi d e=>?_⟩;cases i with
 |zero=>simp[ML]at e
 |succ j=>
  have b:(f.map λi=>(a[i]?).getD none)[j]?=some (some d):=e;rw[jb]at b;cases k:f[j]? with
  |none=>rw[k]at b;cases b
  |some c=>
   rw[k]at b;have g:(a[c]?).getD none=some d:=Lb b;have m:a[c]?=some (some d):=by
    cases q:a[c]? with
    |none=>rw[q]at g;cases g
    |some o=>rw[q]at g;exact cc some g
   obtain⟨v,n,p⟩:=h.2 c d m;refine⟨v,?_,p⟩;show (f.map λi=>(st[i]?).getD none)[j]?=_;rw[jb,k];show some ((st[c]?).getD none)=_;rw[n];rfl
section
variable{X:Cx}{pins:List (Addr × jd)}{st:St}{H:Hp}{s:aa}{x:Str}{M':List Str}{ix:List Nat}{scope:Scope}{fp:List Addr}
theorem l7(L:fo X x M' ix scope)(y:Str × Ff)(a:y∈scope.names)(e:y.2=.free):X.env.kindOf y.1=some .cell\/X.env.kindOf y.1=some .free:=by
 have q:=Vb.mp L.free y a;rw[e]at q;simp only[beq_self_eq_true,Bool.not_true,uA,Ig]at q;rcases q with q|q
 ·exact .inl (eq_of_beq q)
 ·exact .inr (eq_of_beq q)
theorem kA(I:Za X pins st H s)(L:fo X x M' ix scope):∀ y∈scope.names,y.2=.free->∃ c,X.env.cells.lookup y.1=some c:=λy a e=>I.ok.has y.1 (l7 L y a e)
theorem QD(L:fo X x M' ix scope):∀ y∈scope.names,y.2≠.cell:=λy a e=>by
 have q:=Vb.mp L.cell y a;rw[e]at q;simp at q
end
def vp{a:Type}(m:M a):M a:=λσ=>match m σ with
 | .ex _ _=>.Pb
 |o=>o
theorem gc.wv{E E0:XK}{R:List Addr->Hp->j->u->Prop}{p:List Addr->Hp->t->v->Prop}{m:M j}{k:j->M t}{Q:v->Hp->Prop}{o:u->Hp->Prop}
  (h:gc T E p l H (Fd (vp m) k i) Q) (f:∀ a b c g d,m i=.ok a b->ie l H c d->Sd T c d b->R c d a g->gc T E p c d (k a b) Q->o g d):gc T E0 R l H (m i) o:=by
 unfold Fd vp at h;cases e:m i with
 |ok a b=>
  simp only[e]at h;exact λn g w s r q=>f a b n g w e s r q (h.mono s)
 |ex x b=>simp only[e]at h;exact h.elim
 |Pb=>simp only[e]at h;exact h
def ZE(T:Tb)(X:Cx)(b:List Ma)(f:Ev->M Bool):Prop:=
 ∀ (a:List (Addr × jd)) (s:aa) (st:St) (H:Hp) (Q:Bool->Hp->Prop),Za X a st H s->tT T X f st H Q->
  wpAny (model X.prog X.w) X.A (forIn b true λc r=>if r=true then do let ok <-yA c X.env (Yb c X.env);pure (ForInStep.yield ok)else pure (ForInStep.yield r)) (TP X a st Q) X.xe s
def ik:Ev->M Bool:=λ_=>ret true
section
variable{T:Tb}{X:Cx}
theorem rs:ZE T X [] ik:=by
 intro a s st H Q I h;obtain⟨e,f,g,d,c,b⟩:=h;exact wpAny_tests_nil ⟨H,I,gc.here b c rfl⟩
theorem JB(h:FT T X c f):ZE T X [c] f:=λa s st H Q I b=>wpAny_tests_one (h a s st H Q I b)
theorem ς(u:Un i ex H g h j)(d:kg C j k)(l:h.objs.size<=C):Un i ex H g h k:=by
 have f:∀ b o,h.get? b=some o->b≠C:=λb o e=>Pa (Sa (za e) l);refine⟨λb o e n c a=>(d.2 b (f b o e)).trans (u.keep b o e n c a),λb o e n c a=>?_,u.free,λb o e a=>?_,u.vj,u.Fi,u.jj⟩
 ·obtain⟨p,q⟩:=u.slot b o e n c a;exact⟨p,(d.2 b (f b o e)).trans q⟩
 ·obtain⟨m,q⟩:=u.there b o e a;exact⟨m,(d.2 b (f b o e)).trans q⟩
theorem w8(ok:lj P w H d)(h:kg C d f)(g:H C=none):lj P w H f:=λb i e=>by
 refine(ok b i e).Zk (λc j a q=>(h.2 c ?_).trans q) (λ_ q=>q) λ_ _ q=>q;rintro rfl;rcases a with rfl|a
 ·rw[g]at e;cases e
 ·rw[g]at a;cases a
theorem Ā(r:Sd T b H c)(d:b[n]?=some a)(e:La T b H y v)(h:gc T E (La T) b H (Mn (.ref n) [y] c) Q):iK (.ref a) [v] H Q:=
 bC E b H c (.ref n) [y] (.ref a) [v] Q r (by rw[La];exact⟨a,rfl,d⟩) (Db.cons e Db.nil) h
theorem DH{m m':M b}{k:b->M c}(h:m a=m' a):Fd m k a=Fd m' k a:=by unfold Fd;rw[h]
theorem FJ{m:M b}{k:b->M c}{l:c->M d}:Fd (Fd m k) l=Fd m λa=>Fd (k a) l:=by
 funext e;unfold Fd;cases m e<;>rfl
end
def dD(x y:D):M D:=λσ=>match rh σ x,rh σ y with
 |some xs,some a=>if xs.length+a.length<=ai then .ok (.la (xs++a)) σ else .Pb
 |_,_=>.Pb
def Nh(x y:D):M D:=match x,y with
 | .int i,.int j=>ret (.int (i+j))
 | .Ka xs,.Ka c=>if xs.length+c.length<=ai then ret (.Ka (xs++c))else Pb
 | .str a,.str b=>if a.length+b.length<=100000 then ret (.str (a++b))else Pb
 |x,y=>dD x y
theorem Ť(h:n<=100000):n<=sizeLine:=Ib h (by decide)
section
variable{T:Tb}{X:Cx}{a b c:Ma}{fa fb fc:Ev->M D}{pos:Ce}
theorem zqr{c:Aa}{t b:Addr}{l:List Value}(v:Su s.heap t (#[]:Array Value))(q:Su s.heap b l.toArray)(p:Q (.ref b) s):wpAny (model c w) A (Be .Add (.ref t) (.ref b)) Q F s:=by
 obtain⟨⟨m,o,j,y⟩,k,r,n,u⟩:=id v;obtain⟨⟨i,e,d,h⟩,a,f,x,g⟩:=id q;subst r u f g;exact Pv ⟨_,k,rfl⟩ ⟨_,a,rfl⟩ Cq tu Xi Gi (ti _ _)
  (tuple_addW0 t b #[] l.toArray n x o e y h rfl) ⟨k,a,p⟩
theorem nI{b:List (Addr × jd)}{st:St}(I:Za X b st H s)(C:Pd v i)(B:Pd u h)(r:Sd T d H e)(t:La T d H x v)(z:La T d H y u)(a:gc T E (La T) d H (dD x y e) Q) :
  wpAny (model X.prog X.w) X.A (Be .Add i h) (EP X b st Q) X.xe s:=by
 unfold dD at a;cases c:rh e x with
 |none=>rw[c]at a;exact a.elim
 |some xs=>
  cases f:rh e y with
  |none=>rw[c,f]at a;exact a.elim
  |some J=>
   rw[c,f]at a;dsimp only at a;by_cases g:xs.length+J.length<=ai
   ·rw[ia g]at a;obtain⟨p,F,rfl,m,j⟩:=r.ls t c;obtain⟨q,G,rfl,n,k⟩:=r.ls z f;exact IV b s st H _ _ i h Q I C B ⟨p,q,F,G,rfl,rfl,m,n,by rw[<-j.length,<-k.length];exact Dy g,λl o=>rE a r (Db.append j k) o⟩
   ·rw[ka g]at a;exact a.elim
theorem l6(S:T.K=X.K):di X (Be .Add) (rD T Nh):=by
 intro d s st H v u C B Q I m k h;obtain⟨E,W,σ,x,y,r,f,g,c⟩:=h;cases x with
 |int i=>
  cases y with
  |int j=>exact G7 d s st H v u C B Q I m k ⟨i,j,Mp f,Mp g,gc.here c r (by rw[La])⟩
  |_=>exact nI I m k r f g c
 |str a=>
  cases y with
  |str b=>
   unfold Nh at c;dsimp only at c;by_cases n:a.length+b.length<=100000
   ·rw[ia n]at c;exact P2 d s st H v u C B Q I m k ⟨a,b,by simpa [La]using f,by simpa [La]using g,Ť n,gc.here c r (by rw[La])⟩
   ·rw[ka n]at c;exact c.elim
  |_=>exact nI I m k r f g c
 |Ka xs=>
  cases y with
  |Ka J=>
   unfold Nh at c;dsimp only at c;by_cases n:xs.length+J.length<=ai
   ·rw[ia n]at c;have z:=f;have A:=g;obtain⟨p,P,rfl,D,t⟩:=f;obtain⟨q,R,rfl,F,w⟩:=g;cases P with
    |nil=>
     have o:xs=[]:=by have:=t.length;simpa using this
     subst o;cases m;cases k;obtain⟨its,M,N,_⟩:=L2.Za.tuple I (ii.of D);obtain⟨G,U,O,_⟩:=L2.Za.tuple I (ii.of F);cases M;exact zqr N O ⟨.ref q,H,I,rfl,gc.here c r (by simpa using A)⟩
    |cons v0 V=>
     refine Å d s st H _ _ C B Q I m k ⟨p,q,_,R,rfl,rfl,ii.of D,ii.of F,by simp,?_,λe=>?_,λe l L=>?_⟩
     ·rw[<-t.length,<-w.length];exact Dy n
     ·subst e;have o:J=[]:=by have:=w.length;simpa using this
      subst o;exact gc.here c r (by simpa using z)
     ·exact KA c r (Db.append t w) L
   ·rw[ka n]at c;exact c.elim
  |_=>exact nI I m k r f g c
 |_=>exact nI I m k r f g c
noncomputable def XI(a:D->D->M D)(c:M D)(y:D):D->M D:=zy (ql (Fd c (a y)) (ret (.bl false)))
def xK(o a:D->D->M D)(c:M D)(x y:D):M D:=Fd (o x y) (XI a c y)
def fJ(o a:D->D->M D)(b c:M D)(x:D):M D:=Fd b (xK o a c x)
def AJ(o e:D->D->M D)(a b c:Ev->M D):Ev->M D:=λd=>Fd (a d) (fJ o e (b d) (c d))
theorem z7{r K:R2}(Y:di X (Sb j) r)(hs:Jl T r o)(g:di X (Sb d) K)(i:Jl T K G)(S:FE T X a fa)(U:FE T X b fb)(V:FE T X c fc)
  (W:lastMarks [j,d] [b,c]=false:=by with_unfolding_all rfl):FE T X (.Compare a [j,d] [b,c] pos) (AJ o G fa fb fc):=by
 intro e s st H Q I h;refine zve Y g S U V W e s st H Q I ?_;obtain⟨μ,ρ,σ,f,hr,Z⟩:=h;refine⟨μ,ρ,σ,f,hr,Z.bind λx q l v H1 _ C r1 q1 p1=>⟨l,ρ,q,f.mono C,r1,p1.bind λy t m w N _ E r2 J p2=>?_⟩⟩;refine hs _ m N t x y v w _ r2 (La.mono E _ _ q1) J (p2.bind λz A n u H3 _ F L q3 p3=>?_);obtain⟨k,rfl,R,p4⟩:=GH q3 p3;refine⟨k,R,?_⟩;cases k with
 |true=>
  exact⟨n,ρ,A,((f.mono C).mono E).mono F,L,p4.bind λz B p u5 O _ P r5 q5 p5=>i _ p O B y z w u5 Q r5 (La.mono P _ _ (La.mono F _ _ J)) q5 p5⟩
 |false=>unfold ql at p4;rw[ka ub]at p4 ⊢;exact gc.here p4 L (by rw[La])
theorem Ae(a:Yd k A):A.units+9<cLine:=by have:=a.un;omega
end
def bg(K:W.Frag)(d:Str->Option Value)(x:Str)(st:Stmt)(c:List Str):Prop:=
 ∃ f b,d x=some (.ref f)/\vy K x x st f b/\∀ a:List Value,a.length=c.length->bindArgs b ⟨a,[]⟩=pure (c.zip a)
def Qe(T:Tb)(P:Aa)(w:Wa)(e:Str->Option Value)(a:Heap)(k:Nat)(x:Str)(b:List Str)(g:List D->M D):Prop:=
 ∃ f d,e x=some (.ref f)/\W.keepIn T.K (.ref f)=true/\(∀ c:List Value,c.length=b.length->bindArgs d ⟨c,[]⟩=pure (b.zip c))/\ri P w T.K e a (Il P w) k f d b (xq T b.length g)
section
variable{T:Tb}{X:Cx}
theorem M7(h:Qe T X.prog X.w X.mg X.base k x m g)(n:T.K=X.K)(u:Yd k X.A)(s:Gl X x)
  (o:FA T X (e::a) i) (c:(x == ("__debug__" : Str))=false:=by decide) (r:qa (e::a) X.env=(false,Yb e X.env)::qa a X.env:=by rfl) (d:(Vc b (qa a X.env)).any (·.1)=false:=by rfl) :
  FE T X (.Call (.Name x p) (e::a) [] b) (yd m.length g [] i):=by
 obtain⟨f,v,t,l,q,j⟩:=h;rw[n]at l j;exact eN j u s t l (.all q) .nil (λ_ _=>Db.nil) o c r d
variable{P:Aa}{w:Wa}{K:W.Frag}{mg:Str->Option Value}{base:Heap}{ca:Nat->Addr}{tx:Tx}
theorem nU{st:Stmt}(h:bg K mg x st e)(S:va N e (Qc st))
  (j:∀ (f:Addr) (a:Value) (A:Qa) (b:List qh) (s:aa) (H:Hp) (E:XK),Yd k (A.deeper (yg x (Qc st) s.heap.objs.size f a))->Pl ⟨K,ca,tx⟩ (Tp (Il P w) P w K mg base N x (Qc st) f a A b s H E) (Ej st) g) :
  Qe ⟨K,ca,tx⟩ P w mg base (k+1) x e (Nd N.length g):=by
 obtain⟨f,o,l,F,c⟩:=h;obtain⟨p,q,kV,i,r,n,a,ct,m,rfl,lk,d⟩:=F.ex;exact⟨f,_,l,F.kp,c,pB lk d S (j f a)⟩
theorem Qe.vc{k:Nat}{x:Str}{b:List Str}{a:List D->M D}(h:Qe T P w mg base k x b a):Qe T P w mg base k x b (λc=>L4.vc (a c)):=by
 obtain⟨f,d,e,g,i,j⟩:=h;exact⟨f,d,e,g,i,sG j⟩
theorem lR{st:Stmt}{kV d g b ct:Value}(X:K.In h)(G:h.Ns mainGlobals mg)
  (n:∀ (kV d g:Value) (e:Option Addr) (b ct:Value) (m:List Value),m.length=j.length->bindArgs (W.fnOf x x (pp st) (Ej st) (Qc st) .none kV d g e b ct) ⟨m,[]⟩=pure (j.zip m))
  (a:W.nsIn K mainGlobals x=some (some (.ref f))) (l:K.lookup f=some ⟨o,p,.func (W.fnOf x x (pp st) (Ej st) (Qc st) .none kV d g e b ct),i⟩)
  (c:W.codeIn K b x=true) (k:W.keepIn K (.ref f)=true):bg K mg x st j:=
 ⟨f,_,W.mg_of X G a,bW l c k,n kV d g e b ct⟩
theorem i7(X:K.In h)(G:h.Ns mainGlobals mg)(a:W.nsIn K mainGlobals x=some (some (.int i t))):∃ t,mg x=some (.int i t):=⟨t,W.mg_of X G a⟩
end
def NK(T:Tb)(P:Aa)(w:Wa)(e:Str->Option Value)(k:Nat)(x:Str)(b:List Str)(g:List D->M D):Prop:=
 ∃ f d,e x=some (.ref f)/\(∀ c:List Value,c.length=b.length->bindArgs d ⟨c,[]⟩=pure (b.zip c))/\∀ a:Heap,ri P w T.K e a (Il P w) k f d b (xq T b.length g)
theorem n4{K:W.Frag}{st:Stmt}(h:bg K i x st j)(S:va N j (Qc st))
  (n:∀ (a:Heap) (f:Addr) (b:Value) (A:Qa) (c:List qh) (s:aa) (H:Hp) (E:XK),Yd k (A.deeper (yg x (Qc st) s.heap.objs.size f b))->Pl ⟨K,l,tx⟩ (Tp (Il P w) P w K i a N x (Qc st) f b A c s H E) (Ej st) g) :
  NK ⟨K,l,tx⟩ P w i (k+1) x j (Nd N.length g):=by
 obtain⟨f,r,o,F,d⟩:=h;obtain⟨t,u,kV,m,v,q,b,ct,p,rfl,lk,e⟩:=F.ex;exact⟨f,_,o,d,λa=>pB lk e S (n a f b)⟩
theorem S9{K:W.Frag}(k:K.In h)(f:W.excIn K C c a=true) :
  ∃ g N x y n j z e m d o r s t u v B,h.get? C=some (excClassObj x y C N n g j z e m d o r s t u v a)/\h.Ns N B/\B "__init__" = none/\OwnTail h c g:=by
 unfold W.excIn at f;split at f
 ·rename_i o b P lk
  split at f
  ·rename_i D g r s t u w v i p
   have q:((((D=C/\w=a)/\b.hasDel=false)/\W.tailIn K c g=true)/\W.nsOkIn K b.ns=true)/\W.nsIn K b.ns "__init__" = some none:=by
    simpa using f
   obtain⟨⟨⟨⟨⟨E,F⟩,G⟩,H⟩,A⟩,I⟩:=q;subst E;subst F;obtain⟨x,n,M,O,y,L,z,e,m,d,J⟩:=b;cases i;cases G;obtain⟨l⟩:=P;cases p;exact⟨g,O,x,y,n,L,z,e,m,d,o,r,s,t,u,v,_,k _ _ lk,.of_isNs (W.isNs_of_in k A),W.nsMap_none_of_in k A I,W.tail_of_in k H⟩
  ·cases f
 ·cases f
def JH(c:Nat)(b:Ev)(a:List D):M Fl:=if a.length<=ai then ret (.xc b ⟨c⟩)else Pb
def jz(c:Nat)(b:Ev->M (List D)):Ev->M Fl:=λa=>xs a (b a) (JH c a)
section
variable{T:Tb}{X:Cx}
theorem mE(c:Nat)(G:ExcBaseFacts B b d j)(hK:T.K=X.K)(S:W.excIn T.K (T.ca c) j b=true)(hm:X.mg x=some (.ref (T.ca c)))
  (hg:Gl X x) (hc:X.Da=true) (ha:FA T X (e::i) Q) (w:(x == ("__debug__" : Str))=false:=by decide) (R:qa (e::i) X.env=(false,Yb e X.env)::qa i X.env:=by rfl)
  (A:(Vc a (qa i X.env)).any (·.1)=false:=by rfl) (y:GA c=none:=by rfl):FS T X (.Raise (some (.Call (.Name x np) (e::i) [] a)) none C) (jz c Q):=by
 intro o s st H D I hw;obtain⟨μ,ρ,σ,v,hr,hp⟩:=hw;rw[hK]at S;obtain⟨L,N,nm,qn,O,f,sn,p,J,k,P,U,V,Y,Z,k5,mN,hC,hN,z,tl⟩:=S9 I.ok.mod.Ky S;have m:(Vc a (qa (e::i) X.env)).any (·.1)=false:=by
  rw[R];show (false || (Vc a (qa i X.env)).any (·.1))=false;rw[A];rfl
 refine wpAny_Raise_call_subT (nm:=nm) (q:=qn) (N:=N) (bs:=O) (bm:=L) (hdct:=f) (sn:=sn) (sub:=p) (ab:=J) (col:=k) (dd:=P) (k0:=U) (k1:=V) (k2:=Y) (k3:=Z) (k5:=k5) G (tl.hasType G.hasBase) (I.ok.hd hc) m z (BB I hg hm ⟨rfl,?_⟩ w);have h:=ha a o s st H (λF u=>F.length<=ai/\UB X st (T.cv ⟨c⟩) none u) I ⟨μ,ρ,σ,v,hr,hp.xs v λds a1 a0 F u _ e1 r1 q1 n=>by
  unfold JH at n;by_cases l:ds.length<=ai
  ·rw[ia l]at n;exact⟨by rw[<-q1.length];exact l,gc.here (g:=zr.xc st (T.cv ⟨c⟩) none) n r1 ⟨v.mono e1,rfl,y.symm⟩⟩
  ·rw[ka l]at n;exact n.elim⟩
 rw[R]at h ⊢;refine Wj (pe h λus s1 zz=>?_);obtain⟨F,u,t,r,l,E⟩:=zz;exact⟨rfl,by rw[<-r.length];exact Dy l,t.bk _ _ hC,hN.keeps t.bk,tl.keeps t.bk,λh' ea hx=>E.made t hx⟩
end
structure Hd where
 t:Nat->Option Bool
 nm:Option Nat
 g:Ev->M Fl
def uO(i:Nat):Fl->M Fl
 | .nx ρ=>ret (.nx (ρ.set i none))
 | .rt d=>ret (.rt d)
 | .bk ρ=>ret (.bk (ρ.set i none))
 | .ct ρ=>ret (.ct (ρ.set i none))
 | .xc _ _=>Pb
def FH:Fl->M Fl
 | .nx ρ=>ret (.nx ρ)
 | .rt d=>ret (.rt d)
 | .bk ρ=>ret (.bk ρ)
 | .ct ρ=>ret (.ct ρ)
 | .xc _ _=>Pb
def hit(h:Hd)(a:Ev)(x:Xn):M Fl:=match h.nm with
 |none=>Fd (h.g a) FH
 |some i=>Fd (h.g (a.set i (some (.Dt x.cls)))) (uO i)
def Ix(a:Ev)(x:Xn):List Hd->M Fl
 |[]=>Pb
 |h::r=>match h.t x.cls with
  |some true=>hit h a x
  |some false=>Ix a x r
  |none=>Pb
def fD(b:List Hd):Fl->M Fl
 | .xc a x=>Ix a x b
 | .nx a=>ret (.nx a)
 | .rt d=>ret (.rt d)
 | .bk a=>ret (.bk a)
 | .ct a=>ret (.ct a)
def xF(g:Ev->M Fl)(a:List Hd):Ev->M Fl:=λb=>Fd (g b) (fD a)
abbrev Cx.Rw(X:Cx)(e:Value):Cx:={ X with A:=X.A.mark (some e),Da:=false,xe:=λ_ _=>False }
abbrev Cx.iH(X:Cx)(a:List (Addr × jd))(xe:Value->aa->Prop):Cx:={ X with xe:=xe,pn:=X.pn++a }
section
variable{T:Tb}{X:Cx}{pins:List (Addr × jd)}{st:St}{H:Hp}{s:aa}{e:Value}{xe:Value->aa->Prop}
theorem rY(I:Za X pins st H s):Za (Cx.iH X pins xe) [] st H s:=
 ⟨⟨I.ok.mod,I.ok.kind,I.ok.glob,I.ok.blt,I.ok.above,I.ok.inj,I.ok.has,I.ok.My,I.ok.hd,I.ok.frames,I.ok.zq,I.ok.cz,I.ok.bs,I.ok.As,I.ok.Br,I.ok.Ir,I.ok.Vj,I.ok.Mv⟩,I.os,I.bare,I.base,I.loc,I.cell,I.free,I.Ug,λp a=>I.pin p (by simpa using a),I.zd,I.len⟩
theorem sD(I:Za (Cx.iH X pins xe) b st H s):Za X pins st H s:=
 ⟨⟨I.ok.mod,I.ok.kind,I.ok.glob,I.ok.blt,I.ok.above,I.ok.inj,I.ok.has,I.ok.My,I.ok.hd,I.ok.frames,I.ok.zq,I.ok.cz,I.ok.bs,I.ok.As,I.ok.Br,I.ok.Ir,I.ok.Vj,I.ok.Mv⟩,I.os,I.bare,I.base,I.loc,I.cell,I.free,I.Ug,λp a=>I.pin p (ib _ a),I.zd,I.len⟩
theorem NF(I:Za X pins st H s):Za (Cx.Rw X e) pins st H s:=
 ⟨⟨I.ok.mod,I.ok.kind,I.ok.glob,I.ok.blt,I.ok.above,I.ok.inj,I.ok.has,I.ok.My,λz=>(by cases z),I.ok.frames,I.ok.zq,I.ok.cz,I.ok.bs,I.ok.As,I.ok.Br,I.ok.Ir,I.ok.Vj,I.ok.Mv⟩,I.os,I.bare,I.base,I.loc,I.cell,I.free,I.Ug,I.pin,I.zd,I.len⟩
theorem OD(ok:X.Ok)(I:Za (Cx.Rw X e) pins st H s):Za X pins st H s:=
 ⟨ok,I.os,I.bare,I.base,I.loc,I.cell,I.free,I.Ug,I.pin,I.zd,I.len⟩
theorem n3{D:Wk}(h:SP (Cx.iH X pins xe) [] D f c):SP X pins D f c:=by
 cases f with
 |next=>obtain⟨a,b,I,q⟩:=h;exact⟨a,b,sD I,q⟩
 |brk=>obtain⟨a,b,I,q⟩:=h;exact⟨a,b,sD I,q⟩
 |cont=>obtain⟨a,b,I,q⟩:=h;exact⟨a,b,sD I,q⟩
 |ret u=>obtain⟨v,a,b,I,r,q⟩:=h;exact⟨v,a,b,sD I,r,q⟩
theorem nY(ok:X.Ok){D:Wk}(h:SP (Cx.Rw X e) pins D f c):SP X pins D f c:=by
 cases f with
 |next=>obtain⟨a,b,I,q⟩:=h;exact⟨a,b,OD ok I,q⟩
 |brk=>obtain⟨a,b,I,q⟩:=h;exact⟨a,b,OD ok I,q⟩
 |cont=>obtain⟨a,b,I,q⟩:=h;exact⟨a,b,OD ok I,q⟩
 |ret u=>obtain⟨v,a,b,I,r,q⟩:=h;exact⟨v,a,b,OD ok I,r,q⟩
end
def Hu(X:Cx)(a:List (Addr × jd))(st:St)(H:Hp)(s:aa)(d:Addr)(b:Value)(e:Option Nat):Prop:=∃ c s0,Za X a st c s0/\Zy X.prog X.w X.stack c s0 b e H (.ref d) s
section
variable{T:Tb}{X:Cx}{pins:List (Addr × jd)}{st:St}{H:Hp}{s:aa}{ea:Addr}{cls:Value}{fd:Option Nat}
theorem Hu.inv(L:Hu X pins st H s ea cls fd):Za X pins st H s:=by
 obtain⟨a,s0,I,F⟩:=L;exact L2.Za.iv I F.os F.un F.zd F.bare λb z=>absurd z (by simp)
theorem Hu.next(L:Hu X pins st H s ea cls fd){M:lm}(h:∀ l,Hu X pins st H l ea cls fd->Q () l):wpAny M A (ak (.ref ea) none) Q E s:=by
 obtain⟨m,s0,I,F⟩:=L;obtain⟨p,n,B,e,g,r,b,k,j,i,q⟩:=F.ex;cases e;refine CN g λu a f c=>h _ ?_;obtain⟨t,d⟩:=vN F j k i g.1 a.1 f (lK I);exact⟨m,s0,I,⟨ea,n,B,rfl,a,r,b,k,j,i,q.next c (let ⟨o,e,_⟩:=a.there;⟨o,e⟩)⟩,F.os,F.bare,t,d⟩
theorem Hu.obj(L:Hu X pins st H s ea cls fd):H ea=none/\(∃ o,s.heap.get? ea=some o/\o.cls=cls)/\∃ s0:aa,s0.heap.get? ea=none/\∃ b,Za X pins st b s0:=by
 obtain⟨b,s0,I,F⟩:=L;obtain⟨c,g,B,e,d,f,a,k,i,h,j⟩:=F.ex;cases e;exact⟨f,d.there,s0,a,b,I⟩
theorem zK(I:Za X pins st H s)(h:Za X pins st A s0)(d:s0.heap.get? a=none)(C:H a=none)(D:s.heap.get? a=some o)(l:φ s.heap)
  (E:∀ r t:Heap,φ r->(∀ u,r.get? a=some u->t.get? a=some u)->φ t):Za X pins st (pc H a (.ext φ)) s:=by
 have j:∀ b u,s0.heap.get? b=some u->b≠a:=λb u e z=>by rw[z,d]at e;cases e
 have g:∀ b u,H b=some u->b≠a:=λb u e z=>by rw[z,C]at e;cases e
 have F:∀ b u,X.s₀.heap.get? b=some u->b ∉ X.ex->b≠a:=λb u e i=>by obtain⟨N,B⟩:=h.base.there b u e i;exact j b N B
 refine⟨I.ok,I.os,I.bare,⟨I.base.keep,I.base.slot,λb u e n i=>?_,I.base.there,λb xs e=>?_,λb G u e=>?_,λb M e=>?_⟩,I.loc,I.cell,?_,λx c e=>?_,λp y=>?_,λb u e=>?_,I.len⟩
 ·rw[de (F b u e i)];exact I.base.free b u e n i
 ·have q:=I.base.vj b xs e;rw[de (g b _ q)];exact q
 ·have q:=I.base.Fi b G u e;rw[de (g b _ q)];exact q
 ·obtain⟨f,q⟩:=I.base.jj b M e;exact⟨f,by rw[de (g b _ q)];exact q⟩
 ·obtain⟨m,⟨u,_,_,k,_⟩,_⟩:=h.loc;rw[de (j _ u k)];exact I.free
 ·obtain⟨v,u,k,_⟩:=h.cell x c e;rw[de (j _ u k)];exact I.Ug x c e
 ·obtain⟨J,K,L⟩:=I.pin p y;refine⟨J,?_,L⟩;rw[de (j _ _ (h.pin p y).1)];exact K
 ·by_cases w:b=a
  ·subst w;rw[vh]at e;cases e;exact⟨l,⟨o,D⟩,E⟩
  ·rw[de w]at e;exact(I.zd b u e).Zk (λc v _ q=>q) (λc q=>by rw[de (g c _ q)];exact q) λc xs q=>by rw[de (g c _ q)];exact q
theorem jU:∀ b c:Heap,Jy C d a b->(∀ u,b.get? a=some u->c.get? a=some u)->Jy C d a c:=λb c ⟨u,e,q⟩ k=>⟨u,k u e,q⟩
theorem gZ:∀ b c:Heap,cH a n b->(∀ u,b.get? a=some u->c.get? a=some u)->cH a n c:=λb c ⟨u,d,q⟩ k=>⟨u,k u d,q⟩
theorem Hu.XD(L:Hu X pins st H s ea (.ref C) fd):∃ w g,Za X pins st g s/\g ea=some (.ext (Jy C w ea))/\(∀ n,fd=some n->∃ a,w=some a/\H a=none/\g a=some (.ext (cH a n)))/\(∀ b u,H b=some u->g b=some u)/\∀ b u,g b=some u->H b=some u\/H b=none:=by
 have I:=L.inv;obtain⟨P,s0,p,F⟩:=L;obtain⟨J,Q,B,e,k,d,c,T,S,R,K⟩:=F.ex;cases e;obtain⟨o,f,x⟩:=k.there;cases t:fd with
 |none=>
  have r:=zK (φ:=Jy C none ea) I p c d f ⟨o,f,x,λ_ z=>by cases z⟩ jU;refine⟨none,_,r,vh,(λn q=>by cases q),λb u e=>?_,λb u e=>?_⟩
  ·rw[de (λz=>by rw[z,d]at e;cases e)];exact e
  ·by_cases h:b=ea
   ·rw[h];exact .inr d
   ·rw[de h]at e;exact .inl e
 |some n=>
  obtain⟨a,oD,A,D,M,E,N,l,O⟩:=K n t;have v:A=o:=by rw[f]at D;cases D;rfl
  subst v;have i:=k.1 a oD E;have j:a≠ea:=λz=>by
   have:=k.2.1;rw[<-z,E]at this;cases this
  have r:=zK (φ:=Jy C (some a) ea) I p c d f ⟨A,f,x,λ_ z=>by cases z;exact⟨M,k.YJ f⟩⟩ jU;have G:=zK r p O (by rw[de j];exact l) i ⟨oD,i,N⟩ gZ;refine⟨some a,_,G,by rw[de (Xe j)];exact vh,λm q=>?_,λb u e=>?_,λb u e=>?_⟩
  ·cases q;exact⟨a,rfl,l,vh⟩
  ·rw[de (λz=>by rw[z,l]at e;cases e),de (λz=>by rw[z,d]at e;cases e)];exact e
  ·by_cases y:b=a
   ·rw[y];exact .inr l
   ·rw[de y]at e;by_cases h:b=ea
    ·rw[h];exact .inr d
    ·rw[de h]at e;exact .inl e
theorem ļ(I:Za X pins st H s)(m:X.stack=X.env::X.outer)(C:X.env.frame=some X.env.locals)(F:Zy X.prog X.w X.stack H s cls fd r e n){M:lm}{Q:Value->aa->Prop}
  (h:∀ ea d,e=.ref ea->Hu X pins st r d ea cls fd->Q e d):wpAny M X.A (nh e X.env) (λ_ s2=>wpAny M X.A (ak e none) (λ_ G=>Q e G) E s2) E n:=by
 obtain⟨ea,f,B,rfl,t,D,c,x,v,u,z⟩:=F.ex;have j:ir B (X.env::X.outer) ea cls f n.heap:=by rw[<-m];exact t
 refine qW (by rw[<-m];exact I.ok.frames) C j λK b p g=>?_;refine CN (GT b) λy k q i=>h ea _ rfl ?_;have a:ir B X.stack ea cls f y:=by rw[m];exact k
 obtain⟨J,l⟩:=vN F v x u t.1 a.1 (p.trans q) (lK I);exact⟨H,s,I,⟨ea,f,B,rfl,a,D,c,x,v,u,z.next (g.trans i) (let ⟨o,e,_⟩:=a.there;⟨o,e⟩)⟩,F.os,F.bare,J,l⟩
end
def NJ(X:Cx)(x:Str)(a:Value):Prop:=X.mg x=some a\/(X.mg x=none/\bootBuiltins x=some a/\x ≠ "__name__")
inductive uz(T:Tb)(X:Cx):List Tg->List Hd->Prop where
 |nil {r:List Tg}:uz T X r []
 |cons {x:Str} {np pos:Ce} {cv:Value} {b₀:Stmt} {suite:List Stmt} {t:Nat->Option Bool} {g:Ev->M Fl} {r:List Tg} {hs:List Hd} (hg:Gl X x) (hd:(x == ("__debug__" : Str))=false) (hm:NJ X x cv) (ht:∀ c b,t c=some b->W.exmOne X.K (.ref (T.ca c)) cv=some b)
   (hb:∀ e,Pl T (Cx.Rw X e) (b₀::suite) g) (hr:uz T X r hs):uz T X (.ExceptHandler (some (.Name x np)) none (b₀::suite) pos::r) (⟨t,none,g⟩::hs)
 |wz {x n:Str} {i:Nat} {np pos:Ce} {cv:Value} {b₀:Stmt} {suite:List Stmt} {t:Nat->Option Bool} {g:Ev->M Fl} {r:List Tg} {hs:List Hd} (hg:Gl X x) (hd:(x == ("__debug__" : Str))=false) (hm:NJ X x cv) (ht:∀ c b,t c=some b->W.exmOne X.K (.ref (T.ca c)) cv=some b)
   (hN:X.N.Nodup) (hi:X.N[i]?=some n) (hl:X.env.scope.names.lookup n=some .local)
   (hb:∀ e,Pl T (Cx.Rw X e) (b₀::suite) g) (hr:uz T X r hs):uz T X (.ExceptHandler (some (.Name x np)) (some n) (b₀::suite) pos::r) (⟨t,some i,g⟩::hs)
section
variable{T:Tb}{X:Cx}
theorem JP{st:St}(I:Za X b st H s)(f:Gl X x)(e:(x == ("__debug__" : Str))=false)(a:NJ X x d)(h:Q d s):wpAny (model X.prog X.w) X.A (Yb (.Name x c) X.env) Q E s:=by
 rcases a with a|⟨a,i,g⟩
 ·exact BB I f a h e
 ·exact Xw I f a i h g e
theorem DY{D:Wk}(c:gc T EN (wm T) i H (o.bind FH) (Tl X D)):gc T EN (wm T) i H o (Tl (Cx.Rw X e) D):=by
 cases o with
 |Pb=>exact c
 |ex x σ=>exact c
 |ok j σ=>
  intro a g d f h b;cases j with
  |nx ρ=>cases g with
   |nx st=>exact c a (.nx st) d f h b
   |_=>exact b.elim
  |rt ρ=>cases g with
   |rt st=>exact c a (.rt st) d f h b
   |_=>exact b.elim
  |bk ρ=>cases g with
   |bk st=>exact c a (.bk st) d f h b
   |_=>exact b.elim
  |ct ρ=>cases g with
   |ct st=>exact c a (.ct st) d f h b
   |_=>exact b.elim
  |xc ρ x=>exact c.elim
theorem iL{st:St}(h:Th T b H c st)(i:Nat):Th T b H (c.set i none) (st.set i none):=by
 refine⟨by simpa using h.1,λj d q=>?_⟩;rw[Wc]at q;by_cases a:i=j
 ·subst a;rw[ia rfl]at q;split at q<;>cases q
 ·rw[ka a]at q;obtain⟨v,e,f⟩:=h.2 j d q;exact⟨v,by rw[Wc,ka a];exact e,f⟩
theorem Ă{D:Wk}(c:gc T EN (wm T) j H (o.bind (uO i)) (Tl X D)):gc T EN (wm T) j H o (Tl (Cx.Rw X e) ⟨λst H=>D.nx (st.set i none) H,D.rt,λst H=>D.bk (st.set i none) H,λst H=>D.ct (st.set i none) H⟩):=by
 cases o with
 |Pb=>exact c
 |ex x σ=>exact c
 |ok k σ=>
  intro a g d f h b;cases k with
  |nx ρ=>cases g with
   |nx st=>exact c a (.nx (st.set i none)) d f h (iL b i)
   |_=>exact b.elim
  |rt ρ=>cases g with
   |rt st=>exact c a (.rt st) d f h b
   |_=>exact b.elim
  |bk ρ=>cases g with
   |bk st=>exact c a (.bk (st.set i none)) d f h (iL b i)
   |_=>exact b.elim
  |ct ρ=>cases g with
   |ct st=>exact c a (.ct (st.set i none)) d f h (iL b i)
   |_=>exact b.elim
  |xc ρ x=>exact c.elim
theorem zne{st:St}(I:Za X a st H s)(R:X.N.Nodup)(U:X.N[i]?=some n)(hl:X.env.scope.names.lookup n=some .local)(W:s.heap.Ns X.env.locals m)(F:h'.Ns X.env.locals λy=>if y=n then w else m y)(d:kg X.env.locals s.heap h'):Za X a (st.set i none) H { s with heap:=h',toks:=t }:=by
 have f:∀ b o,X.s₀.heap.get? b=some o->b≠X.env.locals:=λb o e=>Pa (Sa (za e) I.ok.above);obtain⟨J,E,l⟩:=I.loc;have O:J=m:=by
  obtain⟨o,es,ep,Y,S,hk,T⟩:=E;obtain⟨K,Q,P,x,h,V,C⟩:=W;rw[Y]at x;cases x;rw[S]at h;cases h;funext y;rw[<-T y,<-C y]
 subst O;refine⟨I.ok,I.os,I.bare,⟨λb o e n B A=>(d.2 b (f b o e)).trans (I.base.keep b o e n B A),λb o e n B A=>?_,I.base.free,λb o e A=>?_,I.base.vj,I.base.Fi,I.base.jj⟩,⟨_,F,λj y v G g M=>?_⟩,λy c e=>?_,I.free,I.Ug,λp Z=>?_,aK I.zd λb o u e q=>?_,by simpa using I.len⟩
 ·obtain⟨sl,q⟩:=I.base.slot b o e n B A;exact⟨sl,(d.2 b (f b o e)).trans q⟩
 ·obtain⟨K,q⟩:=I.base.there b o e A;exact⟨K,(d.2 b (f b o e)).trans q⟩
 ·rw[Wc]at g;by_cases D:i=j
  ·subst D;rw[ia rfl]at g;split at g<;>cases g
  ·rw[ka D]at g;obtain⟨u,r,lk⟩:=l j y v G g M;refine⟨u,r,?_⟩;have hy:y≠n:=λz=>D (MM R U (z ▸ G));rcases lk with⟨k,q⟩|⟨k,c,q,z⟩
   ·exact .inl ⟨k,by show (if y=n then w else J y)=some u;rw[ka hy];exact q⟩
   ·exact .inr ⟨k,c,q,z.sameBut d (I.sC y c q)⟩
 ·obtain⟨v,z⟩:=I.cell y c e;exact⟨v,z.sameBut d (I.sC y c e)⟩
 ·obtain⟨q1,q2,L,q4⟩:=I.pin p Z;exact⟨(d.2 p.1 L).trans q1,q2,L,q4⟩
 ·exact(d.2 b λz=>by rw[z,I.free]at e;cases e).trans q
theorem zhu{D:Wk}{st:St}(h:uz T X Y hs)(hE:Th T F H ρ st)(hr:Sd T F H σ)(d:gc T EN (wm T) F H (Ix ρ x hs σ) (Tl X D)) :
  ∀ s,Hu X c st H s l (T.cv x) (GA x.cls)->wpAny (model X.prog X.w) X.A (QN (.ref l) X.env Y) (SP X c D) X.xe s:=by
 induction h with
 |nil=>exact d.elim
 |@cons y np pos cv U R t g r hs hg hd hm ht hb P ih=>
  intro s L;have I:=L.inv;obtain⟨_,⟨o,ho,hc⟩,_⟩:=L.obj;refine Sy (Jw (JP (NF I) hg hd hm ?_)) (by intro q;cases q);unfold Ix at d;dsimp only at d;cases N:t x.cls with
  |none=>rw[N]at d;exact d.elim
  |some b=>
   rw[N]at d;have LT:W.Looks (model X.prog X.w) s.heap (ft (.ref l)) (T.cv x):=by rw[<-hc];exact(W.Looks.ld ho).andThen .now
   refine(W.exm_one I.sk LT (ht x.cls b N)).here ?_;cases b with
   |false=>exact ih d s L
   |true=>
    refine codeAny_handlers_suite (L.next λs' L'=>?_);exact Hc (hb (.ref l) c s' st H D (NF L'.inv) ⟨F,ρ,σ,hE,hr,DY d⟩) (λf s2 q=>nY I.ok q) λ_ _ z=>z.elim
 |@wz y n i np pos cv U R t g r hs hg hd hm ht hN hi hl hb P ih=>
  intro s L;have I:=L.inv;obtain⟨_,⟨o,ho,hc⟩,_⟩:=L.obj;refine Sy (Jw (JP (NF I) hg hd hm ?_)) (by intro q;cases q);unfold Ix at d;dsimp only at d;cases N:t x.cls with
  |none=>rw[N]at d;exact d.elim
  |some b=>
   rw[N]at d;have LT:W.Looks (model X.prog X.w) s.heap (ft (.ref l)) (T.cv x):=by rw[<-hc];exact(W.Looks.ld ho).andThen .now
   refine(W.exm_one I.sk LT (ht x.cls b N)).here ?_;cases b with
   |false=>exact ih d s L
   |true=>
    refine codeAny_handlers_suite_as (L.next λs' L'=>?_);have hn:=L'.obj.1;obtain⟨dd,H1,I1,a2,a1,C,a6⟩:=Hu.XD L';have B:∀ b,b∈F->∃ u,H b=some u:=λb z=>by obtain⟨u,E,_⟩:=hr.mem z;exact⟨u,E⟩
    have O:ie F H F H1:=⟨⟨[],by simp⟩,λp xs e=>C _ _ e,λp o u e=>C _ _ e,λp o e n=>⟨⟨o,C _ _ e,.inl rfl⟩,n⟩⟩
    have a4:l ∉ F:=λz=>by obtain⟨u,E⟩:=B _ z;rw[hn]at E;cases E
    have rp:La T F H1 (.Dt x.cls) (.ref l):=by
     refine⟨l,dd,rfl,a4,a2,λn q=>?_⟩;obtain⟨dN,z1,z2,z3⟩:=a1 n q;exact⟨dN,z1,λz=>(by obtain⟨u,E⟩:=B _ z;rw[z2]at E;cases E),z3⟩
    refine uH (X:=Cx.Rw X (.ref l)) (v:=.ref l) (NF I1) hN hi (.inl hl) rfl (λs2 I2=>?_) (.inr hl);refine Hc (hb (.ref l) c s2 _ _ ⟨λst H=>D.nx (st.set i none) H,D.rt,λst H=>D.bk (st.set i none) H,λst H=>D.ct (st.set i none) H⟩ I2 ⟨F,ρ.set i (some (.Dt x.cls)),σ,(hE.mono O).set i rp,hr.keep O (λa ha=>by obtain⟨u,E⟩:=B a ha;rw[C _ _ E,E]) (hr.tb.grow C),Ă (gc.mono O d)⟩) (λf s3 q=>?_) λ_ _ z=>z.elim;have V:(X.env.scope.kind == .class || (X.env.scope.kind == .module && X.env.locals != X.env.globals))=false:=by rw[I.ok.kind];rfl
    have go:∀ {j:St} {K:Hp},Za (Cx.Rw X (.ref l)) c j K s3->(∀ S,Za X c (j.set i none) K S->SP X c D f S)->wpAny (model X.prog X.w) X.A (do bindName X.env n .none;unbindBehindTheSuite X.env n pos) (λ_ a0=>SP X c D f a0) X.xe s3:=fun {j K} G k=>by
     have J:=OD I.ok G;obtain⟨m,Z,_⟩:=id J.loc;exact wpAny_nameGoes_keeps hl Z V λh4 v4 a3 a5=>k _ (zne J hN hi hl Z a3 a5)
    cases f with
    |next=>obtain⟨j,K,G,Q⟩:=q;exact go G λS M=>⟨_,_,M,Q⟩
    |brk=>obtain⟨j,K,G,Q⟩:=q;exact go G λS M=>⟨_,_,M,Q⟩
    |cont=>obtain⟨j,K,G,Q⟩:=q;exact go G λS M=>⟨_,_,M,Q⟩
    |ret u=>obtain⟨v,j,K,G,r3,Q⟩:=q;exact go G λS M=>⟨v,_,_,M,r3,Q⟩
theorem UW(C:X.stack=X.env::X.outer)(W:X.env.frame=some X.env.locals)
  (V:∀ a K,Yj (model X.prog X.w) X.A X.env K->Pl T (Cx.iH X a K) k g) (Y:uz T X (b::i) B):FS T X (.Try k (b::i) [] [] E) (xF g B):=by
 intro a s st H D I hw;obtain⟨N,ρ,σ,U,hr,Z⟩:=hw;refine wpAny_Try_except ?_;refine Hc (V a (λe o=>wpAny (model X.prog X.w) X.A (nh e X.env) (λ_ p=>wpAny (model X.prog X.w) X.A (ak e none) (λ_ d=>wpAny (model X.prog X.w) X.A (QN e X.env (b::i)) (SP X a D) X.xe d) X.xe p) X.xe o) zaD [] s st H D (rY I)
  ⟨N,ρ,σ,U,hr,?_⟩) (λf s1 q=>?_) λ_ _ z=>z
 ·have c:gc T EN (wm T) N H ((g ρ σ).bind (fD B)) (Tl X D):=Z;cases v:g ρ σ with
  |Pb=>rw[v]at c;exact c
  |ex x J=>rw[v]at c;exact c
  |ok S J=>
   rw[v]at c;intro j l r P n h;have m:=c.mono P;cases S with
   |nx ρ=>cases l with
    |nx st=>exact m j (.nx st) r (ie.refl _ _) n h
    |_=>exact h.elim
   |rt ρ=>cases l with
    |rt st=>exact m j (.rt st) r (ie.refl _ _) n h
    |_=>exact h.elim
   |bk ρ=>cases l with
    |bk st=>exact m j (.bk st) r (ie.refl _ _) n h
    |_=>exact h.elim
   |ct ρ=>cases l with
    |ct st=>exact m j (.ct st) r (ie.refl _ _) n h
    |_=>exact h.elim
   |xc a1 x=>cases l with
    |xc a0 cls fd=>
     obtain⟨y,rfl,rfl⟩:=h;refine⟨λp0 H0 s0 e s' O F=>?_⟩;exact ļ (sD O) C W F (Q:=λe d=>wpAny (model X.prog X.w) X.A (QN e X.env (b::i)) (SP X a D) X.xe d) λea G R L=>by subst R;exact zhu Y y n m G L
    |_=>exact h.elim
 ·have t:=n3 q;cases f with
  |next=>exact si t
  |brk=>exact t
  |cont=>exact t
  |ret u=>exact t
end
theorem dU(h:FS T X r (Ue i f)):FS T X r (Ue i (Bh f)):=by
 intro p s st H D I S;obtain⟨t,ρ,σ,F,u,R⟩:=S;refine h p s st H D I ⟨t,ρ,σ,F,u,?_⟩;have a:gc T EN (wm T) t H (xs ρ (vc (f ρ)) (yE i ρ) σ) (Tl X D):=R;show gc T EN (wm T) t H (xs ρ (f ρ) (yE i ρ) σ) (Tl X D);unfold xs vc at a;unfold xs;cases e:f ρ σ with
 |Pb=>rw[e]at a;exact a
 |ex x c=>
  rw[e]at a;unfold Uh at a;dsimp only at a ⊢;by_cases g:c.take σ.length=σ
  ·rw[ia g]at a;intro L C y m w q;cases C with
   |xc l O B=>
    obtain⟨J,z⟩:=Sd.down u w m g;obtain⟨N,U⟩:=q;refine a t (.xc l O B) y z J ⟨⟨N.1,λj d b=>?_⟩,U⟩;obtain⟨v,n,o⟩:=N.2 j d b;obtain⟨K,_,E⟩:=F.2 j d b;exact⟨v,n,La.down m.pre d K v E o⟩
   |_=>exact q.elim
  ·rw[ka g]at a;exact a.elim
 |ok d c=>
  rw[e]at a;unfold Uh at a;dsimp only at a ⊢;by_cases g:c.take σ.length=σ
  ·rw[ia g]at a;cases A:fz σ.length c 6 d with
   |none=>rw[A]at a;exact a.elim
   |some P=>
    rw[A]at a;intro L C y m w q;cases C with
    |nx l=>
     obtain⟨J,z⟩:=Sd.down u w m g;have k:=q;refine a t (.nx l) y z J ⟨by simpa using k.1,λj x b=>?_⟩;rw[Wc]at b;by_cases G:i=j
     ·subst G;rw[ia rfl]at b;split at b
      ·rename_i Q
       cases b;obtain⟨v,n,o⟩:=k.2 i d (by rw[Wc,ia rfl,ia Q]);exact⟨v,n,WP m.pre w 6 d P v (by rw[u.len];exact A) o⟩
      ·cases b
     ·rw[ka G]at b;obtain⟨v,n,o⟩:=k.2 j x (by rw[Wc,ka G];exact b);obtain⟨K,_,E⟩:=F.2 j x b;exact⟨v,n,La.down m.pre x K v E o⟩
    |_=>exact q.elim
  ·rw[ka g]at a;exact a.elim
def UA:List D->Option (List Bool)
 |[]=>some []
 | .bl b::r=>(UA r).map (b::·)
 |_::_=>none
def qt:List D->Option (List Int)
 |[]=>some []
 | .int b::r=>(qt r).map (b::·)
 |_::_=>none
theorem dP{T:Tb}{j:List Addr}{H:Hp}:∀ {c:List D} {a:List V} {bs:List Bool},Db T j H c a->UA c=some bs->a=bs.map V.bl
 |[],a,bs,r,h=>by cases h;rw[Db]at r;exact r
 |d::c,a,bs,r,h=>by
  obtain⟨v,w,rfl,e,i⟩:=r;cases d with
  |bl b=>
   obtain⟨k,f,g⟩:=Eb.mp h;subst g;rw[La]at e;subst e;rw[dP i f];rfl
  |_=>cases h
theorem aD{T:Tb}{j:List Addr}{H:Hp}:∀ {c:List D} {a:List V} {bs:List Int},Db T j H c a->qt c=some bs->a=bs.map V.int
 |[],a,bs,r,h=>by cases h;rw[Db]at r;exact r
 |d::c,a,bs,r,h=>by
  obtain⟨v,w,rfl,e,i⟩:=r;cases d with
  |int b=>
   obtain⟨k,f,g⟩:=Eb.mp h;subst g;rw[La]at e;subst e;rw[aD i f];rfl
  |_=>cases h
def IE(xs:List D):M D:=λσ=>match xs with
 |[x]=>(match (yj σ x).bind UA with
  |some bs=>.ok (.bl (bs.all id)) σ
  |none=>.Pb)
 |_=>.Pb
def Eu(xs:List D):M D:=λσ=>match xs with
 |[x]=>(match (yj σ x).bind qt with
  |some bs=>.ok (.int bs.sum) σ
  |none=>.Pb)
 |_=>.Pb
section
variable{T:Tb}{X:Cx}
def jP(K:W.Frag)(g:List Bool->Bool):List V->Hp->VK->Prop:=λxs H Q=>∃ p a,xs=[.ref p]/\(Mf K H p (a.map V.bl)\/ii K H p (a.map V.bl))/\Q (.bl (g a)) H
def xW(K:W.Frag):List V->Hp->VK->Prop:=λxs H Q=>∃ (p:Addr) (bs:List Int),xs=[.ref p]/\(Mf K H p (bs.map V.int)\/ii K H p (bs.map V.int))/\Q (.int bs.sum) H
theorem bO:∀ {a:List Bool} {us:List Value},ue (a.map V.bl) us->us=a.map xl
 |[],us,h=>by cases h;rfl
 |b::a,us,h=>by
  cases h with
  |cons r t=>cases r;rw[bO t];rfl
theorem dW{c:Type}(g:c->Bool)(d:c):∀ (a:List c),(List.range a.length).all (λi=>g (a.getD i d))=a.all g
 |[]=>rfl
 |b::a=>by
  rw[Fb,Xr,Ye,iC,Ye];rw[<-dW g d a];congr 1
theorem ē(f:List Bool):TruthOf d w A (λi v=>(f.map xl).toArray[i]?=some v) (λi=>f.getD i false):=by
 intro i v s Q E a g;simp only[Kj,jb]at a;cases e:f[i]? with
 |none=>rw[e]at a;cases a
 |some b=>
  rw[e]at a;cases a;have c:Q (f.getD i false) s:=g;rw[Md,e]at c;exact Td c
theorem pV{s:aa}{a:Heap}(k:∀ b u,b ∉ [s.heap.objs.size]->(s.heap.push o).get? b=some u->a.get? b=some u):∀ b u,s.heap.get? b=some u->a.get? b=some u:=λb u e=>
 k b u (λz=>absurd (za e) (by rw[oi.mp z];exact Zd _)) (na _ e)
theorem eJ{st:St}(n:X.A.handled=none)(I:Za X c st H s)(f:Mf X.K H p l\/ii X.K H p l)
  (h:∀ (its:List Value) (It:Addr) (m:List Addr) (St:Nat->Heap->Prop) (s2:aa),ue l its->Walks X.prog X.w X.A.in1 It m [It] its.toArray.size (λi v=>its.toArray[i]?=some v) St->St 0 s2.heap->(∀ b∈m,b<s2.heap.objs.size)->
   (∀ h' k,(∀ b o,b ∉ [It]->s2.heap.get? b=some o->h'.get? b=some o)->Za X c st H { s2 with heap:=h',toks:=k })->Q (.ref It) s2):wpAny (model X.prog X.w) X.A.in1 (pyIter (.ref p)) Q E s:=by
 rcases f with f|f
 ·obtain⟨its,j,pl,q⟩:=I.list f;have a:p<s.heap.objs.size:=by obtain⟨_,e,_⟩:=pl.isList;exact za e
  refine Ap pl.isList (h its s.heap.objs.size [s.heap.objs.size,p] _ _ j (Bp (A:=X.A.in1) n _ p (Pa a) its.toArray) ⟨⟨_,qb _ rfl,rfl,rfl⟩,pl.isList.push _⟩ (λb d=>?_) (λh' k g=>I.kept (pV g)));rw[Vg];simp only[Ea,we,Pn]at d;rcases d with rfl|rfl
  ·exact pd _
  ·exact Pi a
 ·obtain⟨its,j,pl,q⟩:=I.tuple f;have a:=pl.lt;refine sA (pl) (h its s.heap.objs.size [s.heap.objs.size,p] _ _ j (Walks.tuple (A:=X.A.in1) n _ p (Pa a) its.toArray) ⟨⟨_,qb _ rfl,rfl,rfl⟩,MI (show s.heap.IsTuple p _ from pl) _⟩ (λb d=>?_) (λh' k g=>I.kept (pV g)));rw[Vg];simp only[Ea,we,Pn]at d;rcases d with rfl|rfl
  ·exact pd _
  ·exact Pi a
theorem ĳ(f:X.Da=true):zm X (.builtin "all") (jP X.K λa=>a.all id):=by
 intro b s st H xs t Q I r h;obtain⟨p,a,rfl,j,q⟩:=h;obtain⟨u,rfl,k⟩:=Os r;cases k;refine call_all_walk (eJ (I.ok.hd f) I j λits It n St s2 l W d o e=>?_);have c:=bO l;subst c;refine⟨_,_,_,_,_,_,λi=>a.getD i false,rfl,W,d,ē a,λh' m g=>⟨.bl (a.all id),H,e h' m g,?_,q⟩⟩;rw[wa,zb];exact cc xl (dW id false a)
theorem lW:∀ (a:List Int) (n:Nat),n<=a.length->preSum (λi=>a.getD i 0) n=(a.take n).sum
 |a,0,_=>by simp[preSum]
 |a,n+1,h=>by
  rw[preSum,lW a n (by omega),List.take_succ_eq_append_getElem (by omega),List.sum_append];simp[show n<a.length by omega]
theorem yH(n:X.Da=true):zm X (.builtin "sum") (xW X.K):=by
 intro f s st H xs C Q I r h;obtain⟨p,a,rfl,y,q⟩:=h;obtain⟨u,rfl,z⟩:=Os r;cases z;refine call_sum_walkG (eJ (I.ok.hd n) I y λits It B St s2 g W k o m=>?_);refine⟨_,_,_,_,_,_,λi=>a.getD i 0,rfl,W,k,o,λi v d=>?_,λh' A t' w=>⟨.int a.sum,H,m h' A w,⟨t',?_⟩,q⟩⟩
 ·simp only[Kj]at d;obtain⟨x,c,l⟩:=AC g d;rw[jb]at c;cases e:a[i]? with
  |none=>rw[e]at c;cases c
  |some b=>
   rw[e]at c;cases c;obtain⟨t,rfl⟩:=l;exact⟨t,by show aj b t=aj (a.getD i 0) t;rw[Md,e];rfl⟩
 ·have j:its.toArray.size=a.length:=by rw[wa,<-g.length,zb]
  rw[j,lW a _ (ya _),ej]
theorem rJ{g:List D->Option c}{a:c}(h:(yj d x).bind g=some a):∃ b,yj d x=some b/\g b=some a:=Oi.mp h
theorem x5(j:T.K=X.K):dr T (jP X.K λa=>a.all id) IE:=by
 intro E n H σ xs l Q r p h
 match xs with
 |[]=>exact h.elim
 |[x]=>
  obtain⟨v,w,rfl,k,d⟩:=p;rw[Db]at d;subst d;unfold IE at h;cases e:(yj σ x).bind UA with
  |none=>simp only[e]at h;exact h.elim
  |some a=>
   simp only[e]at h;obtain⟨m,f,g⟩:=rJ e;obtain⟨b,l,rfl,i,c⟩:=Ny r k f;rw[j,dP i g]at c;exact⟨b,a,rfl,c,gc.here h r (by rw[La])⟩
 |_::_::_=>exact h.elim
theorem HF(i:T.K=X.K):dr T (xW X.K) Eu:=by
 intro E m H σ xs k Q r p h
 match xs with
 |[]=>exact h.elim
 |[x]=>
  obtain⟨v,w,rfl,j,c⟩:=p;rw[Db]at c;subst c;unfold Eu at h;cases e:(yj σ x).bind qt with
  |none=>simp only[e]at h;exact h.elim
  |some bs=>
   simp only[e]at h;obtain⟨l,d,f⟩:=rJ e;obtain⟨b,k,rfl,g,a⟩:=Ny r j d;rw[i,aD g f]at a;exact⟨b,bs,rfl,a,gc.here h r (by rw[La])⟩
 |_::_::_=>exact h.elim
def DE(xs:List D):M D:=match xs with
 |[.int i,.int j]=>ret (.int (max i j))
 |_=>Pb
def Iz(xs:List D):M D:=match xs with
 |[.int i,.int j]=>ret (.int (min i j))
 |_=>Pb
theorem pT(p:Db T a H [x,y] b):∃ v u,b=[v,u]/\La T a H x v/\La T a H y u:=by
 obtain⟨v,w,rfl,c,d⟩:=p;obtain⟨u,f,rfl,e,p4⟩:=d;rw[Db]at p4;subst p4;exact⟨v,u,rfl,c,e⟩
theorem Ú:dr T (λxs H Q=>∃ i j,xs=[.int i,.int j]/\Q (.int (if j > i then j else i)) H) DE:=by
 intro E d H f xs c Q r p h;unfold DE at h;split at h
 ·rename_i i j
  obtain⟨v,u,rfl,a,b⟩:=pT p;refine⟨i,j,by rw[Mp a,Mp b],?_⟩;have e:(if j > i then j else i)=max i j:=by rw[Int.max_def];split<;>split<;>omega
  rw[e];exact gc.here h r (by rw[La])
 ·exact h.elim
theorem XW:dr T (λxs H Q=>∃ i j,xs=[.int i,.int j]/\Q (.int (if j<i then j else i)) H) Iz:=by
 intro E d H f xs c Q r p h;unfold Iz at h;split at h
 ·rename_i i j
  obtain⟨v,u,rfl,a,b⟩:=pT p;refine⟨i,j,by rw[Mp a,Mp b],?_⟩;have e:(if j<i then j else i)=min i j:=by rw[NI];split<;>split<;>omega
  rw[e];exact gc.here h r (by rw[La])
 ·exact h.elim
def Ou(a:List Int):List Int:=a.foldl step_dedup []
theorem zml(a:List Int):firstMet (λi=>a.getD i 0) a.length=Ou a:=by
 unfold firstMet Ou;congr 1;apply List.ext_getElem?;intro i;by_cases h:i<a.length
 ·simp[h]
 ·simp[h]
def qD(x:D):M D:=λa=>match (rh a x).bind qt with
 |some ns=>if ns.length<=ai then .ok (.int (Ou ns).length) a else .Pb
 |none=>.Pb
def ω(K:W.Frag):List V->Hp->VK->Prop:=λxs H Q=>∃ (p:Addr) (ns:List Int),xs=[.ref p]/\Mf K H p (ns.map V.int)/\ns.length<=ai/\∀ l,H l=none->Q (.ref l) (pc H l (.set (λk=>(Ou ns).any (·== k)) (Ou ns).length))
theorem Ň(h:n<=ai):n+1<scanBound:=Wv (Nx h) (by decide)
theorem o0(i:X.Da=true):zm X (.type "set") (ω X.K):=by
 intro f s st H xs v Q I r h;obtain⟨p,d,rfl,l,k,q⟩:=h;obtain⟨u,rfl,m⟩:=Os r;cases m;obtain⟨its,g,pl,n⟩:=I.list l;have a:its.length=d.length:=by rw[<-g.length,zb]
 refine call_set_list (I.ok.hd i) pl.isList (nV g) (by rw[wa,a];exact Ň k) λh' t c j=>?_;rw[show its.toArray.size=d.length by rw[wa,a],zml]at c;refine⟨.ref s.heap.objs.size,_,I.laid (λb o e=>j b o (za e) e) (ya _) ?_,rfl,q _ (I.zd.fresh (ya _))⟩;exact c
theorem zl4 : zm X (.builtin "len") (λxs H Q => ∃ (p : Addr) (S : Int -> Bool) (n : Nat), xs = [.ref p] /\ H p = some (.set S n) /\ Q (.int n) H) := by
  intro a s st H xs w Q I r h;obtain ⟨p, S, n, rfl, g, q⟩ := h;obtain ⟨u, rfl, i⟩ := Os r;cases i;obtain ⟨o, k, j, t, b, c, d, l, m, v, e, f⟩ := (I.zd p _ g)
  refine call_len_set b c d e (by have : scanBound <= 2 ^ 62 := (by decide);omega) ⟨.int n, H, I.tok _, ⟨_, by rw [f]⟩, q⟩
theorem qZ(Y:T.K=X.K)(J:X.Da=true)(N:Gl X "len")(O:X.mg "len" = none)(n:Gl X "set")(q:X.mg "set" = none)(L:FE T X e f)
  (y:qa [e] X.env=(false,Yb e X.env)::qa [] X.env:=by rfl) (r:(Vc b (qa [] X.env)).any (·.1)=false:=by rfl)
  (i:qa [.Call (.Name "set" t) [e] [] b] X.env=(false,Yb (.Call (.Name "set" t) [e] [] b) X.env)::qa [] X.env:=by rfl) (g:(Vc k (qa [] X.env)).any (·.1)=false:=by rfl) :
  FE T X (.Call (.Name "len" p) [.Call (.Name "set" t) [e] [] b] [] k) (Cd qD f):=by
 intro j s st H Q I h;refine uJ zl4 N O Jb (Wt (OF (o0 J) n q rfl (Wt L iw y) (by decide) (by decide) y r) iw i) (by decide) (by decide) i g j s st H Q I ?_;obtain⟨U,ρ,σ,G,R,P⟩:=h;refine⟨U,ρ,σ,G,R,P.bind λd w u v V _ W z S c=>?_⟩;unfold qD at c;cases m:(rh w d).bind qt with
 |none=>rw[m]at c;exact c.elim
 |some ns=>
  rw[m]at c;dsimp only at c;by_cases o:ns.length<=ai
  ·rw[ia o]at c;obtain⟨ys,A,B⟩:=Oi.mp m;obtain⟨a,Z,rfl,E,F⟩:=z.ls S A;have C:=aD F B;subst C;refine⟨a,ns,rfl,Mf.of E,o,λl x=>?_⟩;exact⟨l,_,_,rfl,vh,c u (.int (Ou ns).length) _ (Wl x) (z.fresh x) (by rw[La])⟩
  ·rw[ka o]at c;exact c.elim
def pv(xs:List D)(lo a:Option Int):List D:=(xs.drop (HT.ig xs.length 0 lo)).take (HT.ig xs.length xs.length a - HT.ig xs.length 0 lo)
theorem ŕ{xs:List D}{lo a:Option Int}(h:HT.ig xs.length 0 lo=0/\HT.ig xs.length xs.length a=xs.length):pv xs lo a=xs:=by
 unfold pv;rw[h.1,h.2];simp
theorem lJ{xs:List D}(r:Db T c H xs b)(lo a:Option Int):Db T c H (pv xs lo a) (lB b lo a):=by
 unfold pv lB;rw[r.length];exact Db.take _ (Db.drop _ r)
end
end L4
namespace HT
open PySem PySem.Spec PyProof.Rows
variable{prog:Aa}{w:Wa}{A:Qa}{E:Value->aa->Prop}{s:aa}
theorem Uk{lo d:Option Int}(b:Su s.heap t a)(j:s.heap.IsSliceOf i l m .none)(pl:qm l lo)(q:qm m d)
  (k:ig a.size 0 lo=0/\ig a.size a.size d=a.size) (h:Q (.ref t) s):wpAny (model prog w) A (sj (.ref t) (.ref i)) Q E s:=by
 obtain⟨p,g,f,n⟩:=id j;have e:s.TypeIs (.ref i) "slice":=⟨p,g,f⟩
 unfold sj;try with_reducible refine Qd ?_
 refine da (dC b.typeIs (by decide) ?_);refine da (Qu b.typeIs Rc
  (Dq Rc b.typeIs Qy ?_ (pA _ _)))
 show wpAny _ _ (yl (.ref t) >>= _) _ _ s;refine da (vX b ?_);refine da (Qv e ?_);refine da (MT j pl q ?_);have c:(((ig a.size 0 lo):Int) == 0 && (1:Int) == 1 && (ig a.size a.size d - ig a.size 0 lo) == a.size)=true:=by
  rw[k.1,k.2];simp
 show wpAny _ _ (if (((ig a.size 0 lo):Int) == 0 && 1 == 1 && (ig a.size a.size d - ig a.size 0 lo) == a.size)=true then _ else _) _ _ s;rw[ia c];obtain⟨o,u,r,v⟩:=id b;refine da (da (Qv b.typeIs ?_));refine ua ?_;refine da (wpAny_rule ?_);first
  |exact ua ⟨_,rfl,ua h⟩
  |exact ua (ua ⟨_,rfl,ua h⟩)
  |exact da (ua (ua ⟨_,rfl,ua h⟩))
end HT
namespace L4
open PySem PySem.Spec PyProof.Rows L2
section
variable{T:Tb}{X:Cx}
def CP(K:W.Frag):V->Option Int->Option Int->Hp->VK->Prop:=λx lo b H Q=>∃ a xs,x=.ref a/\ii K H a xs/\(HT.ig xs.length 0 lo=0/\HT.ig xs.length xs.length b=xs.length)/\Q (.ref a) H
theorem yoq:ew X (CP X.K):=by
 intro d s st H x v n o lo k m Q I j e pl i h;obtain⟨a,xs,rfl,g,f,q⟩:=h;cases j;obtain⟨its,r,c,l⟩:=I.tuple g;have b:its.toArray.size=xs.length:=by rw[wa];exact r.length.symm
 exact⟨"tuple",_,Rc.lookup,c.typeIs,HT.Uk c e pl i (by rw[b];exact f) ⟨.ref a,H,I,rfl,q⟩⟩
abbrev PF:=Option (Ev->M D)
noncomputable def yM(d:D):M (Option Int):=match d with
 | .int i=>ret (some i)
 |_=>Pb
def fA(p:PF):Ev->M (Option Int):=match p with
 |none=>λ_=>ret none
 |some f=>λρ=>Fd (f ρ) yM
def tP(T:Tb)(X:Cx)(f:Ev->M (Option Int)):TO:=λst H Q=>∃ c ρ σ,Th T c H ρ st/\Sd T c H σ/\gc T (XE X st) (λ_ _ a b=>b=a) c H (f ρ σ) Q
abbrev FO(T:Tb)(X:Cx)(e:Option Ma)(p:PF):Prop:=PO X e (tP T X (fA p))
theorem rH:FO T X none none:=by
 intro a s st H Q I h;obtain⟨e,f,g,d,c,b⟩:=h;exact θ a s st H Q I (gc.here b c rfl)
theorem sI(g:FE T X e f):FO T X (some e) (some f):=by
 intro a s st H Q I h;refine WZ g a s st H Q I ?_;obtain⟨n,ρ,σ,c,k,j⟩:=h;refine⟨n,ρ,σ,c,k,gc.bind j λd p o v q _ r m l b=>?_⟩;cases d with
 |int i=>exact⟨i,Mp l,gc.here b m rfl⟩
 |_=>exact b.elim
def MU(x:D)(lo b:Option Int):M D:=λa=>match x with
 | .Ka xs=>.ok (.Ka (pv xs lo b)) a
 | .Fh ns=>.ok (.la (pv (ns.map D.int) lo b)) a
 |x=>(match rh a x with
  |some xs=>.ok (.la (pv xs lo b)) a
  |none=>.Pb)
def fw(x:D)(lo:Option Int)(a:Option Int):M D:=MU x lo a
def cM(x:D)(a:M (Option Int))(lo:Option Int):M D:=Fd a (fw x lo)
def uL(lo a:M (Option Int))(x:D):M D:=Fd lo (cM x a)
def YB(f:Ev->M D)(lo b:PF):Ev->M D:=λa=>Fd (f a) (uL (fA lo a) (fA b a))
theorem bH{lo V:Option Ma}(Z:T.K=X.K)(he:FE T X e f)(hl:FO T X lo pl)(hh:FO T X V W):FE T X (.Subscript e (.Slice lo V none C) E) (YB f pl W):=by
 intro x s st H Q I h;refine k8 (ew.or Ń (ew.or yoq A2)) he hl hh x s st H Q I ?_;obtain⟨μ,ρ,σ,A,hr,hp⟩:=h;refine⟨μ,ρ,σ,A,hr,hp.bind λd P L v H1 _ S r1 q1 p1=>⟨L,ρ,P,A.mono S,r1,p1.bind λl R N g H2 _ U r2 q2 C=>⟨N,ρ,R,(A.mono S).mono U,r2,C.bind λu o O i z _ Y y q3 c=>?_⟩⟩⟩;have F:=q2;have G:=q3;subst F;subst G;have rd:=La.mono Y _ _ (La.mono U _ _ q1);have b:∀ m,rh o d=some m->gc T (XE X st) (La T) O z (.ok (.la (pv m g i)) o) Q->FR X.K v g i z Q\/CP X.K v g i z Q\/SS X.K v g i z Q:=λm t p4=>by
  obtain⟨a,j,rfl,r,k⟩:=y.ls rd t;exact .inr (.inr ⟨a,j,rfl,Mf.of r,λp w=>rE p4 y (lJ k g i) w⟩)
 cases d with
 |Ka xs=>
  have J:=rd;obtain⟨p,j,rfl,r,k⟩:=rd;by_cases B:HT.ig j.length 0 g=0/\HT.ig j.length j.length i=j.length
  ·refine .inr (.inl ⟨p,j,rfl,ii.of r,B,gc.here c y ?_⟩);rw[ŕ (by rw[k.length];exact B)];exact J
  ·exact .inl ⟨p,j,rfl,ii.of r,B,λq w=>KA c y (lJ k g i) w⟩
 |ref n=>
  unfold fw MU at c;dsimp only at c;cases t:rh o (.ref n)with
  |none=>rw[t]at c;exact c.elim
  |some m=>rw[t]at c;exact b m t c
 |la m=>exact b m rfl c
 |Fh ns=>
  obtain⟨p,rfl,r⟩:=rd;have k:=r.seq;rw[Z]at k;exact .inr (.inr ⟨p,_,rfl,k,λp w=>rE c y (lJ (rB ns) g i) w⟩)
 |_=>exact c.elim
def Vw(a:List Int):Int:=a.foldl min (a.getD 0 0)
theorem XU:∀ (a:List Int) (c:Int),(a.foldl min c<=c/\∀ b∈a,a.foldl min c<=b)/\(a.foldl min c=c\/a.foldl min c∈a)
 |[],c=>by simp
 |b::a,c=>by
  obtain⟨⟨g,f⟩,d⟩:=XU a (min c b);rw[Cj];refine⟨⟨by omega,λx e=>?_⟩,?_⟩
  ·rcases Ea.mp e with rfl|e
   ·omega
   ·exact f x e
  ·rcases d with d|d
   ·rw[d,NI];split
    ·exact .inl rfl
    ·exact .inr Ha
   ·exact .inr (Na _ d)
theorem ZX(l:i<c.length)(h:∀ j,j<c.length->c.getD i 0<=c.getD j 0):c.getD i 0=Vw c:=by
 have m:∀ j,j<c.length->c.getD j 0∈c:=λj f=>by rw[Md,Ub f];exact fj f
 have g:0<c.length:=by omega
 obtain⟨⟨n,k⟩,d⟩:=XU c (c.getD 0 0);have a:=k _ (m i l);have b:c.getD i 0<=Vw c:=by
  rcases d with d|d
  ·show _<=c.foldl min (c.getD 0 0);rw[d];exact h 0 g
  ·obtain⟨j,f,e⟩:=Hk d;have:=h j f;rw[Md (i:=j),Ub f]at this;show _<=c.foldl min (c.getD 0 0);rw[<-e];exact this
 exact Int.le_antisymm b a
def fR(K:W.Frag)(f:List Int->Int):List V->Hp->VK->Prop:=λxs H Q=>∃ (p:Addr) (bs:List Int),xs=[.ref p]/\(Mf K H p (bs.map V.int)\/ii K H p (bs.map V.int))/\0<bs.length/\Q (.int (f bs)) H
theorem YP{d:List Int}(h:ue (d.map V.int) c)(f:c.toArray[i]?=some v):∃ t,v=aj (d.getD i 0) t:=by
 simp only[Kj]at f;obtain⟨x,a,g⟩:=AC h f;rw[jb]at a;cases e:d[i]? with
 |none=>rw[e]at a;cases a
 |some b=>
  rw[e]at a;cases a;obtain⟨t,rfl⟩:=g;exact⟨t,by show aj b t=aj (d.getD i 0) t;rw[Md,e];rfl⟩
theorem Ķ(g:X.Da=true):zm X (.builtin "min") (fR X.K Vw):=by
 intro d s st H xs C Q I r h;obtain⟨p,a,rfl,m,A,q⟩:=h;obtain⟨u,rfl,o⟩:=Os r;cases o;refine call_min_walk (eJ (I.ok.hd g) I m λits It z St s2 c W n k f=>?_);have y:its.toArray.size=a.length:=by rw[wa,<-c.length,zb]
 refine⟨_,_,_,_,_,_,_,rfl,W,n,k,by omega,Uy (λi=>a.getD i 0) (λi v b=>YP c b),λv h' w b l=>?_⟩;obtain⟨t,rfl⟩:=YP c b;obtain⟨x,e⟩:=argBest_lt (λi=>a.getD i 0) (its.toArray.size - 1);refine⟨.int (Vw a),H,f h' w l,⟨t,?_⟩,q⟩;rw[ZX (by omega) (λj B=>e j (by omega))]
def GC(f:List Int->Int)(xs:List D):M D:=λσ=>match xs with
 |[x]=>(match (yj σ x).bind qt with
  |some (b::bs)=>.ok (.int (f (b::bs))) σ
  |_=>.Pb)
 |_=>.Pb
theorem W0(k:T.K=X.K):dr T (fR X.K f) (GC f):=by
 intro E o H σ xs m Q r p h
 match xs with
 |[]=>exact h.elim
 |[x]=>
  obtain⟨v,w,rfl,l,d⟩:=p;rw[Db]at d;subst d;unfold GC at h;cases e:(yj σ x).bind qt with
  |none=>simp only[e]at h;exact h.elim
  |some bs=>
   cases bs with
   |nil=>simp only[e]at h;exact h.elim
   |cons b bs=>
    simp only[e]at h;obtain⟨n,g,i⟩:=rJ e;obtain⟨a,m,rfl,j,c⟩:=Ny r l g;rw[k,aD j i]at c;exact⟨a,b::bs,rfl,c,by simp,gc.here h r (by rw[La])⟩
 |_::_::_=>exact h.elim
end
def IJ(K:W.Frag)(i:Str->Option Value)(x:Str)(st:Stmt)(e:List Str)(h:List Value):Prop:=
 ∃ f b,i x=some (.ref f)/\W.keepIn K (.ref f)=true/\(∃ (j:Value) (k:Option Addr) (g kV c l:Value) (an:Option Addr) (a ct:Value) (d:Array (Option Value)),
  b=W.fnOf x x (pp st) (Ej st) (Qc st) g kV c l an a ct/\K.lookup f=some ⟨j,k,.func b,d⟩/\W.codeIn K a x=true)/\Cs K b e []/\Cs K b e h
def Bu(T:Tb)(P:Aa)(w:Wa)(d:Str->Option Value)(a:Heap)(k:Nat)(x:Str)(b:List Str)(e:List Value)(g:List D->M D):Prop:=
 ∃ f c,d x=some (.ref f)/\W.keepIn T.K (.ref f)=true/\Cs T.K c b []/\Cs T.K c b e/\ri P w T.K d a (Il P w) k f c b (xq T b.length g)
section
variable{T:Tb}{X:Cx}
theorem Ι(h:Bu T X.prog X.w X.mg X.base k x n o g)(q:T.K=X.K)(v:Yd k X.A)(t:Gl X x)
  (r:FA T X (e::a) i) (c:(x == ("__debug__" : Str))=false:=by decide) (s:qa (e::a) X.env=(false,Yb e X.env)::qa a X.env:=by rfl) (d:(Vc b (qa a X.env)).any (·.1)=false:=by rfl) :
  FE T X (.Call (.Name x p) (e::a) [] b) (yd n.length g [] i):=by
 obtain⟨f,y,u,m,l,_,j⟩:=h;rw[q]at m j l;exact eN j v t u m l .nil (λ_ _=>Db.nil) r c s d
theorem ι(h:Bu T X.prog X.w X.mg X.base k x s l m)(t:T.K=X.K)(B:Yd k X.A)(y:Gl X x)(C:ue b l)(i:∀ E H,Db T E H a b)
  (u:FA T X (e::c) n) (g:(x == ("__debug__" : Str))=false:=by decide) (v:qa (e::c) X.env=(false,Yb e X.env)::qa c X.env:=by rfl) (j:(Vc d (qa c X.env)).any (·.1)=false:=by rfl) :
  FE T X (.Call (.Name x p) (e::c) [] d) (yd s.length m a n):=by
 obtain⟨f,F,z,r,_,q,o⟩:=h;rw[t]at r o q;exact eN o B y z r q C i u g v j
theorem zxx:ue [V.wc] [Mc]:=.cons rfl .nil
theorem O5(a:List Addr)(H:Hp):Db T a H [D.wc] [V.wc]:=Db.cons (by rw[La]) Db.nil
variable{P:Aa}{w:Wa}{K:W.Frag}{mg:Str->Option Value}{base:Heap}{ca:Nat->Addr}{tx:Tx}
theorem VX{st:Stmt}(h:IJ K mg x st d e)(S:va N d (Qc st))
  (m:∀ (f:Addr) (a:Value) (A:Qa) (b:List qh) (s:aa) (H:Hp) (E:XK),Yd k (A.deeper (yg x (Qc st) s.heap.objs.size f a))->Pl ⟨K,ca,tx⟩ (Tp (Il P w) P w K mg base N x (Qc st) f a A b s H E) (Ej st) g) :
  Bu ⟨K,ca,tx⟩ P w mg base (k+1) x d e (Nd N.length g):=by
 obtain⟨f,t,o,n,⟨u,v,r,kV,l,y,q,a,ct,p,rfl,lk,c⟩,i,j⟩:=h;exact⟨f,_,o,n,i,j,pB lk c S (m f a)⟩
theorem Bu.vc{k:Nat}{x:Str}{c:List Str}{a:List Value}{b:List D->M D}(h:Bu T P w mg base k x c a b):Bu T P w mg base k x c a (λd=>L4.vc (b d)):=by
 obtain⟨f,e,g,i,j,l,m⟩:=h;exact⟨f,e,g,i,j,l,sG m⟩
theorem xaq{st:Stmt}{B w:Value}{kV e j b ct:Value}(X:K.In h)(G:h.Ns mainGlobals mg)
  (A:∀ (t:Addr) (kV e j:Value) (i:Option Addr) (b ct:Value) (s:aa) (o:jd) (n:Nat) (g:List Value),s.heap.get? t=some o->o.data=.seq m.toArray n->((g++[]).length=q.length->yh s (W.fnOf x x (pp st) (Ej st) (Qc st) (.ref t) kV e j i b ct) ⟨g,[]⟩ (q.zip (g++[])))/\
   ((g++m).length=q.length->yh s (W.fnOf x x (pp st) (Ej st) (Qc st) (.ref t) kV e j i b ct) ⟨g,[]⟩ (q.zip (g++m))))
  (a:W.nsIn K mainGlobals x=some (some (.ref f))) (l:K.lookup f=some ⟨B,C,.func (W.fnOf x x (pp st) (Ej st) (Qc st) (.ref t) kV e j i b ct),p⟩)
  (c:W.codeIn K b x=true) (k:W.keepIn K (.ref f)=true) (d:K.lookup t=some ⟨w,y,.seq m.toArray v,z⟩):IJ K mg x st q m:=
 ⟨f,_,W.mg_of X G a,k,⟨B,C,_,kV,e,j,i,b,ct,p,rfl,l,c⟩,λs g r u=>(A t kV e j i b ct s _ v g (r _ _ d) rfl).1 u,λs g r u=>(A t kV e j i b ct s _ v g (r _ _ d) rfl).2 u⟩
end
def gG(l:List (Nat × Bool)):Nat->Option Bool:=λc=>l.lookup c
abbrev A8:List Value:=[.type "ValueError",.type "Exception",.type "BaseException",.type "object"]
def YF(K:W.Frag)(a:Nat->Addr)(b:Value)(l:List (Nat × Bool)):Prop:=∀ p∈l,W.exmOne K (.ref (a p.1)) b=some p.2
theorem Ò{K:W.Frag}:YF K a b []:=λ_ h=>nomatch h
theorem ybj{K:W.Frag}(h:W.exmOne K (.ref (a c)) d=some b)(r:YF K a d l):YF K a d ((c,b)::l):=λp e=>by
 rcases Ea.mp e with rfl|e
 ·exact h
 ·exact r p e
theorem oP:∀ {l:List (Nat × Bool)} {c:Nat} {b:Bool},l.lookup c=some b->(c,b)∈l
 |[],_,_,h=>by simp at h
 |(n,d)::r,c,b,h=>by
  rw[yb]at h;cases e:c == n with
  |true=>rw[e]at h;cases h;rw[eq_of_beq e];exact Ha
  |false=>rw[e]at h;exact Na _ (oP h)
theorem i9{K:W.Frag}(h:YF K a d l):∀ c b,gG l c=some b->W.exmOne K (.ref (a c)) d=some b:=λc b e=>h (c,b) (oP e)
theorem Qe.Ab(h:Qe T P w c a k x d b):Qe T P w c a k x d (L4.Ab b):=by rw[Rr];exact h
theorem Bu.Ab(h:Bu T P w d a k x e b c):Bu T P w d a k x e b (L4.Ab c):=by rw[Rr];exact h
section
variable{T:Tb}{X:Cx}{μ:List Addr}{H:Hp}{σ:Ta}
def mn(σ:Ta):D->Option (Nat × List (Str × D))
 | .obj c ns ds=>if ns.length=ds.length then some (c,ns.zip ds)else none
 | .ref n=>match σ[n]? with
  |some (.Jd c a)=>some (c,a)
  |_=>none
 |_=>none
theorem iS:∀ {b:List Str} {ds:List D} {a:List (Str × V)},a.map (·.1)=b->Db T μ H ds (a.map (·.2))->Vt T μ H (b.zip ds) a
 |[],ds,[],_,h=>by
  cases ds with
  |nil=>exact Paired.nil
  |cons d ds=>have:=h.length;simp at this
 |[],ds,f::a,e,_=>by simp at e
 |n::b,ds,[],e,_=>by simp at e
 |n::b,[],f::a,e,h=>by have:=h.length;simp at this
 |n::b,d::ds,f::a,e,h=>by
  simp only[Ra,Qt]at e;rw[Ra,Db]at h;obtain⟨v,r,c,j,k⟩:=h;simp only[Qt]at c;obtain⟨g,i⟩:=c;subst i;exact Paired.cons ⟨e.1.symm,by rw[g];exact j⟩ (iS e.2 k)
theorem ZB(r:Sd T μ H σ)(h:La T μ H d v)(e:mn σ d=some (c,k)):∃ a f b,v=.ref a/\H a=some (.Jd (T.ca c) f b)/\Vt T μ H k b:=by
 cases d with
 |obj m ns ds=>
  unfold mn at e;by_cases l:ns.length=ds.length
  ·simp only[l]at e;obtain⟨rfl,rfl⟩:=e;obtain⟨a,f,b,rfl,_,i,j,s⟩:=h;exact⟨a,f,b,rfl,i,iS j s⟩
  ·simp[l]at e
 |ref n=>
  unfold mn at e;dsimp only at e;cases g:σ[n]? with
  |none=>rw[g]at e;cases e
  |some o=>
   rw[g]at e;obtain⟨a,rfl,_,q⟩:=r.at h g;cases o with
   |Jd m p=>cases e;obtain⟨f,b,i,j⟩:=q;exact⟨a,f,b,rfl,i,j⟩
   |la _=>cases e
   |yc _=>cases e
   |Sf _=>cases e
   |vl _=>cases e
 |_=>cases e
theorem hD{f:Str}:∀ {b:List (Str × D)} {i:List (Str × V)},Vt T μ H b i->(∀ d,b.lookup f=some d->∃ v,i.lookup f=some v/\La T μ H d v)/\(b.lookup f=none->i.lookup f=none)
 |_,_,.nil=>⟨λd e=>by simp at e,λ_=>rfl⟩
 |(g,x)::b,(o,v)::i,.cons ⟨e,h⟩ t=>by
  have j:=e;subst j;obtain⟨k,l⟩:=hD t;by_cases c:(f == g)=true
  ·refine⟨λd q=>?_,λq=>?_⟩
   ·rw[yb,c]at q;cases q;exact⟨v,by rw[yb,c],h⟩
   ·rw[yb,c]at q;cases q
  ·have a:(f == g)=false:=by simpa using c
   refine⟨λd q=>?_,λq=>?_⟩
   ·rw[yb,a]at q;obtain⟨w,m,n⟩:=k d q;exact⟨w,by rw[yb,a];exact m,n⟩
   ·rw[yb,a]at q;rw[yb,a];exact l q
def Gn(T:Tb)(a:List Nat)(f:Str):Prop:=∀ c,a.contains c=true->Ro T.K (T.ca c)/\Rh T.K (T.ca c) f
theorem Ar:Gn T [] f:=λc h=>by simp at h
theorem cj(e:Ro T.K (T.ca c))(g:Rh T.K (T.ca c) f)(h:Gn T b f):Gn T (c::b) f:=λd a=>by
 rw[List.contains_cons,Ig,sh]at a;rcases a with rfl|a
 ·exact⟨e,g⟩
 ·exact h d a
def Uc(a:List Nat)(f:Str)(x:D):M D:=λσ=>match mn σ x with
 |some (c,b)=>if a.contains c=true then (match b.lookup f with
  |some d=>.ok d σ
  |none=>.Pb)else .Pb
 |none=>.Pb
theorem X4(F:T.K=X.K)(J:Gn T k f)(L:FE T X e g)
  (G:ee e f X.env (Yb e X.env)=Yb e X.env:=by rfl):FE T X (.Attribute e f n) (Cd (Uc k f) g):=by
 intro j s st H Q I h;refine S7 L G j s st H Q I ?_;obtain⟨μ,ρ,σ,E,O,N⟩:=h;refine⟨μ,ρ,σ,E,O,gc.bind N λd o S v U _ V t P b=>?_⟩;unfold Uc at b;cases l:mn o d with
 |none=>rw[l]at b;exact b.elim
 |some p=>
  obtain⟨c,x⟩:=p;rw[l]at b;dsimp only at b;by_cases i:k.contains c=true
  ·rw[ia i]at b;obtain⟨a,u,R,rfl,z,A⟩:=ZB t P l;cases m:x.lookup f with
   |none=>rw[m]at b;exact b.elim
   |some y=>
    rw[m]at b;obtain⟨w,B,C⟩:=(hD A).1 y m;obtain⟨q,r⟩:=J c i;rw[F]at q r;exact⟨a,_,u,R,w,rfl,z,q,r,B,gc.here b t C⟩
  ·rw[ka i]at b;exact b.elim
def wo(f:Str)(v:D):List (Str × D)->List (Str × D)
 |[]=>[(f,v)]
 |(g,x)::r=>if g=f then (g,v)::r else (g,x)::wo f v r
theorem vK{f:Str}{d:D}{v:V}(c:La T μ H d v):∀ {b:List (Str × D)} {i:List (Str × V)},Vt T μ H b i->Vt T μ H (wo f d b) (ip f v i)
 |_,_,.nil=>Paired.cons ⟨rfl,c⟩ Paired.nil
 |(g,x)::b,(k,w)::i,.cons ⟨e,h⟩ t=>by
  have j:=e;subst j;unfold wo ip;by_cases a:g=f
  ·rw[ia a,ia a];exact Paired.cons ⟨rfl,c⟩ t
  ·rw[ka a,ka a];exact Paired.cons ⟨rfl,h⟩ (vK c t)
theorem Vt.mono(e:ie μ H a b)(h:Vt T μ H c d):Vt T a b c d:=Paired.Hr h λ_ _ q=>⟨q.1,La.mono e _ _ q.2⟩
theorem Vt.length(h:Vt T μ H a b):a.length=b.length:=Paired.length h
def aB(b:List Nat)(f:Str)(d x:D):M Unit:=λσ=>match x with
 | .ref n=>(match σ[n]? with
  |some (.Jd c a)=>if (b.contains c && decide (a.length<1000))=true then .ok () (σ.set n (.Jd c (wo f d a)))else .Pb
  |_=>.Pb)
 |_=>.Pb
def jA(ρ:Ev)(b:List Nat)(f:Str)(d x:D):M Fl:=λσ=>match aB b f d x σ with
 | .ok _ a=>.ok (.nx ρ) a
 |_=>.Pb
def BK(a:Ev)(b:List Nat)(f:Str)(c:Ev->M D)(d:D):M Fl:=xs a (c a) (jA a b f d)
def Bn(b:List Nat)(f:Str)(d c:Ev->M D):Ev->M Fl:=λa=>xs a (d a) (BK a b f c)
theorem Vp(R:T.K=X.K)(S:Gn T m f)(V:FE T X o C)(hv:FE T X e F)
  (hs:Qi e (some (.Attribute o f h)) k.line X.env=pure false:=by rfl):FS T X (.Assign [.Attribute o f h] e k) (Bn m f F C):=by
 intro j s st H D I Y;refine ñ V hv hs j s st H D I ?_;obtain⟨μ,ρ,σ,i,Z,W⟩:=Y;refine⟨μ,ρ,σ,i,Z,W.xs i λd w u v H1 _ q r1 q1 p1=>?_⟩;refine⟨u,ρ,w,i.mono q,r1,p1.xs (i.mono q) λx y l vo A _ B P q2 b=>?_⟩;have U:=La.mono B _ _ q1;unfold jA aB at b;cases x with
 |ref n=>
  dsimp only at b;cases r:y[n]? with
  |none=>rw[r]at b;exact b.elim
  |some ob=>
   rw[r]at b;cases ob with
   |la _=>exact b.elim
   |yc _=>exact b.elim
   |Sf _=>exact b.elim
   |vl _=>exact b.elim
   |Jd c E=>
    dsimp only at b;by_cases g:(m.contains c && decide (E.length<1000))=true
    ·rw[ia g]at b;rw[Ca,jc]at g;obtain⟨a,rfl,L,p,Q,G,J⟩:=P.at q2 r;have ex:ie l A l (pc A a (.Jd (T.ca c) p (ip f v Q))):=Nv (Fa L) G (λ_ z=>by cases z) (λ_ _ z=>by cases z);have t:=P.write (ob:=.Jd c (wo f d E)) L ⟨p,_,vh,vK (La.mono ex _ _ U) (Vt.mono ex J)⟩;obtain⟨N,O⟩:=S c g.1;rw[R]at N O;exact⟨a,_,p,Q,rfl,G,N,O,by rw[<-J.length];exact g.2,b _ (.nx st) _ t.1 t.2 ((i.mono q).mono B |>.mono t.1)⟩
    ·rw[ka g]at b;exact b.elim
 |_=>exact b.elim
noncomputable def FC(n:Nat):Hl D->Hl D
 | .ok .wc a=>.ok (.ref n) a
 | .ok _ _=>.Pb
 | .ex x a=>.ex x a
 | .Pb=>.Pb
def Lp(c n:Nat)(b:List D->M D)(a:List D):M D:=λσ=>if a.length+1=n then FC σ.length (b (.ref σ.length::a) (σ++[.Jd c []]))else .Pb
def Kt(c n:Nat)(a:List D->M D)(b:Ev->M (List D)):Ev->M D:=λd=>Fd (b d) (Lp c n a)
def qi(T:Tb)(P:Aa)(w:Wa)(g:Str->Option Value)(a:Heap)(k:Nat)(f:Addr)(b:List Str)(e:List D->M D):Prop:=
 ∃ d,(∀ c:List Value,c.length=b.length->bindArgs d ⟨c,[]⟩=pure (b.zip c))/\ri P w T.K g a (Il P w) k f d b (xq T b.length e)
def u9(T:Tb)(P:Aa)(w:Wa)(b:Str->Option Value)(a:Heap)(k:Nat)(x:Str)(c:Nat)(e:List Str)(d:List D->M D):Prop:=
 ∃ f,b x=some (.ref (T.ca c))/\Mk T.K (T.ca c) f/\qi T P w b a k f e d
theorem vT{s:List Str}(r:Sd T μ H σ)(q:Db T μ H h z)(p:gc T E (La T) μ H (Lp c s.length m h σ) Q) :
  ∀ x a,H x=none->H a=none->a≠x->xq T s.length m (.ref x::(z++[])) (pc (pc H a (.own x)) x (.Jd (T.ca c) a [])) (λv A=>v=.wc/\Q (.ref x) A) E:=by
 intro x a C i o;unfold Lp at p;by_cases n:h.length+1=s.length
 ·rw[ia n]at p;have b:ie μ H μ (pc H a (.own x)):=Wl i;have u:Sd T μ (pc H a (.own x)) σ:=r.fresh i;have j:pc H a (.own x) x=none:=by unfold pc;rw[ka (Xe o)];exact C
  have f:ie μ (pc H a (.own x)) (μ++[x]) (pc (pc H a (.own x)) x (.Jd (T.ca c) a [])):=Zw j;have G:Sd T (μ++[x]) (pc (pc H a (.own x)) x (.Jd (T.ca c) a [])) (σ++[.Jd c []]):=u.push j ⟨a,[],vh,Paired.nil⟩;refine⟨μ++[x],σ++[.Jd c []],.ref σ.length::h,Db.cons (vE u) (by rw[Ph];exact Db.mono (b.trans f) _ _ q),by rw[Fb];exact n,G,?_⟩;cases e:m (.ref σ.length::h) (σ++[.Jd c []])with
  |Pb=>rw[e]at p;exact p.elim
  |ex y w=>rw[e]at p;exact λg l k t=>p g l ((b.trans f).trans k) t
  |ok d w=>
   rw[e]at p;intro g v l k t F;have B:d=.wc:=by cases d<;>first|rfl|exact p.elim
   subst B;refine⟨F,p g (.ref x) l ((b.trans f).trans k) t ?_⟩;exact La.mono k _ _ (vE u)
 ·rw[ka n]at p;exact p.elim
theorem SU{st:St}(M:Mk X.K C f)(F:ri X.prog X.w X.K X.mg X.base (Il X.prog X.w) k f m n y)(O:Yd (k+1) X.A)(J:Cs X.K m n g)(L:ue d g)
  (I:Za X b st H s) (r:ue o c)
  (h:∀ x l,H x=none->H l=none->l≠x->y (.ref x::(o++d)) (pc (pc H l (.own x)) x (.Jd C l [])) (λv z=>v=.wc/\Q (.ref x) z) (XE X st)) :
  wpAny (model X.prog X.w) X.A (call (.ref C) c) (EP X b st Q) X.xe s:=by
 have q:=h (s.heap.objs.size+1) s.heap.objs.size (I.zd.fresh (Jh _)) (I.zd.fresh (ya _)) (Pa (pd _));have j:=Za.made (C:=C) I;have t:ue (V.ref (s.heap.objs.size+1)::(o++d)) (Ec (s.heap.objs.size+1)::(c++g)):=.cons rfl (r.append L);have N:(Ec (s.heap.objs.size+1)::c++g).length=n.length:=by
  have e:=t.length;rw[F.len _ _ _ _ q]at e;exact e.symm
 refine Co (K9 I.sk M.makes M.init (sh.mp M.fn) (Bk (F.Nd _ X.stack _ _ ⟨Ec (s.heap.objs.size+1)::c,[]⟩ (Ec (s.heap.objs.size+1)::(c++g)) _ _ (XE X st) (O.make C c [])
  (j.HE.make C c []) (J _ (Ec (s.heap.objs.size+1)::c) j.sk N) t q) λr T a=>?_))
 cases r with
 |error e=>obtain⟨D,m,p,i,P⟩:=a;exact P.bI b _ _ e T j i
 |ok G=>
  cases G with
  |ret u=>
   obtain⟨v,p,B,S,E,R⟩:=j.after a;subst E;exact⟨S,⟨V.ref (s.heap.objs.size+1),p,B,rfl,R⟩⟩
  |next=>exact False.elim a
  |brk=>exact False.elim a
  |cont=>exact False.elim a
theorem QA(h:u9 T X.prog X.w X.mg X.base k x c ps j)(E:T.K=X.K)(R:Yd (k+1) X.A)(L:Gl X x)
  (F:FA T X (e::d) y) (m:(x == ("__debug__" : Str))=false:=by decide) (J:qa (e::d) X.env=(false,Yb e X.env)::qa d X.env:=by rfl) (n:(Vc a (qa d X.env)).any (·.1)=false:=by rfl) :
  FE T X (.Call (.Name x p) (e::d) [] a) (Kt c ps.length j y):=by
 obtain⟨f,N,l,fd,G,z⟩:=h;rw[E]at l z;intro g s st H Q I P;obtain⟨μ,ρ,σ,C,o,O⟩:=P;refine Uf (BB I L N ?_ m);refine W.callWith_K I.ok.mod.Ky l.kp (pe (F a g s st H (λt b=>∀ x i,b x=none->b i=none->i≠x->xq T ps.length j (.ref x::(t++[])) (pc (pc b i (.own x)) x (.Jd (T.ca c) i [])) (λv B=>v=.wc/\Q (.ref x) B) (XE X st)) I ⟨μ,ρ,σ,C,o,O.bind λds Z Y t b _ e1 V S U=>vT V S U⟩) λus s1 ⟨t,b,u,r,q⟩=>⟨u.sk,?_⟩) J n;exact SU l z R (.all G) .nil u r q
structure DN(T:Tb)(P:Aa)(w:Wa)(mg:Str->Option Value)(base:Heap)(k:Nat)(m:Str)(c:Nat)(ps:List Str)(fn:List D->M D):Prop where
 cl:Ro T.K (T.ca c)
 ex:∃ f,dg T.K (T.ca c) m f/\qi T P w mg base k f ps fn
abbrev Mt:=List (Nat × (List D->M D))
def lx:Mt->Nat->Option (List D->M D)
 |[],_=>none
 |(c,fn)::r,d=>if c == d then some fn else lx r d
def Gk(n:Nat)(b:List D->M D)(x:D)(a:List D):M D:=if a.length+1=n then b (x::a)else Pb
def vm(d:Mt)(n:Nat)(m:Str)(a:M (List D))(x:D):M D:=λσ=>match mn σ x with
 |some (c,b)=>(match lx d c,b.lookup m with
  |some fn,none=>Fd a (Gk n fn x) σ
  |_,_=>.Pb)
 |none=>.Pb
def Rg(c:Mt)(n:Nat)(m:Str)(f:Ev->M D)(b:Ev->M (List D)):Ev->M D:=λa=>Fd (f a) (vm c n m (b a))
theorem sL:∀ {a:Mt} {c:Nat} {fn:List D->M D},lx a c=some fn->(c,fn)∈a
 |[],_,_,h=>by cases h
 |(d,g)::r,c,fn,h=>by
  unfold lx at h;by_cases e:(d == c)=true
  ·rw[ia e]at h;cases h;rw[sh.mp e];exact Ha
  ·rw[ka e]at h;exact Na _ (sL h)
theorem yjq(hK:T.K=X.K)(he:FE T X o f)(h:∀ q∈L,DN T X.prog X.w X.mg X.base k m q.1 J q.2)(hr:Yd k X.A)(ha:FA T X (e::n) P)
  (Z:qa (e::n) X.env=(false,Yb e X.env)::qa n X.env:=by rfl) (V:(Vc b (qa n X.env)).any (·.1)=false:=by rfl)
  (ht:Yb (.Call (.Attribute o m i) (e::n) [] b) X.env=(do
   let ov <-Yb o X.env
   Dk i.atName
   let (f,first) <-Jg [ov] (Hm ov m pl)
   Vx b f first (Vc b (qa (e::n) X.env)) (Zj b (mh [] X.env))):=by rfl) :
  FE T X (.Call (.Attribute o m i) (e::n) [] b) (Rg L J.length m f P):=by
 intro j s st H Q I hq;obtain⟨μ,ρ,σ,hE,Y,hp⟩:=hq;have R:=hE;refine W.methodCall_KW (pe (he j s st H (λx t=>∃ a c G l C,x=.ref a/\t a=some (.Jd (T.ca c) G l)/\lx L c=some C/\l.lookup m=none/\tL T X P st t λus N=>xq T J.length C (x::(us++[])) N Q (XE X st)) I ⟨μ,ρ,σ,hE,Y,hp.bind λd F a0 v t _ e1 r1 q1 g=>?_⟩) λu s1 ⟨x,t,I1,rx,a,c,G,l,C,ex,ea,p,B,q⟩=>?_) ht
 ·unfold vm at g;cases O:mn F d with
  |none=>rw[O]at g;exact g.elim
  |some z=>
   obtain⟨c,gs⟩:=z;rw[O]at g;dsimp only at g;cases p:lx L c with
   |none=>rw[p]at g;exact g.elim
   |some C=>
    cases B:gs.lookup m with
    |some y=>rw[p,B]at g;exact g.elim
    |none=>
     rw[p,B]at g;dsimp only at g;obtain⟨a,G,l,rfl,h1,h2⟩:=ZB r1 q1 O;refine⟨a,c,G,l,C,rfl,h1,p,(hD h2).2 B,a0,ρ,F,R.mono e1,r1,g.bind λds a2 a1 us N _ e2 r2 q2 E=>?_⟩;unfold Gk at E;by_cases U:ds.length+1=J.length
     ·rw[ia U]at E;exact⟨a1,a2,d::ds,Db.cons (La.mono e2 _ _ q1) (by rw[Ph];exact q2),by rw[Fb];exact U,r2,E⟩
     ·rw[ka U]at E;exact E.elim
 ·subst ex;obtain rfl:u=Ec a:=rx;obtain⟨hC,f',S,fd,hb,hF⟩:=h _ (sL p);rw[hK]at hC S hF;refine jW I1 ea hC S B ?_;refine W.callWith_K I.ok.mod.Ky S.kp (pe (ha b j s1 st t _ I1 q) λus s2 ⟨l,N,I2,r,q2⟩=>⟨I2.sk,?_⟩) Z V;exact FL (vs:=.ref a::l) hF hr (.all hb) .nil I2 (.cons rfl r) q2
theorem U3(hK:T.K=X.K)(he:FE T X o f)(h:∀ q∈G,DN T X.prog X.w X.mg X.base k m q.1 C q.2)(hr:Yd k X.A)
  (ht:Yb (.Call (.Attribute o m e) [] [] g) X.env=(do
   let U <-Yb o X.env
   Dk e.atName
   let (f,first) <-Jg [U] (Hm U m pl)
   Vx g f first (Vc g (qa [] X.env)) (Zj g (mh [] X.env))):=by rfl) :
  FE T X (.Call (.Attribute o m e) [] [] g) (Rg G C.length m f Ja):=by
 intro B s st H Q I hq;obtain⟨μ,ρ,σ,hE,P,hp⟩:=hq;refine W.methodCall_KW (pe (he B s st H (λx p=>∃ a c F n l,x=.ref a/\p a=some (.Jd (T.ca c) F n)/\lx G c=some l/\n.lookup m=none/\xq T C.length l (x::([]++[])) p Q (XE X st)) I ⟨μ,ρ,σ,hE,P,hp.bind λd i E v p _ e1 Y V b=>?_⟩) λu s1 ⟨x,p,J,rx,a,c,F,n,l,ex,Z,j,r,q⟩=>?_) ht
 ·unfold vm at b;cases L:mn i d with
  |none=>rw[L]at b;exact b.elim
  |some z=>
   obtain⟨c,gs⟩:=z;rw[L]at b;dsimp only at b;cases j:lx G c with
   |none=>rw[j]at b;exact b.elim
   |some l=>
    cases r:gs.lookup m with
    |some y=>rw[j,r]at b;exact b.elim
    |none=>
     rw[j,r]at b;dsimp only at b;obtain⟨a,F,n,rfl,h1,h2⟩:=ZB Y V L;have t:gc T (XE X st) (La T) E p (Gk C.length l d [] i) Q:=b;unfold Gk at t;by_cases O:([]:List D).length+1=C.length
     ·rw[ia O]at t;exact⟨a,c,F,n,l,rfl,h1,j,(hD h2).2 r,E,i,[d],Db.cons V Db.nil,O,Y,t⟩
     ·rw[ka O]at t;exact t.elim
 ·subst ex;obtain rfl:u=Ec a:=rx;obtain⟨R,f',N,fd,hb,S⟩:=h _ (sL j);rw[hK]at R N S;refine jW J Z R N r ?_;exact W.callWith_K0 J.sk N.kp (FL (vs:=[.ref a]) S hr (.all hb) .nil J (.cons rfl .nil) q)
structure OkU(T:Tb)(P:Aa)(w:Wa)(mg:Str->Option Value)(base:Heap)(k:Nat)(x m:Str)(c:Nat)(ps:List Str)(fn:List D->M D):Prop where
 gl:mg x=some (.ref (T.ca c))
 sp:W.specialIn T.K (.ref (T.ca c)) (jt "__getattribute__")=some (some (.builtin "type.__getattribute__"))
 ex:∃ f mc,W.readsIn T.K (T.ca c) mc=true/\W.findCls T.K (.ref (T.ca c)) mc m=some (.val (.ref f))/\W.keepIn T.K (.ref f)=true/\qi T P w mg base k f ps fn
end
structure Gg(K:W.Frag)(C:Addr)(x qual:Str)(st:Stmt)(ps:List Str)(f:Addr):Prop where
 ex:∃ fd,vy K x qual st f fd/\∀ us:List Value,us.length=ps.length->bindArgs fd ⟨us,[]⟩=pure (ps.zip us)
section
variable{P:Aa}{w:Wa}{K:W.Frag}{mg:Str->Option Value}{base:Heap}{ca:Nat->Addr}{tx:Tx}
theorem mU{st:Stmt}(h:Gg K C x a st i f)(S:va N i (Qc st))
  (l:∀ (b:Value) (A:Qa) (c:List qh) (s:aa) (H:Hp) (E:XK),Yd k (A.deeper (yg a (Qc st) s.heap.objs.size f b))->Pl ⟨K,ca,tx⟩ (Tp (Il P w) P w K mg base N a (Qc st) f b A c s H E) (Ej st) g) :
  qi ⟨K,ca,tx⟩ P w mg base (k+1) f i (Nd N.length g):=by
 obtain⟨o,F,d⟩:=h.ex;obtain⟨p,q,kV,j,r,n,b,ct,m,rfl,lk,e⟩:=F.ex;exact⟨_,d,pB lk e S (l b)⟩
theorem qi.vc{T:Tb}{k:Nat}{f:Addr}{b:List Str}{a:List D->M D}(h:qi T P w mg base k f b a):qi T P w mg base k f b (λc=>L4.vc (a c)):=by
 obtain⟨d,e,g⟩:=h;exact⟨d,e,sG g⟩
theorem qi.Ab(h:qi T P w mg base k f b a):qi T P w mg base k f b (L4.Ab a):=by rw[Rr];exact h
end
def lh(s:Stmt)(j:Nat):Stmt:=match s with
 | .ClassDef _ _ _ b _ _ _ _ _ _ _=>b.getD j (.Pass ⟨0,0,0,0⟩)
 |s=>s
theorem K5{K:W.Frag}{st:Stmt}{kV d g b ct:Value}
  (m:∀ (kV d g:Value) (e:Option Addr) (b ct:Value) (j:List Value),j.length=i.length->bindArgs (W.fnOf x a (pp st) (Ej st) (Qc st) .none kV d g e b ct) ⟨j,[]⟩=pure (i.zip j))
  (l:K.lookup f=some ⟨n,o,.func (W.fnOf x a (pp st) (Ej st) (Qc st) .none kV d g e b ct),h⟩)
  (c:W.codeIn K b a=true) (k:W.keepIn K (.ref f)=true):Gg K C x a st i f:=⟨⟨_,bW l c k,m kV d g e b ct⟩⟩
section
variable{T:Tb}{P:Aa}{w:Wa}{mg:Str->Option Value}{base:Heap}
def uk(T:Tb)(P:Aa)(w:Wa)(mg:Str->Option Value)(base:Heap)(k:Nat)(m:Str)(a:List Str)(b:Mt):Prop:=∀ q∈b,DN T P w mg base k m q.1 a q.2
theorem Nn:uk T P w mg base k m a []:=λq h=>nomatch h
theorem D1(n:Ro T.K (T.ca c))(o:dg T.K (T.ca c) m f)(p:qi T P w mg base j f e g)(r:j<=k)(h:uk T P w mg base k m e i):uk T P w mg base k m e ((c,g)::i):=λq d=>by
 rcases Ea.mp d with rfl|d
 ·obtain⟨l,a,b⟩:=p;exact⟨n,f,o,l,a,b.mono r⟩
 ·exact h q d
end
section
variable{T:Tb}{X:Cx}
end
end L4
namespace L4
open PySem L2
theorem nr{a b:c}(h:a=b):a=b:=h
section
variable{α β:Type}{ρ:Ev}{σ:Ta}
@[simp] theorem gf(a:α)(σ:Ta)(k:α->M β):(Hl.ok a σ).bind k=k a σ:=rfl
@[simp] theorem yoh(a:α)(σ:Ta):ret a σ=.ok a σ:=rfl
@[simp] theorem tp(m:M α)(k:α->M β)(σ:Ta):Fd m k σ=(m σ).bind k:=rfl
@[simp] theorem KM(d:D):eC d ρ σ=.ok d σ:=rfl
@[simp] theorem WE(d:D)(r:Ev):ba 0 (some d::r) σ=.ok d σ:=rfl
@[simp] theorem sO(i:Nat)(o:Option D)(r:Ev):ba (i+1) (o::r) σ=ba i r σ:=rfl
@[simp] theorem zza(o:D->D->M D)(a b:Ev->M D):Ba o a b ρ σ=(a ρ σ).bind (bL o (b ρ)):=rfl
@[simp] theorem zyk(o:D->D->M D)(m:M D)(x:D):bL o m x σ=(m σ).bind (o x):=rfl
@[simp] theorem yi8(o:D->M D)(a:Ev->M D):Cd o a ρ σ=(a ρ σ).bind o:=rfl
@[simp] theorem ypi(b:Bool):eB (.bl b) σ=.ok b σ:=rfl
@[simp] theorem ys0(p q:M α):ql p q true σ=p σ:=rfl
@[simp] theorem ysz(p q:M α):ql p q false σ=q σ:=rfl
@[simp] theorem ycy(c:Bool):NM c σ=.ok (!c) σ:=rfl
@[simp] theorem zxi(k:Bool->M α)(b:Bool):zy k (.bl b) σ=k b σ:=rfl
@[simp] theorem zue(c:Bool):pN c σ=.ok (.bl (!c)) σ:=rfl
@[simp] theorem yrx(f:Ev->M D):eT f ρ σ=(f ρ σ).bind eB:=rfl
@[simp] theorem zyi(a b:Ev->M Bool):Jv a b ρ σ=(a ρ σ).bind (ql (b ρ) (ret false)):=rfl
@[simp] theorem yh0(a b:Ev->M Bool):Go a b ρ σ=(a ρ σ).bind (ql (ret true) (b ρ)):=rfl
@[simp] theorem zyj(a:Ev->M Bool):il a ρ σ=(a ρ σ).bind NM:=rfl
@[simp] theorem zy9(a b:Ev->M D):kj a b ρ σ=(a ρ σ).bind (zy (ql (b ρ) (ret (.bl false)))):=rfl
@[simp] theorem yi6(a b:Ev->M D):gN a b ρ σ=(a ρ σ).bind (zy (ql (ret (.bl true)) (b ρ))):=rfl
@[simp] theorem zze(a:Ev->M D):jJ a ρ σ=(a ρ σ).bind (zy pN):=rfl
@[simp] theorem yi2(t:Ev->M Bool)(a b:Ev->M D):Gx t a b ρ σ=(t ρ σ).bind (ql (a ρ) (b ρ)):=rfl
@[simp] theorem cN:Ja ρ σ=.ok [] σ:=rfl
@[simp] theorem uM(e:Ev->M D)(r:Ev->M (List D)):ra e r ρ σ=(e ρ σ).bind (OK (r ρ)):=rfl
@[simp] theorem ZJ(m:M (List D))(x:D):OK m x σ=(m σ).bind (RJ x):=rfl
@[simp] theorem SK(x:D)(xs:List D):RJ x xs σ=.ok (x::xs) σ:=rfl
@[simp] theorem t2(a:Ev->M (List D)):gg a ρ σ=(a ρ σ).bind Bw:=rfl
@[simp] theorem ypk:Bw [] σ=.ok (.Ka []) σ:=rfl
@[simp] theorem ypl(a:D):Bw [a] σ=.ok (.Ka [a]) σ:=rfl
@[simp] theorem V2(a b:D):Bw [a,b] σ=.ok (.Ka [a,b]) σ:=rfl
@[simp] theorem ypn(a b c:D):Bw [a,b,c] σ=.ok (.Ka [a,b,c]) σ:=rfl
@[simp] theorem ypo(a b c d:D):Bw [a,b,c,d] σ=.ok (.Ka [a,b,c,d]) σ:=rfl
@[simp] theorem ypp(a b c d e:D):Bw [a,b,c,d,e] σ=.ok (.Ka [a,b,c,d,e]) σ:=rfl
@[simp] theorem yi3(a:Ev->M (List D)):ci a ρ σ=(a ρ σ).bind Iy:=nr rfl
@[simp] theorem zzc(a:Ev->M (List D)):Xu a ρ σ=(a ρ σ).bind QH:=rfl
@[simp] theorem yl0:QH [] σ=.ok (.ref σ.length) (σ++[.la []]):=nr rfl
@[simp] theorem yuf(g:Int->Int->Int)(i j:Int):oI g (.int i) (.int j) σ=.ok (.int (g i j)) σ:=nr rfl
@[simp] theorem yua(g:Int->Int->Bool)(i j:Int):oB g (.int i) (.int j) σ=.ok (.bl (g i j)) σ:=nr rfl
theorem ZD(h:C i j=true):Ax C g (.int i) (.int j) σ=.ok (.int (g i j)) σ:=by
 show (if C i j=true then ret _ else Pb) σ=_;rw[ia h];rfl
@[simp] theorem yc3(i j:Int)(h:0<j)(a:j<1073741824):Pz (.int i) (.int j) σ=.ok (.int (i / j)) σ:=ZD (by simp[wJ,h,a])
@[simp] theorem sV(i j:Int)(h:0<j):Zt (.int i) (.int j) σ=.ok (.int (i % j)) σ:=ZD (by simp[iM,h])
theorem Ο(h:-(2 ^ 64)<j)(a:j<2 ^ 64):cG (.int i) (.int j) σ=.ok (.int (i * j)) σ:=ZD (by simp only[yJ,Rr,Ig,Ca,jc];exact .inr ⟨h,a⟩)
@[simp] theorem ydk(i j:Int)(h:0<=j):fE (.int i) (.int j) σ=.ok (.int (i / 2 ^ j.toNat)) σ:=ZD (by simp[BL,h])
theorem pG(h:Yz i j=true):ux (.int i) (.int j) σ=.ok (.int (i ^ j.toNat)) σ:=ZD h
@[simp] theorem p12:ux (.int 10) (.int 12) σ=.ok (.int 1000000000000) σ:=pG (by simp[Yz])
@[simp] theorem p6:ux (.int 10) (.int 6) σ=.ok (.int 1000000) σ:=pG (by simp[Yz])
@[simp] theorem p4:ux (.int 10) (.int 4) σ=.ok (.int 10000) σ:=pG (by simp[Yz])
@[simp] theorem ydh(i:Int):ZF (.int i) σ=.ok (.int (-i)) σ:=nr rfl
@[simp] theorem zuk(i j:Int):Nh (.int i) (.int j) σ=.ok (.int (i+j)) σ:=nr rfl
theorem bJ{xs a:List D}(h:xs.length+a.length<=ai):Nh (.Ka xs) (.Ka a) σ=.ok (.Ka (xs++a)) σ:=by show (if _ then _ else _:M D) σ=_;rw[ia h];rfl
theorem uC{xs ys:List D}(h:xs.length+ys.length<=ai):Nh (.la xs) (.la ys) σ=.ok (.la (xs++ys)) σ:=by
 show dD (.la xs) (.la ys) σ=_;unfold dD;simp only[rh];rw[ia h]
@[simp] theorem zux(σ:Ta):Ft .wc .wc σ=.ok (.bl true) σ:=nr rfl
@[simp] theorem zuv(b:Int):Ft (.int b) .wc σ=.ok (.bl false) σ:=nr rfl
@[simp] theorem zuy(b:List D):Ft (.Ka b) .wc σ=.ok (.bl false) σ:=nr rfl
@[simp] theorem zuw(b:List D):Ft (.la b) .wc σ=.ok (.bl false) σ:=nr rfl
@[simp] theorem zof(σ:Ta):xB .wc .wc σ=.ok (.bl false) σ:=nr rfl
@[simp] theorem zoe(b:Int):xB (.int b) .wc σ=.ok (.bl true) σ:=nr rfl
theorem YC(h:li σ 8 x y=some b):Gf x y σ=.ok (.bl b) σ:=by unfold Gf;rw[h]
theorem my(h:li σ 8 x y=some b):ph x y σ=.ok (.bl (!b)) σ:=by unfold ph;rw[h]
@[simp] theorem yc4(i j:Int):Gf (.int i) (.int j) σ=.ok (.bl (i == j)) σ:=YC (by simp[li,kd,Io,Mj])
@[simp] theorem ydg(i j:Int):ph (.int i) (.int j) σ=.ok (.bl (!(i == j))) σ:=my (by simp[li,kd,Io,Mj])
@[simp] theorem yc5(i j:Str):Gf (.str i) (.str j) σ=.ok (.bl (i == j)) σ:=YC (by simp[li,kd,Io,Mj])
theorem TB{xs:List D}(h:Sr xs k=some d):Oa (.Ka xs) (.int k) σ=.ok d σ:=by simp[Oa,yj,h]
theorem Tz{xs:List D}(h:Sr xs k=some d):Oa (.la xs) (.int k) σ=.ok d σ:=by simp[Oa,yj,h]
@[simp] theorem ytc(a:D)(r:List D):Oa (.Ka (a::r)) (.int 0) σ=.ok a σ:=TB (Tr rfl)
@[simp] theorem ytd(a b:D)(r:List D):Oa (.Ka (a::b::r)) (.int 1) σ=.ok b σ:=TB (Tr rfl)
@[simp] theorem yte(a b c:D)(r:List D):Oa (.Ka (a::b::c::r)) (.int 2) σ=.ok c σ:=TB (Tr rfl)
@[simp] theorem ytf(a b c d:D)(r:List D):Oa (.Ka (a::b::c::d::r)) (.int 3) σ=.ok d σ:=TB (Tr rfl)
@[simp] theorem YM(xs:List D):Fj [.Ka xs] σ=.ok (.int xs.length) σ:=nr rfl
@[simp] theorem zuz(xs:List D):Fj [.la xs] σ=.ok (.int xs.length) σ:=nr rfl
@[simp] theorem zu0(xs:List Int):Fj [.Fh xs] σ=.ok (.int xs.length) σ:=by simp[Fj,yj]
@[simp] theorem zkh(xs:List D):Cz [.la xs] σ=.ok (.Ka xs) σ:=nr rfl
@[simp] theorem zq9(o:List D->M D)(a:Ev->M (List D)):ah o a ρ σ=(a ρ σ).bind o:=rfl
@[simp] theorem YY(n:Nat)(f:List D->M D)(a:List D)(b:Ev->M (List D)):yd n f a b ρ σ=(b ρ σ).bind (ar n f a):=rfl
@[simp] theorem yr7(f:List D->M D)(a:D):ar 1 f [] [a] σ=f [a] σ:=by unfold ar;rw[ia (by simp)];simp
@[simp] theorem yr8(f:List D->M D)(a b:D):ar 2 f [] [a,b] σ=f [a,b] σ:=by unfold ar;rw[ia (by simp)];simp
@[simp] theorem ŧ(f:List D->M D)(a b c:D):ar 3 f [] [a,b,c] σ=f [a,b,c] σ:=by unfold ar;rw[ia (by simp)];simp
@[simp] theorem yj4(f:List D->M D)(a b c:D):ar 3 f [c] [a,b] σ=f [a,b,c] σ:=by unfold ar;rw[ia (by simp)];simp
@[simp] theorem ysa(f:List D->M D)(a b c d:D):ar 4 f [] [a,b,c,d] σ=f [a,b,c,d] σ:=by unfold ar;rw[ia (by simp)];simp
@[simp] theorem ysb(f:List D->M D)(a b c d e:D):ar 5 f [] [a,b,c,d,e] σ=f [a,b,c,d,e] σ:=by unfold ar;rw[ia (by simp)];simp
@[simp] theorem ysc(f:List D->M D)(a b c d e g h:D):ar 7 f [] [a,b,c,d,e,g,h] σ=f [a,b,c,d,e,g,h] σ:=by unfold ar;rw[ia (by simp)];simp
@[simp] theorem ye0:Pf ρ σ=.ok (.nx ρ) σ:=rfl
@[simp] theorem Ki(g h:Ev->M Fl):Cb g h ρ σ=(g ρ σ).bind (OE h):=rfl
@[simp] theorem Ji(h:Ev->M Fl)(ρ:Ev):OE h (.nx ρ) σ=h ρ σ:=rfl
@[simp] theorem yfg(h:Ev->M Fl)(d:D):OE h (.rt d) σ=.ok (.rt d) σ:=rfl
@[simp] theorem yfh(h:Ev->M Fl)(ρ:Ev)(x:Xn):OE h (.xc ρ x) σ=.ok (.xc ρ x) σ:=rfl
def Ln(ρ:Ev)(k:α->M Fl):Hl α->Hl Fl
 | .ok a b=>k a b
 | .ex x b=>.ok (.xc ρ x) b
 | .Pb=>.Pb
@[simp] theorem Wn(ρ:Ev)(m:M α)(k:α->M Fl):xs ρ m k σ=Ln ρ k (m σ):=by unfold xs Ln;cases m σ<;>rfl
@[simp] theorem Hq(ρ:Ev)(k:α->M Fl)(a:α):Ln ρ k (.ok a σ)=k a σ:=rfl
@[simp] theorem ypw(ρ:Ev)(k:α->M Fl)(x:Xn):Ln ρ k (.ex x σ)=.ok (.xc ρ x) σ:=rfl
@[simp] theorem ye2(f:Ev->M D):gd f ρ σ=Ln ρ PK (f ρ σ):=Wn ..
@[simp] theorem yel(d:D):PK d σ=.ok (.rt d) σ:=rfl
@[simp] theorem ZU(f:Ev->M D):nu f ρ σ=Ln ρ (YI ρ) (f ρ σ):=Wn ..
@[simp] theorem kX(d:D):YI ρ d σ=.ok (.nx ρ) σ:=rfl
@[simp] theorem ye4(i:Nat)(f:Ev->M D):Ue i f ρ σ=Ln ρ (yE i ρ) (f ρ σ):=Wn ..
@[simp] theorem yfk(i:Nat)(d:D):yE i ρ d σ=.ok (.nx (ρ.set i (some d))) σ:=rfl
@[simp] theorem D3(t:Ev->M Bool)(a b:Ev->M Fl):Bf t a b ρ σ=Ln ρ (ql (a ρ) (b ρ)) (t ρ σ):=Wn ..
@[simp] theorem yev(f:Ev->M D)(a:D->Ev->Option Ev):IC f a ρ σ=Ln ρ (EE a ρ) (f ρ σ):=Wn ..
@[simp] theorem yhv(i j k:Nat)(a b c:D):EE (Wo 3 (Bi (je i) (Bi (je j) (Bi (je k) Jp)))) ρ (.Ka [a,b,c]) σ=.ok (.nx (((ρ.set i (some a)).set j (some b)).set k (some c))) σ:=rfl
@[simp] theorem yhw(i j:Nat)(a b:D):EE (Wo 2 (Bi (je i) (Bi (je j) Jp))) ρ (.Ka [a,b]) σ=.ok (.nx ((ρ.set i (some a)).set j (some b))) σ:=rfl
@[simp] theorem zo6(c:Nat)(a:Ev->M (List D)):jz c a ρ σ=Ln ρ (JH c ρ) (a ρ σ):=Wn ..
@[simp] theorem zvs(c:Nat)(d:D):JH c ρ [d] σ=.ok (.xc ρ ⟨c⟩) σ:=rfl
@[simp] theorem ye5(g:Ev->M Fl)(a:List Hd):xF g a ρ σ=(g ρ σ).bind (fD a):=rfl
@[simp] theorem ygx(a:List Hd):fD a (.nx ρ) σ=.ok (.nx ρ) σ:=rfl
@[simp] theorem ygy(a:List Hd)(x:Xn):fD a (.xc ρ x) σ=Ix ρ x a σ:=rfl
theorem Z0(e:h.t x.cls=some true):Ix ρ x (h::r) σ=hit h ρ x σ:=by unfold Ix;rw[e]
@[simp] theorem yk4(t:Nat->Option Bool)(g:Ev->M Fl)(x:Xn):hit ⟨t,none,g⟩ ρ x σ=(g ρ σ).bind FH:=rfl
@[simp] theorem ymb(d:D):FH (.rt d) σ=.ok (.rt d) σ:=rfl
@[simp] theorem Ĩ(n:Nat)(g:Ev->M Fl)(a:List D):Nd n g a σ=Kz (g (a.map some++List.replicate (n - a.length) none) σ):=rfl
@[simp] theorem yeq(d:D):Kz (.ok (.rt d) σ)=.ok d σ:=rfl
@[simp] theorem h9:Kz (.ok (.nx ρ) σ)=.ok .wc σ:=rfl
@[simp] theorem yer(x:Xn):Kz (.ok (.xc ρ x) σ)=.ex x σ:=rfl
@[simp] theorem yj9(f:M D):vc f σ=Uh σ (f σ):=nr rfl
@[simp] theorem wq(f:Ev->M D):Bh f ρ σ=Uh σ (f ρ σ):=nr rfl
theorem VC(h:cl d=true):fz k σ m d=some d:=by cases m<;>(unfold fz;rw[ia h])
theorem vU(h:cl d=true)(b:a.take σ.length=σ):Uh σ (.ok d a)=.ok d σ:=by
 unfold Uh;dsimp only;rw[ia b,VC h]
@[simp] theorem yap:Uh σ (.ex x σ)=.ex x σ:=by unfold Uh;dsimp only;rw[ia ej]
@[simp] theorem zmz(h:cl d=true):Uh σ (.ok d σ)=.ok d σ:=vU h ej
theorem pR{j j':Ta}{xs:List D}(h:fg xs=true):Uh σ (.ok (.ref σ.length) (σ++[.la xs]++j))=.ok (.la xs) σ:=by
 unfold Uh;dsimp only;rw[ia (by simp)];have e:fz σ.length (σ++[.la xs]++j) 6 (.ref σ.length)=some (.la xs):=by
  unfold fz;dsimp only;rw[ka (Zd _)];have:(σ++[Ob.la xs]++j)[σ.length]?=some (.la xs):=by simp
  rw[this];dsimp only;have d:∀ a m,fg a=true->Fn (fz σ.length (σ++[.la xs]++j) m) a=some a:=by
   intro a m;induction a with
   |nil=>intro _;rfl
   |cons y a f=>
    intro c;have b:cl y=true/\fg a=true:=by simpa [fg]using c
    unfold Fn;rw[VC b.1,f b.2]
  rw[d xs 5 h];rfl
 rw[e]
@[simp] theorem YZ(i:Int):cl (.int i)=true:=by simp[cl]
@[simp] theorem yq4(i:Bool):cl (.bl i)=true:=by simp[cl]
@[simp] theorem yir(i:Str):cl (.str i)=true:=by simp[cl]
@[simp] theorem yik:cl .wc=true:=by simp[cl]
@[simp] theorem yit(xs:List D):cl (.Ka xs)=fg xs:=by simp[cl]
@[simp] theorem yij(xs:List D):cl (.la xs)=fg xs:=by simp[cl]
@[simp] theorem yin(n:Nat):cl (.ref n)=false:=by simp[cl]
@[simp] theorem zyw:fg []=true:=by simp[fg]
@[simp] theorem zqt(d:D)(a:List D):fg (d::a)=(cl d && fg a):=by simp[fg]
theorem Jt:∀ {a:List D},(∀ d∈a,cl d=true)->fg a=true
 |[],_=>by simp
 |d::a,h=>by rw[zqt,h d Ha,Jt λx b=>h x (Na _ b)];rfl
theorem P5{f:a->D}{l:List a}(h:∀ x,cl (f x)=true):fg (l.map f)=true:=Jt λd b=>by obtain⟨x,_,rfl⟩:=gb.mp b;exact h x
@[simp] theorem zqv(l:List Int):fg (l.map D.int)=true:=P5 YZ
@[simp] theorem OH(xs a:List D):fg (xs++a)=(fg xs && fg a):=by
 induction xs with
 |nil=>simp
 |cons x xs b=>simp[b,Ry]
theorem Ē{xs:List D}{k:Int}(a:0<=k)(h:k<xs.length):Sr xs k=some (xs.getD k.toNat .wc):=by
 obtain⟨n,rfl⟩:=Int.eq_ofNat_of_zero_le a;have b:n<xs.length:=by omega
 refine Tr ?_;show xs[n]?=some (xs.getD n .wc);rw[Md,Ub b];rfl
theorem Χ{a:List Int}{k:Int}(b:0<=k)(h:k<a.length):Sr (a.map D.int) k=some (.int (a.getD k.toNat 0)):=by
 rw[Ē b (by simpa using h)];have c:k.toNat<a.length:=by omega
 simp[c]
@[simp] theorem ytt(a:D):Iy [a] σ=.ok (.la [a]) σ:=nr rfl
@[simp] theorem yts:Iy [] σ=.ok (.la []) σ:=nr rfl
@[simp] theorem ytu(a b:D):Iy [a,b] σ=.ok (.la [a,b]) σ:=nr rfl
@[simp] theorem ytv(a b c:D):Iy [a,b,c] σ=.ok (.la [a,b,c]) σ:=nr rfl
@[simp] theorem ytw(a b c d:D):Iy [a,b,c,d] σ=.ok (.la [a,b,c,d]) σ:=nr rfl
@[simp] theorem KC(xs:List D):bi (σ++[.la xs]) σ.length=some xs:=by simp[bi]
@[simp] theorem RE(a b:Ob):(σ++[a]).set σ.length b=σ++[b]:=by
 rw[Us _ _ (ya _)];simp
@[simp] theorem zrc(o:D->List D->M D)(f:Ev->M D)(a:Ev->M (List D)):Sw o f a ρ σ=(f ρ σ).bind (Ew o (a ρ)):=rfl
theorem Mz{xs:List D}(h:rh σ x=some xs):Ew o m x σ=(m σ).bind (o x):=by unfold Ew;rw[h];rfl
theorem UE{xs:List D}(h:xs.length<1000):Mn (.ref σ.length) [d] (σ++[.la xs])=.ok .wc (σ++[.la (xs++[d])]):=by
 unfold Mn;simp only[KC];rw[ia (show xs.length<ai from h),RE]
theorem υ{ws:List Int}(h:yj σ x=some (ws.map D.int)):To a (.int w) x σ=.ok (.bl (if a then !(ws.any (·== w))else ws.any (·== w))) σ:=by
 have b:∀ l:List Int,(l.map D.int).all fu=true:=λl=>by simp[fu,sc]
 have c:∀ l:List Int,((l.map D.int).any λz=>Yu z (.int w))=l.any (·== w):=λl=>by simp[Yu,sc,Mj,Ws]
 unfold To;rw[h];simp only[b,c,show fu (.int w)=true from rfl,vA,xg]
@[simp] theorem zpm(xs:List D):yj (σ++[.la xs]) (.ref σ.length)=some xs:=KC xs
@[simp] theorem lZ(xs:List D):yj σ (.la xs)=some xs:=nr rfl
@[simp] theorem zpp(xs:List D):yj σ (.Ka xs)=some xs:=nr rfl
@[simp] theorem Ļ(f:Ev->M D):gi f ρ σ=(f ρ σ).bind EA:=nr rfl
@[simp] theorem N2(a:List D):EA (.Ka a) σ=.ok (.seq a) σ:=nr rfl
@[simp] theorem zpk(a:List D):EA (.la a) σ=.ok (.seq a) σ:=nr rfl
@[simp] theorem MR(f:Ev->M D):Pu f ρ σ=(f ρ σ).bind Fz:=nr rfl
theorem iG(h:-(2 ^ 62)<=j)(a:j<2 ^ 62):Fz (.int j) σ=.ok (.seq (Fg j.toNat)) σ:=by
 unfold Fz;dsimp only;rw[ia (by simp only[gw,Rr,Ca,jc];exact⟨h,a⟩)]
@[simp] theorem KG(b:Ev->M Em)(c:D->Ev->Option Ev)(a:Ev->M Fl):vt b c a ρ σ=Ln ρ (kM c a ρ) (b ρ σ):=Wn ..
@[simp] theorem yI(c:D->Ev->Option Ev)(a:Ev->M Fl)(b:List D):kM c a ρ (.seq b) σ=Cm c a b ρ σ:=nr rfl
@[simp] theorem fB(b:D->Ev->Option Ev)(a:Ev->M Fl):Cm b a [] ρ σ=.ok (.nx ρ) σ:=nr rfl
theorem EZ(h:c d ρ=some b):Cm c a (d::e) ρ σ=(a b σ).bind (xu (Cm c a e)):=by
 show (match c d ρ with|none=>Pb|some b=>Fd (a b) (xu (Cm c a e))) σ=_;rw[h];rfl
@[simp] theorem au(i:Nat)(a:Ev->M Fl)(d:D)(b:List D):Cm (je i) a (d::b) ρ σ=(a (ρ.set i (some d)) σ).bind (xu (Cm (je i) a b)):=EZ rfl
@[simp] theorem lq(k:Ev->M Fl):xu k (.nx ρ) σ=k ρ σ:=nr rfl
@[simp] theorem BQ(k:Ev->M Fl)(d:D):xu k (.rt d) σ=.ok (.rt d) σ:=nr rfl
theorem M6(n:Nat):Fg n=(List.range' 0 n).map λ(k:Nat)=>D.int k:=by unfold Fg;rw[List.range_eq_range']
theorem ZG(h:m σ=.ok a b):vp m σ=.ok a b:=by unfold vp;rw[h]
end
section
variable{α β:Type}{ρ:Ev}{σ:Ta}
@[simp] theorem zpo(a:List Int):yj σ (.Fh a)=some (a.map D.int):=nr rfl
theorem TR(b:0<=k)(h:k<a.length):Oa (.Fh a) (.int k) σ=.ok (.int (a.getD k.toNat 0)) σ:=by
 simp only[Oa,zpo,Χ b h]
@[simp] theorem zur(c:BT)(i:Int):Nq c (.int i) σ=.ok (.bl (match c with | .int=>true|_=>false)) σ:=nr rfl
@[simp] theorem yc9(c:BT)(i:Bool):Nq c (.bl i) σ=.ok (.bl (match c with | .int=>true | .bool=>true|_=>false)) σ:=nr rfl
@[simp] theorem zuu(xs:List D):Nq .tuple (.Ka xs) σ=.ok (.bl true) σ:=nr rfl
@[simp] theorem zmm(o d:D->D->M D)(a b c:Ev->M D):AJ o d a b c ρ σ=(a ρ σ).bind (fJ o d (b ρ) (c ρ)):=nr rfl
def pl:Nat->D->Bool
 |_,.wc=>true
 |_,.bl _=>true
 |_,.int _=>true
 |_,.str _=>true
 |n+1,.Ka xs=>xs.all (pl n)
 |n+1,.la xs=>xs.all (pl n)
 |_,_=>false
theorem gH{f:D->D->Option Bool}:∀ {xs:List D},(∀ x∈xs,f x x=some true)->Al f xs xs=some true
 |[],_=>rfl
 |x::xs,h=>by unfold Al;rw[h x Ha,gH λy a=>h y (Na _ a)];rfl
theorem bD:∀ (n:Nat) (x:D),pl n x=true->li σ n x x=some true
 |0,x,h=>by cases x<;>simp[pl]at h<;>simp[li,kd,Io,Mj]
 |n+1,x,h=>by
  cases x with
  |wc=>simp[li,kd,Io,Mj]
  |bl b=>simp[li,kd,Io,Mj]
  |int b=>simp[li,kd,Io,Mj]
  |str b=>simp[li,kd,Io,Mj]
  |Ka xs=>
   simp only[pl,Vb]at h;exact gH λy a=>bD n y (h y a)
  |la xs=>
   simp only[pl,Vb]at h;exact gH λy a=>bD n y (h y a)
  |_=>simp[pl]at h
theorem WS(h:pl 8 x=true):Gf x x σ=.ok (.bl true) σ:=YC (bD 8 x h)
theorem br(h:pl 8 x=true):ph x x σ=.ok (.bl false) σ:=my (bD 8 x h)
@[simp] theorem zv7(f a fi:Ev->M D):cB f a fi ρ σ=Ln ρ (QJ ρ a fi) (f ρ σ):=Wn ..
@[simp] theorem zmc(o a:D->D->M D)(b c:M D)(x:D):fJ o a b c x σ=(b σ).bind (xK o a c x):=nr rfl
@[simp] theorem zme(o a:D->D->M D)(c:M D)(x y:D):xK o a c x y σ=(o x y σ).bind (XI a c y):=nr rfl
@[simp] theorem zmd(a:D->D->M D)(c:M D)(y:D)(b:Bool):XI a c y (.bl b) σ=ql (Fd c (a y)) (ret (.bl false)) b σ:=nr rfl
@[simp] theorem zwo(a fi:Ev->M D)(d:D):QJ ρ a fi d σ=Ln ρ (mJ ρ fi d) (a ρ σ):=Wn ..
@[simp] theorem zwp(fi:Ev->M D)(d x:D):mJ ρ fi d x σ=Ln ρ (aA ρ d x) (fi ρ σ):=Wn ..
@[simp] theorem yfl(d a:D)(r:List D):aA ρ d (.ref σ.length) (.int 0) (σ++[.la (a::r)])=.ok (.nx ρ) (σ++[.la (d::r)]):=by
 have:iB (.ref σ.length) (.int 0) d (σ++[.la (a::r)])=.ok () (σ++[.la (d::r)]):=by
  simp only[iB,KC];rw[show xt (a::r).length 0=some 0 by simp[xt]];simp
 unfold aA;rw[this]
@[simp] theorem yfm(d a b:D)(r:List D):aA ρ d (.ref σ.length) (.int 1) (σ++[.la (a::b::r)])=.ok (.nx ρ) (σ++[.la (a::d::r)]):=by
 have:iB (.ref σ.length) (.int 1) d (σ++[.la (a::b::r)])=.ok () (σ++[.la (a::d::r)]):=by
  simp only[iB,KC];rw[show xt (a::b::r).length 1=some 1 by simp[xt];omega];simp
 unfold aA;rw[this]
theorem XQ{xs:List D}(h:Sr xs k=some d):Oa (.ref σ.length) (.int k) (σ++[.la xs])=.ok d (σ++[.la xs]):=by simp[Oa,h]
@[simp] theorem ys5(a:D)(r:List D):Oa (.ref σ.length) (.int 0) (σ++[.la (a::r)])=.ok a (σ++[.la (a::r)]):=XQ (Tr rfl)
@[simp] theorem ys6(a b:D)(r:List D):Oa (.ref σ.length) (.int 1) (σ++[.la (a::b::r)])=.ok b (σ++[.la (a::b::r)]):=XQ (Tr rfl)
theorem kK(h:cl d=true):Uh σ (.ok d (σ++[a]))=.ok d σ:=vU h (by simp)
@[simp] theorem zl0(f:a->Bool)(l:List a):UA (l.map λx=>D.bl (f x))=some (l.map f):=by
 induction l with
 |nil=>rfl
 |cons x l b=>simp[UA,b]
@[simp] theorem z8(l:List Int):qt (l.map D.int)=some l:=by
 induction l with
 |nil=>rfl
 |cons x l a=>simp[qt,a]
theorem QZ{f:a->Bool}{l:List a}:IE [.la (l.map λx=>D.bl (f x))] σ=.ok (.bl (l.all f)) σ:=by
 simp only[IE];simp
theorem eY(h:l.length<=1000):qD (.la (l.map D.int)) σ=.ok (.int (Ou l).length) σ:=by
 simp only[qD,rh,Option.bind_some,z8];rw[ia (show l.length<=ai from h)]
theorem GJ:∀ (l s:List Int),(l.foldl PyProof.Rows.step_dedup s).length<=s.length+l.length/\((l.foldl PyProof.Rows.step_dedup s).length=s.length+l.length ↔ (l.Nodup/\∀ x∈l,x ∉ s))
 |[],s=>by simp
 |x::l,s=>by
  rw[Cj];by_cases h:s.any (·== x)=true
  ·have i:x∈s:=by simpa using h
   rw[show PyProof.Rows.step_dedup s x=s by unfold PyProof.Rows.step_dedup;rw[ia h]];obtain⟨j,g⟩:=GJ l s;refine⟨by simp only[Fb];omega,λe=>?_,λe=>absurd i (e.2 x Ha)⟩;simp only[Fb]at e;omega
  ·have i:x ∉ s:=by simpa using h
   rw[show PyProof.Rows.step_dedup s x=s++[x] by unfold PyProof.Rows.step_dedup;rw[ka h]];obtain⟨j,g⟩:=GJ l (s++[x]);simp only[Ia,Fb,Oo]at j g;refine⟨by simp only[Fb];omega,?_⟩;rw[Fb,show s.length+(l.length+1)=s.length+(0+1)+l.length by omega,g,ge];constructor
   ·rintro ⟨a,b⟩;refine⟨⟨λk=>(b x k) (by simp),a⟩,λy f=>?_⟩;rcases Ea.mp f with rfl|f
    ·exact i
    ·exact λd=>b y f (by simp[d])
   ·rintro ⟨⟨a,b⟩,c⟩;refine⟨b,λy f d=>?_⟩;rcases Kf.mp d with d|d
    ·exact c y (Na _ f) d
    ·rw[oi.mp d]at f;exact a f
theorem T5(l:List Int):((Ou l).length:Int)=(l.length:Int) ↔ l.Nodup:=by
 have:=(GJ l []).2;simp only[Oo,we,not_false_eq_true,implies_true,and_true]at this;unfold Ou;rw[<-this];omega
end
section
variable{ρ:Ev}{σ:Ta}
@[simp] theorem zrb(c n:Nat)(a:List D->M D)(b:Ev->M (List D)):Kt c n a b ρ σ=(b ρ σ).bind (Lp c n a):=nr rfl
theorem IS(h:a.length+1=n):Lp c n b a σ=FC σ.length (b (.ref σ.length::a) (σ++[.Jd c []])):=by unfold Lp;rw[ia h]
@[simp] theorem GK(n:Nat):FC n (.ok .wc σ)=.ok (.ref n) σ:=nr rfl
@[simp] theorem kP(a:List Nat)(f:Str)(c b:Ev->M D):Bn a f c b ρ σ=Ln ρ (BK ρ a f b) (c ρ σ):=Wn ..
@[simp] theorem pX(a:List Nat)(f:Str)(b:Ev->M D)(d:D):BK ρ a f b d σ=Ln ρ (jA ρ a f d) (b ρ σ):=Wn ..
theorem IU(h:cs.contains c=true)(a:fs.length<1000):jA ρ cs f d (.ref σ.length) (σ++[.Jd c fs])=.ok (.nx ρ) (σ++[.Jd c (wo f d fs)]):=by
 have e:aB cs f d (.ref σ.length) (σ++[.Jd c fs])=.ok () (σ++[.Jd c (wo f d fs)]):=by
  have:(σ++[Ob.Jd c fs])[σ.length]?=some (.Jd c fs):=by simp
  unfold aB;simp only[this];rw[ia (by rw[h];simpa using a)];simp
 unfold jA;rw[e]
theorem Ho(h:b.length=a.length):mn σ (.obj c b a)=some (c,b.zip a):=by unfold mn;dsimp only;rw[ia h]
theorem xo(h:mn σ x=some (c,b))(e:a.contains c=true)(g:b.lookup f=some d):Uc a f x σ=.ok d σ:=by
 unfold Uc;rw[h];dsimp only;rw[ia e,g]
@[simp] theorem ŀ(b:Mt)(n:Nat)(m:Str)(f:Ev->M D)(a:Ev->M (List D)):Rg b n m f a ρ σ=(f ρ σ).bind (vm b n m (a ρ)):=nr rfl
theorem Fo(h:mn σ x=some (c,d))(g:lx e c=some a)(f:d.lookup m=none):vm e n m b x σ=(b σ).bind (Gk n a x):=by
 unfold vm;rw[h];dsimp only;rw[g,f];rfl
theorem DI(h:a.length+1=n):Gk n b x a σ=b (x::a) σ:=by unfold Gk;rw[ia h]
@[simp] theorem ycp(a:List D->M D)(x:D):Gk 1 a x [] σ=a [x] σ:=DI rfl
@[simp] theorem X1(b:List D->M D)(x a:D):Gk 2 b x [a] σ=b [x,a] σ:=DI rfl
@[simp] theorem ycr(c:List D->M D)(x a b:D):Gk 3 c x [a,b] σ=c [x,a,b] σ:=DI rfl
theorem ER(h:fg (a.map (·.2))=true):Uh σ (.ok (.ref σ.length) (σ++[.Jd c a]))=.ok (.obj c (a.map (·.1)) (a.map (·.2))) σ:=by
 unfold Uh;dsimp only;rw[ia (by simp)];have e:fz σ.length (σ++[.Jd c a]) 6 (.ref σ.length)=some (.obj c (a.map (·.1)) (a.map (·.2))):=by
  unfold fz;dsimp only;rw[ka (Zd _)];have:(σ++[Ob.Jd c a])[σ.length]?=some (.Jd c a):=by simp
  rw[this];dsimp only;have g:∀ b (m:Nat),fg b=true->Fn (fz σ.length (σ++[.Jd c a]) m) b=some b:=by
   intro b m;induction b with
   |nil=>intro _;rfl
   |cons y b i=>
    intro f;have d:cl y=true/\fg b=true:=by simpa using f
    unfold Fn;rw[VC d.1,i d.2]
  rw[g _ 5 h];rfl
 rw[e]
@[simp] theorem yil(c:Nat)(b:List Str)(a:List D):cl (.obj c b a)=fg a:=by simp[cl]
@[simp] theorem Lw(i j:Int):Iz [.int i,.int j] σ=.ok (.int (min i j)) σ:=nr rfl
@[simp] theorem Ex(i j:Int):DE [.int i,.int j] σ=.ok (.int (max i j)) σ:=nr rfl
@[simp] theorem zut(i:Str):Nq .str (.str i) σ=.ok (.bl true) σ:=nr rfl
@[simp] theorem zus(c:BT):Nq c .wc σ=.ok (.bl false) σ:=by cases c<;>rfl
end
end L4
namespace L4
open PySem PySem.Spec PySem.Calls PyProof.Rows PySem.Builtin PySem.Builtin.ObjectAttr PySem.Builtin.Getset_descriptor L2
structure ExK(K:W.Frag)(C:Addr):Prop where
 g:W.findIn K (.ref C) "__getattribute__" = some (some (.builtin "BaseException.__getattribute__"))
 g2:W.findIn K (.ref C) "__getattr__" = some none
 mb:W.mroIn K C (.type "BaseException")=some true
 d:W.hasDictIn K C=true
 a:W.findIn K (.ref C) "__class__" = some (some (.builtin "object.__class__"))
 n:W.specialIn K (.builtin "object.__class__") "__get__" = some (some (.builtin "getset_descriptor.__get__"))
 t:W.takesIn K (.builtin "object.__class__")=some true
 m:W.mroIn K C (.type "object")=some true
section
variable{prog:Aa}{w:Wa}{A:Qa}{E:Value->aa->Prop}{s:aa}{K:W.Frag}{C ea:Addr}{hp:Heap}{Mo:lm}
theorem Jy.plain(p:Jy C a ea hp):j3 C ea hp:=let ⟨o,b,c,_⟩:=p;⟨o,b,c⟩
end
section
variable{T:Tb}{X:Cx}
inductive qx(X:Cx)(y:Str):V->Value->Prop where
 |own {a:Addr} (h:X.mg y=some (.ref a)):qx X y (.ref a) (.ref a)
 |bt {n:String} (h:X.mg y=none) (hv:bootBuiltins y=some (.type n)) (hn:y ≠ "__name__"):qx X y (.ty n) (.type n)
theorem qx.rel(h:qx X y b a):∀ u,Pd b u->u=a:=by
 cases h with
 |own h=>exact λu q=>q
 |bt h d c=>exact λu q=>q
end
section
variable{ρ:Ev}{σ:Ta}
end
end L4
namespace L4
open PySem PySem.Spec PySem.Calls PyProof.Rows L2
def UH(l:Addr)(j:Int):Heap->Prop:=λh=>∃ t u v,IsRange h l 0 j 1 t u v
theorem JT:∀ (l:List Value) (m:Nat),(∀ (j:Nat) v,l[j]?=some v->∃ t,v=.int ((m:Int)+(j:Int)) t)->ue ((List.range' m l.length).map λ(k:Nat)=>V.int k) l
 |[],m,_=>.nil
 |x::l,m,h=>by
  refine .cons ?_ (JT l (m+1) λj v e=>?_)
  ·obtain⟨t,e⟩:=h 0 x rfl;exact⟨t,by rw[e];simp⟩
  ·obtain⟨t,a⟩:=h (j+1) v (by simpa using e);exact⟨t,by rw[a];congr 1;omega⟩
section
variable{T:Tb}{X:Cx}
theorem È:zm X (.type "range") (λxs H Q=>∃ j:Int,xs=[.int j]/\∀ l,H l=none->Q (.ref l) (pc H l (.ext (UH l j)))):=by
 intro f s st H xs n Q I r h;obtain⟨j,rfl,q⟩:=h;obtain⟨u,rfl,g⟩:=Os r;obtain⟨t,rfl⟩:=g;refine call_range_1 ⟨.ref s.heap.objs.size,_,I.laid (λ_ _ e=>na _ e) (ya _) ?_,rfl,q _ (I.zd.fresh (ya _))⟩;have d:(s.heap.push { cls:=.type "range",data:=.fields #[.int 0 s.toks,.int j t,.int 1 (s.toks+1)] }).get? s.heap.objs.size=some { cls:=.type "range",data:=.fields #[.int 0 s.toks,.int j t,.int 1 (s.toks+1)] }:=qb _ rfl;exact⟨⟨_,_,_,d⟩,⟨_,d⟩,λi m ⟨a,b,c,e⟩ k=>⟨a,b,c,k _ e⟩⟩
theorem A6(z:X.Da=true):zm X (.type "list") (λxs H Q=>∃ (p:Addr) (j:Int),xs=[.ref p]/\H p=some (.ext (UH p j))/\0<=j/\j<=1000/\∀ l,H l=none->Q (.ref l) (pc H l (.la ((List.range' 0 j.toNat).map λ(k:Nat)=>V.int k)))):=by
 intro m s st H xs K Q I r h;obtain⟨p,j,rfl,C,F,G,q⟩:=h;obtain⟨u,rfl,E⟩:=Os r;cases E;obtain⟨⟨a,b,c,e⟩,_,_⟩:=(I.zd p _ C)
 refine call_list_range (n:=j.toNat) (I.ok.hd z) e (small_one (by omega) (by omega) (by omega) (by omega)) (by rw[rX];split<;>omega) (by omega) λh' J d o B y f=>?_;refine⟨.ref s.heap.objs.size,_,I.laid B (ya _) ?_,rfl,q _ (I.zd.fresh (ya _))⟩;obtain⟨D,A⟩:=f;have g:=JT d.toList 0 (λi v w=>by
  obtain⟨t,x⟩:=A i v (by simpa using w);exact⟨t,by rw[x];congr 1;omega⟩)
 rw[qg,D]at g;refine⟨?_,d.toList,o,g,?_⟩
 ·rw[zb,List.length_range'];exact Ib (show j.toNat<=1000 by omega) (by decide)
 ·rw[y]
def OA(x:D):M D:=λσ=>match x with
 | .int j=>if (decide (0<=j) && decide (j<=1000))=true then .ok (.la (Fg j.toNat)) σ else .Pb
 |_=>.Pb
theorem W4(C:X.Da=true)(F:Gl X "list")(G:X.mg "list" = none)(q:Gl X "range")(r:X.mg "range" = none)(E:FE T X e f)
  (z:qa [e] X.env=(false,Yb e X.env)::qa [] X.env:=by rfl) (u:(Vc a (qa [] X.env)).any (·.1)=false:=by rfl)
  (i:qa [.Call (.Name "range" w) [e] [] a] X.env=(false,Yb (.Call (.Name "range" w) [e] [] a) X.env)::qa [] X.env:=by rfl) (g:(Vc n (qa [] X.env)).any (·.1)=false:=by rfl) :
  FE T X (.Call (.Name "list" p) [.Call (.Name "range" w) [e] [] a] [] n) (Cd OA f):=by
 intro m s st H Q I h;refine OF (A6 C) F G Gm (Wt (OF È q r oA (Wt E iw z) (by decide) (by decide) z u) iw i) (by decide) (by decide) i g m s st H Q I ?_;obtain⟨A,ρ,σ,B,K,J⟩:=h;refine⟨A,ρ,σ,B,K,J.bind λd P o v x _ R N L b=>?_⟩;unfold OA at b;cases d with
 |int j=>
  dsimp only at b;by_cases c:(decide (0<=j) && decide (j<=1000))=true
  ·rw[ia c]at b;simp only[Ca,jc]at c;refine⟨j,by rw[Mp L],λl y=>?_⟩;refine⟨l,j,rfl,vh,c.1,c.2,λl2 t=>?_⟩;have O:Db T o (pc x l (.ext (UH l j))) (Fg j.toNat) ((List.range' 0 j.toNat).map λ(k:Nat)=>V.int k):=by
    rw[M6];have:=rB (T:=T) (μ:=o) (H:=pc x l (.ext (UH l j))) ((List.range' 0 j.toNat).map λ(k:Nat)=>k);rw[dc,dc]at this;exact this
   exact rE (gc.mono (Wl y) b) (N.fresh y) O t
  ·rw[ka c]at b;exact b.elim
 |_=>exact b.elim
@[simp] theorem L0(j:Int)(b:0<=j)(c:j<=1000)(a:Ta):OA (.int j) a=.ok (.la (Fg j.toNat)) a:=by
 unfold OA;dsimp only;rw[ia (by simp[b,c])]
end
end L4
namespace HT
open PySem Builtin
open Sem (wp)
end HT
namespace L4
open PySem PySem.Spec PyProof.Rows L2
end L4
namespace HT
open PySem Builtin
open Sem (wp)
end HT
namespace L4
open PySem PySem.Spec PyProof.Rows L2
section
variable{T:Tb}{X:Cx}
end
end L4
namespace L2
open PySem PySem.Spec PyProof.Rows
section
variable{κ:Type}[DecidableEq κ]
def En(a:List (κ × V))(k:κ):Option V:=(a.find? λb=>decide (b.1=k)).map (·.2)
def Mq(a:List (κ × V))(k:κ)(v:V):List (κ × V):=
 if (a.any λb=>decide (b.1=k))=true then a.map (λb=>if b.1=k then (b.1,v)else b)else a++[(k,v)]
def Kx(a:List (κ × V))(k:κ):List (κ × V):=a.filter λb=>decide (b.1≠k)
theorem dI{k:κ}(e:p.1=k):En (p::r) k=some p.2:=by simp[En,e]
theorem mI{k:κ}(e:¬ p.1=k):En (p::r) k=En r k:=by simp[En,e]
theorem bV(k:κ):∀ a:List (κ × V),(a.any λb=>decide (b.1=k))=(En a k).isSome
 |[]=>rfl
 |p::r=>by
  rw[Ze];by_cases e:p.1=k
  ·simp only[dI e,lb e,Bool.true_or,Option.isSome_some]
  ·rw[mI e,Ua e,uA];exact bV k r
theorem hJ(a:List (κ × V))(k:κ)(v:V):(Mq a k v).length<=a.length+1:=by
 unfold Mq;split
 ·rw[zb];omega
 ·rw[Ia,Fb,Oo];omega
theorem Zo.Kh(r:Zo o u):o.isSome=u.isSome:=by
 cases o with
 |none=>cases u with
  |none=>rfl
  |some _=>exact(r).elim
 |some _=>cases u with
  |none=>exact(r).elim
  |some _=>rfl
theorem Zo.getD(r:Zo o u)(rd:Pd d a):Pd (o.getD d) (u.getD a):=by
 cases o with
 |none=>cases u with
  |none=>exact rd
  |some _=>exact(r).elim
 |some _=>cases u with
  |none=>exact(r).elim
  |some _=>exact r
theorem KV.val(r:KV a g)(k:κ):Zo (En a k) (Zr g k):=by
 induction r with
 |nil=>exact True.intro
 |@cons p q l d h t j=>
  obtain⟨f,i⟩:=h;by_cases e:p.1=k
  ·have c:=f.symm.trans e;have b:Zr (q::d) k=some q.2:=by simp[Zr,c]
   rw[dI e,b];exact i
  ·have c:¬ q.1=k:=λz=>e (f.trans z);have b:Zr (q::d) k=Zr d k:=by simp[Zr,c]
   rw[mI e,b];exact j
theorem KV.any(r:KV a c)(k:κ):(a.any λb=>decide (b.1=k))=c.any λb=>decide (b.1=k):=by
 induction r with
 |nil=>rfl
 |cons h t d=>rw[Ze,Ze,d,h.1]
theorem KV.Hz(r:KV b d)(k:κ)(i:Pd y u) :
  KV (b.map λa=>if a.1=k then (a.1,y)else a) (d.map λa=>if a.1=k then (a.1,u)else a):=by
 induction r with
 |nil=>exact .nil
 |@cons p q j l h t g=>
  rw[Ra,Ra];refine .cons ?_ g;obtain⟨c,f⟩:=h;by_cases e:p.1=k
  ·rw[ia e,ia (c.symm.trans e)];exact⟨c,i⟩
  ·rw[ka e,ka (λz=>e (c.trans z))];exact⟨c,f⟩
theorem KV.put(r:KV a b)(k:κ)(c:Pd y u):KV (Mq a k y) (stored b k u):=by
 unfold Mq stored;rw[r.any k];by_cases e:(b.any λd=>decide (d.1=k))=true
 ·rw[ia e,ia e];exact r.Hz k c
 ·rw[ka e,ka e];exact Paired.snoc r ⟨rfl,c⟩
theorem KV.drop(r:KV c g)(k:κ):KV (Kx c k) (without g k):=by
 unfold Kx without;induction r with
 |nil=>exact .nil
 |@cons p q l m h t f=>
  obtain⟨d,j⟩:=h;rw[ye,ye];by_cases e:p.1=k
  ·have a:¬ decide (p.1≠k)=true:=by simp[e]
   have b:¬ decide (q.1≠k)=true:=by simp[d.symm.trans e]
   rw[ka a,ka b];exact f
  ·have i:¬ q.1=k:=λz=>e (d.trans z);have a:decide (p.1≠k)=true:=by simp[e]
   have b:decide (q.1≠k)=true:=by simp[i]
   rw[ia a,ia b];exact .cons ⟨d,j⟩ f
theorem KV.length(r:KV a b):a.length=b.length:=Paired.length r
theorem QW(a:List (κ × V))(k:κ):(Kx a k).length<=a.length:=Lj _ _
end
theorem jy(r:Pd (kV k) u):(um P w).is k u=true:=by
 cases k with
 |inl i=>obtain⟨t,e⟩:=(r);subst e;exact i4 P w i t
 |inr x=>obtain⟨t,e⟩:=(r);subst e;exact sZ P w x t
theorem QS{P:Aa}{w:Wa}:∀ {ks:List ud} {us:List Value},ue (ks.map kV) us->ItemsAre (um P w) ks us
 |[],_,r=>by rw[Vr]at r;cases r;exact .nil
 |k::ks,_,r=>by
  cases r with
  |cons h t=>exact .cons (jy h) (QS t)
abbrev KT(H:Hp):List (List ud × V)->List (List ud × Addr × Value)->Prop:=Paired λp q=>p.1=q.1/\H q.2.1=some (.Ka (p.1.map kV))/\Pd p.2 q.2.2
theorem KT.val(r:KT H a xs)(k:List ud):Zo (En a k) ((Uu xs k).map (·.2)):=by
 induction r with
 |nil=>exact True.intro
 |@cons p q j d h t i=>
  obtain⟨f,_,g⟩:=h;by_cases e:p.1=k
  ·have c:=f.symm.trans e;have b:Uu (q::d) k=some q.2:=by simp[Uu,c]
   rw[dI e,b];exact g
  ·have c:¬ q.1=k:=λz=>e (f.trans z);have b:Uu (q::d) k=Uu d k:=by simp[Uu,c]
   rw[mI e,b];exact i
theorem KT.Hz(r:KT H a xs)(k:List ud)(i:Pd y u) :
  KT H (a.map λc=>if c.1=k then (c.1,y)else c) (xs.map (putAt k u)):=by
 induction r with
 |nil=>exact .nil
 |@cons p q j l h t g=>
  rw[Ra,Ra];refine .cons ?_ g;obtain⟨b,d,f⟩:=h;unfold putAt;by_cases e:p.1=k
  ·rw[ia e,ia (b.symm.trans e)];exact⟨b,d,i⟩
  ·rw[ka e,ka (λz=>e (b.trans z))];exact⟨b,d,f⟩
theorem KT.put(r:KT H a xs)(k:List ud)(d:H b=some (.Ka (k.map kV)))(c:Pd y u) :
  KT H (Mq a k y) (storedH xs k b u):=by
 have e:(a.any λf=>decide (f.1=k))=(Uu xs k).isSome:=by
  rw[bV,(r.val k).Kh,Nl]
 unfold Mq storedH;rw[e];by_cases q:(Uu xs k).isSome=true
 ·rw[ia q,ia q];exact r.Hz k c
 ·rw[ka q,ka q];exact Paired.snoc r ⟨rfl,d,c⟩
theorem KT.keeps(r:KT H a xs)(e:∀ b d,H b=some (.Ka d)->c b=some (.Ka d)):KT c a xs:=
 Paired.Hr r λ_ _ z=>⟨z.1,e _ _ z.2.1,z.2.2⟩
section
variable{P:Aa}{w:Wa}{H:Hp}{h:Heap}{a:Addr}
theorem eW(ok:lj P w H h)(e:Rd H a u):Ym P w H h a u:=e.ok ok
theorem xx(ok:lj P w H h)(e:Rd H a (.dK b)):b.length<=sizeLine/\(a == jh)=false/\∃ c,KV b c/\h.DictOf (um P w) a c:=
 eW ok e
theorem NG(ok:lj P w H h)(e:H a=some (.dK b)):b.length<=sizeLine/\(a == jh)=false/\∃ c,KV b c/\h.DictOf (um P w) a c:=xx ok (.inl e)
theorem uD(ok:lj P w H h)(e:H a=some (.Ka (ks.map kV))):(Fq (um P w)).is h ks a:=by
 obtain⟨_,b,r,o,c,d,n,f⟩:=(ok a _ e)
 exact⟨o,b.toArray,n,c,d,f,by simpa using QS r⟩
theorem dE(ok:lj P w H h)(e:Rd H a (.dT c)):c.length<=sizeLine/\(a == jh)=false/\
  ∃ xs,KT H c xs/\h.DictOfH (Fq (um P w)) a xs:=by
 obtain⟨z,y,xs,r,o,i,g,j,k,n,s,u⟩:=(eW ok e)
 refine⟨z,y,xs,r,o,i,g,j,k,n,s,λx b=>?_,u⟩;have d:∀ {l:List (List ud × V)} {m:List (List ud × Addr × Value)},KT H l m->∀ x∈m,(Fq (um P w)).is h x.1 x.2.1:=by
  intro l m q;induction q with
  |nil=>intro x b;exact nomatch b
  |@cons p q A B f t v=>
   intro x b;rcases Ea.mp b with e|b
   ·subst e;exact uD ok (by rw[<-f.1];exact f.2.1)
   ·exact v x b
 exact d r x b
theorem A0(ok:lj P w H h)(e:H a=some (.dT b)):b.length<=sizeLine/\(a == jh)=false/\
  ∃ xs,KT H b xs/\h.DictOfH (Fq (um P w)) a xs:=dE ok (.inl e)
end
def Nj(H:Hp)(a:Addr)(y:V)(r:Option V):Prop:=
 (∃ c k,Rd H a (.dK c)/\y=kV k/\r=En c k)\/∃ c k b,Rd H a (.dT c)/\y=.ref b/\H b=some (.Ka (k.map kV))/\r=En c k
def az(H:Hp)(a:Addr)(y v:V)(d:Hp):Prop:=
 (∃ c k,H a=some (.dK c)/\y=kV k/\c.length<sizeLine/\d=pc H a (.dK (Mq c k v)))\/
 ∃ c k b,H a=some (.dT c)/\y=.ref b/\H b=some (.Ka (k.map kV))/\c.length<sizeLine/\d=pc H a (.dT (Mq c k v))
theorem Nj.k{H:Hp}{a:Addr}{b:List (ud × V)}{k:ud}(e:H a=some (.dK b)):Nj H a (kV k) (En b k):=.inl ⟨b,k,.inl e,rfl,rfl⟩
theorem Nj.t{k:List ud}(e:H a=some (.dT c))(d:H b=some (.Ka (k.map kV))):Nj H a (.ref b) (En c k):=.inr ⟨c,k,b,.inl e,rfl,d,rfl⟩
theorem az.k{H:Hp}{a:Addr}{b:List (ud × V)}{k:ud}{v:V}(e:H a=some (.dK b))(c:b.length<sizeLine):az H a (kV k) v (pc H a (.dK (Mq b k v))):=.inl ⟨b,k,e,rfl,c,rfl⟩
theorem az.t{k:List ud}(e:H a=some (.dT c))(d:H b=some (.Ka (k.map kV)))(f:c.length<sizeLine) :
  az H a (.ref b) v (pc H a (.dT (Mq c k v))):=.inr ⟨c,k,b,e,rfl,d,f,rfl⟩
section
variable{X:Cx}{pins:List (Addr × jd)}{σ:St}{H:Hp}{s:aa}{a:Addr}{y v:V}{u r:Value}{o:Option V}{A:Qa}{E:Value->aa->Prop}
theorem Za.aU(I:Za X pins σ H s):jh<s.heap.objs.size:=by
 have h:=(I.mod.glob.keeps I.bk).lt;exact Xs (by decide) h
theorem o7(C:A.units+1<cLine)(I:Za X pins σ H s)(g:Nj H a y (some v))(q:Pd y u)(h:∀ f r,Za X pins σ H r->Pd v f->Q f r) :
  wpAny (model X.prog X.w) A (sj (.ref a) u) Q E s:=by
 rcases g with⟨o,k,e,j,l⟩|⟨o,k,b,e,j,t,l⟩
 ·subst j;obtain⟨z,x,D,c,i⟩:=xx I.zd e;obtain⟨f,n,d⟩:=Zo.some_of (by rw[l];exact c.val k);exact wpAny_getItem_of (jy q) i.mapOf n (h f _ (I.tok _) d)
 ·subst j;cases (q);obtain⟨z,x,xs,c,i⟩:=dE I.zd e;obtain⟨f,n,d⟩:=Zo.some_of (by rw[l];exact c.val k);obtain⟨p,B,m⟩:=Eb.mp n;refine wpAny_getItem_heap (Yi C) (uD I.zd t) i B ?_;rw[m];exact h f _ (I.tok _) d
theorem yze(r:A.units+1<cLine)(I:Za X pins σ H s)(g:Nj H a y o)(m:Pd y u)(h:∀ n,Za X pins σ H n->Q (.bool o.isSome) n) :
  wpAny (model X.prog X.w) A (Sb .In u (.ref a)) Q E s:=by
 rcases g with⟨j,k,e,f,l⟩|⟨j,k,b,e,f,p,l⟩
 ·subst f;obtain⟨z,i,t,c,d⟩:=xx I.zd e;refine wpAny_in_of (jy m) i d.mapOf ?_;rw[<-(c.val k).Kh,<-l];exact h _ (I.tok _)
 ·subst f;cases (m);obtain⟨z,i,xs,c,d⟩:=dE I.zd e;refine wpAny_in_heap (Yi r) (uD I.zd p) i d ?_;have q:=(c.val k).Kh;rw[Nl]at q;rw[<-q,<-l];exact h _ (I.tok _)
theorem kY(r:A.units+1<cLine)(I:Za X pins σ H s)(g:Nj H a y o)(m:Pd y u)(h:∀ n,Za X pins σ H n->Q (.bool (!o.isSome)) n) :
  wpAny (model X.prog X.w) A (Sb .NotIn u (.ref a)) Q E s:=by
 rcases g with⟨j,k,e,f,l⟩|⟨j,k,b,e,f,p,l⟩
 ·subst f;obtain⟨z,i,t,c,d⟩:=xx I.zd e;refine wpAny_notIn_of (jy m) i d.mapOf ?_;rw[<-(c.val k).Kh,<-l];exact h _ (I.tok _)
 ·subst f;cases (m);obtain⟨z,i,xs,c,d⟩:=dE I.zd e;refine wpAny_notIn_heap (Yi r) (uD I.zd p) i d ?_;have q:=(c.val k).Kh;rw[Nl]at q;rw[<-q,<-l];exact h _ (I.tok _)
theorem QC(I:Za X pins σ H s)(h:UD (H a))(g:kg a s.heap h')(f:∃ q,h'.get? a=some q)(c:Ym X.prog X.w (pc H a d) h' a d) :
  Za X pins σ (pc H a d) { s with heap:=h',toks:=t' }:=
 I.write h (.inl rfl) (λb q e z=>(g.2 b e).trans z) f c
theorem yD(z:b.length<=sizeLine)(h:(a == jh)=false)(c:KV b d)(g:e.DictOf (um P w) a d) :
  Ym P w f e a (.dK b):=⟨z,h,d,c,g⟩
theorem zmk(T:A.units+1<cLine)(I:Za X pins σ H s)(g:az H a y v B)(J:Pd y u)(G:Pd v r)(h:∀ K,Za X pins σ B K->Q () K) :
  wpAny (model X.prog X.w) A (cw (.ref a) u r) Q E s:=by
 rcases g with⟨d,k,e,o,l,n⟩|⟨d,k,b,e,o,C,l,n⟩
 ·subst o n;obtain⟨z,p,U,f,m⟩:=NG I.zd e;have F:U.length<=sizeLine:=by rw[<-f.length];exact z
  have t:(Mq d k v).length<=sizeLine:=by have:=hJ d k v;omega
  refine wpAny_setItem_pairs (jy J) m λh' i x=>h _ ?_;have S:∃ q,h'.get? a=some q:=let ⟨q,_,_,j,_⟩:=i;⟨q,j⟩;exact QC I (by rw[e];exact True.intro) x S (yD t p (f.put k G) i)
 ·subst o n;cases (J);obtain⟨z,p,xs,f,m⟩:=A0 I.zd e;have F:xs.length<=sizeLine:=by rw[<-Paired.length f];exact z
  have t:(Mq d k v).length<=sizeLine:=by have:=hJ d k v;omega
  refine wpAny_setItem_heap (hsz:=F) (Yi T) (uD I.zd C) m λh' i x=>h _ ?_;obtain⟨q,M,L,j,N,O,P,_,R⟩:=i;refine QC I (by rw[e];exact True.intro) x ⟨q,j⟩ ⟨t,p,_,(f.put k C G).keeps λc V D=>?_,q,M,L,j,N,O,P,R⟩;rw[de (HN D e (λz=>nomatch z))];exact D
end
section
variable{X:Cx}{pins:List (Addr × jd)}{σ:St}{H:Hp}{s:aa}{a:Addr}{kvs:List (ud × V)}{k:ud}{u:Value}{A:Qa}{E:Value->aa->Prop}
theorem zmi(I:Za X pins σ H s)(e:H a=some (.dK kvs))(n:Pd (kV k) u)(l:(En kvs k).isSome=true)(h:∀ f,Za X pins σ (pc H a (.dK (Kx kvs k))) f->Q () f) :
  wpAny (model X.prog X.w) A (delItem (.ref a) u) Q E s:=by
 obtain⟨z,g,o,b,d⟩:=NG I.zd e;refine wpAny_delItem_slot d.typeIs (by decide) Po
  (Cp Po d.typeIs PySem.F.entry_dict_delitem (PySem.F.args_dict_delitem_2 _ _) (meets_dict_delitem_pairs (um X.prog X.w) a (jy n)) ⟨o,d,by rw[<-b.length];exact z,by rw[<-(b.val k).Kh];exact l,λh' c m=>h _ ?_⟩)
 have i:∃ q,h'.get? a=some q:=let ⟨q,_,_,j,_⟩:=c;⟨q,j⟩;exact QC I (by rw[e];exact True.intro) m i (yD (Ib (QW kvs k) z) g (b.drop k) c)
theorem Ê(I:Za X pins σ H s)(e:H a=some (.dK kvs))(j:Pd (kV k) u)(l:En kvs k=some v)(n:b=[]\/∃ x,b=[x])
  (h:∀ f o,Za X pins σ (pc H a (.dK (Kx kvs k))) o->Pd v f->Q f o):wpAny (model X.prog X.w) A (call (.builtin "dict.pop") (.ref a::u::b)) Q E s:=by
 obtain⟨z,r,J,c,m⟩:=NG I.zd e;obtain⟨f,G,g⟩:=Zo.some_of (by rw[<-l];exact c.val k);have B:(keyPart u).isSome=true:=by
  cases k with
  |inl i=>obtain⟨t,q⟩:=(j);subst q;rfl
  |inr x=>obtain⟨t,q⟩:=(j);subst q;rfl
 have p:argsOk "dict.pop" ⟨.ref a::u::b,[]⟩:=by
  rcases n with q|⟨x,q⟩
  ·subst q;exact PySem.F.args_dict_pop_2 _ _
  ·subst q;exact PySem.F.args_dict_pop_3 _ _ _
 refine Cp Sq m.typeIs PySem.F.entry_dict_pop p (meets_dict_pop_there (um X.prog X.w) a (jy j) b n B)
  ⟨J,f,m,by rw[<-c.length];exact z,G,λh' d D=>h f _ ?_ g⟩
 have y:∃ q,h'.get? a=some q:=let ⟨q,_,_,C,_⟩:=d;⟨q,C⟩;exact QC I (by rw[e];exact True.intro) D y (yD (Ib (QW kvs k) z) r (c.drop k) d)
end
def EL(i:Ma):Prop:=∀ b a,Vq i false b a=operate [b,a] (sj b a)
theorem N4
  (p:typeLookup (.type T) "__getitem__" = pure (some (.builtin t))) (q:EL b)
  (h:wpAny (model a w) A (Yb c j) (λo f=>wpAny (model a w) A (Yb b j) (λi d=>d.TypeIs o T/\wpAny (model a w) A (sj o i) Q E d) E f) E s) :
  wpAny (model a w) A (Yb (.Subscript c b m) j) Q E s:=by
 refine qA (Hc h (λo f k=>Hc k (λi d e=>?_) λ_ _ x=>x) λ_ _ x=>x);obtain⟨n,e⟩:=e;refine da ?_;refine da (wpAny_specialOf n p ?_);have wh:wpAny (model a w) A (Vq b false o i) (λr g=>wpAny (model a w) A (letTemporaryGo c o r >>= λ_=>pure r) Q E g) E d:=by
  rw[q o i];exact wpAny_operating (Hc e (λr g l=>da (wpAny_letTemporaryGo (ua l))) λ_ _ x=>x)
 first
  |exact ua (da wh)
  |exact da (ua (da wh))
  |exact da wh
theorem ũ(I:Za X c σ H s)(g:Nj H a y o):s.TypeIs (.ref a) "dict":=by
 rcases g with⟨f,k,e,_,_⟩|⟨f,k,b,e,_,_,_⟩
 ·obtain⟨_,_,h,_,d⟩:=xx I.zd e;exact d.typeIs
 ·obtain⟨_,_,xs,_,d⟩:=dE I.zd e;exact d.typeIs
def S2(e ty:TE):TE:=λc H Q=>e c H λx d=>ty c d λy b=>∃ a v,x=.ref a/\Nj b a y (some v)/\Q v b
section
variable{X:Cx}{o i e value:Ma}{pos pos' tpos:Ce}{td ty tv:TE}
theorem K4(p:X.A.units+1<cLine)(m:PE X o td)(l:PE X i ty)(n:EL i):PE X (.Subscript o i pos) (S2 td ty):=by
 intro b s e H Q I h;refine N4 PySem.F.slot_dict_getitem.lookup n (pe (m b s e H _ I h) λu s1 ⟨x,H1,j,t,q⟩=>pe (l b s1 e H1 _ j q) λz s2 ⟨y,f,d,w,a,v,ex,g,r⟩=>?_);subst ex;obtain rfl:u=Ec a:=t;exact⟨ũ d g,o7 p d g w λC B k c=>⟨v,f,k,c,r⟩⟩
end
theorem j9(h:Heap)(a:jh<h.objs.size):Ym P w H (h.push { cls:=.type "dict",data:=.dict #[] }) h.objs.size (.dK []):=
 ⟨Sg _,Fe.mpr (Xe (Pa a)),[],.nil,KN h⟩
def XX:TE:=λ_ H Q=>∀ p,H p=none->Q (.ref p) (pc H p (.dK []))
section
variable{X:Cx}{pos:Ce}
theorem CO:PE X (.Dict [] [] pos) XX:=λa s σ H Q I h=>
 wpAny_Dict_empty ⟨.ref s.heap.objs.size,_,I.laid (λ_ _ q=>na _ q) (ya _) (j9 s.heap I.aU),rfl,h _ (I.zd.fresh (ya _))⟩
end
section
variable{X:Cx}{pins:List (Addr × jd)}{σ:St}{H:Hp}{s:aa}{a:Addr}{kvs:List (ud × V)}{A:Qa}{E:Value->aa->Prop}
theorem X2(I:Za X pins σ H s)(e:Rd H a (.dK kvs))(h:∀ p g,H p=none->Za X pins σ (pc H p (.dK kvs)) g->Q (.ref p) g):wpAny (model X.prog X.w) A (call (.type "dict") [.ref a]) Q E s:=by
 obtain⟨z,j,l,c,i⟩:=xx I.zd e;refine kt_call_dict j i (by rw[<-c.length];exact z) λh' d k=>?_;refine h _ _ (I.zd.fresh (ya _)) (I.laid (λb q f=>?_) (ya _) (yD z (Fe.mpr (Xe (Pa I.aU))) c d));exact(k.2 b (Pa (za f))).trans (na _ f)
end
end L2
namespace L4
open PySem PySem.Spec PyProof.Rows L2
noncomputable def Ip:D->Option ud
 | .int i=>some (.inl i)
 | .str x=>some (.inr x)
 |_=>none
noncomputable def Tj(σ:Ta):D->Option (List (ud × D))
 | .yc ks xs=>if ks.length=xs.length then some (ks.zip xs)else none
 | .ref n=>(match σ[n]? with
  |some (.yc a)=>some a
  |some (.Sf a)=>some a
  |_=>none)
 |_=>none
def Rp(a:List (ud × D))(k:ud):Option D:=(a.find? λb=>decide (b.1=k)).map (·.2)
def Jn(a:List (ud × D))(k:ud)(d:D):List (ud × D):=
 if a.any (λb=>decide (b.1=k))then a.map λb=>if b.1=k then (b.1,d)else b else a++[(k,d)]
section
variable{T:Tb}{X:Cx}{μ:List Addr}{H:Hp}
theorem WA(h:La T μ H y v)(e:Ip y=some k):v=kV k:=by
 cases y<;>simp[Ip]at e<;>subst e<;>rw[La]at h<;>exact h
theorem IF:∀ {ks:List ud} {ds:List D} {a:List (ud × V)},a.map (·.1)=ks->Db T μ H ds (a.map (·.2))->Dl T μ H (ks.zip ds) a
 |ks,[],a,c,b=>by
  rw[Db]at b;have:a=[]:=by simpa using b
  subst this;rw[<-c];exact .nil
 |ks,d::ds,a,c,b=>by
  obtain⟨v,r,e,f,g⟩:=b;cases a with
  |nil=>cases e
  |cons p a=>
   cases e;rw[<-c];exact .cons ⟨rfl,f⟩ (IF rfl g)
theorem pz(r:Sd T μ H σ)(h:La T μ H x v)(e:Tj σ x=some f):∃ a b,v=.ref a/\Rd H a (.dK b)/\Dl T μ H f b:=by
 cases x with
 |yc ks xs=>
  obtain⟨a,b,rfl,_,c,d,i⟩:=h;unfold Tj at e;dsimp only at e;split at e
  ·cases e;exact⟨a,b,rfl,c,IF d i⟩
  ·cases e
 |ref n=>
  unfold Tj at e;dsimp only at e;cases q:σ[n]? with
  |none=>rw[q]at e;cases e
  |some o=>
   rw[q]at e;cases o with
   |yc g=>
    cases e;obtain⟨a,rfl,_,b,c,d⟩:=r.at h q;exact⟨a,b,rfl,.inl c,d⟩
   |Sf g=>
    cases e;obtain⟨a,rfl,_,ob,b,c,d⟩:=r.at h q;exact⟨a,b,rfl,.inr ⟨ob,c⟩,d⟩
   |_=>cases e
 |_=>cases e
theorem jB(h:Dl T μ H a c)(k:ud):(Rp a k=none/\En c k=none)\/∃ d v,Rp a k=some d/\En c k=some v/\La T μ H d v:=by
 induction h with
 |nil=>exact .inl ⟨rfl,rfl⟩
 |@cons p q i m h t l=>
  obtain⟨g,j⟩:=h;by_cases e:p.1=k
  ·have b:=g.symm.trans e;exact .inr ⟨p.2,q.2,by unfold Rp;rw[Qo,lb e];rfl,dI b,j⟩
  ·have b:=λz=>e (g.trans z);have f:Rp (p::i) k=Rp i k:=by unfold Rp;rw[Qo,Ua e]
   rw[f,mI b];exact l
theorem j2(h:Dl T μ H a c)(k:ud):(a.any λb=>decide (b.1=k))=(c.any λb=>decide (b.1=k)):=by
 induction h with
 |nil=>rfl
 |@cons p q e f h t d=>rw[Ze,Ze,d,h.1]
theorem QP{d e:Type}{F:d->e->Prop}{f:d->d}{g:e->e}(c:∀ a b,F a b->F (f a) (g b)):∀ {l:List d} {m:List e},Paired F l m->Paired F (l.map f) (m.map g)
 |_,_,.nil=>.nil
 |_,_,.cons h t=>.cons (c _ _ h) (QP c t)
theorem fX{d e:Type}{F:d->e->Prop}{a:d}{b:e}(c:F a b):∀ {l:List d} {m:List e},Paired F l m->Paired F (l++[a]) (m++[b])
 |_,_,.nil=>.cons c .nil
 |_,_,.cons h t=>.cons h (fX c t)
theorem uT(h:Dl T μ H a c)(k:ud)(b:La T μ H d v):Dl T μ H (Jn a k d) (Mq c k v):=by
 unfold Jn Mq;rw[j2 h k];split
 ·refine QP (λp q h=>?_) h;by_cases e:p.1=k
  ·rw[ia e,ia (h.1.symm.trans e)];exact⟨h.1,b⟩
  ·rw[ka e,ka (λz=>e (h.1.trans z))];exact h
 ·exact fX ⟨rfl,b⟩ h
theorem Dl.mono(e:ie μ H b c)(h:Dl T μ H a d):Dl T b c a d:=Paired.Hr h λ_ _ z=>⟨z.1,La.mono e _ _ z.2⟩
theorem _root_.L2.Nj.kr(e:Rd H a (.dK b)):Nj H a (kV k) (En b k):=.inl ⟨b,k,e,rfl,rfl⟩
def Xk(x y:D):M D:=λb=>match Ip y with
 |some k=>(match Tj b x with
  |some a=>(match Rp a k with
   |some d=>.ok d b
   |none=>.Pb)
  |none=>.Pb)
 |none=>.Pb
theorem wt(Z:X.A.units+9<cLine)(F:FE T X o p)(E:FE T X i fi)(K:EL i):FE T X (.Subscript o i g) (Ba Xk p fi):=by
 intro c s st H Q I h;refine K4 (by omega) F E K c s st H Q I ?_;obtain⟨μ,ρ,σ,q,J,G⟩:=h;refine⟨μ,ρ,σ,q,J,G.bind λx m l v W _ t R O N=>⟨l,ρ,m,q.mono t,R,N.bind λy n V u Y _ z r P b=>?_⟩⟩;unfold Xk at b;cases f:Ip y with
 |none=>rw[f]at b;exact b.elim
 |some k=>
  rw[f]at b;cases e:Tj n x with
  |none=>rw[e]at b;exact b.elim
  |some L=>
   rw[e]at b;dsimp only at b;obtain⟨a,vs,rfl,B,C⟩:=pz r (La.mono z _ _ O) e;obtain rfl:=WA P f;rcases jB C k with⟨j,_⟩|⟨d,w,j,S,U⟩
   ·rw[j]at b;exact b.elim
   ·rw[j]at b;exact⟨a,w,rfl,by rw[<-S];exact Nj.kr B,gc.here b r U⟩
def kR:R2:=λy x H Q=>∃ a o,x=.ref a/\Nj H a y o/\Q (.bl o.isSome) H
theorem jM(f:X.A.units+9<cLine):di X (Sb .In) kR:=by
 intro b s st H y x i u Q I e d h;obtain⟨a,o,rfl,g,q⟩:=h;obtain rfl:u=Ec a:=d;exact yze (by omega) I g e λj c=>⟨.bl o.isSome,H,c,rfl,q⟩
def qw(y x:D):M D:=λb=>match Ip y with
 |some k=>(match Tj b x with
  |some a=>.ok (.bl (Rp a k).isSome) b
  |none=>.Pb)
 |none=>.Pb
theorem cK:Jl T kR qw:=by
 intro E μ H m y x u v Q r q p h;unfold qw at h;cases c:Ip y with
 |none=>rw[c]at h;exact h.elim
 |some k=>
  rw[c]at h;cases b:Tj m x with
  |none=>rw[b]at h;exact h.elim
  |some j=>
   rw[b]at h;obtain⟨a,l,rfl,g,i⟩:=pz r p b;obtain rfl:=WA q c;refine⟨a,En l k,rfl,Nj.kr g,gc.here h r ?_⟩;rcases jB i k with⟨e,f⟩|⟨d,w,e,f,n⟩
   ·rw[e,f];rfl
   ·rw[e,f];rfl
def Ų:zH:=λx y v H Q=>∃ a b,x=.ref a/\az H a y v b/\Q b
theorem R0(l:X.A.units+9<cLine):RK X Ų:=by
 intro b s st H o i v e m u Q I j f k h;obtain⟨a,c,rfl,g,q⟩:=h;obtain rfl:e=Ec a:=j;exact zmk (by omega) I g f k λn d=>⟨c,d,q⟩
def ku(ρ:Ev)(d x:D)(y:D):M Fl:=λσ=>match x with
 | .ref n=>(match Ip y with
  |some k=>(match σ[n]? with
   |some (.yc a)=>if a.length<ai then .ok (.nx ρ) (σ.set n (.yc (Jn a k d)))else .Pb
   |_=>.Pb)
  |none=>.Pb)
 |_=>.Pb
def iN(a:Ev)(fi:Ev->M D)(d x:D):M Fl:=xs a (fi a) (ku a d x)
def nL(a:Ev)(b fi:Ev->M D)(d:D):M Fl:=xs a (b a) (iN a fi d)
def mu(f b fi:Ev->M D):Ev->M Fl:=λa=>xs a (f a) (nL a b fi)
theorem bv(hu:X.A.units+9<cLine)(he:FE T X e f)(ho:FE T X o Q)(hi:FE T X i fi)
  (Y:∀ v,mm (.Subscript o i b) X.env v=(do
   let t <-Jg [v] (Yb o X.env);let F <-Jg [v,t] (Yb i X.env)
   Dk b
   Jg [v,t,F] (cw t F v)
   release [v,t,F] []):=by intro _;rfl)
  (hs:Qn [.Subscript o i b] e p.line X.env=pure false:=by rfl) (hw:Rn [.Subscript o i b] e X.env=pure none:=by rfl)
  (W:(Te [.Subscript o i b] X.env).map (·.2)=[mm (.Subscript o i b) X.env]:=by rfl):FS T X (.Assign [.Subscript o i b] e p) (mu f Q fi):=by
 intro m s st H D I hq;refine IL he (VT ho hi (R0 hu) Y) hs hw W m s st H D I ?_;obtain⟨μ,ρ,σ,g,hr,hp⟩:=hq;refine⟨μ,ρ,σ,g,hr,hp.xs g λd L J v H1 _ j r1 q1 p1=>?_⟩;refine⟨J,ρ,L,g.mono j,r1,p1.xs (g.mono j) λx N K vo H2 _ r r2 q2 p2=>?_⟩;refine⟨K,ρ,N,(g.mono j).mono r,r2,p2.xs ((g.mono j).mono r) λy O q vi P _ u U q3 c=>?_⟩;have Z:=La.mono u _ _ (La.mono r _ _ q1);have hx:=La.mono u _ _ q2;unfold ku at c;cases x with
 |ref n=>
  dsimp only at c;cases w:Ip y with
  |none=>rw[w]at c;exact c.elim
  |some k=>
   rw[w]at c;cases B:O[n]? with
   |none=>rw[B]at c;exact c.elim
   |some ob=>
    rw[B]at c;cases ob with
    |yc h=>
     dsimp only at c;by_cases E:h.length<ai
     ·rw[ia E]at c;obtain⟨a,rfl,S,V,R,C⟩:=U.at hx B;obtain rfl:=WA q3 w;have G:=U.write (ob:=.yc (Jn h k d)) S ⟨_,vh,by
       have ex:ie q P q (pc P a (.dK (Mq V k v))):=Nv (Fa S) R (λ_ z=>by cases z) (λ_ _ z=>by cases z);exact uT (Dl.mono ex C) k (La.mono ex _ _ Z)⟩
      have l:V.length=h.length:=by unfold Dl at C;exact(Paired.length C).symm
      exact⟨a,_,rfl,az.k R (by rw[l];exact Sa E (by decide)),c _ (.nx st) _ G.1 G.2 (((g.mono j).mono r).mono u |>.mono G.1)⟩
     ·rw[ka E]at c;exact c.elim
    |_=>exact c.elim
 |_=>exact c.elim
def zu:Ev->M D:=λ_ σ=>.ok (.ref σ.length) (σ++[.yc []])
theorem zx:FE T X (.Dict [] [] b) zu:=by
 intro a s st H Q I h;obtain⟨μ,g,i,f,d,e⟩:=h;refine CO a s st H Q I λp c=>?_;exact e (μ++[p]) (.ref p) _ (Zw c) (d.push c ⟨[],vh,.nil⟩) (vE d)
theorem B7:FE T X (.Dict [] [] c) (eC (.yc [] [])):=by
 intro a s st H Q I h;obtain⟨μ,ρ,σ,i,d,g⟩:=h;refine CO a s st H Q I λp b=>?_;exact g μ (.ref p) _ (Wl b) (d.fresh b) (by rw[La];exact⟨p,[],rfl,λf=>(by obtain⟨u,e,_⟩:=d.mem f;rw[b]at e;cases e),(.inl vh),rfl,Db.nil⟩)
def uK:List V->Hp->VK->Prop:=λxs H Q=>∃ a b,xs=[.ref a]/\Rd H a (.dK b)/\∀ p,H p=none->Q (.ref p) (pc H p (.dK b))
theorem OR:zm X (.type "dict") uK:=by
 intro b s st H xs j Q I r h;obtain⟨a,f,rfl,e,q⟩:=h;obtain⟨u,rfl,g⟩:=Os r;cases g;exact X2 I e λp i d c=>⟨.ref p,_,c,rfl,q p d⟩
def nB(b:List D):M D:=λσ=>match b with
 |[x]=>(match Tj σ x with
  |some a=>.ok (.yc (a.map (·.1)) (a.map (·.2))) σ
  |none=>.Pb)
 |_=>.Pb
theorem cX:∀ {a:List (ud × D)} {b:List (ud × V)},Dl T μ H a b->b.map (·.1)=a.map (·.1)/\Db T μ H (a.map (·.2)) (b.map (·.2))
 |_,_,.nil=>⟨rfl,Db.nil⟩
 |_,_,.cons h t=>by
  obtain⟨c,d⟩:=cX t;exact⟨by rw[Ra,Ra,c,h.1],Db.cons h.2 d⟩
theorem IZ:dr T uK nB:=by
 intro E μ H σ f t Q r p h
 match f with
 |[]=>exact h.elim
 |[x]=>
  unfold nB at h;dsimp only at h;cases c:Tj σ x with
  |none=>rw[c]at h;exact h.elim
  |some k=>
   rw[c]at h;obtain⟨v,s,rfl,m,n⟩:=p;subst n;obtain⟨a,e,rfl,g,i⟩:=pz r m c;refine⟨a,e,rfl,g,λl b=>?_⟩;obtain⟨o,q⟩:=cX i;exact h μ (.ref l) _ (Wl b) (r.fresh b) (by rw[La];exact⟨l,e,rfl,λj=>(by obtain⟨u,d,_⟩:=r.mem j;rw[b]at d;cases d),(.inl vh),o,Db.mono (Wl b) _ _ q⟩)
 |_::_::_=>exact h.elim
end
section
variable{T:Tb}{X:Cx}
structure InK(K:W.Frag)(C:Addr):Prop where
 cl:L2.Ro K C
 a:W.findIn K (.ref C) "__class__" = some (some (.builtin "object.__class__"))
 n:W.specialIn K (.builtin "object.__class__") "__get__" = some (some (.builtin "getset_descriptor.__get__"))
 t:W.takesIn K (.builtin "object.__class__")=some true
 m:W.mroIn K C (.type "object")=some true
end
section
variable{T:Tb}{X:Cx}
def SF(a:List D):M D:=λσ=>match a with
 |[x]=>(match x with
  | .int i=>.ok (.int i) σ
  | .bl k=>.ok (.int (if k then 1 else 0)) σ
  |_=>.Pb)
 |_=>.Pb
theorem yc8(k:Bool)(a:Ta):SF [.bl k] a=.ok (.int (if k then 1 else 0)) a:=rfl
theorem ĕ:dr T (λxs H Q=>(∃ i,xs=[.int i]/\Q (.int i) H)\/∃ k,xs=[.bl k]/\Q (.int (if k then 1 else 0)) H) SF:=by
 intro E d H σ xs c Q r p h
 match xs with
 |[]=>exact h.elim
 |[x]=>
  obtain⟨v,w,rfl,a,b⟩:=p;rw[Db]at b;subst b;cases x with
  |int i=>rw[La]at a;subst a;exact .inl ⟨i,rfl,gc.here h r (by rw[La])⟩
  |bl k=>rw[La]at a;subst a;exact .inr ⟨k,rfl,gc.here h r (by rw[La])⟩
  |_=>exact h.elim
 |_::_::_=>exact h.elim
inductive GD(X:Cx):List (Option Ma)->List Ma->List (Str × Str)->Prop
 |nil:GD X [] [] []
 |cons {k v:Ma} {x y:Str} {ks:List (Option Ma)} {vs:List Ma} {l:List (Str × Str)}:PE X k (tC (.str x))->PE X v (tC (.str y))->GD X ks vs l->GD X (some k::ks) (v::vs) ((x,y)::l)
theorem GD.all{ks vs l}(h:GD X ks vs l):ks.all (·.isSome)=true/\ks.length=vs.length/\ks.length=l.length:=by
 induction h with
 |nil=>exact⟨rfl,rfl,rfl⟩
 |cons _ _ _ a=>exact⟨by simpa using a.1,by simpa using a.2.1,by simpa using a.2.2⟩
end
noncomputable def LD(o:Int->Int->Int)(i:Nat)(ρ:Ev)(x d:D):M Fl:=λσ=>match x,d with
 | .int a,.int b=>.ok (.nx (ρ.set i (some (.int (o a b))))) σ
 |_,_=>.Pb
def iy(o:Int->Int->Int)(i:Nat)(f:Ev->M D):Ev->M Fl:=λρ=>match ρ[i]? with
 |some (some x)=>xs ρ (f ρ) (LD o i ρ x)
 |_=>λ_=>.Pb
theorem iR(h:a[i]?=some (some x)):iy o i f a b=Ln a (LD o i a x) (f a b):=by
 unfold iy;rw[h];exact Wn ..
@[simp] theorem zyh(o:Int->Int->Int)(i:Nat)(c:Ev)(a b:Int)(d:Ta):LD o i c (.int a) (.int b) d=.ok (.nx (c.set i (some (.int (o a b))))) d:=nr rfl
section
variable{T:Tb}{X:Cx}{e:Ma}{f:Ev->M D}{pos:Ce}
theorem zP(B:BM X n (OO o))(u:X.N.Nodup)(A:X.N[i]?=some x)(F:Loc X.env.scope x)(w:FE T X e f)(z:X.fn x=true\/X.env.scope.names.lookup x=some .local:=by first|exact .inl rfl|exact .inr rfl|assumption) :
  FS T X (.AugAssign (.Name x j) n e pos) (iy o i f):=by
 intro h s st H D I E;refine Z2 u A F w B z h s st H D I ?_;obtain⟨K,ρ,σ,l,C,c⟩:=E;unfold iy at c;cases k:ρ[i]? with
 |none=>rw[k]at c;exact c.elim
 |some q=>
  cases q with
  |none=>rw[k]at c;exact c.elim
  |some d=>
   rw[k]at c;obtain⟨v,r,t⟩:=l.2 i d k;refine⟨v,r,K,ρ,σ,l,C,c.xs l λy M L P O _ p J G m=>?_⟩;cases d with
   |int a=>
    cases y with
    |int b=>
     subst t G;exact⟨a,b,rfl,rfl,gc.here (g:=zr.nx (st.set i (some (.int (o a b))))) m J ((l.mono p).set i (by rw[La]))⟩
    |_=>exact m.elim
   |_=>exact m.elim
end
end L4
namespace L4
open PySem PySem.Spec PySem.Calls PyProof.Rows L2
section
variable{T:Tb}{X:Cx}
end
end L4
namespace L4
open PySem PySem.Spec PyProof.Rows L2
def gz(o:D->List D->M D)(m:M (List D))(x:D):M D:=λσ=>match Tj σ x with
 |some _=>Fd m (o x) σ
 |none=>.Pb
def BI(o:D->List D->M D)(f:Ev->M D)(b:Ev->M (List D)):Ev->M D:=λa=>Fd (f a) (gz o (b a))
def nT:V->List V->Hp->VK->Prop:=λx c H Q=>∃ a b k d,x=.ref a/\c=[kV k,d]/\H a=some (.dK b)/\b.length<sizeLine/\
 (∀ v,En b k=some v->Q v H)/\(En b k=none->Q d (pc H a (.dK (Mq b k d))))
def cA(x:D)(xs:List D):M D:=λσ=>match x,xs with
 | .ref n,[y,d]=>(match Ip y with
  |some k=>(match σ[n]? with
   |some (.yc a)=>if a.length<ai then (match Rp a k with
    |some e=>.ok e σ
    |none=>.ok d (σ.set n (.yc (Jn a k d))))else .Pb
   |_=>.Pb)
  |none=>.Pb)
 |_,_=>.Pb
section
variable{T:Tb}{X:Cx}{o e:Ma}{es:List Ma}{f:Ev->M D}{fs:Ev->M (List D)}{name:Str}{apos cpos:Ce}{id:String}{r:V->List V->Hp->VK->Prop}{g:D->List D->M D}
theorem ş:yu X "dict.setdefault" nT:=by
 intro m s st H x N v M Q I K J h;obtain⟨a,b,k,d,rfl,rfl,j,L,p,t⟩:=h;cases K;obtain⟨u,r,rfl,G,n⟩:=J.two;obtain⟨z,l,o,c,i⟩:=NG I.zd j;have E:o.length<=sizeLine:=by rw[<-c.length];exact z
 have g:(Mq b k d).length<=sizeLine:=by have:=hJ b k d;omega
 refine Cp An i.typeIs PySem.F.entry_dict_setdefault (PySem.F.args_dict_setdefault_3 _ _ _) (kt_meets_setdefault (um X.prog X.w) a (jy G) l r) ⟨o,i,E,λw D=>?_,λA h' f C=>?_⟩
 ·have q:=c.val k;rw[D]at q;cases e:En b k with
  |none=>rw[e]at q;exact absurd q (by simp[Zo])
  |some x=>rw[e]at q;exact⟨x,H,I.tok _,q,p x e⟩
 ·have q:=c.val k;rw[A]at q;cases e:En b k with
  |some x=>rw[e]at q;exact absurd q (by simp[Zo])
  |none=>
   have y:∃ q,h'.get? a=some q:=let ⟨q,_,_,B,_⟩:=f;⟨q,B⟩;exact⟨d,_,QC I (by rw[j];exact True.intro) C y (yD g l (c.put k n) f),n,t e⟩
theorem xO(I:Za X b σ H s)(g:Rd H p (.dK c)):s.TypeIs (.ref p) "dict"/\∀ a,Ec p=.ref a->∃ d,s.heap.get? a=some d/\d.dict=none:=by
 obtain⟨_,_,_,_,o,_,_,e,ex,_⟩:=xx I.zd g;refine⟨⟨o,e,ex.1⟩,λa f=>?_⟩;cases f;exact⟨o,e,ex.2.1⟩
def Θ(r:V->List V->Hp->VK->Prop)(d:TE):TE:=λe H Q=>d e H λx c=>(∃ a b,x=.ref a/\Rd c a (.dK b))/\r x [] c Q
def xY(r:V->List V->Hp->VK->Prop)(f:TE)(t:TA):TE:=λd H Q=>f d H λx c=>(∃ a b,x=.ref a/\Rd c a (.dK b))/\t d c λxs e=>r x xs e Q
theorem CV(t:Eo "dict")(e:Slot "dict" name id)(f:ft (.builtin id)=pure (.type "method_descriptor"))(n:yu X id r)(p:PE X o i)
  (c:ee o name X.env (Yb o X.env)=Yb o X.env:=by rfl) (d:(apos.endLine == cpos.line)=true:=by rfl):PE X (.Call (.Attribute o name apos) [] [] cpos) (Θ r i):=by
 intro b s j H Q I h;refine wpAny_Call_method0_late c d (pe (p b s j H _ I h) λv s1 zz=>?_);obtain⟨x,H1,g,w,ty,u⟩:=zz;obtain⟨a,q,rfl,m⟩:=ty;cases w;obtain⟨k,l⟩:=xO g m;exact⟨"dict",id,t,e,f,k,l,nj rfl (PySem.evalArgs_none (n b s1 j H1 (.ref a) [] (.ref a) [] Q g rfl .nil u))⟩
theorem Q2(E:Eo "dict")(i:Slot "dict" name id)(j:ft (.builtin id)=pure (.type "method_descriptor"))(A:yu X id r)(B:PE X o n)(y:PA X (e::es) t)
  (d:ee o name X.env (Yb o X.env)=Yb o X.env:=by rfl)
  (g:((Vc cpos (qa (e::es) X.env)).all (λx=>!x.1) && (Zj cpos (mh [] X.env)).all (λx=>x.1.isSome)
   && decide ((e::es).length+([]:List Ek).length+(if ([]:List Ek).isEmpty then 0 else 1)<30))=true:=by rfl)
  (f:(apos.endLine == cpos.line)=true:=by rfl) (C:qa (e::es) X.env=(false,Yb e X.env)::qa es X.env:=by rfl) (c:(Vc cpos (qa es X.env)).any (·.1)=false:=by rfl) :
  PE X (.Call (.Attribute o name apos) (e::es) [] cpos) (xY r n t):=by
 intro b s k H Q I h;refine Vv d g f rfl (pe (B b s k H _ I h) λv s1 zz=>?_);obtain⟨x,H1,l,J,ty,F⟩:=zz;obtain⟨a,D,rfl,z⟩:=ty;cases J;obtain⟨u,w⟩:=xO l z;refine⟨"dict",id,E,i,j,u,w,?_⟩;have m:=y cpos b s1 k H1 _ l F;rw[C]at m ⊢;refine nj (by show (false || (Vc cpos (qa es X.env)).any (·.1))=false;rw[c]<;>rfl) (Wj ?_);exact pe m λus s2 ⟨L,p,q,K,G⟩=>A b s2 k p (.ref a) L (.ref a) us Q q rfl K G
theorem mR(P:Eo "dict")(l:Slot "dict" name id)(q:ft (.builtin id)=pure (.type "method_descriptor"))(J:yu X id r)(N:Rz T r g)(K:FE T X o f)(G:FA T X (e::es) fs)
  (c:ee o name X.env (Yb o X.env)=Yb o X.env:=by rfl)
  (i:((Vc cpos (qa (e::es) X.env)).all (λx=>!x.1) && (Zj cpos (mh [] X.env)).all (λx=>x.1.isSome)
   && decide ((e::es).length+([]:List Ek).length+(if ([]:List Ek).isEmpty then 0 else 1)<30))=true:=by rfl)
  (d:(apos.endLine == cpos.line)=true:=by rfl) (p:qa (e::es) X.env=(false,Yb e X.env)::qa es X.env:=by rfl) (b:(Vc cpos (qa es X.env)).any (·.1)=false:=by rfl) :
  FE T X (.Call (.Attribute o name apos) (e::es) [] cpos) (BI g f fs):=by
 intro j s st H Q I h;refine Q2 P l q J K G c i d p b j s st H Q I ?_;obtain⟨W,ρ,σ,y,M,L⟩:=h;refine⟨W,ρ,σ,y,M,L.bind λx m t v Y _ D A z k=>?_⟩;unfold gz at k;cases n:Tj m x with
 |none=>rw[n]at k;exact k.elim
 |some xs=>
  rw[n]at k;obtain⟨a,U,rfl,F,Z⟩:=pz A z n;refine⟨⟨a,U,rfl,F⟩,t,ρ,m,y.mono D,A,k.bind λC w u V B _ E S O R=>?_⟩;exact N _ u B w x C (.ref a) V Q S (La.mono E _ _ z) O R
theorem Ĭ:Rz T nT cA:=by
 intro E G H σ x xs v M Q r p q h;cases x with
 |ref n=>
  match xs with
  |[]=>exact h.elim
  |[_]=>exact h.elim
  |[y,d]=>
   obtain⟨w,z,rfl,J,K⟩:=q;obtain⟨D,g,rfl,B,C⟩:=K;rw[Db]at C;subst C;unfold cA at h;cases m:Ip y with
   |none=>simp only[m]at h;exact h.elim
   |some k=>
    simp only[m]at h;cases b:σ[n]? with
    |none=>simp only[b]at h;exact h.elim
    |some ob=>
     cases ob with
     |yc f=>
      simp only[b]at h;by_cases o:f.length<ai
      ·rw[ia o]at h;obtain⟨a,rfl,A,s,u,i⟩:=r.at p b;obtain rfl:=WA J m;have j:s.length=f.length:=by unfold Dl at i;exact(Paired.length i).symm
       refine⟨a,s,k,D,rfl,rfl,u,by rw[j];exact EW o,λv e=>?_,λe=>?_⟩
       ·rcases jB i k with⟨l,g⟩|⟨I,L,l,g,F⟩
        ·rw[g]at e;cases e
        ·rw[g]at e;cases e;rw[l]at h;exact gc.here h r F
       ·rcases jB i k with⟨l,g⟩|⟨I,L,l,g,F⟩
        ·rw[l]at h;have t:=r.write (ob:=.yc (Jn f k d)) A ⟨_,vh,by
          have ex:ie G H G (pc H a (.dK (Mq s k D))):=Nv (Fa A) u (λ_ z=>by cases z) (λ_ _ z=>by cases z);exact uT (Dl.mono ex i) k (La.mono ex _ _ B)⟩
         exact h _ _ _ t.1 t.2 (La.mono t.1 _ _ B)
        ·rw[g]at e;cases e
      ·rw[ka o]at h;exact h.elim
     |la N=>simp only[b]at h;exact h.elim
     |Jd c fs=>simp only[b]at h;exact h.elim
     |Sf _=>simp only[b]at h;exact h.elim
     |vl _=>simp only[b]at h;exact h.elim
  |_::_::_::_=>exact h.elim
 |_=>exact h.elim
end
def Ow(σ:Ta)(x:D):List D->Option (List Bool)
 |[]=>some []
 |y::a=>match li σ 7 y x,Ow σ x a with
  |some b,some bs=>some (b::bs)
  |_,_=>none
def SC(a:Bool)(x y:D):M D:=λb=>match yj b y with
 |some xs=>(match Ow b x xs with
  |some bs=>.ok (.bl (if a then !(bs.any id)else bs.any id)) b
  |none=>.Pb)
 |none=>.Pb
theorem UU{c:Ta}{x:D}:∀ {xs:List D} {bs:List Bool},Ow c x xs=some bs->bs.length=xs.length/\∀ (j:Nat) (d:D) (b:Bool),xs[j]?=some d->bs[j]?=some b->li c 7 d x=some b
 |[],bs,h=>by cases h;exact⟨rfl,λj d b h=>by simp at h⟩
 |y::m,bs,h=>by
  unfold Ow at h;cases a:li c 7 y x with
  |none=>rw[a]at h;cases h
  |some n=>
   cases e:Ow c x m with
   |none=>rw[a,e]at h;cases h
   |some i=>
    rw[a,e]at h;cases h;obtain⟨k,l⟩:=UU e;refine⟨by simp[k],λj d b g f=>?_⟩;cases j with
    |zero=>simp at g f;subst g;subst f;exact a
    |succ j=>exact l j d b (by simpa using g) (by simpa using f)
open Classical in
def Iu(a:List Value)(b:List Bool)(u:Value):Bool:=decide (∃ j:Nat,a[j]?=some u/\b[j]?=some true)
theorem tH:Iu a b u=true ↔ ∃ j:Nat,a[j]?=some u/\b[j]?=some true:=by unfold Iu;exact @decide_eq_true_iff _ (Classical.propDecidable _)
theorem PR{a:List Value}(k:c.length=a.length):a.toArray.any (Iu a c)=c.any id:=by
 rw[show a.toArray.any (Iu a c)=a.any (Iu a c) by simp,Bool.eq_iff_iff,jg,jg];constructor
 ·rintro ⟨u,_,i⟩;obtain⟨j,_,h⟩:=tH.mp i;exact⟨true,Fa h,rfl⟩
 ·rintro ⟨b,d,g⟩;cases (g);obtain⟨j,f,h⟩:=Hk d;have e:j<a.length:=by omega
  exact⟨a[j],fj e,tH.mpr ⟨j,by simp,by simp[f,h]⟩⟩
theorem Ŭ(m:c.length=a.length)(h:∀ (j:Nat) (u:Value) (b:Bool),a[j]?=some u->c[j]?=some b->Xd A s u x b)(w:Value)(l:w∈a):Xd A s w x (Iu a c w):=by
 cases e:Iu a c w with
 |true=>obtain⟨j,g,i⟩:=tH.mp e;exact h j w true g i
 |false=>
  obtain⟨j,f,rfl⟩:=Hk l;have d:j<c.length:=by omega
  have k:c[j]=false:=by
   cases q:c[j]with
   |false=>rfl
   |true=>exact absurd (tH.mpr ⟨j,Ub f,by rw[Ub d,q]⟩) (by rw[e];decide)
  exact h j _ false (Ub f) (by rw[Ub d,k])
section
variable{T:Tb}{X:Cx}
theorem U7(G:T.K=X.K)(S:X.A.units+9<cLine){st:St}(I:Za X l st H s)(r:Sd T t H σ)(L:La T t H x v)(M:La T t H y u)(O:Pd v m)(N:Pd u o)
  {xs:List D} (e:yj σ y=some xs) (F:Ow σ x xs=some a) :
  (Q (.bool (a.any id)) s->wpAny (model X.prog X.w) X.A (Sb .In m o) Q X.xe s)/\(Q (.bool (!a.any id)) s->wpAny (model X.prog X.w) X.A (Sb .NotIn m o) Q X.xe s):=by
 obtain⟨p,R,rfl,B,f⟩:=Ny r M e;rw[G]at f;obtain⟨U,J⟩:=UU F;cases N;have i:∀ {its:List Value},ue R its->(a.length=its.length/\∀ w∈its,Xd X.A.in1 s w m (Iu its a w)):=fun {its} q=>by
  have l1:=B.length;have l2:=q.length;have g:a.length=its.length:=by omega
  refine⟨g,Ŭ g λj w b c n=>?_⟩;obtain⟨z,C,P⟩:=AC q c;obtain⟨d,E,rd⟩:=KJ B C;exact PH I r 7 X.A.in1 d x z v w m b (by show X.A.units+1+7+1<cLine;omega) rd L P O (J j d b E n)
 rcases f with f|f
 ·obtain⟨its,q,pl,_⟩:=L2.Za.list I f;obtain⟨g,k⟩:=i q;refine⟨λh=>Iw (Iu its a) pl.isList (λw c=>k w (by simpa using c)) ?_,λh=>uu (Iu its a) pl.isList (λw c=>k w (by simpa using c)) ?_⟩<;>rw[PR g]<;>exact h
 ·obtain⟨its,q,pl,_⟩:=L2.Za.tuple I f;obtain⟨g,k⟩:=i q;refine⟨λh=>Uv (Iu its a) pl (λw c=>k w (by simpa using c)) ?_,λh=>Ot (Iu its a) pl (λw c=>k w (by simpa using c)) ?_⟩<;>rw[PR g]<;>exact h
theorem Þ(f:T.K=X.K)(g:X.A.units+9<cLine):di X (Sb .In) (rD T (SC false)):=by
 intro c s st H v u n m Q I l k h;obtain⟨E,o,d,x,y,r,i,j,a⟩:=h;unfold SC at a;cases e:yj d y with
 |none=>rw[e]at a;exact a.elim
 |some xs=>
  rw[e]at a;dsimp only at a;cases b:Ow d x xs with
  |none=>rw[b]at a;exact a.elim
  |some bs=>
   rw[b]at a;exact(U7 f g I r i j l k e b).1 ⟨.bl (bs.any id),H,I,rfl,gc.here a r (by rw[La];rfl)⟩
end
section
variable{T:Tb}{X:Cx}
end
section
variable{T:Tb}{X:Cx}{tg iter:Ma}{f:Ev->M D}
end
section
variable{T:Tb}{X:Cx}{o e:Ma}{es:List Ma}{f:Ev->M D}{fs:Ev->M (List D)}{name:Str}{apos cpos:Ce}{id:String}{r:V->List V->Hp->VK->Prop}{g:D->List D->M D}
end
def Js:Ev->M Fl:=λ_ _=>.Pb
section
variable{X:Cx}{pins:List (Addr × jd)}{σ:St}{H:Hp}{s:aa}{h':Heap}
theorem zD(e:H b=some u)(n:H a=none):b≠a:=λz=>by rw[z,n]at e;cases e
theorem _root_.L2.Za.sv{its:List Addr}(I:Za X pins σ H s)(k:∀ b u,b ∉ its->s.heap.get? b=some u->h'.get? b=some u)(h:∀ b∈its,Wm X pins H b)(j:s.heap.objs.size<=p)(i:Ym X.prog X.w (pc H p o) h' p o) :
  Za X pins σ (pc H p o) { s with heap:=h',toks:=t' }:=by
 have d:=I.zd.fresh j;have f:∀ b u,H b=some u->b ∉ its:=λb u e z=>by rw[(h b z).1]at e;cases e
 refine I.step (λb g=>?_) (λb o _ _ a e _=>k b o a e) (λb o _ _ a e _=>⟨o.slots,k b o a e⟩) (λb u _ q n=>by rw[de (Pa (Sa (za q) j))];exact n)
  (λb o a e=>⟨o,k b o a e⟩) (λb xs q=>by rw[de (zD q d)];exact q) (λb u xs q=>by rw[de (zD q d)];exact q) (λb G q=>⟨#[],by rw[de (zD q d),q];simp⟩) (λm C=>?_) (λb u e=>?_) I.bare
 ·obtain⟨E,x,F,y,A,B⟩:=h b g;exact⟨y,x,A,B⟩
 ·obtain⟨o,t,l,D,r⟩:=C;exact⟨o,t,l,k _ o (λz=>(h _ z).2.1 rfl) D,r⟩
 ·by_cases g:b=p
  ·subst g;rw[vh]at e;cases e;exact i
  ·rw[de g]at e;refine(I.zd b u e).Zk (λc v a q=>k c v ?_ q) (λc q=>by rw[de (zD q d)];exact q) λc xs q=>by rw[de (zD q d)];exact q
   rcases a with z|z
   ·rw[z];exact f b u e
   ·exact f c _ z
theorem _root_.L2.Za.Cv{its:List Addr}(I:Za X pins σ H s)(k:∀ b u,b ∉ its->s.heap.get? b=some u->h'.get? b=some u)(f:∀ b∈its,Wm X pins H b):Za X pins σ H { s with heap:=h',toks:=t' }:=by
 have d:∀ b u,H b=some u->b ∉ its:=λb u e z=>by rw[(f b z).1]at e;cases e
 refine I.step (λb t=>?_) (λb o _ _ a e _=>k b o a e) (λb o _ _ a e _=>⟨o.slots,k b o a e⟩) (λb u _ q n=>n)
  (λb o a e=>⟨o,k b o a e⟩) (λb xs q=>q) (λb u xs q=>q) (λb B q=>⟨#[],by rw[q];simp⟩) (λm w=>?_) (λb u e=>?_) I.bare
 ·obtain⟨y,i,A,j,l,p⟩:=f b t;exact⟨j,i,l,p⟩
 ·obtain⟨o,h,g,x,r⟩:=w;exact⟨o,h,g,k _ o (λz=>(f _ z).2.1 rfl) x,r⟩
 ·refine(I.zd b u e).Zk (λc v a q=>k c v ?_ q) (λ_ q=>q) λ_ _ q=>q;rcases a with z|z
  ·rw[z];exact d b u e
  ·exact d c _ z
end
theorem uq{h:Heap}(e:h.get? a=some o)(f:h.get? b=some i)(c:o.cls=.type n)(d:i.cls=.type g)(j:n≠g):a≠b:=λz=>by
 subst z;rw[e]at f;cases f;rw[c]at d;injection d with q;exact j q
def wW(K:W.Frag)(l:Addr):It:=
 ⟨λi H=>∃ xs x,Mf K H l xs/\xs[i]?=some x,λi H v a=>∃ p x,H p=none/\v=.ref p/\(∀ xs,Mf K H l xs->xs[i]?=some x)/\a=pc H p (.Ka [.int i,x]),λi H=>∃ xs,Mf K H l xs/\i=xs.length⟩
def VO(K:W.Frag)(l m:Addr):It:=
 ⟨λi H=>∃ xs a x y,Mf K H l xs/\Mf K H m a/\xs[i]?=some x/\a[i]?=some y,λi H v b=>∃ p x y,H p=none/\v=.ref p/\(∀ xs,Mf K H l xs->xs[i]?=some x)/\(∀ a,Mf K H m a->a[i]?=some y)/\b=pc H p (.Ka [x,y]),
  λi H=>∃ xs a,Mf K H l xs/\Mf K H m a/\i=min xs.length a.length⟩
theorem zp2{P:Aa}{w:Wa}{K:PySem.W.Frag}{g:List Ma}{kk:Nat}{F:Ce}(l e n:Addr):gr P w K (.Tuple g kk F) (wW K l) [e,n] e (λi h=>(∃ a,IsEnum h e n i a)/\h.IsListIter n l i) where
 mem:=by simp
 obj:=λi h st b f=>by
  obtain⟨⟨a,s1⟩,o,s2,c,d⟩:=st;simp only[Ea,we,Pn]at f;rcases f with rfl|rfl
  ·exact⟨_,s1,λv z=>by cases z⟩
  ·exact⟨o,s2,λv z=>by rw[d]at z;cases z⟩
 keep:=λi h h' st k=>by
  obtain⟨⟨a,s1⟩,s2⟩:=st;exact⟨⟨a,k e (by simp) _ s1⟩,s2.at λo q=>k n (by simp) o q⟩
 item:=by
  intro X O V N S i D s σ H E I J st U;subst O V N;obtain⟨xs,x,L,Y⟩:=U;obtain⟨its,rv,p,hz⟩:=I.list L;obtain⟨u,hu,ru⟩:=rv.get Y;obtain⟨⟨a,s1⟩,s2⟩:=st;obtain⟨oa,ea,ca,_⟩:=id p.isList;obtain⟨ob,G,cb,_⟩:=id s2;have a0:l≠e:=uq ea s1 ca rfl (by decide);have a1:l≠n:=uq ea G ca cb (by decide);have Z:e≠n:=uq s1 G rfl cb (by decide);have W:=WalksT.enumerate (prog:=X.prog) (w:=X.w) (I.ok.hd S) e n l Z a0 a1 its.toArray;have hi:i<its.toArray.size:=by
   have:=(ja.mp hu).1;simpa using this
  refine W.item i s _ E hi ⟨⟨a,s1⟩,s2,p.isList⟩ λT a2 h' tk R hT r j hk=>?_;obtain⟨t,y,M,rfl⟩:=R;have ey:y=u:=by
   have:its.toArray[i]?=some u:=by simpa using hu
   rw[this]at M;cases M;rfl
  subst ey;refine⟨.ref T,rfl,W.go g kk F i T { s with heap:=h',toks:=tk } _ E j λh2 hS C=>?_⟩;have B:=W.apart i T h' j;have m:h2.IsTuple T #[.int i t,y]:=by
   obtain⟨o,e1,c1⟩:=r;exact⟨o,C T o B e1,c1⟩
  have hn:H T=none:=I.zd.fresh hT;refine⟨.ref T,pc H T (.Ka [.int i,x]),I.sv (λb o f q=>C b o f (hk b o f q)) J hT ?_,rfl,⟨T,x,hn,rfl,λys M=>by rw[I.Rk M L];exact Y,rfl⟩,⟨hS.1,hS.2.1⟩,λb f=>?_⟩
  ·exact⟨(show 2<=sizeLine by decide),[.int i t,y],.cons ⟨t,rfl⟩ (.cons ru .nil),m⟩
  ·rw[de (λz=>B (by rw[<-z];exact f))];exact(J b f).1
 done:=by
  intro X O V N S i D s σ H E I J st U;subst O V N;obtain⟨xs,L,Y⟩:=U;obtain⟨its,rv,p,hz⟩:=I.list L;obtain⟨⟨a,s1⟩,s2⟩:=st;have hl:=rv.length;exact wpAny_pyNext_enum_end (I.ok.hd S) s1 s2 p.isList (by simp;omega) λh' G=>⟨rfl,I.Cv (λb o f q=>G b o (λz=>f (by simp[z])) q) J⟩
 self:=λA i s Q E st h=>by
  obtain⟨⟨a,s1⟩,s2⟩:=st;exact jC s1 h
theorem iX{l m z TI TO r s:Addr}{xs C:Array Value}(t:TI≠TO)(u:r≠s)(x:h.IsList l xs)(y:h.IsList m C)(s1:IsZip h z TI TO f)(s2:RN h TI a b)(k:RN h TO c d)(A:h.IsListIter r l v)(B:h.IsListIter s m w):ZipApart z TI TO r s l m:=by
 obtain⟨D,p,n,_⟩:=x;obtain⟨E,q,o,_⟩:=y;obtain⟨F,i,e,_⟩:=A;obtain⟨G,j,g,_⟩:=B;exact⟨uq s2 s1 rfl rfl (by decide),uq k s1 rfl rfl (by decide),uq i s1 e rfl (by decide),uq j s1 g rfl (by decide),t,uq s2 i rfl e (by decide),uq s2 j rfl g (by decide),uq k i rfl e (by decide),uq k j rfl g (by decide),u,
  uq p s1 n rfl (by decide),uq p k n rfl (by decide),uq p i n e (by decide),uq p j n g (by decide),uq q s1 o rfl (by decide),uq q k o rfl (by decide),uq q i o e (by decide),uq q j o g (by decide)⟩
theorem qY{P:Aa}{w:Wa}{K:PySem.W.Frag}{C:List Ma}{kk:Nat}{a0:Ce}(l m z TI TO f g:Addr)(d1:TI≠TO)(d2:f≠g) :
  gr P w K (.Tuple C kk a0) (VO K l m) [z,TI,TO,f,g] z (λi h=>IsZip h z TI TO .none/\RN h TI (.ref f) (.ref g)/\(∃ a b,RN h TO a b)/\h.IsListIter f l i/\h.IsListIter g m i) where
 mem:=by simp
 obj:=λi h st b e=>by
  obtain⟨s1,s2,⟨a,c,j⟩,⟨o4,n,c4,d4⟩,⟨o5,r,c5,d5⟩⟩:=st;simp only[Ea,we,Pn]at e;rcases e with rfl|rfl|rfl|rfl|rfl
  ·exact⟨_,s1,λv z=>by cases z⟩
  ·exact⟨_,s2,λv z=>by cases z⟩
  ·exact⟨_,j,λv z=>by cases z⟩
  ·exact⟨o4,n,λv z=>by rw[d4]at z;cases z⟩
  ·exact⟨o5,r,λv z=>by rw[d5]at z;cases z⟩
 keep:=λi h h' st k=>by
  obtain⟨s1,s2,⟨a,c,j⟩,n,r⟩:=st;exact⟨k z (by simp) _ s1,k TI (by simp) _ s2,⟨a,c,k TO (by simp) _ j⟩,n.at λo q=>k f (by simp) o q,r.at λo q=>k g (by simp) o q⟩
 item:=by
  intro X hP hw hK hc i Z s σ H E I hf st hg;subst hP hw hK;obtain⟨xs,ys,x,y,hq,t,hx,hy⟩:=hg;obtain⟨its,rv,p,V⟩:=I.list hq;obtain⟨d,J,Y,a3⟩:=I.list t;obtain⟨u,hu,ru⟩:=rv.get hx;obtain⟨u2,R,a5⟩:=J.get hy;obtain⟨s1,s2,⟨a,c,j⟩,n,r⟩:=st;have D:=iX d1 d2 p.isList Y.isList s1 s2 j n r;have W:=wA (prog:=X.prog) (w:=X.w) (I.ok.hd hc) z TI TO f g l m D its.toArray d.toArray;have hi:i<min its.toArray.size d.toArray.size:=by
   have h1:=(ja.mp hu).1;have h2:=(ja.mp R).1;simp;omega
  refine W.item i s _ E hi ⟨s1,s2,⟨a,c,j⟩,n,r,p.isList,Y.isList⟩ λT a6 h' tk a1 hT M F hk=>?_;obtain⟨v1,v2,S,U,rfl⟩:=a1;have e1:v1=u:=by
   have:its.toArray[i]?=some u:=by simpa using hu
   rw[this]at S;cases S;rfl
  have e2:v2=u2:=by
   have:d.toArray[i]?=some u2:=by simpa using R
   rw[this]at U;cases U;rfl
  subst e1;subst e2;refine⟨.ref T,rfl,W.go C kk a0 i T { s with heap:=h',toks:=tk } _ E F λh2 L N=>?_⟩;have a2:=W.apart i T h' F;have G:h2.IsTuple T #[v1,v2]:=by
   obtain⟨o,e1,c1⟩:=M;exact⟨o,N T o a2 e1,c1⟩
  have hn:H T=none:=I.zd.fresh hT;have B:∀ b,b ∉ [z,TI,TO,f,g]->b ∉ [z,TO,f,g]:=λb e O=>e (by simp at O ⊢;rcases O with h|h|h|h<;>simp[h]);have a4:∀ b∈[z,TI,TO,f,g],b<s.heap.objs.size:=λb e=>by
   simp only[Ea,we,Pn]at e;rcases e with rfl|rfl|rfl|rfl|rfl
   ·exact za s1
   ·exact za s2
   ·exact za j
   ·obtain⟨o,q,_⟩:=n;exact za q
   ·obtain⟨o,q,_⟩:=r;exact za q
  refine⟨.ref T,pc H T (.Ka [x,y]),I.sv (λb o e q=>N b o (B b e) (hk b o (B b e) q)) hf hT ?_,rfl,⟨T,x,y,hn,rfl,λzs V=>by rw[I.Rk V hq];exact hx,λzs V=>by rw[I.Rk V t];exact hy,rfl⟩,⟨L.1,L.2.1,L.2.2.1,L.2.2.2.1,L.2.2.2.2.1⟩,λb e=>?_⟩
  ·exact⟨(show (2:Nat)<=sizeLine by decide),[v1,v2],.cons ru (.cons a5 .nil),G⟩
  ·rw[de (Pa (Sa (a4 b e) hT))];exact(hf b e).1
 done:=by
  intro X hP hw hK hc i Z s σ H E I hf st hg;subst hP hw hK;obtain⟨xs,ys,hq,t,hx⟩:=hg;obtain⟨its,rv,p,V⟩:=I.list hq;obtain⟨d,J,Y,a3⟩:=I.list t;obtain⟨s1,s2,⟨a,c,j⟩,n,r⟩:=st;have D:=iX d1 d2 p.isList Y.isList s1 s2 j n r;have W:=wA (prog:=X.prog) (w:=X.w) (A:=X.A) (I.ok.hd hc) z TI TO f g l m D its.toArray d.toArray;have hl:=rv.length;have a7:=J.length;have ei:i=min its.toArray.size d.toArray.size:=by simp;omega
  subst ei;have B:∀ b,b ∉ [z,TI,TO,f,g]->b ∉ [z,TO,f,g]:=λb e O=>e (by simp at O ⊢;rcases O with h|h|h|h<;>simp[h]);exact W.done s _ E ⟨s1,s2,⟨a,c,j⟩,n,r,p.isList,Y.isList⟩ λh' tk hk=>⟨rfl,I.Cv (t':=tk) (λb o e q=>hk b o (B b e) q) hf⟩
 self:=λA i s Q E st h=>cF st.1 h
abbrev NX:=Nat->Ta->Option (Option D)
def XA(T:Tb)(c:List Addr)(f:Hp)(nx:NX)(J:It):Prop:=∀ a H e i,ie c f a H->Sd T a H e->match nx i e with
 |none=>True
 |some none=>J.stop i H
 |some (some d)=>J.go i H/\∀ x b,J.DA i H x b->ie a H a b/\Sd T a b e/\La T a b d x
def M1(T:Tb)(X:Cx)(f:Ev->M NX):TI:=λst H R=>∃ a b c,Th T a H b st/\Sd T a H c/\gc T (XE X st) (XA T) a H (f b c) R
abbrev Ay(T:Tb)(X:Cx)(b a:Ma)(f:Ev->M NX):Prop:=PI X b a (M1 T X f)
def Qr(nx:NX)(c:D->Ev->Option Ev)(a:Ev->M Fl):Nat->Nat->Ev->M Fl
 |0,_,_=>Pb
 |k+1,i,ρ=>λσ=>match nx i σ with
  |none=>.Pb
  |some none=>.ok (.nx ρ) σ
  |some (some d)=>match c d ρ with
   |none=>.Pb
   |some b=>Fd (a b) (xu (Qr nx c a k (i+1))) σ
def WK(b:D->Ev->Option Ev)(a:Ev->M Fl)(c:Ev)(nx:NX):M Fl:=Qr nx b a 1001 0 c
def yw(b:Ev->M NX)(d:D->Ev->Option Ev)(a:Ev->M Fl):Ev->M Fl:=λc=>xs c (b c) (WK d a c)
section
variable{T:Tb}{X:Cx}{tgt iter:Ma}{body:List Stmt}{src:Ev->M NX}{t:D->Ev->Option Ev}{g:Ev->M Fl}{pos:Ce}
theorem vD(K:Yj (model X.prog X.w) X.A X.env X.xe)(hc:X.Da=true)(hi:Ay T X tgt iter src)(hg:FG T X tgt t)(Z:Pl T X body g)
  (hs:∀ x,xh iter X.env x=pure x:=by intro _;rfl):FS T X (.For tgt iter body [] pos) (yw src t g):=by
 intro r s st H D I hq;refine NO K hc hi hg Z hs r s st H D I ?_;obtain⟨b,ρ,σ,C,hr,K⟩:=hq;refine⟨b,ρ,σ,C,hr,K.xs C λnx P l J R _ W r1 q1 p1=>?_⟩;have M:=p1;refine⟨λi m j p=>∃ b ρ σ,ie l R b p/\Th T b p ρ j/\Sd T b p σ/\gc T EN (wm T) b p (Qr nx t g m i ρ σ) (Tl X D),⟨1001,l,ρ,P,ie.refl _ _,C.mono W,r1,M⟩,?_⟩;rintro i m j p ⟨n,u,c,ex,q,S,a⟩;cases m with
 |zero=>exact a.elim
 |succ m=>
  unfold Qr at a;have z:=q1 n p c i ex S;cases B:nx i c with
  |none=>simp only[B]at a;exact a.elim
  |some o=>
   cases o with
   |none=>
    simp only[B]at a z;exact .inl ⟨z,gc.here (g:=zr.nx j) a S q⟩
   |some d=>
    simp only[B]at a z;obtain⟨G,hy⟩:=z;refine .inr ⟨G,λk e=>∃ b ρ σ,ie l R b e/\Th T b e ρ k/\Sd T b e σ/\gc T EN (wm T) b e (Qr nx t g m (i+1) ρ σ) (Tl X D),λk e h=>⟨m,pd _,h⟩,λx e y=>?_⟩;obtain⟨f,U,hx⟩:=hy x e y;cases L:t d u with
    |none=>simp only[L]at a;exact a.elim
    |some v=>
     simp only[L]at a;exact⟨n,c,u,d,v,q.mono f,U,hx,L,λk E=>⟨n,v,c,E,U,(gc.mono f a).bind λfl Q N gl H4 _ Y V q4 p4=>WG V q4 p4 λO a0 F p5=>⟨N,O,Q,(ex.trans f).trans Y,F,V,p5⟩⟩⟩
end
def Bx(a:D):NX:=λi b=>match rh b a with
 |some xs=>(match xs[i]? with
  |some x=>some (some (.Ka [.int (i:Int),x]))
  |none=>if i=xs.length then some none else none)
 |none=>none
def vH(a b:D):NX:=λi d=>match rh d a with
 |some xs=>(match rh d b with
  |some c=>(match xs[i]? with
   |some x=>(match c[i]? with
    |some y=>some (some (.Ka [x,y]))
    |none=>if i=min xs.length c.length then some none else none)
   |none=>if i=min xs.length c.length then some none else none)
  |none=>none)
 |none=>none
def dB(d:D):M NX:=λσ=>match rh σ d with
 |some _=>.ok (Bx d) σ
 |none=>.Pb
def zM(f:Ev->M D):Ev->M NX:=λa=>Fd (f a) dB
def aI(a b:D):M NX:=λσ=>match rh σ a with
 |some _=>(match rh σ b with
  |some _=>.ok (vH a b) σ
  |none=>.Pb)
 |none=>.Pb
def RM(m:M D)(a:D):M NX:=Fd m (aI a)
def Hy(f g:Ev->M D):Ev->M NX:=λa=>Fd (f a) (RM (g a))
section
variable{T:Tb}{X:Cx}{elts:List Ma}{kk:Nat}{p0 p pos:Ce}{f g:Ev->M D}
theorem TY:bootBuiltins "enumerate" = some (.type "enumerate"):=by decide +kernel
theorem ì:bootBuiltins "zip" = some (.type "zip"):=by decide +kernel
def Ě(K:W.Frag)(b:TA):TI:=λd H R=>b d H λc a=>∃ l xs,c=[.ref l]/\Mf K a l xs/\R (wW K l) a
theorem Ī(o:Gl X "enumerate")(t:X.mg "enumerate" = none)(n:PA X [a] j)(v:qa [a] X.env=[(false,Yb a X.env)]:=by rfl):PI X (.Tuple elts kk p0) (.Call (.Name "enumerate" p) [a] [] pos) (Ě X.K j):=by
 intro d s z H R I h;refine Call_ (Xw I o t TY (ae (pe (n pos d s z H _ I h) λus s1 zz=>?_) v rfl));obtain⟨D,H1,f,x,w⟩:=zz;obtain⟨l,xs,e,u,q⟩:=w;subst e;cases x with
 |cons r y=>
  cases y;cases r;obtain⟨its,C,pl,B⟩:=f.list u;refine call_enumerate_list pl.isList λh' g k A m=>jC g ?_;refine⟨s1.heap.objs.size+1,[s1.heap.objs.size+1,s1.heap.objs.size],_,_,H1,rfl,f.kept m,zp2 l _ _,⟨⟨_,g⟩,k⟩,λb i=>?_,q⟩;have c:s1.heap.objs.size<=b:=by simp at i;rcases i with rfl|rfl<;>omega
  exact f.Zq c (f.zd.fresh c)
theorem ç(O:Gl X "enumerate")(P:X.mg "enumerate" = none)(h:FE T X e f)(A:qa [e] X.env=[(false,Yb e X.env)]:=by rfl):Ay T X (.Tuple elts kk p0) (.Call (.Name "enumerate" p) [e] [] pos) (zM f):=by
 intro k s st H R I U;refine Ī O P (Wt h iw A) A k s st H R I ?_;obtain⟨Y,ρ,σ,N,S,Q⟩:=U;refine⟨Y,ρ,σ,N,S,Q.bind λd t Z v H1 _ e1 D C j=>?_⟩;unfold dB at j;cases n:rh t d with
 |none=>rw[n]at j;exact j.elim
 |some ds=>
  rw[n]at j;obtain⟨l,W,rfl,L,h2⟩:=D.ls C n;refine⟨l,W,rfl,Mf.of L,gc.here j D λa0 F u i ex E=>?_⟩;unfold Bx;cases o:rh u d with
  |none=>trivial
  |some xs=>
   obtain⟨l',m,G,M,w⟩:=E.ls (La.mono ex _ _ C) o;cases G;have b:Mf X.K F l m:=Mf.of M;dsimp only;cases J:xs[i]? with
   |none=>
    by_cases r:i=xs.length
    ·rw[ia r];exact⟨m,b,by rw[r];exact w.length⟩
    ·rw[ka r];trivial
   |some d'=>
    obtain⟨x,B,V⟩:=w.get J;refine⟨⟨m,x,b,B⟩,λz H' y=>?_⟩;obtain⟨q,x',a,rfl,c,rfl⟩:=y;have g:=c m b;rw[B]at g;cases g;refine⟨Wl a,E.fresh a,?_⟩;exact⟨q,_,rfl,vh,Db.cons (by rw[La]) (Db.cons (La.mono (Wl a) _ _ V) Db.nil)⟩
def ų(K:W.Frag)(b:TA):TI:=λe H R=>b e H λc a=>∃ l m xs d,c=[.ref l,.ref m]/\Mf K a l xs/\Mf K a m d/\R (VO K l m) a
theorem AZ(B:Gl X "zip")(C:X.mg "zip" = none)(A:PA X [a,b] u)(E:qa [a,b] X.env=[(false,Yb a X.env),(false,Yb b X.env)]:=by rfl)(f:qa [b] X.env=[(false,Yb b X.env)]:=by rfl):PI X (.Tuple elts kk p0) (.Call (.Name "zip" p) [a,b] [] pos) (ų X.K u):=by
 intro g s N H R I h;refine Call_ (Xw I B C ì (ae (pe (A pos g s N H _ I h) λus s1 ⟨S,H1,c,L,G⟩=>?_) (by rw[E,f]) (by rw[f];rfl)));obtain⟨l,m,xs,T,e,D,i,q⟩:=G;subst e;cases L with
 |cons r k=>
  cases k with
  |cons J k=>
   cases k;cases r;cases J;obtain⟨its,Q,pl,P⟩:=c.list D;obtain⟨t,M,j,F⟩:=c.list i;refine call_zip_2 pl.isList j.isList λh' n v w x y O z=>cF n ?_;refine⟨s1.heap.objs.size+4,[s1.heap.objs.size+4,s1.heap.objs.size+2,s1.heap.objs.size+3,s1.heap.objs.size,s1.heap.objs.size+1],_,_,H1,rfl,c.kept z,qY l m (s1.heap.objs.size+4) (s1.heap.objs.size+2) (s1.heap.objs.size+3) s1.heap.objs.size (s1.heap.objs.size+1) (show (s1.heap.objs.size+2)≠s1.heap.objs.size+3 by omega) (show s1.heap.objs.size≠s1.heap.objs.size+1 by omega),⟨n,v,⟨_,_,w⟩,x,y⟩,λb o=>?_,q⟩;have d:s1.heap.objs.size<=b:=by simp at o;rcases o with rfl|rfl|rfl|rfl|rfl<;>omega
   exact c.Zq d (c.zd.fresh d)
theorem cO(hg:Gl X "zip")(hm:X.mg "zip" = none)(h:FE T X e f)(h':FE T X b g)(hs:qa [e,b] X.env=[(false,Yb e X.env),(false,Yb b X.env)]:=by rfl)(u:qa [b] X.env=[(false,Yb b X.env)]:=by rfl) :
  Ay T X (.Tuple elts kk p0) (.Call (.Name "zip" p) [e,b] [] pos) (Hy f g):=by
 intro C s st H R I hw;refine AZ hg hm (Wt h (Wt h' iw u) (by rw[hs,u])) hs u C s st H R I ?_;obtain⟨μ,ρ,σ,Z,hr,hp⟩:=hw;refine⟨μ,ρ,σ,Z,hr,hp.bind λd S Q v H1 _ e1 r1 q1 p1=>⟨Q,ρ,S,Z.mono e1,r1,p1.bind λV F a2 v2 H2 _ e2 N q2 n=>?_⟩⟩;unfold aI at n;cases L:rh F d with
 |none=>rw[L]at n;exact n.elim
 |some ds=>
  rw[L]at n;cases o:rh F V with
  |none=>rw[o]at n;exact n.elim
  |some a1=>
   rw[o]at n;have D:=La.mono e2 _ _ q1;obtain⟨l,vs,rfl,h1,h2⟩:=N.ls D L;obtain⟨m,ws,rfl,h3,h4⟩:=N.ls q2 o;refine⟨l,m,vs,ws,rfl,Mf.of h1,Mf.of h3,gc.here n N λa3 U G i ex O=>?_⟩;unfold vH;cases fl:rh G d with
   |none=>trivial
   |some xs=>
    obtain⟨l',E,b,h5,W⟩:=O.ls (La.mono ex _ _ D) fl;cases b;cases M:rh G V with
    |none=>trivial
    |some P=>
     obtain⟨m',a,b,h7,Y⟩:=O.ls (La.mono ex _ _ q2) M;cases b;have j:Mf X.K U l E:=Mf.of h5;have k:Mf X.K U m a:=Mf.of h7;have l1:=W.length;have l2:=Y.length;dsimp only;cases ei:xs[i]? with
     |none=>
      by_cases t:i=min xs.length P.length
      ·rw[ia t];exact⟨E,a,j,k,by rw[t,l1,l2]⟩
      ·rw[ka t];trivial
     |some d'=>
      cases J:P[i]? with
      |none=>
       by_cases t:i=min xs.length P.length
       ·rw[ia t];exact⟨E,a,j,k,by rw[t,l1,l2]⟩
       ·rw[ka t];trivial
      |some a0=>
       obtain⟨x,hx,rx⟩:=W.get ei;obtain⟨y,hy,ry⟩:=Y.get J;refine⟨⟨E,a,x,y,j,k,hx,hy⟩,λz H' yy=>?_⟩;obtain⟨q,x',y',c,rfl,w,r,rfl⟩:=yy;have A:=w E j;rw[hx]at A;cases A;have B:=r a k;rw[hy]at B;cases B;refine⟨Wl c,O.fresh c,?_⟩;exact⟨q,_,rfl,vh,Db.cons (La.mono (Wl c) _ _ rx) (Db.cons (La.mono (Wl c) _ _ ry) Db.nil)⟩
end
open PySem.Builtin.Str (occurrences partsBetween subAt)
end L4
namespace L4
open PySem PySem.Spec PyProof.Rows L2
section
variable{T:Tb}{X:Cx}{a b c:Ma}{fa fb fc:Ev->M D}{pos:Ce}
end
def DL(ρ:Ev)(c:Nat)(f:Str)(x:D)(a:Int)(y:D):M Fl:=λσ=>match y with
 | .int b=>(match x with
  | .ref n=>(match σ[n]? with
   |some (.Jd e d)=>if (e == c && decide (d.length<1000))=true then .ok (.nx ρ) (σ.set n (.Jd c (wo f (.int (a+b)) d)))else .Pb
   |_=>.Pb)
  |_=>.Pb)
 |_=>.Pb
def Zz(ρ:Ev)(b:List Nat)(f:Str)(e:Ev->M D)(x:D):M Fl:=λσ=>match mn σ x with
 |some (c,d)=>if b.contains c=true then (match d.lookup f with
  |some (.int a)=>xs ρ (e ρ) (DL ρ c f x a) σ
  |_=>.Pb)else .Pb
 |none=>.Pb
def jG(b:List Nat)(f:Str)(d c:Ev->M D):Ev->M Fl:=λa=>xs a (c a) (Zz a b f d)
section
variable{T:Tb}{X:Cx}
theorem xT(hK:T.K=X.K)(hc:Gn T G f)(ho:FE T X o W)(hv:FE T X e Y):FS T X (.AugAssign (.Attribute o f A) .Add e O) (jG G f Y W):=by
 intro v s st H D I hq;refine P8 ho hv Ű v s st H D I ?_;obtain⟨μ,ρ,σ,t,hr,hp⟩:=hq;refine⟨μ,ρ,σ,t,hr,hp.xs t λx E R vo H1 _ J r1 q1 d=>?_⟩;unfold Zz at d;cases L:mn E x with
 |none=>rw[L]at d;exact d.elim
 |some p=>
  obtain⟨c,fs⟩:=p;rw[L]at d;dsimp only at d;by_cases l:G.contains c=true
  ·rw[ia l]at d;obtain⟨a,dx,vs,rfl,h1,h2⟩:=ZB r1 q1 L;cases N:fs.lookup f with
   |none=>rw[N]at d;exact d.elim
   |some y=>
    rw[N]at d;cases y with
    |int i=>
     obtain⟨w,h3,h4⟩:=(hD h2).1 _ N;obtain⟨k1,k2⟩:=hc c l;rw[hK]at k1 k2;refine⟨a,_,dx,vs,w,rfl,h1,k1,k2,h3,R,ρ,E,t.mono J,r1,d.xs (t.mono J) λz S C vz U _ V r2 q2 b=>?_⟩;unfold DL at b;cases z with
     |int j=>
      refine⟨i,j,Mp h4,Mp q2,?_⟩;have P:=La.mono V _ _ q1;cases x with
      |ref n=>
       dsimp only at b;cases k:S[n]? with
       |none=>rw[k]at b;exact b.elim
       |some ob=>
        rw[k]at b;cases ob with
        |la _=>exact b.elim
        |yc _=>exact b.elim
        |Sf _=>exact b.elim
        |vl _=>exact b.elim
        |Jd F m=>
         dsimp only at b;by_cases g:(F == c && decide (m.length<1000))=true
         ·rw[ia g]at b;rw[Ca,jc,sh]at g;obtain⟨u,hl⟩:=g;subst u;obtain⟨a',ea,Z,h,B,q,r⟩:=r2.at P k;cases ea;have ex:ie C U C (pc U a (.Jd (T.ca F) h (ip f (.int (i+j)) B))):=Nv (Fa Z) q (λ_ z=>by cases z) (λ_ _ z=>by cases z);have Q:=r2.write (ob:=.Jd F (wo f (.int (i+j)) m)) Z ⟨h,_,vh,vK (by rw[La]) (Vt.mono ex r)⟩;exact⟨h,B,q,by rw[<-r.length];exact hl,b _ (.nx st) _ Q.1 Q.2 ((t.mono J).mono V |>.mono Q.1)⟩
         ·rw[ka g]at b;exact b.elim
      |_=>exact b.elim
     |_=>exact b.elim
    |_=>exact d.elim
  ·rw[ka l]at d;exact d.elim
def Ju(y x:D):M D:=λb=>match Ip y with
 |some k=>(match Tj b x with
  |some a=>.ok (.bl (!(Rp a k).isSome)) b
  |none=>.Pb)
 |none=>.Pb
def kW:R2:=λy x H Q=>∃ a o,x=.ref a/\Nj H a y o/\Q (.bl (!o.isSome)) H
theorem uU(f:X.A.units+9<cLine):di X (Sb .NotIn) kW:=by
 intro b s st H y x i u Q I e d h;obtain⟨a,o,rfl,g,q⟩:=h;obtain rfl:u=Ec a:=d;exact kY (by omega) I g e λj c=>⟨.bl (!o.isSome),H,c,rfl,q⟩
theorem GO:Jl T kW Ju:=by
 intro E o H m y x u v Q r q p h;unfold Ju at h;cases c:Ip y with
 |none=>rw[c]at h;exact h.elim
 |some k=>
  rw[c]at h;cases b:Tj m x with
  |none=>rw[b]at h;exact h.elim
  |some j=>
   rw[b]at h;obtain⟨a,l,rfl,g,i⟩:=pz r p b;obtain rfl:=WA q c;refine⟨a,En l k,rfl,Nj.kr g,gc.here h r ?_⟩;rcases jB i k with⟨e,f⟩|⟨d,w,e,f,n⟩
   ·rw[e,f];rfl
   ·rw[e,f];rfl
def uw(T:Tb)(P:Aa)(w:Wa)(g:Str->Option Value)(a:Heap)(k:Nat)(f:Addr)(b:List Str)(d:List Value)(e:List D->M D):Prop:=
 ∃ c,Cs T.K c b []/\Cs T.K c b d/\ri P w T.K g a (Il P w) k f c b (xq T b.length e)
structure ev(K:W.Frag)(C:Addr)(x qual:Str)(st:Stmt)(ps:List Str)(dv:List Value)(f:Addr):Prop where
 ex:∃ fd,(∃ (oc:Value) (od:Option Addr) (dV kV doc pm:Value) (an:Option Addr) (cdv ct:Value) (osl:Array (Option Value)),
  fd=W.fnOf x qual (pp st) (Ej st) (Qc st) dV kV doc pm an cdv ct/\K.lookup f=some ⟨oc,od,.func fd,osl⟩/\W.codeIn K cdv qual=true)/\Cs K fd ps []/\Cs K fd ps dv
end
section
variable{P:Aa}{w:Wa}{K:W.Frag}{mg:Str->Option Value}{base:Heap}{ca:Nat->Addr}{tx:Tx}
theorem A3{st:Stmt}(h:ev K C x a st e i f)(S:va N e (Qc st))
  (n:∀ (b:Value) (A:Qa) (c:List qh) (s:aa) (H:Hp) (E:XK),Yd k (A.deeper (yg a (Qc st) s.heap.objs.size f b))->Pl ⟨K,ca,tx⟩ (Tp (Il P w) P w K mg base N a (Qc st) f b A c s H E) (Ej st) g) :
  uw ⟨K,ca,tx⟩ P w mg base (k+1) f e i (Nd N.length g):=by
 obtain⟨r,⟨t,u,q,kV,m,v,p,b,ct,o,rfl,lk,d⟩,j,l⟩:=h.ex;exact⟨_,j,l,pB lk d S (n b)⟩
theorem uw.Ab(h:uw T P w mg base k f c a b):uw T P w mg base k f c a (L4.Ab b):=by rw[Rr];exact h
theorem uw.vc{T:Tb}{k:Nat}{f:Addr}{c:List Str}{a:List Value}{b:List D->M D}(h:uw T P w mg base k f c a b):uw T P w mg base k f c a (λd=>L4.vc (b d)):=by
 obtain⟨e,g,i,j⟩:=h;exact⟨e,g,i,sG j⟩
theorem j8{st:Stmt}{k w:Array (Option Value)}{kV e i a ct:Value}
  (y:∀ (t:Addr) (kV e i:Value) (h:Option Addr) (a ct:Value) (s:aa) (o:jd) (n:Nat) (g:List Value),s.heap.get? t=some o->o.data=.seq j.toArray n->((g++[]).length=m.length->yh s (W.fnOf x b (pp st) (Ej st) (Qc st) (.ref t) kV e i h a ct) ⟨g,[]⟩ (m.zip (g++[])))/\
   ((g++j).length=m.length->yh s (W.fnOf x b (pp st) (Ej st) (Qc st) (.ref t) kV e i h a ct) ⟨g,[]⟩ (m.zip (g++j))))
  (l:K.lookup f=some ⟨z,A,.func (W.fnOf x b (pp st) (Ej st) (Qc st) (.ref t) kV e i h a ct),k⟩)
  (c:W.codeIn K a b=true) (d:K.lookup t=some ⟨u,v,.seq j.toArray r,w⟩):ev K C x b st m j f:=
 ⟨⟨_,⟨z,A,_,kV,e,i,h,a,ct,k,rfl,l,c⟩,λs g p q=>(y t kV e i h a ct s _ r g (p _ _ d) rfl).1 q,λs g p q=>(y t kV e i h a ct s _ r g (p _ _ d) rfl).2 q⟩⟩
end
section
variable{T:Tb}{X:Cx}
end
section
variable{T:Tb}{X:Cx}
end
def Av(a:List Nat)(b:Ev):Ev:=none::none::a.map λi=>(b[i]?).getD none
def Bz(a:List Nat)(st:St):St:=none::none::a.map λi=>(st[i]?).getD none
theorem U1{st:St}(a:List Nat)(h:Th T b H c st):Th T b H (Av a c) (Bz a st):=by
 have q:=aO a h;refine⟨by simp[Av,Bz],λi d e=>?_⟩;cases i with
 |zero=>simp[Av]at e
 |succ j=>exact q.2 j d e
section
variable{X:Cx}{pins:List (Addr × jd)}{st:St}{H:Hp}{s:aa}{x z0:Str}{M':List Str}{ix:List Nat}{scope:Scope}{fp:List Addr}
theorem Ĝ(I:Za X pins st H s)(L:fo X x M' ix scope)(r:∀ b∈fp,Wm X pins H b/\b<s.heap.objs.size)(P:h'.Ns s.heap.objs.size m)
  (F:∀ b o,s.heap.get? b=some o->h'.get? b=some o) :
  Za (Du X (x::z0::M') scope (dk X.env scope.names []) s.heap.objs.size s H fp) [] (Bz ix st) H { s with heap:=h',toks:=t' }:=by
 have f:∀ n c,(dk X.env scope.names []).lookup n=some c->X.env.cells.lookup n=some c:=λn c e=>yK X.env scope.names [] n c (λ_ _ q=>by simp at q) e;have w:H s.heap.objs.size=none:=I.zd.fresh (ya _);refine⟨⟨I.ok.mod,L.kind,I.ok.glob,I.ok.blt,ya _,λa b c t d=>I.ok.inj a b c (f a c t) (f b c d),λa ha=>?_,λa c h=>(by cases h),I.ok.hd,I.ok.frames,.inl rfl,λb A=>⟨Pa (r b A).2,λa c e=>?_⟩,λb o e=>I.bs b o e,Ib I.ok.As I.sz,λb o e A=>?_,λb A z=>?_,I.stack,I.Pk⟩,
  rfl,I.bare,Un.kept F,⟨m,P,λi y v W G e3=>?_⟩,λa c e=>?_,w,λa c e=>I.Ug a c (f a c e),λp hp=>absurd (show p∈[]from hp) (by simp),I.zd.kept F,?_⟩
 ·
  have K:(scope.names.map λ(n,k)=>if (k == Gb && X.env.scope.kind == .function && X.env.kindOf n == some .cell)then (n,vd)else (n,k)).lookup a=some .cell\/(scope.names.map λ(n,k)=>if (k == Gb && X.env.scope.kind == .function && X.env.kindOf n == some .cell)then (n,vd)else (n,k)).lookup a=some .free:=ha;have T:scope.names.lookup a=some .free:=by
   rcases K with z|z
   ·obtain⟨k0,t,d⟩:=yN z;rcases d with d|⟨d,_⟩
    ·subst d;exact absurd rfl (QD L _ (nw t))
    ·rw[d]at t;exact t
   ·obtain⟨k0,t,d⟩:=yN z;rcases d with d|⟨_,d⟩
    ·rw[<-d]at t;exact t
    ·cases d
  exact qE X.env scope.names [] a (nw T) (kA I L _ (nw T) rfl)
 ·exact(r b A).1.2.2.2.2.1 a c (f a c e)
 ·rcases(r b A).1.2.2.2.1 with z|z
  ·exact I.ok.Br b o e z
  ·exact absurd (Sa (za e) (Ib I.ok.As z)) (Zd _)
 ·rcases Ea.mp (I.Bs b z)with q|q
  ·exact(r b A).1.2.1 q
  ·exact(r b A).1.2.2.1 q
 ·
  cases i with
  |zero=>simp[Bz]at G
  |succ i=>
  cases i with
  |zero=>simp[Bz]at G
  |succ j=>
   have B:M'[j]?=some y:=W;have g:(ix.map λi=>(st[i]?).getD none)[j]?=some (some v):=G;rw[jb]at g;cases J:ix[j]? with
   |none=>rw[J]at g;cases g
   |some D=>
    rw[J]at g;have E:(st[D]?).getD none=some v:=Lb g;have Y:st[D]?=some (some v):=by
     cases q:st[D]? with
     |none=>rw[q]at E;cases E
     |some o=>rw[q]at E;exact cc some E
    have Z:X.N[D]?=some y:=by
     have z:=cc (λl=>l[j]?) L.at_;simp only[jb,J,B]at z;exact Lb z
    have q:=Vb.mp L.VP y (Fa B);simp only[Ca,Ig]at q;have U:X.env.scope.names.lookup y=some .cell\/X.env.scope.names.lookup y=some .free:=by
     rcases q.1 with z|z
     ·exact .inl (eq_of_beq z)
     ·exact .inr (eq_of_beq z)
    have R:scope.names.lookup y=some .free:=eq_of_beq q.2;obtain⟨m0,a0,O⟩:=I.loc;obtain⟨u,ru,lu⟩:=O D y v Z Y (by rcases U with z|z;exact .inr (.inl z);exact .inr (.inr z));refine⟨u,ru,.inr ⟨aX (env:=X.env) R,?_⟩⟩;rcases lu with⟨z,_⟩|⟨_,c,ec,zc⟩
    ·rcases U with k|k
     ·rw[show X.env.kindOf y=X.env.scope.names.lookup y from rfl,k]at z;cases z
     ·rw[show X.env.kindOf y=X.env.scope.names.lookup y from rfl,k]at z;cases z
    ·obtain⟨V,C⟩:=qE X.env scope.names [] y (nw R) (kA I L _ (nw R) rfl);have S:=f y V C;rw[ec]at S;cases S;obtain⟨o,Q,M⟩:=zc;exact⟨c,C,o,F _ _ Q,M⟩
 ·obtain⟨v,o,Q,M⟩:=I.cell a c (f a c e);exact⟨v,o,F _ _ Q,M⟩
 ·simp[Bz,Du];have z:=cc List.length L.at_;simpa using z
end
section
variable{T:Tb}{X:Cx}
end
noncomputable def Cw(l:List Int):List Int:=l.mergeSort λa b=>decide (a<=b)
theorem xC(l:List Int):(Cw l).Perm l:=List.mergeSort_perm l _
theorem OS(l:List Int):(Cw l).Pairwise (·<=·):=by
 have:=List.pairwise_mergeSort (le:=λa b:Int=>decide (a<=b)) (λa b c d e=>by simp at *;omega) (λa b=>by simp;omega) l;exact this.imp λh=>by simpa using h
theorem ZI:∀ {l m:List Int},l.Perm m->l.Pairwise (·<=·)->m.Pairwise (·<=·)->l=m
 |[],m,h,_,_=>by rw[List.nil_perm]at h;exact h.symm
 |a::l,[],h,_,_=>by have:=h.length_eq;simp at this
 |a::l,b::m,h,c,d=>by
  rw[List.pairwise_cons]at c d;have f:=h.subset Ha;have g:=h.symm.subset Ha;have e:a=b:=by
   rcases Ea.mp f with e|f
   ·exact e
   ·rcases Ea.mp g with e|g
    ·exact e.symm
    ·have:=c.1 b g;have:=d.1 a f;omega
  subst e;rw[ZI (zaE h) c.2 d.2]
def OL(K:W.Frag):List V->Hp->VK->Prop:=λxs H Q=>∃ (p:Addr) (is:List Int),xs=[.ref p]/\Mf K H p (is.map V.int)/\is.length<64/\∀ l,H l=none->Q (.ref l) (pc H l (.la ((Cw is).map V.int)))
section
variable{T:Tb}{X:Cx}
theorem Ŧ:zm X (.builtin "sorted") (OL X.K):=by
 intro f s σ H xs y Q I r h;obtain⟨p,c,rfl,o,d,q⟩:=h;obtain⟨u,rfl,v⟩:=Os r;cases v;obtain⟨its,g,pl,x⟩:=I.list o;have a:=g.length;rw[zb]at a;refine sorted_ints pl.isList (nV g) (by omega) λb t i j k=>?_;obtain⟨e,m⟩:=sortedAll_at s.heap its b;have l:=ZI (j.trans (xC c).symm) k (OS c);subst l;have n:=(xC c).length_eq;exact⟨.ref (s.heap.objs.size+1),_,I.laid (λ_ _=>sortedAll_old) (Jh _) (show Ym X.prog X.w _ _ _ (.la ((Cw c).map V.int))from⟨by rw[zb,n];exact Ib (og d) (by decide),b.toList,e,BG i,by rw[Ys];exact m⟩),rfl,q _ (I.zd.fresh (Jh _))⟩
def WL(xs:List D):M D:=λσ=>match xs with
 |[x]=>(match rh σ x with
  |some a=>(match qt a with
   |some is=>if is.length<64 then FB ((Cw is).map D.int) σ else .Pb
   |none=>.Pb)
  |none=>.Pb)
 |_=>.Pb
theorem SM{b:List Addr}{H:Hp}:∀ a:List Int,Db T b H (a.map D.int) (a.map V.int)
 |[]=>Db.nil
 |i::a=>Db.cons (by rw[La]) (SM a)
theorem T4(m:T.K=X.K):dr T (OL X.K) WL:=by
 intro E q H σ xs o Q r p h
 match xs with
 |[]=>exact h.elim
 |[x]=>
  obtain⟨v,w,rfl,j,d⟩:=p;rw[Db]at d;subst d;unfold WL at h;cases e:rh σ x with
  |none=>simp only[e]at h;exact h.elim
  |some k=>
   simp only[e]at h;cases a:qt k with
   |none=>simp only[a]at h;exact h.elim
   |some is=>
    simp only[a]at h;by_cases c:is.length<64
    ·rw[ia c]at h;obtain⟨b,n,rfl,f,g⟩:=r.ls j e;obtain rfl:=aD g a;exact⟨b,is,rfl,Mf.of f,c,λl i=>EC h r (SM _) i⟩
    ·rw[ka c]at h;exact h.elim
 |_::_::_=>exact h.elim
def apart(n:Nat):D->Bool
 | .ref m=>!(m == n)
 |_=>true
end
theorem T6:bootBuiltins "sorted" = some (.builtin "sorted"):=by decide +kernel
theorem AS:∀ {ks:List ud} {a:List Value},a.length=ks.length->(∀ (j:Nat) (v:Value) (k:ud),a[j]?=some v->ks[j]?=some k->Pd (kV k) v)->ue (ks.map kV) a
 |[],[],_,_=>.nil
 |[],_::_,h,_=>by simp at h
 |_::_,[],h,_=>by simp at h
 |k::ks,v::a,h,b=>.cons (b 0 v k rfl rfl) (AS (by simpa using h) λj v k c d=>b (j+1) v k c d)
theorem N3(h:(um P w).is k v=true):Pd (kV k) v:=by
 rcases vv h with⟨i,t,rfl,rfl⟩|⟨x,t,rfl,rfl⟩
 ·exact⟨t,rfl⟩
 ·exact⟨t,rfl⟩
theorem mT:∀ {a:List (ud × V)} {ws:List (ud × Value)},KV a ws->ws.map (·.1)=a.map (·.1)
 |[],_,h=>by cases h;rfl
 |p::a,_,h=>by
  cases h with
  |cons q h=>simp only[Ra];rw[mT h,q.1]
section
variable{T:Tb}{X:Cx}
def sE:ud->D
 | .inl i=>.int i
 | .inr x=>.str x
end
end L4
namespace L4
open PySem PySem.Spec PySem.Calls PySem.W PyProof.Rows PyProof.V
theorem V8
  (K:KdlSrc k w B r d n P v) (C:A.handled=none) (p:v s.heap) (D:n<=sizeLine)
  (wh:∀ (h:Heap) (j:Nat) (a:Array Value),(∀ b o,s.heap.get? b=some o->h.get? b=some o)->s.heap.objs.size<=h.objs.size->ItemsOf P a n->R a.toList { s with heap:=h,toks:=j }) :
  wpAny (model k w) A (collect (.ref r)) R E s:=by
 have lt:=K.there _ p;let S:Addr:=s.heap.objs.size;let Z:zA->aa->Prop:=λq u=>∃ (h:Heap) (j:Nat) (a:Array Value) (c:Nat),q=.ok (.ret (.ref S))/\u={ s with heap:=h,toks:=j }/\(∀ b o,s.heap.get? b=some o->h.get? b=some o)/\
  h.get? S=some { cls:=.type "list",dict:=none,data:=.seq a c,slots:=#[] }/\ItemsOf P a n
 have i:∀ {h:Heap} {j c:Nat} {a:Array Value},(∀ b o,s.heap.get? b=some o->h.get? b=some o)->h.get? S=some { cls:=.type "list",dict:=none,data:=.seq a c,slots:=#[] }->ItemsOf P a n->R a.toList { s with heap:=h,toks:=j }:=
  λm g l=>wh _ _ _ m (og (za g)) l
 have t:(s.heap.push { cls:=.type "list",data:=.seq ([]:List Value).toArray }).get? S=some { cls:=.type "list",data:=.seq #[] }:=qb _ rfl;have Nd:=kdl_extend (A:=A) (s:={ s with heap:=s.heap.push { cls:=.type "list",data:=.seq ([]:List Value).toArray } }) (R:=Z) K C (K.keep _ _ p λb _ o e=>na _ e) S (fh lt.1) (fh lt.2) (.ref S) 0 t
  (λh j a c m g l=>⟨h,j,a,c,rfl,rfl,λb o e=>m b o (Pa (za e)) (na _ e),g,l⟩) D
 refine da (wpAny_runValue (xi entry_proto_collect' ?_));refine da (pf (ua ⟨Dj PySem.F.plain_list_iadd _,xi entry_list_iadd' ?_⟩));refine Hc Nd (λf u x=>?_) (λe u x=>by obtain⟨_,_,_,_,z,_⟩:=x;cases z);cases f with
 |done f=>
  obtain⟨h,j,a,c,e,rfl,m,g,l⟩:=x;cases e;exact da (nA g (ua (i m g l)))
 |again G=>
  refine⟨x.1,Bk x.2 λq s2 y=>?_⟩;obtain⟨h,j,a,c,rfl,rfl,m,g,l⟩:=y;exact da (nA g (ua (i m g l)))
end L4
namespace L4
open PySem PySem.Spec PyProof.Rows L2
def vJ:List V->Hp->VK->Prop:=λxs H Q=>∃ (a:Addr) (b:List (ud × V)) (is:List Int),xs=[.ref a]/\Rd H a (.dK b)/\b.map (·.1)=is.map Sum.inl/\is.length<64/\∀ l,H l=none->Q (.ref l) (pc H l (.la ((Cw is).map V.int)))
theorem jS:∀ {a:List Int} {b:List Value},ue ((a.map (Sum.inl:Int->ud)).map kV) b->Ep b a
 |[],_,h=>by cases h;exact .nil
 |i::a,_,h=>by
  cases h with
  |cons q h=>
   obtain⟨t,rfl⟩:=q;exact .cons i t (jS h)
section
variable{T:Tb}{X:Cx}
theorem W3(hc:X.Da=true):zm X (.builtin "sorted") vJ:=by
 intro R s σ H xs us Q I r h;obtain⟨a,g,l,rfl,hH,n,y,q⟩:=h;obtain⟨u,rfl,rx⟩:=Os r;cases rx;obtain⟨z,hd,t,F,Y⟩:=xx I.zd hH;obtain⟨K,B⟩:=Y.dictAt;have L:=mT F;have a4:t.length=g.length:=by have:=cc List.length L;simpa using this
 have a0:g.length=l.length:=by have:=cc List.length n;simpa using this
 have N:t.length<=sizeLine:=by omega
 refine Calls.call_function_entry kind_sorted plain_sorted entry_sorted (args_sorted1 _) ?_;unfold dw.«sorted»;refine da (m:=checkCount "sorted" 1 1 _) (ua ?_);refine da (V8 (A:=X.A.in1) (W.kdl_dict (knd:=um X.prog X.w) (kvs:=t) (ep:=K) hd) (I.ok.hd hc) B N λh' tk c P p d=>?_);have M:c.toList.length=t.length:=by rw[qg];exact d.1
 have O:ue ((t.map (·.1)).map kV) c.toList:=AS (by rw[zb];exact M) λj v k Z G=>by
  obtain⟨k',x,hx,C⟩:=d.2 j v (by rw[<-Wr];exact Z);rw[jb,hx]at G;cases G;exact N3 C
 rw[L,n]at O;have hI:=jS O;refine da (MX ?_ (by rw[M];exact N));have f:(h'.push (sm "list" c.toList.toArray 0)).get? h'.objs.size=some (sm "list" c.toList.toArray 0):=qb _ rfl;refine da (Qd (Dq slot_list_sort ⟨_,f,rfl⟩ entry_list_sort (list_sort_tree f hI (by omega) λi E S T U=>⟨_,rfl,?_⟩) (args_list_sort _)));refine ua ⟨_,rfl,?_⟩;have en:E=Cw l:=ZI (T.trans (xC l).symm) U (OS l);subst en;have D:=(xC l).length_eq;obtain⟨e,he⟩:=sortedHeap_at (out:=i) f;exact⟨.ref h'.objs.size,_,I.laid (t':=tk) (λb o J=>by
  have lt:b<h'.objs.size:=za (P b o J);rw[sortedHeap_old (Pa lt) (by rw[size_push'];exact Pi lt)];exact na _ (P b o J)) p (show Ym X.prog X.w _ _ _ (.la ((Cw l).map V.int))from⟨by rw[zb,D];exact Ib (og y) (by decide),i.toList,e,BG S,by rw[Ys];exact he⟩),rfl,q _ (I.zd.fresh p)⟩
def ay:List (ud × D)->Option (List Int)
 |[]=>some []
 |(.inl i,_)::r=>(ay r).map (i::·)
 |_::_=>none
theorem xR{c:List Addr}{H:Hp}:∀ {a:List (ud × D)} {us:List (ud × V)} {is:List Int},Dl T c H a us->ay a=some is->us.map (·.1)=is.map Sum.inl
 |[],_,is,h,e=>by unfold Dl at h;cases h;cases e;rfl
 |(k,d)::a,_,is,h,e=>by
  cases h with
  |cons q h=>
   cases k with
   |inr x=>cases e
   |inl i=>
    unfold ay at e;cases b:ay a with
    |none=>rw[b]at e;cases e
    |some f=>
     rw[b]at e;cases e;simp only[Ra];rw[xR h b,<-q.1]
def GI(xs:List D):M D:=λσ=>match xs with
 |[x]=>(match Tj σ x with
  |some a=>(match ay a with
   |some is=>if is.length<64 then FB ((Cw is).map D.int) σ else .Pb
   |none=>.Pb)
  |none=>.Pb)
 |_=>.Pb
theorem zw4:dr T vJ GI:=by
 intro E o H σ xs n Q r p h
 match xs with
 |[]=>exact h.elim
 |[x]=>
  obtain⟨v,w,rfl,k,f⟩:=p;rw[Db]at f;subst f;unfold GI at h;cases e:Tj σ x with
  |none=>simp only[e]at h;exact h.elim
  |some d=>
   simp only[e]at h;cases b:ay d with
   |none=>simp only[b]at h;exact h.elim
   |some is=>
    simp only[b]at h;by_cases c:is.length<64
    ·rw[ia c]at h;obtain⟨a,m,rfl,g,i⟩:=pz r k e;exact⟨a,m,is,rfl,g,xR i b,c,λl j=>EC h r (SM _) j⟩
    ·rw[ka c]at h;exact h.elim
 |_::_::_=>exact h.elim
def sW(K:W.Frag):List V->Hp->VK->Prop:=λxs H Q=>OL K xs H Q\/vJ xs H Q
theorem G3(d:X.Da=true):zm X (.builtin "sorted") (sW X.K):=by
 intro a s c H xs b Q I r h;rcases h with h|h
 ·exact Ŧ a s c H xs b Q I r h
 ·exact W3 d a s c H xs b Q I r h
def qB(xs:List D):M D:=λσ=>match xs with
 |[x]=>(match rh σ x with
  |some _=>WL [x] σ
  |none=>GI [x] σ)
 |_=>.Pb
theorem D2(c:T.K=X.K):dr T (sW X.K) qB:=by
 intro E b H σ xs a Q r p h
 match xs with
 |[]=>exact h.elim
 |[x]=>
  unfold qB at h;cases e:rh σ x with
  |some d=>simp only[e]at h;exact .inl (T4 c E b H σ [x] a Q r p h)
  |none=>simp only[e]at h;exact .inr (zw4 E b H σ [x] a Q r p h)
 |_::_::_=>exact h.elim
end
section
variable{T:Tb}{X:Cx}
end
end L4
namespace L2
open PySem PySem.Spec PyProof.Rows
end L2
namespace L4
open PySem PySem.Spec PyProof.Rows L2
section
variable{T:Tb}{X:Cx}
inductive jN(T:Tb)(X:Cx):List (Option Ma)->List Ma->List ud->(Ev->M (List D))->Prop
 |nil:jN T X [] [] [] Ja
 |cons {k v:Ma} {kk:ud} {f:Ev->M D} {ks:List (Option Ma)} {vs:List Ma} {kks:List ud} {fs:Ev->M (List D)} (hk:FE T X k (eC (sE kk))) (hv:FE T X v f) (r:jN T X ks vs kks fs):jN T X (some k::ks) (v::vs) (kk::kks) (ra f fs)
end
section
variable{T:Tb}{X:Cx}{pins:List (Addr × jd)}{st:St}{H:Hp}{s:aa}
variable{N':List Str}{scope:Scope}{cl:List (Str × Addr)}{H3:Hp}{s3:aa}{fp:List Addr}{xe:Value->aa->Prop}
end
section
variable{T:Tb}{X:Cx}
end
section
variable{ρ:Ev}{σ:Ta}
end
end L4
namespace L4
open PySem PySem.Spec PyProof.Rows L2 Builtin Builtin.Str
section
variable{T:Tb}{X:Cx}{a b e o:Ma}{fa fb f:Ev->M D}{pos apos cpos:Ce}
end
section
variable{ρ:Ev}{σ:Ta}
end
end L4
namespace L4
open PySem PySem.Spec PyProof.Rows L2
section
variable{T:Tb}{X:Cx}
end
section
variable{ρ:Ev}{σ:Ta}
end
section
variable{prog:Aa}{w:Wa}{A:Qa}{E:Value->aa->Prop}{h:Heap}{g:Array Dp}{d:mC}{t:Nat}{os:pC}
variable{nm qn:Str}{C N:Addr}{bs bm bmB:List Value}{hdct:Bool}{sn:List Str}{sub:List Value}{ab:Bool}{col:Option Bool}{dd:Option Addr}{k0 k1 k2 k3 k5:Option Value}{B newId initId:String}
end
section
variable{T:Tb}{X:Cx}{pins:List (Addr × jd)}{st:St}{H:Hp}{s:aa}
end
section
variable{X:Cx}
end
section
variable{prog:Aa}{w:Wa}{A:Qa}{E:Value->aa->Prop}{h:Heap}{g:Array Dp}{d:mC}{t:Nat}{os:pC}{K:W.Frag}
variable{nm qn:Str}{C N x:Addr}{bs bm bmB:List Value}{sn:List Str}{sub:List Value}{ab:Bool}{col:Option Bool}{dd:Option Addr}{k0 k1 k2 k3 k5:Option Value}{B newId sa owner:String}{name:Str}{v:Value}{o:jd}{vs:Array Value}
end
section
variable{X:Cx}
end
section
variable{P:Aa}{w:Wa}{K:W.Frag}{mg:Str->Option Value}{base:Heap}
end
section
variable{M:lm}{A:Qa}{E:Value->aa->Prop}{s:aa}{env:qh}
variable{nm qn:Str}{C N:Addr}{bs bm:List Value}{hdct:Bool}{sn:List Str}{sub:List Value}{ab:Bool}{col:Option Bool}{dd:Option Addr}{k0 k1 k2 k3 k5:Option Value}{newId:String}
end
section
variable{T:Tb}{X:Cx}
end
end L4
namespace L4
open PySem PySem.Spec PySem.Calls PyProof.Rows PySem.Builtin PySem.Builtin.ObjectAttr L2
section
variable{prog:Aa}{w:Wa}{A:Qa}{E:Value->aa->Prop}{s:aa}{K:W.Frag}{C ea dN:Addr}{hp:Heap}{n:Nat}{Mo:lm}
end
section
variable{T:Tb}{X:Cx}
end
section
variable{ρ:Ev}{σ:Ta}
end
end L4
namespace HT
open PySem Builtin
open Sem (wp)
end HT
namespace L4
open PySem PySem.Spec PyProof.Rows L2
end L4
namespace L4
open PySem
def gB(xs:Array Nat):Prop:=∀ i k:Nat,∀ a b:Nat,i<k->xs[i]?=some a->xs[k]?=some b->a<b
def Cut(xs:Array Nat)(j p:Nat):Prop:=p<=xs.size/\(∀ i a:Nat,i<p->xs[i]?=some a->a<j)/\∀ i a:Nat,p<=i->xs[i]?=some a->j<=a
theorem Ć{xs:Array Nat}(p:gB xs)(j:Nat):∀ (c lo b:Nat),b - lo<=c->lo<=b->b<=xs.size->(∀ i a:Nat,i<lo->xs[i]?=some a->a<j)->(∀ i a:Nat,b<=i->xs[i]?=some a->j<=a)->Cut xs j (Gp xs j c lo b):=by
 intro c;induction c with
 |zero=>
  intro lo b t u h k l;have e:lo=b:=by omega
  subst e;exact⟨h,k,l⟩
 |succ f r=>
  intro lo b t u h k l;unfold Gp;by_cases o:lo<b
  ·rw[ia o];dsimp only;have q:(lo+b) / 2<xs.size:=by omega
   have g:=ui q;have s:xs.getD ((lo+b) / 2) j=xs[(lo+b) / 2]:=by simp[q]
   rw[s];by_cases m:xs[(lo+b) / 2]<j
   ·rw[ia m];refine r _ _ (by omega) (by omega) h (λi a n d=>?_) l;by_cases e:i=(lo+b) / 2
    ·subst e;rw[g]at d;cases d;exact m
    ·have:=p i ((lo+b) / 2) a _ (by omega) d g;omega
   ·rw[ka m];refine r _ _ (by omega) (by omega) (by omega) k (λi a n d=>?_);by_cases e:i=(lo+b) / 2
    ·subst e;rw[g]at d;cases d;omega
    ·have:=p ((lo+b) / 2) i _ a (by omega) g d;omega
  ·rw[ka o];have e:lo=b:=by omega
   subst e;exact⟨h,k,l⟩
theorem Ő{xs:Array Nat}(c:gB xs)(j:Nat):Cut xs j (Vu xs j):=by
 exact Ć c j _ _ _ (by omega) (by omega) (ya _) (λi a h=>by omega) (λi a h b=>by
  have:=(Gd.mp b).1;omega)
theorem zgm{xs:Array Nat}(d:p<=xs.size)(i:Nat):(Ik xs p x)[i]?=if i<p then xs[i]? else if i=p then some x else xs[i - 1]?:=by
 unfold Ik;have s1:(xs.extract 0 p).size=p:=by simp;omega
 rw[Array.getElem?_append,Array.size_push,s1];by_cases a:i<p
 ·rw[ia (by omega),ia a,Rt,ka (by rw[s1];omega),Kr];simp;omega
 ·rw[ka a];by_cases b:i=p
  ·subst b;rw[ia (by omega),ia rfl,Rt,ia (by rw[s1])]
  ·rw[ka (by omega),ka b,Kr];by_cases c:i - 1<xs.size
   ·rw[ia (by omega)];congr 1;omega
   ·rw[ka (by omega),Array.getElem?_eq_none (by omega)]
theorem Φ{xs:Array Nat}(m:gB xs)(l:Cut xs x p)(t:¬ xs[p]?=some x):gB (Ik xs p x):=by
 have r:∀ i a:Nat,p<=i->xs[i]?=some a->x<a:=λi a s c=>by
  have g:=l.2.2 i a s c;rcases Nat.lt_or_ge x a with h|h
  ·exact h
  ·have e:a=x:=by omega
   subst e;by_cases o:i=p
   ·subst o;exact absurd c t
   ·have v:=(Gd.mp c).1;have u:p<xs.size:=by omega
    have q:=ui u;have:=m p i _ _ (by omega) q c;have:=l.2.2 p _ (ya _) q;omega
 intro i k a b n c d;rw[zgm l.1]at c d;by_cases g:i<p
 ·rw[ia g]at c;by_cases j:k<p
  ·rw[ia j]at d;exact m i k a b n c d
  ·rw[ka j]at d;by_cases f:k=p
   ·rw[ia f]at d;cases d;exact l.2.1 i a g c
   ·rw[ka f]at d;exact m i (k - 1) a b (by omega) c d
 ·rw[ka g]at c;have j:¬ k<p:=by omega
  rw[ka j,ka (by omega)]at d;by_cases f:i=p
  ·rw[ia f]at c;cases c;exact r (k - 1) b (by omega) d
  ·rw[ka f]at c;exact m (i - 1) (k - 1) a b (by omega) c d
structure ot(b:Bool)(t:zh):Prop where
 led:t.led = !b
 VI:gB t.place
 IR:t.dummies=#[]
theorem V9(j:Nat):Kw #[] j=false:=by
 unfold Kw;simp
theorem ot.put(h:ot b t)(a:¬ t.place[Vu t.place j]?=some j):ot b (t.put j).1:=by
 unfold SetTable.put;refine⟨h.led,Φ h.VI (Ő h.VI j) a,?_⟩;rw[h.IR,V9];rfl
theorem ot.plain(h:ot b t):ot b { t with plain:=p }:=⟨h.led,h.VI,h.IR⟩
theorem SZ(n:Nat):gB (Array.range n):=by
 intro i k a c e b d;have l1:=(Gd.mp b).1;have l2:=(Gd.mp d).1;simp only[Array.size_range]at l1 l2;simp[l1]at b;simp[l2]at d;omega
theorem ot.FD(h:ot b t)(n:Nat):ot b (t.standIn n):=⟨h.led,SZ n,rfl⟩
theorem ot.or(h:ot b t)(n:Nat):ot b (t.orStandIn n):=by
 unfold SetTable.orStandIn;split
 ·exact h
 ·exact h.FD n
theorem ot.fresh(b:Bool):ot b (Wu 0 0 (!b)):=⟨rfl,λi k a c _ d _=>by simp[Wu]at d,rfl⟩
end L4
namespace L4
open PySem PySem.Spec PyProof.Rows
section
variable{prog:Aa}{w:Wa}{K:Type}[DecidableEq K][BEq K][LawfulBEq K]{knd:KeyKind prog w K}{A:Qa}{E:Value->aa->Prop}{s:aa}{b:Bool}{a:Addr}{k:K}{x:Value}
end
section
variable{prog:Aa}{w:Wa}{A:Qa}
variable{E:Value->aa->Prop}{s:aa}
end
section
variable{prog:Aa}{w:Wa}{A:Qa}{E:Value->aa->Prop}{s:aa}
set_option maxHeartbeats 3200000 in
end
def xJ(h:Heap)(a:Addr)(c:Array (Int × Value))(b:Nat)(t:zh):Prop:=∃ o,h.get? a=some o/\o.ExactSet/\o.data=.set c b t
def eE(h:Heap)(I a:Addr)(first:Value)(i n b:Nat):Prop:=∃ o,h.get? I=some o/\o.cls=.type "set_iterator"/\o.data=.fields #[first,zf i,.ref a,zf n,zf b]
section
variable{prog:Aa}{w:Wa}{A:Qa}{E:Value->aa->Prop}{s:aa}{I a:Addr}{es:Array (Int × Value)}{ep:Nat}{t:zh}{i:Nat}
theorem eE.ty(h:eE s.heap I a first i n ep):s.TypeIs (.ref I) "set_iterator":=let ⟨o,b,c,_⟩:=h;⟨o,b,c⟩
end
section
variable{prog:Aa}{w:Wa}{A:Qa}{E:Value->aa->Prop}{s:aa}{a:Addr}{es:Array (Int × Value)}{ep:Nat}{t:zh}{i:Nat}
end
section
variable{prog:Aa}{w:Wa}{A:Qa}{E:Value->aa->Prop}{s:aa}{I a p:Addr}{es:Array (Int × Value)}{ep:Nat}{t:zh}{i:Nat}
def JL(h:Heap)(p:Addr)(a:List Nat):Prop:=∃ o n,h.get? p=some o/\o.data=.seq (a.map λ(i:Nat)=>zf i).toArray n
end
section
variable{prog:Aa}{w:Wa}{A:Qa}{I a p:Addr}{es:Array (Int × Value)}{ep:Nat}{t:zh}
theorem eE.keep(x:eE h I a first i n ep)(k:∀ o,h.get? I=some o->b.get? I=some o):eE b I a first i n ep:=let ⟨o,e,r⟩:=x;⟨o,k o e,r⟩
theorem xJ.keep(x:xJ h a es ep t)(k:∀ o,h.get? a=some o->b.get? a=some o):xJ b a es ep t:=let ⟨o,e,r⟩:=x;⟨o,k o e,r⟩
theorem JL.keep{h a:Heap}(x:JL h p b)(k:∀ o,h.get? p=some o->a.get? p=some o):JL a p b:=let ⟨o,n,e,r⟩:=x;⟨o,n,k o e,r⟩
end
end L4
namespace L4
open PySem PySem.Spec PySem.Calls PySem.W PyProof.Rows PyProof.V
section
variable{prog:Aa}{w:Wa}{A:Qa}{E:Value->aa->Prop}{s:aa}{a:Addr}{es:Array (Int × Value)}{ep:Nat}{t:zh}
end
end L4
namespace L4
open PySem PySem.Spec PyProof.Rows L2
section
variable{T:Tb}{X:Cx}
def ymh(x:D)(xs:List D):M D:=λσ=>match x,xs with
 | .ref n,[]=>(match σ[n]? with
  |some (.yc _)=>.ok .wc (σ.set n (.yc []))
  |_=>.Pb)
 |_,_=>.Pb
def XC(b:List D):M D:=λσ=>match b with
 |[x]=>(match Tj σ x with
  |some a=>.ok (.ref σ.length) (σ++[.yc a])
  |none=>.Pb)
 |_=>.Pb
theorem O7:dr T uK XC:=by
 intro E m H σ e o Q r p h
 match e with
 |[]=>exact h.elim
 |[x]=>
  unfold XC at h;dsimp only at h;cases b:Tj σ x with
  |none=>rw[b]at h;exact h.elim
  |some i=>
   rw[b]at h;obtain⟨v,n,rfl,j,k⟩:=p;subst k;obtain⟨a,d,rfl,f,g⟩:=pz r j b;refine⟨a,d,rfl,f,λl c=>?_⟩;exact h (m++[l]) (.ref l) _ (Zw c) (r.push c ⟨d,vh,Paired.Hr g λ_ _ z=>⟨z.1,La.mono (Zw c) _ _ z.2⟩⟩) (vE r)
 |_::_::_=>exact h.elim
end
section
variable{X:Cx}{pins:List (Addr × jd)}{σ:St}{H:Hp}{s:aa}
theorem _root_.L2.Za.freeze(I:Za X pins σ H s)(g:H a=some (.dK d))(e:s.heap.get? a=some i):Za X pins σ (pc H a (.vc i (.dK d))) s:=by
 have f:∀ b u,H b=some u->u≠.dK d->b≠a:=λb u q n z=>by rw[z,g]at q;exact n (Lb q).symm
 refine I.step (ch:=[]) (λ_ z=>nomatch z) (λb o _ _ _ q _=>q) (λb o _ _ _ q _=>⟨o.slots,q⟩) (λb o _ q n=>?_) (λb o _ q=>⟨o,q⟩)
  (λb xs q=>by rw[de (f b _ q (λz=>by cases z))];exact q) (λb u xs q=>by rw[de (f b _ q (λz=>by cases z))];exact q) (λb k q=>⟨#[],by rw[de (f b _ q (λz=>by cases z)),q];simp⟩) (λm j=>j) (λb u q=>?_) I.bare
 ·rw[de (λz=>by rw[z,g]at n;cases n)];exact n
 ·by_cases h:b=a
  ·subst h;rw[vh]at q;cases q;exact⟨e,I.zd b _ g⟩
  ·rw[de h]at q;exact(I.zd b u q).Zk (λc v _ z=>z) (λc z=>by rw[de (f c _ z (λy=>by cases y))];exact z) λc xs z=>by rw[de (f c _ z (λy=>by cases y))];exact z
theorem jL(I:Za X pins σ H s)(k:H a=some (.vc g (.dK b))):∃ f d c,KV b f/\g.data=.dict d c/\s.heap.DictAt (um X.prog X.w) a f c:=by
 obtain⟨e,_,_,f,h,o,d,c,j,ex,i,r⟩:=I.zd a _ k;rw[e]at j;cases j;exact⟨f,d,c,h,i,g,d,e,ex,i,r⟩
end
def Itm(d:Addr)(b:jd)(a:List (ud × V)):It:=
 ⟨λi H=>H d=some (.vc b (.dK a))/\∃ x,a[i]?=some x,λi H v c=>∃ p k x,H p=none/\v=.ref p/\a[i]?=some (k,x)/\c=pc H p (.Ka [kV k,x]),λi H=>H d=some (.vc b (.dK a))/\i=a.length⟩
theorem eR{d:Type}:∀ {c:List (d × V)} {g:List (d × Value)} (r:KV c g) (i:Nat) {k:d} {x:V},c[i]?=some (k,x)->∃ u,g[i]?=some (k,u)/\Pd x u
 |_,_,.nil,i,_,_,h=>by simp at h
 |_,_,.cons (b:=q) a b,0,k,x,h=>by
  simp only[gj,Xj]at h;obtain⟨e,f⟩:=a;rw[h]at e f;exact⟨q.2,by simp only[gj,Xj];exact uX e.symm rfl,f⟩
 |_,_,.cons a b,i+1,k,x,h=>by
  exact eR b i h
theorem SX(h:(um P w).is k v=true):Pd (kV k) v:=by
 rcases vv h with⟨i,t,rfl,rfl⟩|⟨x,t,rfl,rfl⟩
 ·exact⟨t,rfl⟩
 ·exact⟨t,rfl⟩
theorem g9{P:Aa}{w:Wa}{K:W.Frag}{l:List Ma}{kk:Nat}{S:Ce}(d e:Addr)(od:jd)(t:List (ud × V))(a0:d≠e){es:Array DictEntry}{T:Nat}(p:od.data=.dict es T) :
  gr P w K (.Tuple l kk S) (Itm d od t) [e] e (λi h=>∃ ok g,IsItemIter h e d i t.length T ok g) where
 mem:=by simp
 obj:=λi h st b c=>by
  obtain⟨ok,g,s1⟩:=st;obtain rfl:b=e:=by simpa using c
  exact⟨_,s1,λv z=>by cases z⟩
 keep:=λi h h' st k=>by
  obtain⟨ok,g,s1⟩:=st;exact⟨ok,g,k e (by simp) _ s1⟩
 item:=by
  intro X G R F U i y s σ H E I B st M;subst G R F;obtain⟨L,⟨k,x⟩,Z⟩:=M;obtain⟨vs,D,C,a,j,O⟩:=jL I L;rw[p]at j;cases j;obtain⟨u,hu,ru⟩:=eR a i Z;obtain⟨ok,g,s1⟩:=st;rw[a.length]at s1;refine wpAny_pyNext_items_item s1 O hu λf h' n ho hT a1 hk=>?_;have m:s.heap.objs.size≠e:=fh (za s1);refine⟨.ref s.heap.objs.size,rfl,wpAny_letOwnedTupleGo_items ho λh2 N r=>?_⟩;have hn:H s.heap.objs.size=none:=I.zd.fresh (ya _);have J:h2.get? s.heap.objs.size=some { cls:=.type "tuple",data:=.seq #[f,u] }:=r.extBut _ _ m hT;refine⟨.ref s.heap.objs.size,pc H s.heap.objs.size (.Ka [kV k,x]),I.sv (λb o c q=>r.extBut b o (λz=>c (by simp[z])) (hk b o (λz=>c (by simp[z])) q)) B (ya _) ?_,rfl,⟨_,k,x,hn,rfl,Z,rfl⟩,⟨f,u,by rw[a.length];exact N⟩,λb c=>?_⟩
  ·exact⟨(show 2<=sizeLine by decide),[f,u],.cons (SX n) (.cons ru .nil),⟨_,J,rfl,_,rfl⟩⟩
  ·obtain rfl:b=e:=by simpa using c
   rw[de (λz=>m z.symm)];exact(B b c).1
 done:=by
  intro X G R F U i y s σ H E I B st M;subst G R F;obtain⟨L,Y⟩:=M;obtain⟨vs,D,C,a,j,O⟩:=jL I L;rw[p]at j;cases j;obtain⟨ok,g,s1⟩:=st;rw[a.length]at s1 Y;exact wpAny_pyNext_items_end (I.ok.hd U) s1 O (by rw[Y];simp) λh' eb=>⟨rfl,I.Cv (t':=s.toks) (its:=[e]) (λb o c q=>eb b o (λz=>c (by simp[z])) q) B⟩
 self:=λA i s Q E st h=>by
  obtain⟨ok,g,s1⟩:=st;exact W.kcp_self s1 h
def ap(l a:Addr):Heap->Prop:=λh=>h.IsItemsView l a
def B2:V->List V->Hp->VK->Prop:=λx xs H Q=>∃ a b,x=.ref a/\xs=[]/\Rd H a (.dK b)/\∀ l,H l=none->Q (.ref l) (pc H l (.ext (ap l a)))
theorem dG(h:H a=some o):pc H a o=H:=by
 funext b;unfold pc;split
 ·next e=>rw[e,h]
 ·rfl
theorem SJ(h:Heap)(o:jd)(a:o.data≠.freed):(h.push o).get? h.objs.size=some o:=by
 obtain⟨c,d,x,b⟩:=o;simp[Heap.get?,Heap.push];cases x<;>first|rfl|exact absurd rfl a
section
variable{T:Tb}{X:Cx}{elts:List Ma}{kk:Nat}{p0:Ce}
theorem BU:yu X "dict.items" B2:=by
 intro f s st H x A v y Q I n m h;obtain⟨a,j,rfl,rfl,g,q⟩:=h;cases n;cases m;obtain⟨z,i,r,l,d⟩:=xx I.zd g;refine Cp Hi d.typeIs PySem.F.entry_dict_items (PySem.F.args_dict_items_1 _) (meets_dict_items (um X.prog X.w) a i) ⟨⟨r,d⟩,?_⟩;refine⟨.ref s.heap.objs.size,_,I.laid (λb o e=>na _ e) (ya _) ?_,rfl,q _ (I.zd.fresh (ya _))⟩;refine⟨⟨_,SJ _ _ (λz=>by cases z),rfl,rfl⟩,⟨_,SJ _ _ (λz=>by cases z)⟩,λt u p k=>?_⟩;obtain⟨o,e,c⟩:=p;exact⟨o,k o e,c⟩
def Ğ(e:TE):TI:=λf H R=>e f H λv c=>∃ l a b,v=.ref l/\c l=some (.ext (ap l a))/\Rd c a (.dK b)/\∀ d,c a=some (.dK b)\/c a=some (.vc d (.dK b))->R (Itm a d b) (pc c a (.vc d (.dK b)))
theorem RS(B:PE X f t):PI X (.Tuple elts kk p0) f (Ğ t):=by
 intro i s σ H R I h;refine pe (B i s σ H _ I h) λv s1 zz=>?_;obtain⟨x,H1,k,F,E⟩:=zz;obtain⟨l,a,c,rfl,C,d,q⟩:=E;cases F;obtain⟨g,p,m⟩:∃ g,(H1 a=some (.dK c)\/H1 a=some (.vc g (.dK c)))/\Za X i σ (pc H1 a (.vc g (.dK c))) s1:=by
  rcases d with d|⟨g,d⟩
  ·obtain⟨_,_,G,j,o,y,w,e,_⟩:=k.zd a _ d;exact⟨o,.inl d,k.freeze d e⟩
  ·exact⟨g,.inr d,by rw[dG d];exact k⟩
 obtain⟨G,y,w,j,u,r⟩:=jL m vh;have D:=(k.zd l _ C).1;have n:=Pa r.lt_size;refine wpAny_pyIter_items D r ?_;refine⟨s1.heap.objs.size,[s1.heap.objs.size],_,Itm a g c,_,rfl,m.kept (λb o e=>na _ e),g9 a _ g c n u,⟨.none,.none,by rw[j.length];exact SJ _ _ (λz=>by cases z)⟩,λb A=>?_,q g p⟩;obtain rfl:b=s1.heap.objs.size:=by simpa using A
 exact m.Zq (ya _) (m.zd.fresh (ya _))
noncomputable def Xt(a:List (ud × D)):NX:=λi _=>match a[i]? with
 |some p=>some (some (.Ka [sE p.1,p.2]))
 |none=>if i=a.length then some none else none
def LF(d:D):M NX:=λσ=>match d with
 | .yc ks xs=>if ks.length=xs.length then .ok (Xt (ks.zip xs)) σ else .Pb
 |_=>.Pb
def AA(f:Ev->M D):Ev->M NX:=λa=>Fd (f a) LF
theorem yW(k:ud):La T a H (sE k) (kV k):=by
 cases k<;>(unfold sE kV;rw[La])
theorem MW(d:H a=some (.dK c)):ie μ H μ (pc H a (.vc od (.dK c))):=by
 have f:∀ b u,H b=some u->u≠.dK c->b≠a:=λb u q n z=>by rw[z,d]at q;exact n (Lb q).symm
 refine⟨⟨[],by simp⟩,λp xs h=>by rw[de (f p _ h (λz=>by cases z))];exact h,λp o u h=>by rw[de (f p _ h (λz=>by cases z))];exact h,λp o h n=>⟨?_,n⟩⟩;by_cases e:p=a
 ·subst e;rw[d]at h;cases h;exact⟨_,vh,.inr (.inl ⟨od,c,rfl,rfl⟩)⟩
 ·exact⟨o,by rw[de e];exact h,.inl rfl⟩
theorem aN{c e:Type}{R:c->e->Prop}:∀ {xs:List c} {d:List e},Paired R xs d->∀ (i:Nat) {x:c},xs[i]?=some x->∃ y,d[i]?=some y/\R x y
 |_,_,.nil,i,_,h=>by simp at h
 |_,_,.cons a b,0,x,h=>by
  simp only[gj,Xj]at h ⊢;subst h;exact⟨_,rfl,a⟩
 |_,_,.cons a b,i+1,x,h=>by
  exact aN b i h
theorem tM(h:FE T X e f)(n:ee e "items" X.env (Yb e X.env)=Yb e X.env:=by rfl)(t:(k.endLine == m.line)=true:=by rfl) :
  Ay T X (.Tuple elts kk p0) (.Call (.Attribute e "items" k) [] [] m) (AA f):=by
 intro J s st H R I hw;refine RS (CV Eg Hi aq BU h n t) J s st H R I ?_;obtain⟨μ,ρ,σ,hE,hr,hp⟩:=hw;refine⟨μ,ρ,σ,hE,hr,hp.bind λd K g v j _ e1 r1 q1 x=>?_⟩;unfold LF at x;cases d with
 |yc ks xs=>
  dsimp only at x;by_cases Y:ks.length=xs.length
  ·rw[ia Y]at x;obtain⟨a,c,rfl,hn,o,P,S⟩:=q1;refine⟨⟨a,c,rfl,o⟩,a,c,rfl,rfl,o,λl u=>?_⟩;have U:a≠l:=by rcases o with o|⟨_,o⟩<;>exact kq o u
   have O:Rd (pc j l (.ext (ap l a))) a (.dK c):=by unfold Rd;rw[de U];exact o
   refine⟨l,a,c,rfl,vh,O,λC B=>?_⟩;have x1:ie g j g (pc j l (.ext (ap l a))):=Wl u;have A:Sd T g (pc j l (.ext (ap l a))) K:=r1.fresh u;obtain⟨x2,V⟩:ie g j g (pc (pc j l (.ext (ap l a))) a (.vc C (.dK c)))/\Sd T g (pc (pc j l (.ext (ap l a))) a (.vc C (.dK c))) K:=by
    rcases B with B|B
    ·have y:=MW (μ:=g) (od:=C) B;exact⟨x1.trans y,A.keep y (λb L=>de (λz=>hn (by rw[<-z];exact L))) (A.tb.out (λb L=>de L) (.inr ⟨_,B⟩))⟩
    ·rw[dG B];exact⟨x1,A⟩
   have h3:pc (pc j l (.ext (ap l a))) a (.vc C (.dK c)) a=some (.vc C (.dK c)):=vh;refine gc.here (gc.mono x2 x) V λa0 H2 a1 i ex r2=>?_;have W:=ex.vc _ _ _ h3;have G:=Dl.mono (x2.trans ex) (IF P S);unfold Xt;cases ei:(ks.zip xs)[i]? with
   |none=>
    by_cases N:i=(ks.zip xs).length
    ·rw[ia N];exact⟨W,by rw[N];exact Paired.length G⟩
    ·rw[ka N];trivial
   |some p=>
    obtain⟨q,Z,Q,rx⟩:=aN G i ei;refine⟨⟨W,q,Z⟩,λz H' y=>?_⟩;obtain⟨r,k',x',w,rfl,E,rfl⟩:=y;rw[Z]at E;cases E;refine⟨Wl w,r2.fresh w,?_⟩;rw[La,Q];exact⟨r,_,rfl,vh,Db.cons (yW _) (Db.cons (La.mono (Wl w) _ _ rx) Db.nil)⟩
  ·rw[ka Y]at x;exact x.elim
 |_=>exact x.elim
end
def El(nx:NX)(n:Nat)(e:D->Ev->Option Ev)(fi:Ev->M Bool)(b:Ev->M D):Nat->Nat->Ev->M Unit
 |0,_,_=>Pb
 |k+1,i,ρ=>λσ=>match nx i σ with
  |none=>.Pb
  |some none=>.ok () σ
  |some (some d)=>match e d ρ with
   |none=>.Pb
   |some a=>Fd (vp (fi a)) (λc=>if c=true then Fd (vp (b a)) λy=>Fd (Mn (.ref n) [y]) λ_=>El nx n e fi b k (i+1) a else El nx n e fi b k (i+1) a) σ
def kH(b:D->Ev->Option Ev)(fi:Ev->M Bool)(a:Ev->M D)(ρ:Ev)(nx:NX):M D:=λσ=>
 Fd (El nx σ.length b fi a 1001 0 ρ) (λ_=>ret (.ref σ.length)) (σ++[.la []])
def pj(a:Ev->M NX)(d:List Nat)(e:D->Ev->Option Ev)(fi:Ev->M Bool)(c:Ev->M D):Ev->M D:=λb=>Fd (a b) (kH e fi c (Av d b))
section
variable{T:Tb}{X:Cx}
theorem eV {st:St}
  (hc:X.Da=true) (L:fo X x M' ix a)
  (d7:∀ cl C O G ex,FG T (Du X (x::z0::M') a cl C O G ex) a9 S)
  (d4:∀ cl C O G ex,ZE T (Du X (x::z0::M') a cl C O G ex) b2 fi)
  (c6:∀ cl C O G ex,FE T (Du X (x::z0::M') a cl C O G ex) b1 H)
  (I3:Za X b6 st H3 s3) (c7:∀ b∈fp,Wm X b6 H3 b/\b<s3.heap.objs.size) (d6:I.Ns s3.heap.objs.size m) (kp:∀ b o,s3.heap.get? b=some o->I.get? b=some o)
  (TT:gr X.prog X.w X.K a9 J fp it tn) (b5:tn 0 I) (so:XA T P H3 nx J) (hE:Th T P H3 ρ st) (r3:Sd T P H3 c3) (hn:P[n]?=some D0)
  (p3:gc T E (La T) P H3 (Fd (El nx n S fi H 1001 0 (Av ix ρ)) (λ_=>ret (.ref n)) c3) Q)
  (wh:∀ (s6:aa) (q:Hp) (m6:Str->Option Value),s6.heap.Ns s3.heap.objs.size m6->q s3.heap.objs.size=none->Un (gk X.stack) fp H3 q s3.heap s6.heap->s6.os=s3.os->lj X.prog X.w q s6.heap->Ii s6.gens->Q (.ref D0) q->RR (.ok .next) s6) :
  codeAny (model X.prog X.w) X.A (.compStart (.ListComp b1 [⟨a9,a4,b2,0⟩] a b9) 0 (.ref it) (.ref D0) (compEnvC a (dk X.env a.names []) s3.heap.objs.size X.env))
   RR { s3 with heap:=I,toks:=t' }:=by
 have I4:=Ĝ (z0:=z0) (t':=t') I3 L c7 d6 kp;let Y:Cx:=Du X (x::z0::M') a (dk X.env a.names []) s3.heap.objs.size s3 H3 fp;have a8:∀ {q:Hp},(∀ b∈fp,q b=none)->∀ b∈fp,Wm Y [] q b:=fun {q} hn b hb=>⟨hn b hb,(I4.ok.cz b hb).1,I4.ok.Ir b hb,.inl hb,(I4.ok.cz b hb).2,λp hp=>absurd (show p∈([]:List (Addr × jd))from hp) (by simp)⟩
 have Cm:codeAny (model X.prog X.w) X.A (.compLoop (.ListComp b1 [⟨a9,a4,b2,0⟩] a b9) 0 (.ref it) (.ref D0) Y.env) RR { s3 with heap:=I,toks:=t' }:=by
  refine codeAny_loop rfl (λk s'=>∃ i g q h t F,Za Y [] F q s'/\tn i s'.heap/\(∀ b∈fp,q b=none)/\ie P H3 g q/\Th T g q t F/\Sd T g q h/\
   gc T E (La T) g q (Fd (El nx n S fi H k i t) (λ_=>ret (.ref n)) h) Q) ?_ 1001 ⟨0,P,H3,c3,Av ix ρ,Bz ix st,I4,b5,λb hb=>(c7 b hb).1.1,ie.refl _ _,U1 ix hE,r3,p3⟩
  rintro k s' ⟨i,g,q,h,t,F,I',c9,c4,Z,b8,r',p'⟩;show wpAny _ X.A ((compTurn (.ListComp b1 [⟨a9,a4,b2,0⟩] a b9) 0 (.ref it) (.ref D0) Y.env).onRaise (λx=>do nh x Y.env;theTreesLotGoes x)) _ _ s';refine wpAny_noted ?_;refine Hc (E:=λ_ _=>False) ?_ (λ_ _ z=>z) (λ_ _ z=>z.elim);refine da (qu ?_);cases k with
  |zero=>exact p'.elim
  |succ k=>
   have b4:=so g q h i Z r';cases en:nx i h with
   |none=>
    have e1:El nx n S fi H (k+1) i t h=.Pb:=by unfold El;simp only[en]
    rw[DH (m':=Pb) e1]at p';exact p'.elim
   |some od=>
    rw[en]at b4;cases od with
    |none=>
     have e1:El nx n S fi H (k+1) i t h=.ok () h:=by unfold El;simp only[en]
     rw[DH (m':=ret ()) e1]at p';refine da (pe (TT.done Y rfl rfl rfl hc i [] s' F q (λ_ _=>False) I' (a8 c4) c9 b4) λr s6 ⟨er,I6⟩=>?_);subst er;refine ua ?_;obtain⟨m6,d5,_⟩:=I6.loc;exact wh s6 q m6 d5 I6.free I6.base I6.os I6.zd I6.bare (gc.here p' r' (by rw[La];exact⟨_,rfl,Z.get hn⟩))
    |some d=>
     refine da (pe (TT.item Y rfl rfl rfl hc i [] s' F q (λ_ _=>False) I' (a8 c4) c9 b4.1) λr s6 zz=>?_);obtain⟨u,er,h6⟩:=zz;subst er;refine da (pe h6 λ_ s7 zz=>?_);obtain⟨xv,H7,I7,r7,y7,c2,d3⟩:=zz;obtain⟨b7,d8,hd⟩:=b4.2 xv H7 y7;replace p':=gc.mono b7 p';replace b8:=b8.mono b7;replace Z:=Z.trans b7;replace r':=d8;cases et:S d t with
     |none=>
      have e1:El nx n S fi H (k+1) i t h=.Pb:=by unfold El;simp only[en,et]
      rw[DH (m':=Pb) e1]at p';exact p'.elim
     |some l=>
      have e1:El nx n S fi H (k+1) i t h=Fd (vp (fi l)) (λc=>if c=true then Fd (vp (H l)) λy=>Fd (Mn (.ref n) [y]) λ_=>El nx n S fi H k (i+1) l else El nx n S fi H k (i+1) l) h:=by
       conv=>lhs;unfold El
       simp only[en,et]
      rw[DH e1,FJ]at p';have d1:=I7.pinned (a8 d3) (TT.obj _ _ c2);refine da (pe (d7 _ _ _ _ _ _ s7 F H7 xv u (λN H8=>H8=H7/\Th T g H7 l N) d1 r7 ⟨g,h,t,d,l,b8,r',hd,et,λN a3=>⟨rfl,a3⟩⟩) λ_ s8 zz=>?_);obtain⟨N,H8,I8,d2,a3⟩:=zz;subst d2;refine da (pe (d4 _ _ _ _ _ _ s8 N H8 (λc H9=>∃ V a0,ie g H8 V H9/\Sd T V H9 a0/\gc T E (La T) V H9 (Fd (if c=true then Fd (vp (H l)) λy=>Fd (Mn (.ref n) [y]) λ_=>El nx n S fi H k (i+1) l else El nx n S fi H k (i+1) l) (λ_=>ret (.ref n)) a0) Q) I8
       ⟨g,l,h,a3,r',p'.wv λc a0 V c' H9 _ e9 r9 q9 p9=>by cases q9;exact⟨V,a0,e9,r9,p9⟩⟩) λc s9 ⟨H9,I9,V,a0,e9,r9,p9⟩=>?_)
      have a2:∀ {a7:aa} {s:Hp} {f:List Addr} {j:Ta},Za Y ([]++OC fp s7.heap) N s a7->ie g H8 f s->Sd T f s j->gc T E (La T) f s (Fd (El nx n S fi H k (i+1) l) (λ_=>ret (.ref n)) j) Q->
        ∃ m,m<k+1/\∃ i g q h t F,Za Y [] F q a7/\tn i a7.heap/\(∀ b∈fp,q b=none)/\ie P H3 g q/\Th T g q t F/\Sd T g q h/\gc T E (La T) g q (Fd (El nx n S fi H m i t) (λ_=>ret (.ref n)) h) Q:=by
       intro a7 s f j a1 W a6 a5;refine⟨k,pd _,i+1,f,s,j,l,N,a1.Qk,TT.keep _ _ _ c2 (λb hb o e=>(a1.pin (b,o) (Ya _ (Ya _ (qF hb e)))).1),λb hb=>?_,Z.trans W,a3.mono W,a6,a5⟩;obtain⟨o,e,_⟩:=TT.obj _ _ c2 b hb;exact(a1.pin (b,o) (Ya _ (Ya _ (qF hb e)))).2.1
      cases c with
      |false=>
       exact ua ⟨rfl,a2 I9 e9 r9 p9⟩
      |true=>
       rw[ia rfl,FJ]at p9;refine da (da (pe (c6 _ _ _ _ _ _ s9 N H9 (λv U=>∃ y B R,ie g H8 B U/\Sd T B U R/\La T B U y v/\gc T E (La T) B U (Fd (Mn (.ref n) [y]) (λ_=>Fd (El nx n S fi H k (i+1) l) (λ_=>ret (.ref n))) R) Q) I9
        ⟨V,l,a0,a3.mono e9,r9,p9.wv λy R B v U _ b0 c1 c0 b3=>⟨y,B,R,e9.trans b0,c1,c0,by rw[FJ]at b3;exact b3⟩⟩) λw d9 ⟨v,U,d0,c8,y,B,R,b0,c1,c0,b3⟩=>?_))
       have c5:=Ā (Q:=λ_ s=>∃ f j,ie g H8 f s/\Sd T f s j/\gc T E (La T) f s (Fd (El nx n S fi H k (i+1) l) (λ_=>ret (.ref n)) j) Q) c1 ((Z.trans b0).get hn) c0
        (b3.bind λ_ j f e0 s _ W a6 e2 a5=>⟨f,j,b0.trans W,a6,a5⟩)
       refine da (pe (MB (X:=Y) _ d9 N U (.ref D0) [v] (.ref D0) [w] _ d0 rfl (.cons c8 .nil) c5) λ_ a7 zz=>?_);obtain⟨e0,s,a1,_,f,j,W,a6,a5⟩:=zz;exact ua (ua ⟨rfl,a2 a1 W a6 a5⟩)
 exact codeAny_compStart_list Cm (TT.self X.A 0 _ _ _ b5 Cm)
theorem Iq{V:Ev->M D}
  (hc:X.Da=true) (L:fo X x M' ix a) (K:Ay T X z k P)
  (a3:∀ cl C d c ex,FG T (Du X (x::z0::M') a cl C d c ex) z tg)
  (Z:∀ cl C d c ex,ZE T (Du X (x::z0::M') a cl C d c ex) O fi)
  (E:∀ cl C d c ex,FE T (Du X (x::z0::M') a cl C d c ex) A V)
  (hs:∀ y,xh k X.env y=pure y:=by intro _;rfl) :
  FE T X (.ListComp A [⟨z,k,O,0⟩] a a5) (pj P ix tg fi V):=by
 intro u s st H Q I h;obtain⟨S,ρ,σ,hE,hr,hp⟩:=h;refine wu rfl hs (zJ X.env a (kA I L)) L.kind (λy hy e=>?_) ?_
 ·have q:=Vb.mp L.names y hy;rw[e]at q;exact eq_of_beq q
 have h1:=K u s st H (λJ l=>∃ nx f g,ie S H f l/\Sd T f l g/\XA T f l nx J/\gc T (XE X st) (La T) f l (Fd (El nx g.length tg fi V 1001 0 (Av ix ρ)) (λ_=>ret (.ref g.length)) (g++[Ob.la []])) Q) I
  ⟨S,ρ,σ,hE,hr,hp.bind λnx a7 a6 J H1 _ e1 r1 q1 p1=>⟨nx,a6,a7,e1,r1,q1,p1⟩⟩
 refine pe h1 λv s1 h2=>pe h2 λa8 s2 h3=>?_;obtain⟨it,fp,tn,J,l,rfl,I2,TT,R,f2,nx,f,g,U,r2,so,p2⟩:=h3;refine pf (km (QD L) (by intro y hy;simp at hy) (λN p t=>?_) L.kind);have I3:=I2.kz (t':=s2.toks) .nil (by simp);have B:l s2.heap.objs.size=none:=I2.zd.fresh (ya _);have r3:=r2.push (ob:=.la []) B ⟨[],vh,Db.nil⟩;have w:ie f l (f++[s2.heap.objs.size]) (pc l s2.heap.objs.size (.la [])):=Zw B;have a2:s2.heap.objs.size<(s2.heap.push { cls:=.type "list",data:=.seq [].toArray }).objs.size:=by rw[Vg];exact pd _
 have kp:∀ b o,(s2.heap.push { cls:=.type "list",data:=.seq [].toArray }).get? b=some o->N.get? b=some o:=λb o e=>t.extBut b o (Pa (za e)) (na _ e);have j:∀ b∈fp,Wm X u (pc l s2.heap.objs.size (.la [])) b/\b<(s2.heap.push { cls:=.type "list",data:=.seq [].toArray }).objs.size:=λb m=>by
  obtain⟨o,e,_⟩:=TT.obj 0 _ R b m;have lt:=za e;exact⟨⟨by rw[de (Pa lt)];exact(f2 b m).1,(f2 b m).2⟩,Xs lt a2⟩
 refine eV (n:=g.length) (D0:=s2.heap.objs.size) hc L a3 Z E I3 j p kp TT (TT.keep 0 _ _ R λb m o e=>kp b o (na _ e))
  (λS H σ i ex r=>so S H σ i (w.trans ex) r) ((hE.mono U).mono w) r3 (by rw[<-r2.len];simp) (p2.mono w) (λs6 H' m6 a0 W a4 a1 F Y hq=>⟨m6,a0,λh7 G=>?_⟩)
 have hu:=ς a4 G (ya _);have I7:=L2.Za.iv (s':={ s6 with heap:=h7 }) (ch:=fp) I3 a1 hu (w8 F G W) Y (λb m=>⟨(j b m).1.2.2.2.1,(j b m).1.2.1,(j b m).1.2.2.2.2.1,(j b m).1.2.2.2.2.2⟩);exact⟨.ref s2.heap.objs.size,H',I7,rfl,hq⟩
end
def ED(K:W.Frag)(b:Str->Option Value)(x:Str)(c:List Str):Prop:=∃ a,b x=some (.ref a)/\QB K a c
noncomputable def dA:List Value->List Str->Bool
 |[],[]=>true
 | .str y _::a,x::ss=>(y == x) && dA a ss
 |_,_=>false
def lN(K:W.Frag)(a:Addr)(ss:List Str):Bool:=match K.lookup a with
 |some o=>(o.cls == .type "tuple") && (match o.data with
  | .seq b _=>decide (b.size<=sizeLine) && dA b.toList ss
  |_=>false)
 |none=>false
theorem zU:∀ {a:List Value} {ss:List Str},dA a ss=true->ue (ss.map V.str) a
 |[],[],_=>.nil
 |[],_::_,h=>by simp[dA]at h
 |v::a,[],h=>by cases v<;>simp[dA]at h
 |v::a,x::ss,h=>by
  cases v with
  |str y t=>
   simp only[dA,Ca]at h;obtain rfl:=eq_of_beq h.1;exact .cons ⟨t,rfl⟩ (zU h.2)
  |_=>simp[dA]at h
theorem QB.of{K:W.Frag}(h:lN K a ss=true):QB K a ss:=by
 unfold lN at h;cases e:K.lookup a with
 |none=>rw[e]at h;cases h
 |some o=>
  rw[e]at h;simp only[Ca]at h;obtain⟨f,b⟩:=h;cases c:o.data with
  |seq d n=>
   rw[c]at b;simp only[Ca,jc]at b;exact⟨o,d,n,e,eq_of_beq f,c,b.1,zU b.2⟩
  |_=>rw[c]at b;cases b
def vF(a:Bool)(ss:List Str)(x:D):M D:=λσ=>match x with
 | .str z=>.ok (.bl (if a then !bB (.str z) (ss.map V.str)else bB (.str z) (ss.map V.str))) σ
 |_=>.Pb
section
variable{T:Tb}{X:Cx}{e:Ma}{f:Ev->M D}{x:Str}{p pos:Ce}{ss:List Str}
theorem R1(ss:List Str):(ss.map V.str).all qj=true:=by simp[qj]
theorem R5(i:QB X.K a ss){st:St}(h:tF T X (Cd (vF b ss) f) st H Q):GB (GG X.K b) (tF T X f) (tC (.ref a)) st H Q:=by
 obtain⟨m,ρ,σ,g,k,j⟩:=h;refine⟨m,ρ,σ,g,k,j.bind λd o n v p _ q l e c=>?_⟩;cases d with
 |str z=>rw[La]at e;subst e;exact⟨a,ss.map V.str,rfl,.inr (.inr i),rfl,R1 ss,gc.here c l (by rw[La])⟩
 |_=>exact c.elim
theorem L8(m:Gl X x)(i:ED X.K X.mg x ss)(c:FE T X e f)(l:(x == ("__debug__" : Str))=false:=by decide):FT T X (.Compare e [.In] [.Name x p] pos) (eT (Cd (vF false ss) f)):=by
 obtain⟨a,n,j⟩:=i;intro b s st H Q I h;refine HJ SH c (zL m n (v:=.ref a) rfl l) rfl b s st H Q I ?_;refine R5 j ?_;obtain⟨y,ρ,σ,c,r,o⟩:=h;refine⟨y,ρ,σ,c,r,o.bind λd A z v B _ C w t u=>?_⟩;obtain⟨k,g,q⟩:=eM t u;exact⟨k,g,q.here w rfl⟩
end
section
variable{T:Tb}{X:Cx}
def qH(a:List (ud × D))(k:ud):List (ud × D):=a.filter λb=>decide (b.1≠k)
theorem OP{e:List Addr}{H:Hp}(k:ud):∀ {c:List (ud × D)} {us:List (ud × V)},Dl T e H c us->Dl T e H (qH c k) (Kx us k)
 |[],_,h=>by unfold Dl at h;cases h;exact .nil
 |p::c,_,h=>by
  cases h with
  |@cons _ q _ us a b=>
   have d:=OP k b;unfold qH Kx at *;rw[ye,ye,a.1];split
   ·exact .cons a d
   ·exact d
def EO:V->List V->Hp->VK->Prop:=λx c H Q=>∃ a b k v,x=.ref a/\c=[kV k]/\H a=some (.dK b)/\En b k=some v/\Q v (pc H a (.dK (Kx b k)))
theorem vY:yu X "dict.pop" EO:=by
 intro b s st H x o v n Q I l j h;obtain⟨a,f,k,y,rfl,rfl,d,e,q⟩:=h;cases l;obtain⟨u,rfl,i⟩:=j.one;exact Ê I d i e (.inl rfl) λp m c g=>⟨y,_,c,g,q⟩
def Lz(x:D)(xs:List D):M D:=λσ=>match x,xs with
 | .ref n,[y]=>(match Ip y with
  |some k=>(match σ[n]? with
   |some (.yc a)=>(match Rp a k with
    |some d=>.ok d (σ.set n (.yc (qH a k)))
    |none=>.Pb)
   |_=>.Pb)
  |none=>.Pb)
 |_,_=>.Pb
theorem K3:Rz T EO Lz:=by
 intro E g H σ x xs v C Q r p q h;cases x with
 |ref n=>
  match xs with
  |[]=>exact h.elim
  |[y]=>
   unfold Lz at h;cases b:Ip y with
   |none=>simp only[b]at h;exact h.elim
   |some k=>
    simp only[b]at h;cases c:σ[n]? with
    |none=>rw[c]at h;exact h.elim
    |some ob=>
     rw[c]at h;cases ob with
     |yc d=>
      dsimp only at h;obtain⟨a,rfl,l,o,i,j⟩:=r.at p c;obtain⟨w,z,rfl,t,m⟩:=q;rw[Db]at m;subst m;obtain rfl:=WA t b;rcases jB j k with⟨f,_⟩|⟨B,s,f,u,A⟩
      ·rw[f]at h;exact h.elim
      ·rw[f]at h;have ex:ie g H g (pc H a (.dK (Kx o k))):=Nv (Fa l) i (λ_ z=>by cases z) (λ_ _ z=>by cases z);have e:=r.write (ob:=.yc (qH d k)) l ⟨_,vh,Dl.mono ex (OP k j)⟩;exact⟨a,o,k,s,rfl,rfl,i,u,h g s _ e.1 e.2 (La.mono e.1 _ _ A)⟩
     |la _=>exact h.elim
     |Jd _ _=>exact h.elim
     |Sf _=>exact h.elim
     |vl _=>exact h.elim
  |_::_::_=>exact h.elim
 |_=>cases xs<;>exact h.elim
end
theorem ŏ{K:W.Frag}(X:K.In h)(G:h.Ns mainGlobals c)(a:W.nsIn K mainGlobals x=some (some (.ref C)))(b:lN K C d=true):ED K c x d:=⟨C,W.mg_of X G a,QB.of b⟩
section
variable{T:Tb}{X:Cx}
end
section
variable{T:Tb}{X:Cx}
end
section
variable{prog:Aa}{w:Wa}{A:Qa}{E:Value->aa->Prop}{l q I S:Addr}{n:Nat}{P:Nat->Value->Prop}{R:zA->aa->Prop}{Q:Value->aa->Prop}
theorem š(G:Nat->Value->Int->aa->Prop)(hh:A.handled=none)(Z:l≠I)(H:S≠I)(a8:l≠S)
  (hl:∀ j d a s,G j d a s->∃ y:List Value,y.length=n/\(∀ (j:Nat) v,y[j]?=some v->P j v)/\s.heap.IsList l y.toArray)
  (u:∀ j d a s B tk,G j d a s->(∀ b o,b≠I->b≠S->s.heap.get? b=some o->B.get? b=some o)->G j d a { s with heap:=B,toks:=tk })
  (a5:∀ j d a s v oI oS,G j d a s->P j v->s.heap.get? I=some oI->s.heap.get? S=some oS->(∀ v,oI.data≠.cell v)->(∀ v,oS.data≠.cell v)->
   wpAny (model prog w) A.in1 (call (.ref q) [v]) (λx s'=>∃ k t,x=.int k t/\s'.heap.get? I=some oI/\s'.heap.get? S=some oS/\G (j+1) (if k<a then v else d) (if k<a then k else a) s') (λ_ _=>False) s)
  (hR:∀ d a s,G n d a s->R (.ok (.ret d)) s) :
  ∀ (r j:Nat) (s:aa) (d:Value) (a:Int) (tb:Tok) (c:Nat),n - j=r->j<=n->G j d a s->s.heap.get? S=some (sm "list" #[d,.int a tb] c)->s.heap.IsListIter I l j->
   codeAny (model prog w) A (.builtin "min.loop" ⟨[.ref I,.ref q,.ref S],[]⟩) R s:=by
 have a7:(toString "min"++toString ".loop" : String) = "min.loop":=by decide
 intro r;induction r with
 |zero=>
  intro j s d a tb c hr hj g V hit;have X:j=n:=by omega
  obtain⟨y,O,a3,K⟩:=hl j d a s g;have W:=Bp (prog:=prog) (w:=w) (A:=A.in1) hh I l Z y.toArray;have N:y.toArray.size=n:=(wa ..).trans O;refine xi Zi ?_;rw[Around.under_plainId yf _];show wpAny _ A.in1 (seqItems? (.ref S) >>= _) _ _ _;refine da (Zs V rfl ?_);show wpAny _ A.in1 (tryCatch (pyNext (.ref I)) _ >>= _) _ _ _;refine da (Ef (W.done _ _ _ ⟨by rw[N,<-X];exact hit,K⟩ λB a4 J=>?_));have m:∀ b o,b≠I->s.heap.get? b=some o->B.get? b=some o:=λb o n e=>J b o (by simpa using n) e;have D:=m S _ H V;have s1:=ij B S (Qg λ_=>(#[]:Array Value));refine da ?_;refine Lr D rfl (da (Tq (ua ?_)));subst X;exact hR d a _ (u _ _ _ s _ _ g λb o n1 n2 e=>by rw[s1.2 b n2];exact m b o n1 e)
 |succ r ih=>
  intro j s d a tb c hr hj g V hit;have L:j<n:=by omega
  obtain⟨y,O,a3,K⟩:=hl j d a s g;have W:=Bp (prog:=prog) (w:=w) (A:=A.in1) hh I l Z y.toArray;have N:y.toArray.size=n:=(wa ..).trans O;refine xi Zi ?_;refine da (Zs V rfl ?_);refine da (Ef (W.item j _ _ _ (by rw[N];exact L) ⟨hit,K⟩ λv B a4 hP a2 J=>?_));have m:∀ b o,b≠I->s.heap.get? b=some o->B.get? b=some o:=λb o n e=>J b o (by simpa using n) e;have hv:P j v:=a3 j v (by simpa using hP);obtain⟨Q,a0,a1,M⟩:=id a2.1;have g1:=u _ _ _ s B a4 g λb o n1 n2 e=>m b o n1 e;have D:=m S _ H V;refine da (Ef (Qd (Hc (a5 j d a _ v Q _ g1 hv a0 D (λv z=>by rw[M]at z;cases z) (λv z=>by cases z)) (λx p he=>?_) λ_ _ hF=>hF.elim)));obtain⟨C,T,rfl,U,E,g2⟩:=he;have Y:p.heap.IsListIter I l (j+1):=⟨Q,U,a1,M⟩
  refine da (Ef (Qd (da (Uy (prog:=prog) (w:=w) (A:=A.in1) (P:=λ(i:Nat) v=>∃ t,v=.int (if i=0 then C else a) t) (λi=>if i=0 then C else a) (λi v h=>h) 0 1 _ _ _ _ _ ⟨T,rfl⟩ ⟨tb,rfl⟩ ?_))));refine da (Qd (Td ?_));refine da (Tq (ua ?_));by_cases f:C<a
  ·have s1:=ij p.heap S (Qg λ_=>#[v,.int C T]);obtain⟨c2,a6⟩:∃ c2,(p.heap.update S (Qg λ_=>#[v,.int C T])).get? S=some (sm "list" #[v,.int C T] c2):=⟨_,OI E λ_=>#[v,.int C T]⟩
   rw[ia f,ia f]at g2;simp only[f,decide_true,xg,Vy,yi];refine da ?_;refine Lr E rfl (da (Tq ?_));refine ua ⟨Dj yf _,ih (j+1) _ v C T c2 (by omega) L (u _ _ _ p _ _ g2 λb o n1 n2 e=>by rw[s1.2 b n2];exact e) a6 ⟨Q,(s1.2 I H.symm).trans U,a1,M⟩⟩
  ·rw[ka f,ka f]at g2;simp only[f,decide_false,Kg,yi,xg,Vy];refine da (Tq ?_);exact ua ⟨Dj yf _,ih (j+1) _ d a tb c (by omega) L (u _ _ _ p _ _ g2 λb o _ _ e=>e) E Y⟩
theorem zt7(T:aa->Prop)(G:Addr->Addr->Nat->Value->Int->aa->Prop)(hh:A.handled=none)(g0:T s){f:List Value}(a7:f.length=n)(a6:∀ (j:Nat) v,f[j]?=some v->P j v)(h:s.heap.IsList l f.toArray)(H:0<n)
  (V:∀ s h' tk,T s->(∀ b o,s.heap.get? b=some o->h'.get? b=some o)->T { s with heap:=h',toks:=tk })
  (first:∀ (I S:Addr) (s1:aa) v oI oS,s.heap.objs.size<=I->s.heap.objs.size<=S->S≠I->(∃ s0,T s0/\(∀ b o,b≠I->s0.heap.get? b=some o->s1.heap.get? b=some o)/\(s1={ s0 with heap:=s1.heap,toks:=s1.toks }))->P 0 v->s1.heap.get? I=some oI->s1.heap.get? S=some oS->(∀ v,oI.data≠.cell v)->(∀ v,oS.data≠.cell v)->
   wpAny (model prog w) A.in1 (call (.ref q) [v]) (λx i=>∃ k t,x=.int k t/\i.heap.get? I=some oI/\i.heap.get? S=some oS/\G I S 1 v k i) (λ_ _=>False) s1)
  (hl:∀ I S j c a s,G I S j c a s->∃ f:List Value,f.length=n/\(∀ (j:Nat) v,f[j]?=some v->P j v)/\s.heap.IsList l f.toArray)
  (D:∀ I S j c a s h' tk,G I S j c a s->(∀ b o,b≠I->b≠S->s.heap.get? b=some o->h'.get? b=some o)->G I S j c a { s with heap:=h',toks:=tk })
  (R:∀ I S j c a s v oI oS,G I S j c a s->P j v->s.heap.get? I=some oI->s.heap.get? S=some oS->(∀ v,oI.data≠.cell v)->(∀ v,oS.data≠.cell v)->
   wpAny (model prog w) A.in1 (call (.ref q) [v]) (λx i=>∃ k t,x=.int k t/\i.heap.get? I=some oI/\i.heap.get? S=some oS/\G I S (j+1) (if k<a then v else c) (if k<a then k else a) i) (λ_ _=>False) s)
  (hQ:∀ I S c a s,G I S n c a s->Q c s) :
  wpAny (model prog w) A (call (.builtin "min") [.ref l] [(jt "key",.ref q)]) Q E s:=by
 obtain⟨ol,a4,_⟩:=id h;have C:=za a4;refine kmk_tree PySem.F.kind_min PySem.F.plain_min PySem.F.entry_min (kmk_min_key _ _) ?_;refine da (wpAny_of_eq (rfl) ?_);refine da (ua ?_);refine da (Ap h ?_);refine da (MX ?_ (Sg _));have Y:(s.heap.push { cls:=.type "list_iterator",data:=.fields #[.ref l,.int 0 0] }).objs.size=s.heap.objs.size+1:=size_push' ..;have B:=Pa C;have d:(s.heap.push { cls:=.type "list_iterator",data:=.fields #[.ref l,.int 0 0] }).objs.size≠s.heap.objs.size:=by rw[Y];exact fh (pd _)
 have a2:l≠(s.heap.push { cls:=.type "list_iterator",data:=.fields #[.ref l,.int 0 0] }).objs.size:=by rw[Y];exact Pa (Pi C)
 have r:s.heap.objs.size<=(s.heap.push { cls:=.type "list_iterator",data:=.fields #[.ref l,.int 0 0] }).objs.size:=by rw[Y];exact Jh _
 refine ua ⟨Dj yf _,?_⟩;have gI:((s.heap.push { cls:=.type "list_iterator",data:=.fields #[.ref l,.int 0 0] }).push (sm "list" #[] 0)).get? s.heap.objs.size=some { cls:=.type "list_iterator",data:=.fields #[.ref l,.int 0 0] }:=
  na _ (qb _ rfl)
 have gS:((s.heap.push { cls:=.type "list_iterator",data:=.fields #[.ref l,.int 0 0] }).push (sm "list" #[] 0)).get? (s.heap.push { cls:=.type "list_iterator",data:=.fields #[.ref l,.int 0 0] }).objs.size=some (sm "list" #[] 0):=qb _ rfl;have y:∀ b o,s.heap.get? b=some o->((s.heap.push { cls:=.type "list_iterator",data:=.fields #[.ref l,.int 0 0] }).push (sm "list" #[] 0)).get? b=some o:=λb o e=>na _ (na _ e);generalize (s.heap.push { cls:=.type "list_iterator",data:=.fields #[.ref l,.int 0 0] }).objs.size=S at *;generalize ((s.heap.push { cls:=.type "list_iterator",data:=.fields #[.ref l,.int 0 0] }).push (sm "list" #[] 0))=hp at *;have W:=Bp (prog:=prog) (w:=w) (A:=A.in1) hh s.heap.objs.size l B f.toArray;have a5:=(wa ..).trans a7;refine xi Zi ?_;refine da (Zs gS rfl ?_);refine da (Ef (W.item 0 _ _ _ (by rw[a5];exact H) ⟨⟨_,gI,rfl,rfl⟩,h.at λo e=>y _ _ e⟩ λv h' a8 hP L a1=>?_));have u:=λb o n e=>a1 b o (by simpa using n) e;have hv:=a6 0 v (by simpa using hP);obtain⟨N,J,a3,K⟩:=id L.1;have Z:=u S _ d gS;refine da (Ef (Qd (Hc (first s.heap.objs.size S _ v N _ (ya _) r d ⟨{ s with heap:=hp,toks:=s.toks },V s hp _ g0 y,λb o n e=>u b o n e,rfl⟩ hv J Z (λv z=>by rw[K]at z;cases z) (λv z=>by cases z)) (λx m he=>?_) λ_ _ hF=>hF.elim)));obtain⟨M,O,rfl,X,p,g2⟩:=he;have s1:=ij m.heap S (Qg λ_=>#[v,.int M O]);obtain⟨U,a0⟩:∃ U,(m.heap.update S (Qg λ_=>#[v,.int M O])).get? S=some (sm "list" #[v,.int M O] U):=⟨_,OI p λ_=>#[v,.int M O]⟩
 refine da ?_;refine Lr p rfl ?_;exact ua ⟨Dj yf _,š (G _ _) hh B d a2 (hl _ _) (D _ _) (R _ _) (λc a s g=>hQ _ _ c a s g) _ 1 _ v M O U rfl H (D _ _ _ _ _ m _ _ g2 λb o n1 n2 e=>by rw[s1.2 b n2];exact e) a0 ⟨N,(s1.2 _ d.symm).trans X,a3,K⟩⟩
end
def xD(X:Cx)(A:Qa)(d:List Str)(b:Str)(a:Scope)(q:Addr)(c:Value)(cl:List (Str × Addr))(s₀:aa)(H₀:Hp):Cx:=
 { X with A:=A.deeper (W.envX b a s₀.heap.objs.size q c cl),N:=d,s₀:=s₀,H₀:=H₀,env:=W.envX b a s₀.heap.objs.size q c cl,outer:=X.stack,stack:=W.envX b a s₀.heap.objs.size q c cl::X.stack,ex:=[],fn:=λ_=>false,Da:=true,pn:=[],xe:=λ_ _=>False }
def GN(a:List Nat)(d:D)(b:Ev):Ev:=some d::a.map λi=>(b[i]?).getD none
def JC(a:List Nat)(v:V)(st:St):St:=some v::a.map λi=>(st[i]?).getD none
theorem yb5{st:St}(a:List Nat)(h:Th T b H c st)(e:La T b H d v):Th T b H (GN a d c) (JC a v st):=by
 have z:=(aO a h).set 0 e;exact z
section
variable{X:Cx}{pins:List (Addr × jd)}{st:St}{H:Hp}{s:aa}{x:Str}{M':List Str}{ix:List Nat}{scope:Scope}{A:Qa}{qual:Str}{q:Addr}{cd:Value}{v:V}{u:Value}
theorem dZ(I:Za X pins st H s)(L:fo X x M' ix scope)(hx:scope.names.lookup x=some .local)(hA:A.frames=some X.stack)(M:A.handled=none)(rv:Pd v u)(P:h'.Ns s.heap.objs.size m)(hm:m x=some u)
  (E:∀ b o,s.heap.get? b=some o->h'.get? b=some o) :
  Za (xD X A (x::M') qual scope q cd (dk X.env scope.names []) s H) [] (JC ix v st) H { s with heap:=h',toks:=t' }:=by
 have f:∀ n c,(dk X.env scope.names []).lookup n=some c->X.env.cells.lookup n=some c:=λn c e=>yK X.env scope.names [] n c (λ_ _ q=>by simp at q) e;have r:H s.heap.objs.size=none:=I.zd.fresh (ya _);have t:∀ b:Addr,b ∉ (xD X A (x::M') qual scope q cd (dk X.env scope.names []) s H).ex:=λb z=>absurd (show b∈[]from z) (by simp);refine⟨⟨I.ok.mod,L.kind,rfl,rfl,ya _,λa b c h1 h2=>I.ok.inj a b c (f a c h1) (f b c h2),λa ha=>?_,λa c h=>(by cases h),λ_=>M,Ur hA,.inr ⟨rfl,rfl⟩,λb J=>absurd J (t b),λb o e=>I.bs b o e,Ib I.ok.As I.sz,λb o e=>t b,λb J=>absurd J (t b),I.stack,I.Pk⟩,
  rfl,I.bare,Un.kept E,⟨m,P,λi y C S T e3=>?_⟩,λa c e=>?_,r,λa c e=>I.Ug a c (f a c e),λp hp=>absurd (show p∈[]from hp) (by simp),I.zd.kept E,?_⟩
 ·have G:scope.names.lookup a=some .cell\/scope.names.lookup a=some .free:=ha;rcases G with z|z
  ·exact absurd rfl (QD L _ (nw z))
  ·exact qE X.env scope.names [] a (nw z) (kA I L _ (nw z) rfl)
 ·cases i with
  |zero=>
   have g:some x=some y:=S;have d:some (some v)=some (some C):=T;cases g;cases d;exact⟨u,rv,.inl ⟨hx,hm⟩⟩
  |succ j=>
   have g:M'[j]?=some y:=S;have d:(ix.map λi=>(st[i]?).getD none)[j]?=some (some C):=T;rw[jb]at d;cases F:ix[j]? with
   |none=>rw[F]at d;cases d
   |some B=>
    rw[F]at d;have D:(st[B]?).getD none=some C:=Lb d;have Y:st[B]?=some (some C):=by
     cases q:st[B]? with
     |none=>rw[q]at D;cases D
     |some o=>rw[q]at D;exact cc some D
    have Z:X.N[B]?=some y:=by
     have z:=cc (λl=>l[j]?) L.at_;simp only[jb,F,g]at z;exact Lb z
    have q:=Vb.mp L.VP y (Fa g);simp only[Ca,Ig]at q;have V:X.env.scope.names.lookup y=some .cell\/X.env.scope.names.lookup y=some .free:=by
     rcases q.1 with z|z
     ·exact .inl (eq_of_beq z)
     ·exact .inr (eq_of_beq z)
    have R:scope.names.lookup y=some .free:=eq_of_beq q.2;obtain⟨m0,a0,O⟩:=I.loc;obtain⟨u2,ru,lu⟩:=O B y C Z Y (by rcases V with z|z;exact .inr (.inl z);exact .inr (.inr z));refine⟨u2,ru,.inr ⟨.inr R,?_⟩⟩;rcases lu with⟨z,_⟩|⟨_,c,ec,zc⟩
    ·rcases V with k|k
     ·rw[show X.env.kindOf y=X.env.scope.names.lookup y from rfl,k]at z;cases z
     ·rw[show X.env.kindOf y=X.env.scope.names.lookup y from rfl,k]at z;cases z
    ·obtain⟨W,w⟩:=qE X.env scope.names [] y (nw R) (kA I L _ (nw R) rfl);have U:=f y W w;rw[ec]at U;cases U;obtain⟨o,Q,K⟩:=zc;exact⟨c,w,o,E _ _ Q,K⟩
 ·obtain⟨v,o,Q,K⟩:=I.cell a c (f a c e);exact⟨v,o,E _ _ Q,K⟩
 ·have z:=cc List.length L.at_;simp[JC,xD];simpa using z
theorem Ξ(I:Za X pins st H s)(L:fo X x M' ix scope)(D:scope.names.lookup x=some .local)(N:A.frames=some X.stack)(p:A.handled=none)(n:A.depth<recursionLimit)
  (P:s.heap.get? q=some (W.kla_obj d qual a c scope (dk X.env scope.names []) F h i)) (l:s.heap.CodeRec (.ref h) qual)
  (f:bindArgs (W.kla_fn d qual a c scope (dk X.env scope.names []) F (.ref h) i) ⟨[u],[]⟩=pure [(x,u)]) (m:scope.isCoroutine=false) (j:scope.isGenerator=false) (U:Pd v u)
  (O:PE (xD X A (x::M') qual scope q (.ref h) (dk X.env scope.names []) s H) c t) (S:t (JC ix v st) H Q) :
  wpAny (model X.prog X.w) A (call (.ref q) [u]) (λr G=>CE X.stack X.prog X.w H s Q r G) (λ_ _=>False) s:=by
 refine Co (W.kla_callFunE n P rfl m j rfl l ?_);rw[f];refine ua (km (QD L) (λy T=>?_) (λE B k=>⟨?_,?_⟩) L.kind)
 ·have e:y=(x,u):=by simpa using T
  subst e;exact D
 ·exact(I.nolimit).fresh _ k
 ·have g:=λb o e=>k.extBut b o (Pa (za e)) (na _ e);refine W.kla_codeExpr ?_;have M:=dZ (qual:=qual) (q:=q) (cd:=.ref h) (t':=s.toks+1) I L D N p U B (by simp) g;refine Hc (O [] _ (JC ix v st) H Q M S) (λY G z=>?_) λ_ _ z=>z.elim;obtain⟨V,K,J,C,R⟩:=z;exact⟨V,K,J.os,J.bare,J.base,J.zd,C,R⟩
end
def JD(K:W.Frag)(c P:Addr):Bool:=match K.lookup c with
 |some o=>(match o.cls,o.data with
  | .type n,.fields a=>n == "code" && (match (a[11]?:Option Value)with|some (.ref p)=>p == P|_=>false) && (match a.getD 11 .none with | .ref p=>p == P|_=>false) && (match a.getD 18 .none with | .str _ _=>true|_=>false) &&
   (match a.getD 7 .none with | .int _ _=>true|_=>false) && (match a.getD 9 .none with | .bool _=>true|_=>false) && (match a.getD 10 .none with | .int _ _=>true|_=>false) && (c != P)
  |_,_=>false)
 |none=>false
theorem Β{K:W.Frag}(X:K.In h)(e:JD K c P=true):W.CodeHd h c P:=by
 unfold JD at e;split at e
 ·next o v=>
  split at e
  ·next n G t u=>
   simp only[Ca]at e;obtain⟨⟨⟨⟨⟨⟨⟨j,a⟩,b⟩,d⟩,f⟩,g⟩,i⟩,k⟩:=e;split at a;case h_2=>cases a
   next H l=>
   split at b;case h_2=>cases b
   next I m=>
   split at d;case h_2=>cases d
   next z D p=>
   split at f;case h_2=>cases f
   next A E q=>
   split at g;case h_2=>cases g
   next B r=>
   split at i;case h_2=>cases i
   next C F s=>
   have x:=eq_of_beq a;have y:=eq_of_beq b;subst x;subst y;have w:=eq_of_beq j;subst w;exact⟨o,G,z,D,A,E,B,C,F,X _ _ v,t,u,l,m,p,q,r,s,by simpa using k⟩
  ·cases e
 ·cases e
theorem P1{st:St}(I:Za X i st H s)(h:H P=some (.Um l))(A:Heap.ExtBut P s.heap h')(p:s.heap.objs.size<=f)(M:f<h'.objs.size)
  (r:Gu d f h') (w:h'.get? P=some (W.tabObj (l++a))) :
  Za X i st (pc (pc H P (.Um (l++a))) f (.ext (Gu d f))) { s with heap:=h',toks:=tk }:=by
 have j:=I.zd.fresh p;have B:f≠P:=λz=>by rw[z,h]at j;cases j
 have nP:∀ b,H b=none->b≠P:=λb n z=>by rw[z,h]at n;cases n
 have x:∀ b u,H b=some u->b≠P->pc (pc H P (.Um (l++a))) f (.ext (Gu d f)) b=some u:=λb u e n=>by
  rw[de (kq e j),de n];exact e
 have O:pc (pc H P (.Um (l++a))) f (.ext (Gu d f)) P=some (.Um (l++a)):=by rw[de B.symm,vh]
 refine I.un ⟨λb o e n _ _=>A b o (nP b n) e,λb o e n _ _=>⟨o.slots,A b o (nP b n) e⟩,λb o e n _=>?_,λb o e _=>?_,λb xs e=>x b _ e (λz=>by rw[z,h]at e;cases e),λb o u e=>x b _ e (λz=>by rw[z,h]at e;cases e),λb R e=>?_⟩ λb u e=>?_
 ·have:b≠f:=λz=>by subst z;exact absurd (za e) (Xv.mpr p)
  rw[de this,de (nP b n)];exact n
 ·by_cases g:b=P
  ·subst g;exact⟨_,w⟩
  ·exact⟨o,A b o g e⟩
 ·by_cases g:b=P
  ·subst g;rw[h]at e;cases e;exact⟨a,O⟩
  ·exact⟨#[],by rw[Array.append_empty];exact x b _ e g⟩
 ·by_cases m:b=f
  ·subst m;rw[vh]at e;cases e;obtain⟨o,Q,t,D,J,K⟩:=r;exact⟨⟨o,Q,t,D,J,K⟩,⟨o,D⟩,λa1 a2 ⟨N,C,t',E,F,G⟩ k=>⟨N,C,t',k _ E,F,G⟩⟩
  ·rw[de m]at e;by_cases g:b=P
   ·subst g;rw[vh]at e;cases e;exact w
   ·rw[de g]at e;refine(I.zd b u e).Zk (λc v L q=>A c v ?_ q) (λc q=>x c _ q (λz=>by rw[z,h]at q;cases q)) λc xs q=>x c _ q (λz=>by rw[z,h]at q;cases q);rcases L with z|z
    ·rw[z];exact g
    ·intro y;rw[y,h]at z;cases z
section
variable{T:Tb}{X:Cx}{pins:List (Addr × jd)}{st:St}{H:Hp}{s:aa}{μ:List Addr}{σ:Ta}{x:Str}{M':List Str}{ix:List Nat}{scope:Scope}{params:Arguments}{body:Ma}{pos:Ce}{c:Addr}{t:Tab}
structure Zx(T:Tb)(X:Cx)(t:Tab)(c:Addr)(pos:Ce):Prop where
 mem:t∈T.tx.nq
 inj:∀ t'∈T.tx.nq,t'.P=t.P->t'=t
 code:X.env.code=.ref c
 hd:JD X.K c t.P=true
 line:t.line=pos.line
 col:t.col=pos.col
 qual:t.qual=X.env.qual++"<lambda>"
 bm:X.mg "__builtins__" = some (.ref T.tx.bm)
 bb:T.tx.bm≠builtinsNs
theorem P4(I:Za X pins st H s)(L:fo X x M' ix scope)(r:Sd T μ H σ)(g:Zx T X t c pos)(M:defaultsOf params X.env=([],[])) :
  wpAny (model X.prog X.w) X.A (Yb (.Lambda params body scope pos) X.env) (λv s'=>∃ q d i B,v=.ref q/\Za X ((q,W.kla_obj "<lambda>" t.qual params body scope (dk X.env scope.names []) ((X.mg "__name__").getD .none) d i)::pins) st B s'/\ie μ H μ B/\Sd T μ B σ/\d ∉ μ/\B d=some (.ext (Gu t.qual d))) X.xe s:=by
 obtain⟨⟨b3,b5,V⟩,U,ps,E,a9⟩:=r.tb t g.mem;have j:s.heap.get? t.P=some (W.tabObj ps):=I.zd _ _ E;have l:s.heap.Ns mainGlobals X.mg:=I.ok.mod.glob.keeps I.bk;have a7:mainGlobals≠t.P:=λz=>by
  obtain⟨o,es,ep,e,hd,_⟩:=l;rw[z,j]at e;cases e;cases hd
 obtain⟨_,⟨ob,S,o2,o3,o4⟩,_⟩:=I.zd _ _ V;have G:T.tx.bm≠t.P:=λz=>by rw[z,j]at S;cases S;cases o2
 have Y:T.tx.bm≠mainGlobals:=λz=>by
  obtain⟨o,es,ep,e,hd,_⟩:=l;rw[z,e]at S;cases S;rw[hd]at o4;cases o4
 have hB:s.heap.BuiltinsAt X.mg t.P:=⟨T.tx.bm,ob,g.bm,g.bb,Y,G,S,o2,o3,o4⟩
 have K:=zJ X.env scope (kA I L);have C:W.CodeHd s.heap c t.P:=(Β I.ok.mod.Ky g.hd).keeps I.bk;have f:∀ {h':Heap} {y:Nat} {B:Hp} {o:jd},Za X pins st B { s with heap:=h',toks:=y }->o.isFreed=false->(∀ v,o.data≠.cell v)->Za X ((h'.objs.size,o)::pins) st B { s with heap:=h'.push o,toks:=y }:=fun {h' y B o} J hf hc=>by
  have J2:=J.kept (h':=h'.push o) (t':=y) λb u e=>na _ e;refine J2.Jj λp m=>?_;rcases Ea.mp m with rfl|m
  ·exact⟨qb _ hf,J.zd.fresh (ya _),fh J.lt,J.yC (ya _),hc⟩
  ·exact J2.pin p (Ya _ m)
 refine W.kla_eval M ?_;rw[<-g.qual];rcases a9 with rfl|⟨c1,rfl,Z,a0⟩
 ·refine W.kla_makeFunction K I.ok.glob l g.code C j trivial rfl a7 hB λd i h' y hx N a8 O b0=>?_;have a6:Gu t.qual d h':=by
   obtain⟨c2,o,vs,tt,e,h1,h2,h3⟩:=O;cases e;exact⟨o,vs,tt,h1,h2,h3⟩
  have J:=P1 (tk:=y) I E hx N a8 a6 b0;have k:H d=none:=I.zd.fresh N;have b1:d≠t.P:=λz=>by rw[z,E]at k;cases k
  have D:d ∉ μ:=λz=>by obtain⟨u,R,_⟩:=r.mem z;rw[k]at R;cases R
  have F:∀ b u,H b=some u->b≠t.P->pc (pc H t.P (.Um (#[]++#[zf pos.line,zf pos.col,.ref d]))) d (.ext (Gu t.qual d)) b=some u:=λb u e n=>by
   rw[de (kq e k),de n];exact e
  have uP:pc (pc H t.P (.Um (#[]++#[zf pos.line,zf pos.col,.ref d]))) d (.ext (Gu t.qual d)) t.P=some (.Um (#[]++#[zf pos.line,zf pos.col,.ref d])):=by rw[de b1.symm,vh]
  have uc:pc (pc H t.P (.Um (#[]++#[zf pos.line,zf pos.col,.ref d]))) d (.ext (Gu t.qual d)) d=some (.ext (Gu t.qual d)):=vh;have e:ie μ H μ (pc (pc H t.P (.Um (#[]++#[zf pos.line,zf pos.col,.ref d]))) d (.ext (Gu t.qual d))):=by
   refine⟨⟨[],by simp⟩,λp xs h=>F p _ h (λz=>by rw[z,E]at h;cases h),λp o u h=>F p _ h (λz=>by rw[z,E]at h;cases h),λp o h n=>⟨?_,n⟩⟩;by_cases m:p=t.P
   ·subst m;rw[E]at h;cases h;exact⟨_,uP,.inr (.inr ⟨_,_,rfl,rfl⟩)⟩
   ·exact⟨o,F p o h m,.inl rfl⟩
  refine⟨_,d,i,_,rfl,f J rfl (λv z=>by cases z),e,r.keep e (λa ha=>?_) λt' Q=>?_,D,uc⟩
  ·obtain⟨u,R,_⟩:=r.mem ha;rw[R];exact F a u R λz=>U (by rw[<-z];exact ha)
  ·obtain⟨⟨a1,b2,a2⟩,a3,qs,a4,a5⟩:=r.tb t' Q;refine⟨⟨a1,b2,F _ _ a2 G⟩,a3,?_⟩;by_cases m:t'.P=t.P
   ·have et:=g.inj t' Q m;subst et;exact⟨_,uP,.inr ⟨d,by rw[g.line,g.col];rfl,D,uc⟩⟩
   ·refine⟨qs,F _ _ a4 m,a5.imp id λ⟨c3,z1,z2,z3⟩=>⟨c3,z1,z2,F _ _ z3 (λz=>by rw[z,E]at z3;cases z3)⟩⟩
 ·refine W.kla_makeFunctionHit (cv:=.ref c1) K I.ok.glob l g.code C j ?_ ?_ hB λi h' y hk b4=>?_
  ·exact trivial
  ·rw[g.line,g.col];simp[codeAmong,zf]
  ·have J:=I.kept (h':=h') (t':=y) hk;exact⟨_,c1,i,H,rfl,f J rfl (λv z=>by cases z),ie.refl _ _,r,Z,a0⟩
end
def px(a:Ev->M D)(rest:Ev):List D->D->Int->M D
 |[],b,_=>ret b
 |d::ds,b,c=>Fd (vp (a (some d::rest))) λk=>match k with
  | .int k=>if k<c then px a rest ds d k else px a rest ds b c
  |_=>Pb
def gA(a:Ev->M D)(rest:Ev)(b:List D):M D:=match b with
 |[.la (x::xs)]=>Fd (vp (a (some x::rest))) λk=>match k with
  | .int k=>px a rest xs x k
  |_=>Pb
 |_=>Pb
def DG(d:List Nat)(b:Ev->M D)(c:Ev->M (List D)):Ev->M D:=λa=>Fd (c a) (gA b (d.map λi=>(a[i]?).getD none))
theorem XO{st:St}(I:Za X a st H s)(k:∀ b o,b≠i->b≠j->s.heap.get? b=some o->h'.get? b=some o)(g:Wm X a H i)(l:Wm X a H j):Za X a st H { s with heap:=h',toks:=t' }:=by
 have f:∀ b u,H b=some u->b≠i/\b≠j:=λb u e=>⟨(λz=>by rw[z,g.1]at e;cases e),(λz=>by rw[z,l.1]at e;cases e)⟩
 have p:∀ {b:Addr},b ∉ [i,j]->b≠i/\b≠j:=fun {b} h=>⟨λz=>h (by simp[z]),λz=>h (by simp[z])⟩
 refine I.step (λb x=>?_) (λb o _ _ d e _=>k b o (p d).1 (p d).2 e) (λb o _ _ d e _=>⟨o.slots,k b o (p d).1 (p d).2 e⟩) (λ_ _ _ _ n=>n)
  (λb o d e=>⟨o,k b o (p d).1 (p d).2 e⟩) (λ_ _ e=>e) (λ_ _ _ e=>e) (λb B e=>⟨#[],by rw[e];simp⟩) (λm y=>?_) (λb u e=>?_) I.bare
 ·have e:b=i\/b=j:=by simpa using x
  rcases e with rfl|rfl
  ·exact⟨g.2.2.2.1,g.2.1,g.2.2.2.2.1,g.2.2.2.2.2⟩
  ·exact⟨l.2.2.2.1,l.2.1,l.2.2.2.2.1,l.2.2.2.2.2⟩
 ·obtain⟨o,w,t,A,r⟩:=y;exact⟨o,w,t,k _ o (Xe g.2.1) (Xe l.2.1) A,r⟩
 ·refine(I.zd b u e).Zk (λc v d q=>?_) (λ_ q=>q) λ_ _ q=>q;rcases d with z|z
  ·rw[z]at q ⊢;exact k b v (f b u e).1 (f b u e).2 q
  ·exact k c v (f c _ z).1 (f c _ z).2 q
section
variable{T:Tb}{X:Cx}
theorem oW
  (U:Yd (k+2) X.A) (L:fo X x M' ix f) (hx:f.names.lookup x=some .local) (Lm:Zx T X t c b2) (hg:Gl X "min") (hm:X.mg "min" = none)
  (c4:defaultsOf l X.env=([],[])) (d4:f.isCoroutine=false) (c5:f.isGenerator=false)
  (b7:∀ (cl:List (Str × Addr)) (pm cd O u:Value),bindArgs (W.kla_fn "<lambda>" t.qual l F f cl pm cd O) ⟨[u],[]⟩=pure [(x,u)])
  (ha:FA T X [e] fs)
  (hb:∀ (A:Qa) (q:Addr) (cd:Value) (b3:aa) (c1:Hp),Yd k (A.deeper (W.envX t.qual f b3.heap.objs.size q cd (dk X.env f.names [])))->FE T (xD X A (x::M') t.qual f q cd (dk X.env f.names []) b3 c1) F fe)
  (he:Vc a5 (qa [e] X.env)=(false,Yb e X.env)::Vc a5 (qa [] X.env):=by rfl)
  (a9:(Vc a5 (qa [e] X.env)).any (·.1)=false:=by rfl) :
  FE T X (.Call (.Name "min" p) [e] [⟨some "key",.Lambda l F f b2,kp⟩] a5) (DG ix fe fs):=by
 intro m s st H Q I h;refine Uf (Xw I hg hm (show bootBuiltins "min" = some (.builtin "min")from rfl) ?_);obtain⟨μ,ρ,σ,hE,hr,hp⟩:=h;refine callWith_kw (pe (ha a5 m s st H (λvs H1=>∃ K a8 ds,ie μ H K H1/\Sd T K H1 a8/\Db T K H1 ds vs/\gc T (XE X st) (La T) K H1 (gA fe (ix.map λi=>(ρ[i]?).getD none) ds a8) Q) I ⟨μ,ρ,σ,hE,hr,hp.bind λds a8 K vs H1 _ e1 r1 q1 p1=>⟨K,a8,ds,e1,r1,q1,p1⟩⟩) λus s1 ⟨vs,H1,I1,rv,K,a8,ds,e1,r1,q1,p1⟩=>kws_cons (pe (P4 I1 L r1 Lm c4) λlv s2 ⟨q,c',O,H2,c8,I2,e2,r2,d1,d2⟩=>kws_nil ?_)) he a9;subst c8;show wpAny _ _ (call (.builtin "min") us [(jt "key",.ref q)]) _ _ _;have c9:Th T K H2 ρ st:=(hE.mono e1).mono e2;generalize b9:(ix.map λi=>(ρ[i]?).getD none)=rest at *;obtain⟨x0,xs,rfl⟩:∃ x0 xs,ds=[.la (x0::xs)]:=by
  unfold gA at p1;split at p1
  ·exact⟨_,_,rfl⟩
  ·exact p1.elim
 rw[Db]at q1;obtain⟨v0,rr,rfl,q2,q3⟩:=q1;rw[Db]at q3;subst q3;obtain⟨a,ws,rfl,c3,d0,d6⟩:=q2;obtain⟨u0,rfl,d8⟩:=ue.one rv;obtain rfl:u0=.ref a:=d8;have p2:=gc.mono e2 p1;have b1:H2 a=some (.la ws):=(e2.dj _ _ d0 c3).1;have a4:Db T K H2 (x0::xs) ws:=Db.mono e2 _ _ d6;have a0:(x0::xs).length=ws.length:=a4.length;have la:∀ {G:Hp} {Y:aa} {pn:List (Addr × jd)},Za X pn st G Y->G a=some (.la ws)->∃ its:List Value,its.length=ws.length/\(∀ (j:Nat) v,its[j]?=some v->∃ w,ws[j]?=some w/\Pd w v)/\Y.heap.IsList a its.toArray:=fun {G Y pn} J z=>by
  obtain⟨_,its,n,rv,ho⟩:=J.zd _ _ z;refine⟨its,rv.length.symm,λj v hv=>?_,⟨_,ho,rfl,⟨_,rfl⟩⟩⟩;have hj:j<ws.length:=by rw[rv.length];exact(ja.mp hv).1
  obtain⟨u,hu,ru⟩:=rv.get (i:=j) (x:=ws[j]) (by simp[hj]);rw[hv]at hu;cases hu;exact⟨ws[j],by simp[hj],ru⟩
 have c7:∀ {E:List Addr} {G:Hp} {N:Ta} {Y:aa} {d:D} {w:V} {v:Value} {I S:Addr} {oI oS:jd} {kk:Int->M D},Za X ((q,W.kla_obj "<lambda>" t.qual l F f (dk X.env f.names []) ((X.mg "__name__").getD .none) c' O)::m) st G Y->ie K H2 E G->Sd T E G N->La T E G d w->Pd w v->
   Wm X ((q,W.kla_obj "<lambda>" t.qual l F f (dk X.env f.names []) ((X.mg "__name__").getD .none) c' O)::m) G I->Wm X ((q,W.kla_obj "<lambda>" t.qual l F f (dk X.env f.names []) ((X.mg "__name__").getD .none) c' O)::m) G S->
   Y.heap.get? I=some oI->Y.heap.get? S=some oS->(∀ v,oI.data≠.cell v)->(∀ v,oS.data≠.cell v)->
   gc T (XE X st) (La T) E G (Fd (vp (fe (some d::rest))) (λk=>match k with | .int k=>kk k|_=>Pb) N) Q->
   wpAny (model X.prog X.w) X.A.in1 (call (.ref q) [v]) (λy a7=>∃ k t',y=.int k t'/\a7.heap.get? I=some oI/\a7.heap.get? S=some oS/\∃ r C B,Za X ((q,W.kla_obj "<lambda>" t.qual l F f (dk X.env f.names []) ((X.mg "__name__").getD .none) c' O)::m) st C a7/\ie E G r C/\Sd T r C B/\
    Wm X ((q,W.kla_obj "<lambda>" t.qual l F f (dk X.env f.names []) ((X.mg "__name__").getD .none) c' O)::m) C I/\Wm X ((q,W.kla_obj "<lambda>" t.qual l F f (dk X.env f.names []) ((X.mg "__name__").getD .none) c' O)::m) C S/\gc T (XE X st) (La T) r C (kk k B) Q) (λ_ _=>False) Y:=by
  intro E G N Y d w v I S oI oS kk J ex r' rd d9 fI fS gI gS cI cS po;generalize c6:W.kla_obj "<lambda>" t.qual l F f (dk X.env f.names []) ((X.mg "__name__").getD .none) c' O=ob at *;have b8:Y.heap.CodeRec (.ref c') t.qual:=by
   obtain⟨⟨o,e0,tt,h1,h2,h3⟩,_⟩:=J.zd _ _ (ex.dj _ _ d2 d1).1;exact⟨c',o,e0,tt,rfl,h1,h2,h3⟩
  have hq:=(J.pin (q,ob) (Ya _ (.head _))).1;have J2:Za X ((I,oI)::(S,oS)::(q,ob)::m) st G Y:=J.Jj λp hp=>by
   rcases Ea.mp hp with rfl|hp
   ·exact⟨gI,fI.1,fI.2.1,fI.2.2.1,cI⟩
   ·rcases Ea.mp hp with rfl|hp
    ·exact⟨gS,fS.1,fS.2.1,fS.2.2.1,cS⟩
    ·exact J.pin p (Ya _ hp)
  have hd:X.A.in1.handled=none:=U.hd;refine Hc (Ξ (A:=X.A.in1) (t:=tF T _ fe) (v:=w) (Q:=λy C=>∃ k r B,y=.int k/\ie E G r C/\Sd T r C B/\gc T (XE X st) (La T) r C (kk k B) Q) J2 L hx J.ok.frames hd (Yd.in1 U).depth (by rw[<-c6]at hq;exact hq) b8 (b7 _ _ _ _ _) d4 c5 d9 (hb _ _ _ _ _ ((Yd.in1 U).deeper _)) ⟨E,GN ix d ρ,N,yb5 ix (c9.mono ex) rd,r',?_⟩) (λy a7 d3=>?_) λ_ _ z=>z
  ·unfold GN;rw[b9];refine po.wv λy B r g C _ b4 c0 d7 b0=>?_;cases y with
   |int k=>
    exact⟨k,r,B,d7,b4,c0,b0⟩
   |_=>exact b0.elim
  ·obtain⟨yv,C,J3,ry,k,r,B,rfl,b4,c0,b0⟩:=J2.after d3;obtain⟨t',rfl⟩:=ry;have pI:=J3.pin (I,oI) (Ya _ (.head _));have pS:=J3.pin (S,oS) (Ya _ (.tail _ (.head _)));have J4:Za X ((q,ob)::m) st C a7:=J3.Jj λp hp=>J3.pin p (Ya _ (.tail _ (.tail _ hp)));exact⟨k,t',rfl,pI.1,pS.1,r,C,B,J4,b4,c0,⟨pI.2.1,fI.2⟩,⟨pS.2.1,fS.2⟩,b0⟩
 obtain⟨its,hn,hP,d5⟩:=la I2 b1;generalize c6:W.kla_obj "<lambda>" t.qual l F f (dk X.env f.names []) ((X.mg "__name__").getD .none) c' O=ob at *;refine zt7 (n:=ws.length) (P:=λj v=>∃ w,ws[j]?=some w/\Pd w v) (λY=>Za X ((q,ob)::m) st H2 Y)
  (λI S j vb kb Y=>Wm X ((q,ob)::m) H2 I/\Wm X ((q,ob)::m) H2 S/\∃ E G N b wb,Za X ((q,ob)::m) st G Y/\ie K H2 E G/\Sd T E G N/\La T E G b wb/\Pd wb vb/\Wm X ((q,ob)::m) G I/\Wm X ((q,ob)::m) G S/\gc T (XE X st) (La T) E G (px fe rest ((x0::xs).drop j) b kb N) Q)
  U.hd I2 hn hP d5 (by rw[<-a0];simp) (λs0 h' tk g k=>g.kept k) ?_ ?_ ?_ ?_ ?_
 ·
  intro I S s3 v oI oS hI hS e3 ⟨s0,g0,hk,es⟩ ⟨w,hw,a6⟩ gI gS cI cS;have fI:Wm X ((q,ob)::m) H2 I:=I2.Zq hI (I2.zd.fresh hI);have fS:Wm X ((q,ob)::m) H2 S:=I2.Zq hS (I2.zd.fresh hS);have J:Za X ((q,ob)::m) st H2 s3:=by
   rw[es];exact XO g0 (λb o n _ e=>hk b o n e) fI fS
  have rd:∃ w',ws[0]?=some w'/\La T K H2 x0 w':=a4.get (i:=0) rfl;obtain⟨w',a3,rd⟩:=rd;rw[hw]at a3;cases a3;refine Hc (c7 (kk:=λk=>px fe rest xs x0 k) J (ie.refl _ _) r2 rd a6 fI fS gI gS cI cS p2) (λy s4 z=>?_) λ_ _ z=>z;obtain⟨k,t',rfl,b5,b6,r,C,B,J4,e4,r4,f1,f2,p4⟩:=z;exact⟨k,t',rfl,b5,b6,fI,fS,r,C,B,x0,w,J4,e4,r4,La.mono e4 _ _ rd,a6,f1,f2,p4⟩
 ·intro I S j vb kb Y ⟨_,_,E,G,N,b,wb,J,ex,r',rb,Z,f1,f2,p'⟩;exact la J (ex.dj _ _ b1 c3).1
 ·intro I S j vb kb Y h' tk ⟨a1,a2,E,G,N,b,wb,J,ex,r',rb,Z,f1,f2,p'⟩ k;exact⟨a1,a2,E,G,N,b,wb,XO J k f1 f2,ex,r',rb,Z,f1,f2,p'⟩
 ·intro I S j vb kb Y v oI oS ⟨a1,a2,E,G,N,b,wb,J,ex,r',rb,Z,f1,f2,p'⟩ ⟨w,hw,a6⟩ gI gS cI cS;have hj:j<(x0::xs).length:=by rw[a0];exact(ja.mp hw).1
  obtain⟨w',a3,rd⟩:=a4.get (i:=j) (d:=(x0::xs)[j]) (by rw[Ub hj]);rw[hw]at a3;cases a3;rw[rg hj]at p';generalize (x0::xs)[j]=d at *;generalize e5:(x0::xs).drop (j+1)=c2 at *;refine Hc (c7 (kk:=λk=>if k<kb then px fe rest c2 d k else px fe rest c2 b kb) J ex r' (La.mono ex _ _ rd) a6 f1 f2 gI gS cI cS p') (λy s4 z=>?_) λ_ _ z=>z;obtain⟨k,t',rfl,b5,b6,r,C,B,J4,e4,r4,f3,f4,p4⟩:=z;refine⟨k,t',rfl,b5,b6,a1,a2,r,C,B,?_⟩;by_cases hk:k<kb
  ·rw[ia hk]at p4;rw[ia hk,ia hk];exact⟨d,w,J4,ex.trans e4,r4,La.mono (ex.trans e4) _ _ rd,a6,f3,f4,p4⟩
  ·rw[ka hk]at p4;rw[ka hk,ka hk];exact⟨b,wb,J4,ex.trans e4,r4,La.mono e4 _ _ rb,Z,f3,f4,p4⟩
 ·intro I S vb kb Y ⟨_,_,E,G,N,b,wb,J,ex,r',rb,Z,f1,f2,p'⟩;rw[<-a0,List.drop_length]at p';have q':Q wb G:=gc.here (R:=La T) p' r' rb;exact⟨wb,G,J.Jj (λp hp=>J.pin p (Ya _ (.tail _ hp))),Z,q'⟩
end
def Wx(K:W.Frag)(x:Str):Addr:=((W.tabIn K x).getD (0,0)).1
noncomputable def Tw(K:W.Frag)(x:Str):Addr:=((W.tabIn K x).getD (0,0)).2
def gy(K:W.Frag):Addr:=match W.nsIn K mainGlobals "__builtins__" with
 |some (some (.ref a))=>a
 |_=>0
theorem Κ{K:W.Frag}(h:(W.tabIn K x).isSome=true):W.tabIn K x=some (Wx K x,Tw K x):=by
 unfold Wx Tw;cases e:W.tabIn K x with
 |none=>rw[e]at h;cases h
 |some p=>rfl
def WJ(K:W.Frag)(xs:List Str):Bool:=
 W.noTabs K && (match W.nsIn K mainGlobals "__builtins__" with
  |some (some (.ref a))=>(K.lookup a).isNone && (a != builtinsNs)
  |_=>false) && xs.all λx=>(W.tabIn K x).isSome && JD K (Wx K x) (Tw K x)
structure Jx(K:W.Frag)(xs:List Str):Prop where
 no:W.noTabs K=true
 bm:W.nsIn K mainGlobals "__builtins__" = some (some (.ref (gy K)))
 bk:K.lookup (gy K)=none
 bb:gy K≠builtinsNs
 tab:∀ x∈xs,W.tabIn K x=some (Wx K x,Tw K x)
 hd:∀ x∈xs,JD K (Wx K x) (Tw K x)=true
theorem n8{K:W.Frag}{xs:List Str}(h:WJ K xs=true):Jx K xs:=by
 unfold WJ at h;rw[Ca,Ca]at h;obtain⟨⟨g,b⟩,e⟩:=h;split at b
 ·next a f=>
  have c:gy K=a:=by unfold gy;rw[f]
  rw[Ca]at b;refine⟨g,by rw[c];exact f,by rw[c];exact Option.isNone_iff_eq_none.mp b.1,by rw[c];simpa using b.2,λx d=>?_,λx d=>?_⟩
  ·have z:=Vb.mp e x d;rw[Ca]at z;exact Κ z.1
  ·have z:=Vb.mp e x d;rw[Ca]at z;exact z.2
 ·cases b
def HG(K:W.Frag)(d:Str->Option Value)(x:Str)(st:Stmt)(c:List Str):Prop:=
 ∃ f a,d x=some (.ref f)/\vy K x x st f a/\(∀ b:List Value,b.length=c.length->bindArgs a ⟨b,[]⟩=pure (c.zip b))/\a.code=.ref (Wx K x)
theorem VY{K:W.Frag}{st:Stmt}{c xs:List Str}(X:K.In h)(G:h.Ns mainGlobals a)(g:bg K a x st c)(k:Jx K xs)(l:x∈xs):HG K a x st c:=by
 obtain⟨f,o,b,F,i⟩:=g;obtain⟨p,q,kV,e,r,n,d,ct,m,rfl,lk,j⟩:=F.ex;exact⟨f,_,b,F,i,W.law_code X G (k.tab x l) b (X _ _ lk) rfl⟩
theorem zO{K:W.Frag}{st:Stmt}(h:HG K i x st j)(S:va N j (Qc st))
  (o:∀ (f:Addr) (A:Qa) (b:List qh) (s:aa) (H:Hp) (E:XK),Yd k (A.deeper (yg x (Qc st) s.heap.objs.size f (.ref (Wx K x))))->Pl ⟨K,l,tx⟩ (Tp (Il P w) P w K i a N x (Qc st) f (.ref (Wx K x)) A b s H E) (Ej st) g) :
  Qe ⟨K,l,tx⟩ P w i a (k+1) x j (Nd N.length g):=by
 obtain⟨f,u,q,F,c,p⟩:=h;obtain⟨v,y,kV,n,z,t,m,ct,r,rfl,lk,d⟩:=F.ex;have e:=p;subst e;exact⟨f,_,q,F.kp,c,pB lk d S (o f)⟩
theorem Ψ{K:W.Frag}
  (KX:K.In f.heap) (b0:f.heap.Ns mainGlobals mg) (C:f.heap.Ns builtinsNs mb) (a6:∀ x:Str,x ≠ "__name__"->mb x=bootBuiltins x) (a0:f.heap.NoLimit) (hg:f.gens=#[])
  (I:f.heap.get? a=some { cls:=.type "list",data:=.seq L.toArray }) (hi:Ep L p) (hl:p.length<=63) (hr:Yd k Fp)
  (hK:W.noTabs K=true) (j:f.heap.get? tx.bm=some ob) (Y:ob.cls=.type "module") (a7:ob.dict=some builtinsNs) (Q:ob.data=.plain) (a5:K.lookup tx.bm=none)
  (X:∀ t∈tx.nq,∃ c,W.CodeHd f.heap c t.P/\f.heap.get? t.P=some (W.tabObj #[]))
  (F:∀ U:Heap,ri P w K mg U (Il P w) k fa fd [x] (xq ⟨K,ca,tx⟩ 1 fn)) (O:∀ (s:aa) (u:Value),yh s fd ⟨[u],[]⟩ [(x,u)])
  (tr:∀ p:List Int,p.length<=63->∃ σ,fn [.Fh p] []=.ok (.bl true) σ) :
  codeAny (model P w) Fp (.call (.ref fa) ⟨[.ref a],[]⟩) (λr B=>r=.ok (.ret (.bool true))/\OldK f.heap B.heap/\B.os=f.os/\Ii B.gens) f:=by
 have rv:=BG hi;have a1:=hi.length;have Z:p.length<=sizeLine:=Ib hl (by decide);have E:∀ N:Bool,(N=true->K.lookup a=none)->(N=false->K.lookup a=some { cls:=.type "list",data:=.seq L.toArray })->
   codeAny (model P w) Fp (.call (.ref fa) ⟨[.ref a],[]⟩) (λr B=>r=.ok (.ret (.bool true))/\OldK f.heap B.heap/\B.os=f.os/\Ii B.gens) f:=by
  intro N a8 a9;obtain⟨H,c1,c2,c3,c4⟩:∃ H:Hp,(∀ t∈tx.nq,H t.P=some (.Um #[]))/\(H tx.bm=some (.vc ob (.ext (MH tx.bm))))/\(N=true->H a=some (.vc { cls:=.type "list",data:=.seq L.toArray } (.la (p.map V.int))))/\
    ∀ b u,H b=some u->(u=.Um #[]/\∃ t∈tx.nq,b=t.P)\/(b=tx.bm/\u=.vc ob (.ext (MH tx.bm)))\/(b=a/\N=true/\u=.vc { cls:=.type "list",data:=.seq L.toArray } (.la (p.map V.int))):=by
   refine⟨λb=>if b=tx.bm then some (.vc ob (.ext (MH tx.bm)))else if b=a then (if N=true then some (.vc { cls:=.type "list",data:=.seq L.toArray } (.la (p.map V.int)))else none)else if b∈tx.nq.map (·.P)then some (.Um #[])else none,λt g=>?_,ia rfl,λh=>?_,λb u e=>?_⟩
   ·obtain⟨c,_,l⟩:=X t g;have n1:t.P≠tx.bm:=λz=>by rw[z,j]at l;cases l;cases Y
    have n2:t.P≠a:=λz=>by rw[z,I]at l;cases l
    dsimp only;rw[ka n1,ka n2,ia (gb.mpr ⟨t,g,rfl⟩)]
   ·have n1:a≠tx.bm:=λz=>by rw[z,j]at I;cases I;cases Q
    dsimp only;rw[ka n1,ia rfl,ia h]
   ·dsimp only at e;split at e
    ·next a3=>cases e;exact .inr (.inl ⟨a3,rfl⟩)
    ·split at e
     ·next a4=>
      split at e
      ·next h=>cases e;exact .inr (.inr ⟨a4,h,rfl⟩)
      ·cases e
     ·split at e
      ·next hm=>cases e;obtain⟨t,g,rfl⟩:=gb.mp hm;exact .inl ⟨rfl,t,g,rfl⟩
      ·cases e
  have b1:lj P w H f.heap:=λb u e=>by
   rcases c4 b u e with⟨rfl,t,g,rfl⟩|⟨rfl,rfl⟩|⟨rfl,_,rfl⟩
   ·obtain⟨c,_,l⟩:=X t g;exact l
   ·exact⟨j,⟨ob,j,Y,a7,Q⟩,⟨ob,j⟩,λh1 h2 ⟨o,e1,G⟩ k=>⟨o,k _ e1,G⟩⟩
   ·exact⟨I,by rw[zb];exact Z,L,_,rv,I⟩
  have i:∀ {b:Addr} {o:jd},f.heap.get? b=some o->H b=none->(wy f.heap H).get? b=some o:=λe n=>zs7 e n;have b3:∀ {b:Addr} {o:jd} {es:Array DictEntry} {ep:Nat},f.heap.get? b=some o->o.data=.dict es ep->H b=none:=fun {b o es ep} e d=>by
   cases q:H b with
   |none=>rfl
   |some u=>
    rcases c4 b u q with⟨_,t,g,rfl⟩|⟨rfl,_⟩|⟨rfl,_,_⟩
    ·obtain⟨c,_,l⟩:=X t g;rw[l]at e;cases e;cases d
    ·rw[j]at e;cases e;rw[Q]at d;cases d
    ·rw[I]at e;cases e;cases d
  have S:∀ {b:Addr} {m:Str->Option Value},f.heap.Ns b m->(wy f.heap H).Ns b m:=fun {b m} ⟨o,es,ep,e,d,r⟩=>⟨o,es,ep,i e (b3 e d),d,r⟩
  have a2:=λb o e=>i (KX b o e) (by
   cases q:H b with
   |none=>rfl
   |some u=>
    rcases c4 b u q with⟨_,t,g,rfl⟩|⟨rfl,_⟩|⟨rfl,h,_⟩
    ·obtain⟨c,_,l⟩:=X t g;have G:=KX _ _ e;rw[l]at G;cases G;have h2:=Vb.mp hK (t.P,_) (W.mem_of_lookupK e);exact absurd (show false=true from h2) ub
    ·rw[a5]at e;cases e
    ·rw[a8 h]at e;cases e)
  have hM:Mod K mg (wy f.heap H):=⟨a2,S b0,⟨mb,S C,a6⟩,let ⟨mc,h1,h2⟩:=a0;⟨mc,S h1,h2⟩⟩
  have e0:bo P w K mg (wy f.heap H) Fp [] f H:=⟨rfl,hM,λb o e=>k9 e,bF (D9 _ _),trivial,λb C=>absurd (show b∈[]from C) (by simp),b1,.of_eq hg⟩
  have hS:XF K H a p:=by
   cases N with
   |true=>exact .inl ⟨_,c3 rfl⟩
   |false=>exact .inr ⟨_,L.toArray,_,a9 rfl,rfl,rfl,rfl,by rw[wa,a1];exact Z,by simpa using rv⟩
  obtain⟨σ,ef⟩:=tr p hl;have b2:xq ⟨K,ca,tx⟩ 1 fn [.ref a] H (λv _=>v=.bl true) λ_ _ _=>False:=by
   refine⟨[],[],[.Fh p],Db.cons (by rw[La];exact⟨a,rfl,hS⟩) Db.nil,rfl,⟨rfl,List.nodup_nil,λn o q=>by simp at q,λt g=>⟨⟨by simp,ob,c2⟩,by simp,#[],c1 t g,.inl rfl⟩⟩,?_⟩;rw[ef];intro b5 v H' _ _ r;exact r
  refine Bk ((F _).Nd Fp [] f H ⟨[.ref a],[]⟩ [.ref a] [.ref a] _ _ hr e0 (O f (.ref a)) (.cons rfl .nil) b2) λr B h=>?_;cases r with
  |error e=>obtain⟨_,_,_,_,z⟩:=h;exact z.elim
  |ok f2=>
   cases f2 with
   |next=>exact False.elim h
   |brk=>exact False.elim h
   |cont=>exact False.elim h
   |ret u=>
    obtain⟨v,H',os,T,un,A,r',q⟩:=h;have q':v=.bl true:=q;subst q';obtain rfl:u=xl true:=r';have J:∀ b o,f.heap.get? b=some o->(¬ ∃ t∈tx.nq,b=t.P)->B.heap.get? b=some o:=λb o e n=>by
     cases q:H b with
     |none=>exact un.keep b o e q (by intro z;exact absurd (show b∈[]from z) (by simp)) (by simp)
     |some u=>
      rcases c4 b u q with⟨_,z⟩|⟨rfl,rfl⟩|⟨rfl,_,rfl⟩
      ·exact absurd z n
      ·obtain⟨G,_⟩:=A _ _ (un.Fi _ _ _ q);rw[j]at e;cases e;exact G
      ·obtain⟨G,_⟩:=A _ _ (un.Fi _ _ _ q);rw[I]at e;cases e;exact G
    have y:∀ t∈tx.nq,∃ ps,B.heap.get? t.P=some (W.tabObj ps):=λt g=>by
     obtain⟨b4,z⟩:=un.jj _ _ (c1 t g);exact⟨_,A _ _ z⟩
    refine⟨rfl,⟨λb o e=>?_,λb o e=>?_⟩,os,T⟩
    ·by_cases C:∃ t∈tx.nq,b=t.P
     ·obtain⟨t,g,rfl⟩:=C;obtain⟨c,hc,l⟩:=X t g;obtain⟨ps,R⟩:=y t g;rw[l]at e;cases e;exact .inr (.inl ⟨(hc.tab l).isCodeTable,rfl,#[],ps,rfl,by rw[Array.empty_append];exact R⟩)
     ·exact .inl (J b o e C)
    ·by_cases C:∃ t∈tx.nq,b=t.P
     ·obtain⟨t,g,rfl⟩:=C;obtain⟨ps,R⟩:=y t g;exact⟨_,R⟩
     ·exact⟨o,J b o e C⟩
 cases hk:K.lookup a with
 |some o=>
  have e:=KX a o hk;rw[I]at e;cases e;exact E false (λh=>by cases h) λ_=>hk
 |none=>exact E true (λ_=>hk) λh=>by cases h
theorem ĥ{l:W.OpenLaw}{K:Params->W.Frag}(xs:List Str)
  (hn:l.most=some 63) (B:d.params.defaults=[]) (hr:Yd k Fp) (hY:∀ (w:Wa) (h:Heap),H w h->(K w.params).In h)
  (hK:∀ w:Wa,WJ (K w.params) xs=true) (p:(xs.all λx=>((recsOf q).find? λe=>e.name == x).isSome)=true)
  (F:∀ (w:Wa) (v:Str->Option Value) (h:Heap),(K w.params).In h->h.Ns mainGlobals v->Jx (K w.params) xs->∃ I j,(∀ t∈j,∃ x∈xs,t.P=Tw (K w.params) x)/\NK ⟨K w.params,I,⟨j,gy (K w.params)⟩⟩ l.prog w v k d.name [x] fn)
  (tr:∀ E:List Int,E.length<=63->∃ σ,fn [.Fh E] []=.ok (.bl true) σ) :
  W.WalkO q i S H l.row.toRowW d [] (λf R=>PySem.call f R):=by
 refine Att.vr hn B λw O Q v mb fa o pm cd a0 a R E G Y ho hd a2 C n c m hg=>?_;have r:=hY w _ Y;have TT:=n8 (hK w);obtain⟨I,j,hP,f0,a1,L,g3,g4⟩:=F w v _ r G.T.g TT;rw[C]at L;cases L;obtain⟨bm,ob,U,b2,V,X,Z,b6⟩:=G.T.bmain;have J:=W.mg_of r G.T.g TT.bm;rw[U]at J;cases J;refine Ψ r G.T.g G.T.b G.T.builtins G.T.nolimit hg n c m hr TT.no V X Z b6 TT.bk (λt ht=>?_) g4 (λs u=>.of_eq (g3 [u] rfl)) tr;obtain⟨y,N,e⟩:=hP t ht;have z:=Vb.mp p y N;obtain⟨d',A⟩:=Ve.mp z;have:=W.tab_of G.T r A (TT.tab y N);rw[e];exact⟨_,this.1,this.2⟩
theorem J1(h:(a.P == b.P)=false):∀ t∈(⟨[a,b],f⟩:Tx).nq,∀ d∈(⟨[a,b],f⟩:Tx).nq,d.P=t.P->d=t:=by
 have n:a.P≠b.P:=by simpa using h
 intro t g d c e;simp only[Ea,we,Pn]at g c;rcases g with rfl|rfl<;>rcases c with rfl|rfl
 ·rfl
 ·exact absurd e.symm n
 ·exact absurd e n
 ·rfl
def Ez(x:D)(xs:List D):M D:=λσ=>match x,xs with
 | .ref n,[y]=>(match bi σ n with
  |some a=>(match rh σ y with
   |some zs=>if a.length+zs.length<=ai then .ok .wc (σ.set n (.la (a++zs)))else .Pb
   |none=>.Pb)
  |none=>.Pb)
 |_,_=>.Pb
section
variable{T:Tb}
theorem π:Rz T wV Ez:=by
 intro E t H σ x xs v f Q r p q h;cases x with
 |ref n=>
  match xs with
  |[]=>exact h.elim
  |[y]=>
   obtain⟨w,z,rfl,A,l⟩:=q;rw[Db]at l;subst l;unfold Ez at h;cases c:bi σ n with
   |none=>simp only[c]at h;exact h.elim
   |some s=>
    simp only[c]at h;cases d:rh σ y with
    |none=>simp only[d]at h;exact h.elim
    |some zs=>
     simp only[d]at h;by_cases e:s.length+zs.length<=ai
     ·rw[ia e]at h;obtain⟨a,f,rfl,k,g,i⟩:=r.la p c;obtain⟨b,m,rfl,u,j⟩:=r.ls A d;have o:=r.write (ob:=.la (s++zs)) k ⟨_,vh,by
       have ex:ie t H t (pc H a (.la (f++m))):=Nv (Fa k) g (λ_ z=>by cases z) (λ_ _ z=>by cases z);exact Db.append (Db.mono ex _ _ i) (Db.mono ex _ _ j)⟩
      exact⟨a,b,f,m,rfl,rfl,g,u,by rw[<-i.length,<-j.length];exact Dy e,h _ _ _ o.1 o.2 (by rw[La])⟩
     ·rw[ka e]at h;exact h.elim
  |_::_::_=>exact h.elim
 |_=>exact h.elim
end
section
variable{T:Tb}{X:Cx}
end
section
variable{X:Cx}{pins:List (Addr × jd)}{st:St}{H:Hp}{s:aa}{x z0 z1:Str}{M':List Str}{ix:List Nat}{scope:Scope}{fp:List Addr}
end
section
variable{T:Tb}{X:Cx}
end
section
variable{T:Tb}{X:Cx}{pins:List (Addr × jd)}{st:St}{H:Hp}{s:aa}{μ:List Addr}{σ:Ta}
end
section
variable{T:Tb}{X:Cx}
end
section
variable{T:Tb}{X:Cx}{x y:Str}{p pos:Ce}{ss:List Str}
theorem WQ(e:Gl X x)(b:ED T.K X.mg x ss)(d:(x == ("__debug__" : Str))=false:=by decide):FE T X (.Name x p) (eC (.gt ss)):=by
 obtain⟨a,f,c⟩:=b;exact mB (zL e f (v:=.ref a) rfl d) λ_ _=>by rw[La];exact⟨a,rfl,c⟩
theorem Qe.alias(h:Qe T P w b a k x d c)(e:b y=b x):Qe T P w b a k y d c:=by
 obtain⟨f,g,i,j⟩:=h;exact⟨f,g,e.trans i,j⟩
end
section
variable{T:Tb}{μ μ':List Addr}{H H':Hp}{σ:Ta}{a:Addr}
mutual
theorem La.chg(j:∀ b,b≠a->H' b=H b)(l:a∈μ)(r:∀ xs,H a≠some (.Ka xs))(s:∀ o xs,H a≠some (.vc o (.la xs))):∀ (d:D) (v:V),La T μ H d v->La T μ H' d v
 | .wc,v,h=>by simpa [La]using h
 | .bl b,v,h=>by simpa [La]using h
 | .int i,v,h=>by simpa [La]using h
 | .str x,v,h=>by simpa [La]using h
 | .Ka ds,v,h=>by
  rw[La]at h ⊢;obtain⟨p,m,g,e,k⟩:=h;exact⟨p,m,g,by rw[j p (λz=>r _ (by rw[<-z];exact e))];exact e,Db.chg j l r s ds m k⟩
 | .Fh ns,v,h=>by
  rw[La]at h ⊢;obtain⟨p,g,e⟩:=h;refine⟨p,g,?_⟩;rcases e with⟨o,e⟩|e
  ·exact .inl ⟨o,by rw[j p (λz=>s _ _ (by rw[<-z];exact e))];exact e⟩
  ·exact .inr e
 | .ref n,v,h=>by rw[La]at h ⊢;exact h
 | .la ds,v,h=>by
  rw[La]at h ⊢;obtain⟨p,m,g,f,e,k⟩:=h;exact⟨p,m,g,f,by rw[j p (λz=>f (by rw[z];exact l))];exact e,Db.chg j l r s ds m k⟩
 | .yc ks ds,v,h=>by
  rw[La]at h ⊢;obtain⟨p,m,g,f,e,t,k⟩:=h;exact⟨p,m,g,f,by unfold Rd at e ⊢;rw[j p (λz=>f (by rw[z];exact l))];exact e,t,Db.chg j l r s ds _ k⟩
 | .obj c ns ds,v,h=>by
  rw[La]at h ⊢;obtain⟨p,A,m,g,f,e,t,k⟩:=h;exact⟨p,A,m,g,f,by rw[j p (λz=>f (by rw[z];exact l))];exact e,t,Db.chg j l r s ds _ k⟩
 | .Dt c,v,h=>by
  rw[La]at h ⊢;obtain⟨p,y,g,f,e,k⟩:=h;refine⟨p,y,g,f,by rw[j p (λz=>f (by rw[z];exact l))];exact e,λn q=>?_⟩;obtain⟨u,B,w,C⟩:=k n q;exact⟨u,B,w,by rw[j u (λz=>w (by rw[z];exact l))];exact C⟩
 | .gt ss,v,h=>by rw[La]at h ⊢;exact h
theorem Db.chg(j:∀ b,b≠a->H' b=H b)(i:a∈μ)(f:∀ xs,H a≠some (.Ka xs))(g:∀ o xs,H a≠some (.vc o (.la xs))):∀ (c:List D) (e:List V),Db T μ H c e->Db T μ H' c e
 |[],e,h=>by simpa [Db]using h
 |d::c,e,h=>by
  rw[Db]at h ⊢;obtain⟨v,r,k,l,m⟩:=h;exact⟨v,r,k,La.chg j i f g d v l,Db.chg j i f g c r m⟩
end
theorem LH(i:∀ b,b≠a->H' b=H b)(g:a∈μ)(e:∀ xs,H a≠some (.Ka xs))(f:∀ o xs,H a≠some (.vc o (.la xs))){xs:List (c × D)}{d:List (c × V)}(h:Paired (λ(p:c × D) (q:c × V)=>p.1=q.1/\La T μ H p.2 q.2) xs d) :
  Paired (λ(p:c × D) (q:c × V)=>p.1=q.1/\La T μ H' p.2 q.2) xs d:=L2.Paired.Hr h λp q z=>⟨z.1,La.chg i g e f _ _ z.2⟩
theorem fq.chg(d:∀ b,b≠a->H' b=H b)(j:a∈μ)(g:∀ xs,H a≠Option.some (.Ka xs))(i:∀ o xs,H a≠Option.some (.vc o (.la xs)))(f:b≠a):∀ {o:Ob},fq T μ H b o->fq T μ H' b o
 | .la ds,⟨e,h,r⟩=>⟨e,(d b f).trans h,Db.chg d j g i _ _ r⟩
 | .yc k,⟨e,h,r⟩=>⟨e,(d b f).trans h,LH d j g i r⟩
 | .Jd c n,⟨l,e,h,r⟩=>⟨l,e,(d b f).trans h,LH d j g i r⟩
 | .Sf k,⟨m,e,h,r⟩=>⟨m,e,(d b f).trans h,LH d j g i r⟩
 | .vl ks,⟨e,h,r⟩=>⟨e,(d b f).trans h,r⟩
theorem Sd.chg(r:Sd T μ H σ)(g:∀ b,b≠a->H' b=H b)(d:μ[n]?=some a)(i:∀ xs,H a≠some (.Ka xs))(j:∀ o xs,H a≠some (.vc o (.la xs)))(l:fq T μ H' a ob):Sd T μ H' (σ.set n ob):=by
 have f:=Fa d;refine⟨by simp[r.len],r.nd,λm x h=>?_,r.tb.out g (.inl f)⟩;rw[Wc]at h;by_cases c:n=m
 ·subst c;rw[ia rfl]at h;split at h
  ·cases h;exact⟨a,d,l⟩
  ·cases h
 ·rw[ka c]at h;obtain⟨b,e,k⟩:=r.obs m x h;exact⟨b,e,k.chg g f i j (λz=>c (by subst z;exact qN r.nd d e))⟩
end
theorem _root_.L2.Za.Ww{st:St}(I:Za X d st H s)(f:H a=some (.vc t (.dK g)))(l:∀ o u,X.H₀ a≠some (.vc o u)):Za X d st (pc H a (.dK g)) s:=by
 have i:∀ b u,H b=some u->(∀ o w,u≠.vc o w)->b≠a:=λb u q n z=>by rw[z,f]at q;exact n _ _ (Lb q).symm
 refine⟨I.ok,I.os,I.bare,⟨I.base.keep,I.base.slot,λb o e n r=>?_,I.base.there,λb xs e=>?_,λb o u e=>?_,λb A e=>?_⟩,I.loc,I.cell,?_,λx c e=>?_,λp m=>?_,λb u e=>?_,I.len⟩
 ·have:=I.base.free b o e n r;rw[de (λz=>by rw[z,f]at this;cases this)];exact this
 ·have:=I.base.vj b xs e;rw[de (i b _ this (λ_ _ z=>by cases z))];exact this
 ·have:=I.base.Fi b o u e;rw[de (λz=>l o u (by rw[<-z];exact e))];exact this
 ·obtain⟨h,this⟩:=I.base.jj b A e;exact⟨h,by rw[de (i b _ this (λ_ _ z=>by cases z))];exact this⟩
 ·rw[de (λz=>by have:=I.free;rw[z,f]at this;cases this)];exact I.free
 ·have:=I.Ug x c e;rw[de (λz=>by rw[z,f]at this;cases this)];exact this
 ·obtain⟨B,j,C⟩:=I.pin p m;exact⟨B,by rw[de (λz=>by rw[z,f]at j;cases j)];exact j,C⟩
 ·by_cases k:b=a
  ·subst k;rw[vh]at e;cases e;exact(I.zd b _ f).2
  ·rw[de k]at e;refine(I.zd b u e).Zk (λc v _ z=>z) (λc z=>?_) λc xs z=>?_
   ·rw[de (i c _ z (λ_ _ y=>by cases y))];exact z
   ·rw[de (i c _ z (λ_ _ y=>by cases y))];exact z
section
variable{T:Tb}{X:Cx}{elts:List Ma}{kk:Nat}{p0:Ce}
theorem eL(o:H a=some (.vc l (.dK c)))(s:Dl T m H f c):XA T m H (Xt f) (Itm a l c):=by
 intro v A w i ex t;have j:=ex.vc _ _ _ o;have e:=Dl.mono ex s;unfold Xt;cases n:f[i]? with
 |none=>
  by_cases g:i=f.length
  ·rw[ia g];exact⟨j,by rw[g];exact Paired.length e⟩
  ·rw[ka g];trivial
 |some p=>
  obtain⟨q,k,h,u⟩:=aN e i n;refine⟨⟨j,q,k⟩,λz x y=>?_⟩;obtain⟨r,B,C,b,rfl,d,rfl⟩:=y;rw[k]at d;cases d;refine⟨Wl b,t.fresh b,?_⟩;rw[La,h];exact⟨r,_,rfl,vh,Db.cons (yW _) (Db.cons (La.mono (Wl b) _ _ u) Db.nil)⟩
def eG(d:D):M NX:=λσ=>match d with
 | .yc ks xs=>if ks.length=xs.length then .ok (Xt (ks.zip xs)) σ else .Pb
 | .ref n=>(match σ[n]? with
  |some (.yc a)=>.ok (Xt a) (σ.set n (.Sf a))
  |some (.Sf a)=>.ok (Xt a) σ
  |_=>.Pb)
 |_=>.Pb
def KH(f:Ev->M D):Ev->M NX:=λa=>Fd (f a) eG
theorem ň(h:FE T X e f)(J:ee e "items" X.env (Yb e X.env)=Yb e X.env:=by rfl)(K:(x.endLine == A.line)=true:=by rfl) :
  Ay T X (.Tuple elts kk p0) (.Call (.Attribute e "items" x) [] [] A) (KH f):=by
 intro Q s st H R I hw;refine RS (CV Eg Hi aq BU h J K) Q s st H R I ?_;obtain⟨μ,ρ,σ,hE,hr,hp⟩:=hw;refine⟨μ,ρ,σ,hE,hr,hp.bind λd w c v i _ e1 V q1 p=>?_⟩;unfold eG at p;cases d with
 |yc ks xs=>
  dsimp only at p;by_cases hl:ks.length=xs.length
  ·rw[ia hl]at p;obtain⟨a,j,rfl,U,q,Z,a0⟩:=q1;refine⟨⟨a,j,rfl,q⟩,a,j,rfl,rfl,q,λl g=>?_⟩;have u:a≠l:=by rcases q with q|⟨_,q⟩<;>exact kq q g
   have Y:Rd (pc i l (.ext (ap l a))) a (.dK j):=by unfold Rd;rw[de u];exact q
   refine⟨l,a,j,rfl,vh,Y,λC m=>?_⟩;have E:ie c i c (pc i l (.ext (ap l a))):=Wl g;have k:Sd T c (pc i l (.ext (ap l a))) w:=V.fresh g;obtain⟨x2,a1⟩:ie c i c (pc (pc i l (.ext (ap l a))) a (.vc C (.dK j)))/\Sd T c (pc (pc i l (.ext (ap l a))) a (.vc C (.dK j))) w:=by
    rcases m with m|m
    ·have y:=MW (μ:=c) (od:=C) m;exact⟨E.trans y,k.keep y (λb W=>de (λz=>U (by rw[<-z];exact W))) (k.tb.out (λb W=>de W) (.inr ⟨_,m⟩))⟩
    ·rw[dG m];exact⟨E,k⟩
   exact gc.here (gc.mono x2 p) a1 (eL vh (Dl.mono x2 (IF Z a0)))
  ·rw[ka hl]at p;exact p.elim
 |ref n=>
  dsimp only at p;cases S:w[n]? with
  |none=>rw[S]at p;exact p.elim
  |some o=>
   rw[S]at p;obtain⟨a,rfl,U,P⟩:=V.at q1 S;cases o with
   |yc j=>
    obtain⟨r,G,L⟩:=P;have q:Rd i a (.dK r):=.inl G;refine⟨⟨a,r,rfl,q⟩,a,r,rfl,rfl,q,λl g=>?_⟩;have u:=kq G g;have t:pc i l (.ext (ap l a)) a=some (.dK r):=by rw[de u];exact G
    refine⟨l,a,r,rfl,vh,.inl t,λC _=>?_⟩;have E:ie c i c (pc i l (.ext (ap l a))):=Wl g;have k:Sd T c (pc i l (.ext (ap l a))) w:=V.fresh g;have O:ie c (pc i l (.ext (ap l a))) c (pc (pc i l (.ext (ap l a))) a (.vc C (.dK r))):=Nv (Fa U) t (λ_ z=>by cases z) (λ_ _ z=>by cases z);have B:=Dl.mono (E.trans O) L;have wr:=k.write (ob:=.Sf j) U ⟨C,r,vh,B⟩ (λkv z=>by rw[S]at z;cases z);exact gc.here (gc.mono (E.trans O) p) wr.2 (eL vh B)
   |Sf j=>
    obtain⟨N,r,G,L⟩:=P;have q:Rd i a (.dK r):=.inr ⟨N,G⟩;refine⟨⟨a,r,rfl,q⟩,a,r,rfl,rfl,q,λl g=>?_⟩;have u:a≠l:=kq G g;have t:pc i l (.ext (ap l a)) a=some (.vc N (.dK r)):=by rw[de u];exact G
    refine⟨l,a,r,rfl,vh,.inr ⟨N,t⟩,λC m=>?_⟩;have E:ie c i c (pc i l (.ext (ap l a))):=Wl g;have k:Sd T c (pc i l (.ext (ap l a))) w:=V.fresh g;rcases m with m|m
    ·rw[t]at m;cases m
    ·rw[dG m];exact gc.here (gc.mono E p) k (eL m (Dl.mono E L))
   |_=>exact p.elim
 |_=>exact p.elim
def eD{c:Type}(ok:c->Bool)(n:Nat):Hl c->Hl c
 | .ok a σ=>if ok a=true then (match σ[n]? with
  |some (.Sf b)=>.ok a (σ.set n (.yc b))
  |_=>.Pb)else .Pb
 |_=>.Pb
def qI{a:Type}(ok:a->Bool)(m:M D)(g:M a):M a:=λσ=>match m σ with
 | .ok (.ref n) _=>(match σ[n]? with
  |some (.yc _)=>eD ok n (g σ)
  |_=>g σ)
 |_=>g σ
noncomputable def JM:Fl->Bool
 | .xc _ _=>false
 |_=>true
def XG(f:Ev->M D)(g:Ev->M Fl):Ev->M Fl:=λa=>qI JM (f a) (g a)
theorem wZ(ex:ie f H b c)(d:a∈f)(g:H a=some (.dK e))(k:c a=some (.vc j (.dK i))):ie f H b (pc c a (.dK i)):=by
 refine⟨ex.pre,λp xs h=>?_,λp o u h=>?_,λp o h n=>?_⟩
 ·rw[de (λz=>by rw[z,g]at h;cases h)];exact ex.Ka p xs h
 ·rw[de (λz=>by rw[z,g]at h;cases h)];exact ex.vc p o u h
 ·rw[de (λz=>n (by rw[z];exact d))];exact ex.keep p o h n
theorem t8(D:y[n]?=some a)(I:H a=some (.dK v))
  (G:∀ (c:List Addr) (e:Hp) (d:s) (g:w) (k:jd) (f:List (ud × V)),a∈c->e a=some (.vc k (.dK f))->ok d=true->R c e d g->R c (pc e a (.dK f)) d g) (h:gc T E R y H (eD ok n o) Q) :
  gc T E R y H o (λg e=>∃ k f,e a=some (.vc k (.dK f))/\Q g (pc e a (.dK f))/\∃ c d,ok d=true/\R c e d g):=by
 cases o with
 |Pb=>exact h
 |ex x q=>exact h.elim
 |ok d q=>
  unfold eD at h;dsimp only at h;by_cases i:ok d=true
  ·rw[ia i]at h;cases t:q[n]? with
   |none=>rw[t]at h;exact h.elim
   |some ob=>
    rw[t]at h;cases ob with
    |Sf K=>
     intro c g e ex r F;obtain⟨L,m,k,f,p,u⟩:=r.obs n _ t;have j:=ex.get D;rw[j]at m;cases m;have l:=Fa j;have C:∀ b,b≠a->pc e a (.dK f) b=e b:=λb J=>de J;have A:∀ xs,e a≠some (.Ka xs):=λxs z=>by rw[p]at z;cases z
     have B:∀ o xs,e a≠some (.vc o (.la xs)):=λo xs z=>by rw[p]at z;cases z
     exact⟨k,f,p,h c g _ (wZ ex (Fa D) I p) (r.chg C j A B ⟨f,vh,LH C l A B u⟩) (G c e d g k f l p i F),c,d,i,F⟩
    |_=>exact h.elim
  ·rw[ka i]at h;exact h.elim
theorem EI(f:a∈c)(g:e a=some (.vc k (.dK i)))(d:D)(v:V)(h:La T c e d v):La T c (pc e a (.dK i)) d v:=
 La.chg (λb j=>de j) f (λxs z=>by rw[g]at z;cases z) (λo xs z=>by rw[g]at z;cases z) d v h
theorem Ř(h:FS T X s g):FS T X s (XG f g):=by
 intro t N st H D I l;obtain⟨O,ρ,σ,K,G,A⟩:=l;have p:=λq=>h t N st H D I ⟨O,ρ,σ,K,G,q⟩;unfold XG qI at A;split at A
 ·rename_i n _ _
  split at A
  ·rename_i S P
   obtain⟨a,R,V,L,_⟩:=G.obs n _ P;have F:∀ o u,X.H₀ a≠some (.vc o u):=λo u z=>by have:=I.base.Fi a o u z;rw[L]at this;cases this
   have q:=t8 R L (λJ e d y k c r j x m=>by
    cases d with
    |xc _ _=>cases x
    |nx E=>cases y<;>first|exact m.elim|exact⟨m.1,λi d q=>let ⟨v,B,C⟩:=m.2 i d q;⟨v,B,EI r j _ _ C⟩⟩
    |bk E=>cases y<;>first|exact m.elim|exact⟨m.1,λi d q=>let ⟨v,B,C⟩:=m.2 i d q;⟨v,B,EI r j _ _ C⟩⟩
    |ct E=>cases y<;>first|exact m.elim|exact⟨m.1,λi d q=>let ⟨v,B,C⟩:=m.2 i d q;⟨v,B,EI r j _ _ C⟩⟩
    |rt W=>cases y<;>first|exact m.elim|exact EI r j _ _ m) A
   refine Hc (h t N st H ⟨λb e=>∃ k c,e a=some (.vc k (.dK c))/\D.nx b (pc e a (.dK c)),λv e=>∃ k c,e a=some (.vc k (.dK c))/\D.rt v (pc e a (.dK c)),λb e=>∃ k c,e a=some (.vc k (.dK c))/\D.bk b (pc e a (.dK c)),λb e=>∃ k c,e a=some (.vc k (.dK c))/\D.ct b (pc e a (.dK c))⟩ I ⟨O,ρ,σ,K,G,q.imp λy e z=>?_⟩) (λQ Y z=>?_) λ_ _ z=>z
   ·obtain⟨k,c,j,l,J,d,x,m⟩:=z;cases y with
    |nx b=>exact⟨k,c,j,l⟩
    |rt v=>exact⟨k,c,j,l⟩
    |bk b=>exact⟨k,c,j,l⟩
    |ct b=>exact⟨k,c,j,l⟩
    |xc b cls fd=>cases d<;>first|exact m.elim|cases x
   ·cases Q with
    |next=>obtain⟨b,e,w,k,c,j,l⟩:=z;exact⟨b,_,w.Ww j F,l⟩
    |brk=>obtain⟨b,e,w,k,c,j,l⟩:=z;exact⟨b,_,w.Ww j F,l⟩
    |cont=>obtain⟨b,e,w,k,c,j,l⟩:=z;exact⟨b,_,w.Ww j F,l⟩
    |ret u=>obtain⟨v,b,e,w,U,k,c,j,l⟩:=z;exact⟨v,b,_,w.Ww j F,U,l⟩
  ·exact p A
 ·exact p A
end
end L4
namespace L4
open PySem PySem.Spec PyProof.Rows L2
section
variable{T:Tb}{X:Cx}{tg:Ma}
end
def ME(x y:D):M D:=λσ=>match rh σ x,rh σ y with
 |some xs,some a=>if xs.length+a.length<=ai then FB (xs++a) σ else .Pb
 |_,_=>.Pb
section
variable{T:Tb}{X:Cx}
theorem â:di X (Be .Add) (rD T ME):=by
 intro b s st H v u A z Q I w t h;obtain⟨E,F,i,x,y,r,n,o,a⟩:=h;unfold ME at a;cases c:rh i x with
 |none=>rw[c]at a;exact a.elim
 |some xs=>
  cases d:rh i y with
  |none=>rw[c,d]at a;exact a.elim
  |some D=>
   rw[c,d]at a;dsimp only at a;by_cases e:xs.length+D.length<=ai
   ·rw[ia e]at a;obtain⟨p,B,rfl,j,f⟩:=r.ls n c;obtain⟨q,C,rfl,k,g⟩:=r.ls o d;exact IV b s st H _ _ A z Q I w t ⟨p,q,B,C,rfl,rfl,j,k,by rw[<-f.length,<-g.length];exact Dy e,λl m=>EC a r (Db.append f g) m⟩
   ·rw[ka e]at a;exact a.elim
theorem yt:Pl T X a Js:=λpins s st H D I ⟨c,ρ,σ,_,_,b⟩=>b.elim
end
open Classical in
def cP(d b c:List Addr):Prop:=(∃ r,b=d++r)/\(∀ (n:Nat) (a:Addr),d[n]?=some a->c[n]?=some a)/\∀ a∈c,a∈b
section
variable{T:Tb}{μ μ' μ2:List Addr}{H H':Hp}{σ σ':Ta}
mutual
theorem LM.down(e:cP μ μ' μ2):∀ (d:D) (v0 v:V),La T μ H d v0->La T μ' H' d v->La T μ2 H' d v
 | .wc,v0,v,_,h=>by simpa [La]using h
 | .bl b,v0,v,_,h=>by simpa [La]using h
 | .int i,v0,v,_,h=>by simpa [La]using h
 | .str x,v0,v,_,h=>by simpa [La]using h
 | .Ka ds,v0,v,c,h=>by
  rw[La]at h c ⊢;obtain⟨p,m,g,f,j⟩:=h;obtain⟨G,l,_,_,w⟩:=c;exact⟨p,m,g,f,Cr.down e ds l m w j⟩
 | .Fh ns,v0,v,_,h=>by rw[La]at h ⊢;exact h
 | .ref n,v0,v,c,h=>by
  rw[La]at h c ⊢;obtain⟨a,g,f⟩:=h;obtain⟨b,_,t⟩:=c;refine⟨a,g,?_⟩;have j:=e.2.1 _ _ t;obtain⟨⟨r,rfl⟩,_⟩:=e;rw[Hb (ja.mp t).1]at f;rw[t]at f;cases f;exact j
 | .la ds,v0,v,c,h=>by
  rw[La]at h c ⊢;obtain⟨a,m,g,f,j,o⟩:=h;obtain⟨_,l,_,_,_,s⟩:=c;exact⟨a,m,g,λz=>f (e.2.2 _ z),j,Cr.down e ds l m s o⟩
 | .yc ks ds,v0,v,c,h=>by
  rw[La]at h c ⊢;obtain⟨a,m,g,f,j,u,o⟩:=h;obtain⟨_,l,_,_,_,_,s⟩:=c;exact⟨a,m,g,λz=>f (e.2.2 _ z),j,u,Cr.down e ds _ _ s o⟩
 | .obj k ns ds,v0,v,c,h=>by
  rw[La]at h c ⊢;obtain⟨a,B,m,g,f,j,u,o⟩:=h;obtain⟨_,_,l,_,_,_,_,s⟩:=c;exact⟨a,B,m,g,λz=>f (e.2.2 _ z),j,u,Cr.down e ds _ _ s o⟩
 | .Dt k,v0,v,_,h=>by
  rw[La]at h ⊢;obtain⟨a,A,g,f,j,o⟩:=h;exact⟨a,A,g,λz=>f (e.2.2 _ z),j,λn q=>let ⟨y,C,E,F⟩:=o n q;⟨y,C,λz=>E (e.2.2 _ z),F⟩⟩
 | .gt ss,v0,v,_,h=>by rw[La]at h ⊢;exact h
theorem Cr.down(e:cP μ μ' μ2):∀ (b:List D) (a f:List V),Db T μ H b a->Db T μ' H' b f->Db T μ2 H' b f
 |[],a,f,_,h=>by simpa [Db]using h
 |d::b,a,f,c,h=>by
  rw[Db]at h c ⊢;obtain⟨v,r,j,k,l⟩:=h;obtain⟨m,r0,_,g,i⟩:=c;exact⟨v,r,j,LM.down e d m v g k,Cr.down e b r0 r i l⟩
end
end
end L4
namespace L4
open PySem PySem.Spec PyProof.Rows L2
section
variable{P:Aa}{w:Wa}{K:W.Frag}{mg:Str->Option Value}{base:Heap}{T:Tb}
end
section
variable{T:Tb}{X:Cx}
end
section
variable{T:Tb}{X:Cx}{tg:Ma}
end
section
variable{T:Tb}{X:Cx}
end
def uQ(a b:List D):M (List D):=ret (b++a)
def rz(a:List D)(b:Ev->M (List D)):Ev->M (List D):=λc=>Fd (b c) (uQ a)
section
variable{T:Tb}{X:Cx}
theorem T2(hm:X.mg x=some (.ref (T.ca c)))(y:Mk T.K (T.ca c) f)(O:Cs T.K L d b)
  (N:ri X.prog X.w T.K X.mg X.base (Il X.prog X.w) k f L d (xq T d.length i)) (hv:ue g b) (B:∀ u H,Db T u H a g) (S:T.K=X.K) (hr:Yd (k+1) X.A) (Z:Gl X x)
  (U:FA T X (e::m) j) (z:(x == ("__debug__" : Str))=false:=by decide) (Y:qa (e::m) X.env=(false,Yb e X.env)::qa m X.env:=by rfl) (E:(Vc h (qa m X.env)).any (·.1)=false:=by rfl) :
  FE T X (.Call (.Name x p) (e::m) [] h) (Kt c d.length i (rz a j)):=by
 rw[S]at y N O;intro n s st H Q I hq;obtain⟨u,ρ,σ,R,F,hp⟩:=hq;have C:gc T (XE X st) (La T) u H (Fd (j ρ) (λo=>Lp c d.length i (o++a)) σ) Q:=by
  have:Kt c d.length i (rz a j) ρ σ=Fd (j ρ) (λo=>Lp c d.length i (o++a)) σ:=by
   unfold Kt rz uQ Fd;cases j ρ σ<;>rfl
  rw[<-this];exact hp
 refine Uf (BB I Z hm ?_ z);refine W.callWith_K I.ok.mod.Ky y.kp (pe (U h n s st H (λG l=>∀ x t,l x=none->l t=none->t≠x->xq T d.length i (.ref x::(G++g)) (pc (pc l t (.own x)) x (.Jd (T.ca c) t [])) (λv P=>v=.wc/\Q (.ref x) P) (XE X st)) I ⟨u,ρ,σ,R,F,C.bind λo a1 a0 G l _ e1 r1 p1 q1=>?_⟩) λus s1 ⟨G,l,J,r,q⟩=>⟨J.sk,?_⟩) Y E
 ·have:=vT r1 (Db.append p1 (B _ _)) q1;rw[Ph]at this;exact this
 ·exact SU y N hr O hv J r q
theorem UO(C:X.mg x=some (.ref (T.ca c)))(t:Mk T.K (T.ca c) f)(h:uw T X.prog X.w X.mg X.base k f ps n o)(y:a=[]\/a=n)(F:ue d a)(l:∀ G H,Db T G H b d)(s:T.K=X.K)(E:Yd (k+1) X.A)(B:Gl X x)
  (u:FA T X (e::g) q) (j:(x == ("__debug__" : Str))=false:=by decide) (z:qa (e::g) X.env=(false,Yb e X.env)::qa g X.env:=by rfl) (m:(Vc i (qa g X.env)).any (·.1)=false:=by rfl) :
  FE T X (.Call (.Name x p) (e::g) [] i) (Kt c ps.length o (rz b q)):=by
 obtain⟨I,J,v,r⟩:=h;exact T2 C t (by rcases y with rfl|rfl<;>assumption) r F l s E B u j z m
end
structure tD(P:Aa)(w:Wa)(K:W.Frag)(mg:Str->Option Value)(base:Heap)(k:Nat)(f:Addr)(fd:qf)(ps:List Str)(sp:Sp):Prop where
 len:∀ vs H Q E,sp vs H Q E->vs.length=ps.length
 Nd:∀ (A:Qa) (outer:List qh) (s:aa) (H:Hp) (args:Args) (us:List Value) (vs:List V) (Q:VK) (E:XK),Yd k { A with handled:=none }->bo P w K mg base A outer s H->yh s fd args (ps.zip us)->ue vs us->sp vs H Q E->
  codeAny (model P w) A (.call (.ref f) args) (CR (Il P w) outer P w H s Q E) s
section
variable{P:Aa}{w:Wa}{K:W.Frag}{mg:Str->Option Value}{base:Heap}{ca:Nat->Addr}{tx:Tx}{T:Tb}{k:Nat}{f:Addr}{ps:List Str}
def aJ(T:Tb)(P:Aa)(w:Wa)(mg:Str->Option Value)(base:Heap)(k:Nat)(x:Str)(ps:List Str)(c:List D->M D):Prop:=
 ∃ f b,mg x=some (.ref f)/\W.keepIn T.K (.ref f)=true/\(∀ a:List Value,a.length=ps.length->bindArgs b ⟨a,[]⟩=pure (ps.zip a))/\tD P w T.K mg base k f b ps (xq T ps.length c)
theorem aJ.Ab(h:aJ T P w mg base k x ps a):aJ T P w mg base k x ps (L4.Ab a):=by rw[Rr];exact h
end
section
variable{T:Tb}{X:Cx}
open Classical in
open Classical in
end
section
variable{T:Tb}{X:Cx}
open Classical in
theorem ygd{f:List Addr}{g:Hp}{c:Em}{J:It}(h:wG T f g c J):XA T f g c.nx J:=λl H j i ex r=>by
 have q:=h l H j i ex r;cases e:c.nx i j with
 |none=>trivial
 |some o=>
  rw[e]at q;cases o with
  |none=>exact q
  |some d=>exact⟨q.1,λx k y=>let ⟨a,b⟩:=q.2 x k y;by subst a;exact⟨ie.refl _ _,r,b⟩⟩
noncomputable def CL(s:Em):M NX:=ret s.nx
def Fk(f:Ev->M Em):Ev->M NX:=λa=>Fd (f a) CL
theorem oq(h:FI T X c a f):Ay T X c a (Fk f):=by
 intro b s st H R I i;obtain⟨n,ρ,σ,d,g,e⟩:=i;exact h b s st H R I ⟨n,ρ,σ,d,g,e.bind λm p o J q _ r l k j=>gc.here j l (ygd k)⟩
theorem qL{K m E:Ma}
  (hN:X.N.Nodup) (hi:X.N[i]?=some y) (hx:Loc X.env.scope y)
  (hc:X.Da=true) (L:fo X x M' ix f) (Y:Ay T X E m Q)
  (b6:∀ cl C k j ex,FG T (Du X (x::z0::M') f cl C k j ex) E tg)
  (a9:∀ cl C k j ex,ZE T (Du X (x::z0::M') f cl C k j ex) P fi)
  (V:∀ cl C k j ex,FE T (Du X (x::z0::M') f cl C k j ex) K fe)
  (hs:∀ y,xh m X.env y=pure y:=by intro _;rfl)
  (b4:Qi (.ListComp K [⟨E,m,P,0⟩] f a2) (some (.Name y py)) G.line X.env=pure true:=by rfl)
  (hf:X.fn y=true\/X.env.scope.names.lookup y=some .local:=by first|exact .inl rfl|exact .inr rfl|assumption) :
  FS T X (.Assign [.Name y py] (.ListComp K [⟨E,m,P,0⟩] f a2) G) (Ue i (pj Q ix tg fi fe)):=by
 intro F s st H D I h;obtain⟨μ,ρ,σ,hE,hr,b2⟩:=h;have hp:gc T (XE X st) (La T) μ H (pj Q ix tg fi fe ρ σ) (λv S=>D.nx (st.set i (some v)) S):=b2.xs hE λd a5 a4 v S _ e1 r1 q1 p1=>gc.here (g:=zr.nx (st.set i (some v))) p1 r1 ((hE.mono e1).set i q1);rw[exec_Assign_Name_used _ _ _ _ b4];refine da (qu (da ?_));refine da (Hc (wu rfl hs (zJ X.env f (kA I L)) L.kind (λy hy e=>?_)
  ?_) (λ_ s' hq=>ua (ua hq)) λ_ _ e=>e)
 ·have q:=Vb.mp L.names y hy;rw[e]at q;exact eq_of_beq q
 have h1:=Y F s st H (λJ w=>∃ nx l u,ie μ H l w/\Sd T l w u/\XA T l w nx J/\gc T (XE X st) (La T) l w (Fd (El nx u.length tg fi fe 1001 0 (Av ix ρ)) (λ_=>ret (.ref u.length)) (u++[Ob.la []])) (λv S=>D.nx (st.set i (some v)) S)) I
  ⟨μ,ρ,σ,hE,hr,hp.bind λnx a5 a4 J S _ e1 r1 q1 p1=>⟨nx,a4,a5,e1,r1,q1,p1⟩⟩
 refine pe h1 λv s1 h2=>pe h2 λb9 s2 h3=>?_;obtain⟨it,fp,tn,J,w,rfl,I2,TT,a3,f2,nx,l,u,a6,r2,so,p2⟩:=h3;refine pf (km (QD L) (by intro y hy;simp at hy) (λZ A B=>?_) L.kind);have R:=I2.kz (t':=s2.toks) .nil (by simp);have U:w s2.heap.objs.size=none:=I2.zd.fresh (ya _);have r3:=r2.push (ob:=.la []) U ⟨[],vh,Db.nil⟩;have O:ie l w (l++[s2.heap.objs.size]) (pc w s2.heap.objs.size (.la [])):=Zw U;have b5:s2.heap.objs.size<(s2.heap.push { cls:=.type "list",data:=.seq [].toArray }).objs.size:=by rw[Vg];exact pd _
 have kp:∀ b o,(s2.heap.push { cls:=.type "list",data:=.seq [].toArray }).get? b=some o->Z.get? b=some o:=λb o e=>B.extBut b o (Pa (za e)) (na _ e);have t:∀ b∈fp,Wm X F (pc w s2.heap.objs.size (.la [])) b/\b<(s2.heap.push { cls:=.type "list",data:=.seq [].toArray }).objs.size:=λb n=>by
  obtain⟨o,e,_⟩:=TT.obj 0 _ a3 b n;have lt:=za e;exact⟨⟨by rw[de (Pa lt)];exact(f2 b n).1,(f2 b n).2⟩,Xs lt b5⟩
 refine eV hc L b6 a9 V R t A kp TT (TT.keep 0 _ _ a3 λb n o e=>kp b o (na _ e))
  (λμ H σ i ex r=>so μ H σ i (O.trans ex) r) ((hE.mono a6).mono O) r3 (by rw[<-r2.len];simp) (p2.mono O) (λs6 H' m6 b0 a7 b7 b1 W a8 hq=>?_)
 have I6:=L2.Za.iv (s':=s6) (ch:=fp) R b1 b7 W a8 (λb n=>⟨(t b n).1.2.2.2.1,(t b n).1.2.1,(t b n).1.2.2.2.2.1,(t b n).1.2.2.2.2.2⟩);have a1:X.env.locals<(s2.heap.push { cls:=.type "list",data:=.seq ([]:List Value).toArray }).objs.size:=R.lt;have a0:∀ z c,X.env.cells.lookup z=some c->c<(s2.heap.push { cls:=.type "list",data:=.seq ([]:List Value).toArray }).objs.size:=λz c e=>by
  obtain⟨v,q⟩:=R.cell z c e;exact q.lt
 refine cC (YR (v:=.ref s2.heap.objs.size) I6 hN hi hx rfl (λs7 I7 zz=>?_) hf);obtain⟨a,sb,ha⟩:=zz;have b8:a≠(s2.heap.push { cls:=.type "list",data:=.seq ([]:List Value).toArray }).objs.size:=by
  rcases ha with rfl|ha
  ·exact Pa a1
  ·exact Pa (a0 _ _ ha)
 refine⟨m6,b0.sameBut sb (Xe b8),λh8 b3=>?_⟩;refine⟨st.set i (some (.ref s2.heap.objs.size)),H',?_,hq⟩;exact I7.turned (t':=s7.toks) (it:=(s2.heap.push { cls:=.type "list",data:=.seq ([]:List Value).toArray }).objs.size) (λb o n e=>(b3.2 b n).trans e) a7 (fh a1) (.inr (Ib R.sz (ya _))) (λz c e=>Pa (a0 z c e)) (λp hp=>Pa (za (R.pin p hp).1))
end
section
variable{P:Aa}{w:Wa}
def KS(c h:Heap):Prop:=∀ b o a n,c.get? b=some o->o.data=.seq a n->h.get? b=some o
theorem KS.keeps{es ep}(x:KS i h)(k:h.get? d=some o)(j:o.data=.dict es ep)(l:kg d h g):KS i g:=λb m f n e a=>by
 have q:=x b m f n e a;have c:b≠d:=by
  rintro rfl;rw[k]at q;cases q;rw[j]at a;exact nomatch a
 exact(l.2 b c).trans q
def NT(P:Aa)(w:Wa)(e:Heap):Nat->Value->Int->Nat->Prop
 |0,v,x,n=>∃ k,(um P w).is k v=true/\x=(um P w).hash k/\n=1
 |d+1,v,x,n=>(∃ k,(um P w).is k v=true/\x=(um P w).hash k/\n=1)\/
  ∃ a o b m,∃ c:List (Value × Int × Nat),v=.ref a/\e.get? a=some o/\o.cls=.type "tuple"/\o.data=.seq b m/\b.toList=c.map (·.1)/\(∀ p∈c,NT P w e d p.1 p.2.1 p.2.2)/\
   x=reduceHash (oF (c.map (·.2.1)))/\n=(c.map (·.2.2)).sum+1
structure NQ(P:Aa)(w:Wa)(h0:Heap)(a0:Addr)(x0:Int)(n0:Nat)(t:ud):Prop where
 nt:NT P w h0 5 (.ref a0) x0 n0
 hd:∃ o v0 its m,h0.get? a0=some o/\o.cls=.type "tuple"/\o.data=.seq its m/\its.toList.head?=some v0/\(um P w).is t v0=true
end
section
variable{T:Tb}{X:Cx}
open Classical in
end
structure Jo(K:W.Frag)(C:Addr):Prop where
 f:W.findIn K (.ref C) "__eq__" = some (some (.builtin "object.__eq__"))
 o:W.mroIn K C (.type "object")=some true
section
variable{prog:Aa}{w:Wa}{K:W.Frag}{A:Qa}{E:Value->aa->Prop}{h:Heap}{g:Array Dp}{d:mC}{t:Nat}{os:pC}{x y C D:Addr}{ox oy:jd}
theorem ZQ{M:lm}(X:K.In h)(f:W.findIn K (.ref C) a=some r)(e:h.get? x=some ox)(b:ox.cls=.ref C)(c:Q r ⟨h,g,d,t,os⟩):wpAny M A (specialOf (.ref x) a) Q E ⟨h,g,d,t,os⟩:=by
 unfold specialOf;repeat (first|(with_reducible refine qe e ?_;rw[b])|(with_reducible refine W.Looks.at (W.looks_findIn X f) ?_)|wp_step)
 exact c
theorem iU(X:K.In h)(c:Jo K C)(n:h.get? x=some ox)(l:ox.cls=.ref C)(r:h.get? y=some oy)(i:x≠y)(q:Q .notImplemented ⟨h,g,d,t,os⟩) :
  wpAny (model prog w) A (call (.builtin "object.__eq__") [.ref x,.ref y]) Q E ⟨h,g,d,t,os⟩:=by
 refine Co (Ox Do.eq.plain QI ?_);have j:=LN (.ref x) (.ref y);have f:=W.looks_mroIn (M:=model prog w) X c.o;have b:ox.cls≠.type "tuple":=by rw[l];intro e;cases e
 simp only[pF,MN,RI];refine da ?_;unfold isInstance;have s:∀ (k:Unit->aa->Prop),k () ⟨h,g,d,t,os⟩->wpAny (model prog w) A (match Ah "object.__eq__" with|some sig=>Xg "object.__eq__" sig ⟨[.ref x,.ref y],[]⟩|none=>pure ()) k E ⟨h,g,d,t,os⟩:=λk m=>by
  cases a:Ah "object.__eq__" with
  |none=>exact ua m
  |some sig=>
   simp only[argsOk,a]at j;have p:Xg "object.__eq__" sig ⟨[.ref x,.ref y],[]⟩=pure ():=j;show wpAny _ A (Xg "object.__eq__" sig ⟨[.ref x,.ref y],[]⟩) k E _;rw[p];exact ua m
 repeat (first|(with_reducible refine qe n ?_;rw[l])|(with_reducible refine W.Looks.at f ?_)|(with_reducible refine Ck i n r b ?_)|wp_step)
 exact q
theorem xH(X:K.In h)(c:Jo K C)(e:h.get? x=some ox)(b:ox.cls=.ref C)(j:h.get? y=some oy)(a:x≠y)(i:Q none ⟨h,g,d,t,os⟩) :
  wpAny (model prog w) A (kt (.ref x) "__eq__" (.ref y)) Q E ⟨h,g,d,t,os⟩:=by
 simp only[kt];refine da ?_;simp only[Xy,Yy];refine Qd (da (da (ZQ X c.f e b ?_)));simp only[Do.eq.bind];refine da (dF (wpAny_ite ?_));split
 ·exact da (ua (ua (da (iU X c e b j a (ua (ua i))))))
 ·exact Ef (da (ua (ua (da (iU X c e b j a (ua (ua i)))))))
theorem V5(X:K.In h)(c:Jo K C)(o:Jo K D)(q:W.mroIn K D (.ref C)=some false)(j:h.get? x=some ox)(k:ox.cls=.ref C)(f:h.get? y=some oy)(a:oy.cls=.ref D)(i:C≠D)(r:A.units<cLine)(p:Q (.bool false) ⟨h,g,d,t,os⟩) :
  wpAny (model prog w) A (Sb .Eq (.ref x) (.ref y)) Q E ⟨h,g,d,t,os⟩:=by
 have b:x≠y:=λe=>by
  subst e;rw[j]at f;cases f;rw[k]at a;cases a;exact i rfl
 have m:ox.cls≠.type "tuple":=by rw[k];intro e;cases e
 have n:=W.looks_mroIn (M:=model prog w) X q;have l:(Ec C != Ec D)=true:=by simp[i]
 show wpAny (model prog w) A (tm .Eq (.ref x) (.ref y)) Q E _;simp only[tm,xA,aw];repeat (first|with_reducible refine dt r ?_|(with_reducible refine qe j ?_;rw[k])|(with_reducible refine qe f ?_;rw[a])|(rw[l,ia rfl];with_reducible refine da (W.Looks.at n ?_))|(with_reducible refine W.Looks.at n ?_)|(with_reducible refine xH X c j k f b ?_)|(with_reducible refine xH X o f a j (Xe b) ?_)|(with_reducible refine Ck b j f m ?_)|wp_step)
 exact p
end
def VS(K:W.Frag):R2:=λv u H Q=>∃ x y C D a b c d,v=.ref x/\u=.ref y/\H x=some (.Jd C a c)/\H y=some (.Jd D b d)/\Jo K C/\Jo K D/\W.mroIn K D (.ref C)=some false/\C≠D/\Q (.bl false) H
def uF(K:W.Frag)(a:Nat->Addr)(l:List (Nat × Nat)):Prop:=∀ p∈l,Jo K (a p.1)/\Jo K (a p.2)/\W.mroIn K (a p.2) (.ref (a p.1))=some false/\a p.1≠a p.2
theorem ZY{K:W.Frag}:uF K a []:=λ_ h=>nomatch h
theorem wK{K:W.Frag}(a:Jo K (e c))(b:Jo K (e d))(m:W.mroIn K (e d) (.ref (e c))=some false)(n:e c≠e d)(r:uF K e l):uF K e ((c,d)::l):=λp f=>by
 rcases Ea.mp f with rfl|f
 ·exact⟨a,b,m,n⟩
 ·exact r p f
section
variable{T:Tb}{X:Cx}
theorem Ŷ(G:X.A.units+9<cLine):di X (Sb .Eq) (VS X.K):=by
 intro b s st H v u z F Q I E B h;obtain⟨x,y,C,D,f,i,j,k,rfl,rfl,l,m,c,e,o,a,q⟩:=h;obtain rfl:z=Ec x:=E;obtain rfl:F=Ec y:=B;obtain⟨_,_,_,p,_⟩:=(show Ym X.prog X.w H s.heap x (.Jd C f j)from I.zd x _ l)
 obtain⟨_,_,_,r,_⟩:=(show Ym X.prog X.w H s.heap y (.Jd D i k)from I.zd y _ m)
 have n:=I.sk;obtain⟨h,g,d,t,J⟩:=s;exact V5 n c e o p rfl r rfl a (by omega) ⟨.bl false,H,I,rfl,q⟩
end
def lG(x y:D):M D:=λσ=>match x,y with
 | .gt ss,.gt a=>(match Al (li σ 0) (ss.map D.str) (a.map D.str)with
  |some b=>.ok (.bl b) σ
  |none=>.Pb)
 |_,_=>.Pb
theorem M5(C:T.K=X.K)(R:X.A.units+9<cLine):di X (Sb .Eq) (rD T lG):=by
 intro c s st H v u j V Q I M L h;obtain⟨E,k,σ,x,y,r,g,i,a⟩:=h;unfold lG at a;cases x with
 |gt ss=>
  cases y with
  |gt ts=>
   dsimp only at a;cases e:Al (li σ 0) (ss.map D.str) (ts.map D.str)with
   |none=>rw[e]at a;exact a.elim
   |some b=>
    rw[e]at a;rw[La]at g i;obtain⟨p,rfl,d⟩:=g;obtain⟨q,rfl,f⟩:=i;rw[C]at d f;cases M;cases L;obtain⟨S,F,N,_⟩:=L2.Za.tuple I (.inr d);obtain⟨U,G,O,_⟩:=L2.Za.tuple I (.inr f);obtain⟨z,B⟩:=nN (A:=X.A.in1) (λx y v w j P b l m n o t=>PH I r 0 X.A.in1 x y v w j P b (by show X.A.units+1+0+1<cLine;omega) l m n o t) (GF (T:=T) (μ:=k) (H:=H) ss) (GF ts) F G e;have J:ki X.A s (.ref p) (.ref q) b:=by rw[B];exact .tuples N O (by omega) z
    exact J X.prog X.w X.xe (EP X c st Q) ⟨.bl b,H,I,rfl,gc.here a r (by rw[La])⟩
  |_=>exact a.elim
 |_=>exact a.elim
end L4
namespace L4
open PySem PyProof.Rows PySem.W L2
end L4
namespace L4
open PySem PySem.Spec PyProof.Rows L2
section
variable{prog:Aa}{w:Wa}{K:W.Frag}{A:Qa}{E:Value->aa->Prop}{h:Heap}{g:Array Dp}{d:mC}{t:Nat}{os:pC}{x y C:Addr}{ox oy:jd}
theorem XS(X:K.In h)(c:Jo K C)(m:h.get? x=some ox)(j:ox.cls=.ref C)(l:Q (.bool true) ⟨h,g,d,t,os⟩) :
  wpAny (model prog w) A (call (.builtin "object.__eq__") [.ref x,.ref x]) Q E ⟨h,g,d,t,os⟩:=by
 refine Co (Ox Do.eq.plain QI ?_);have e:=LN (.ref x) (.ref x);have b:=W.looks_mroIn (M:=model prog w) X c.o;simp only[pF,MN,RI];refine da ?_;unfold isInstance;have n:∀ (k:Unit->aa->Prop),k () ⟨h,g,d,t,os⟩->wpAny (model prog w) A (match Ah "object.__eq__" with|some sig=>Xg "object.__eq__" sig ⟨[.ref x,.ref x],[]⟩|none=>pure ()) k E ⟨h,g,d,t,os⟩:=λk f=>by
  cases a:Ah "object.__eq__" with
  |none=>exact ua f
  |some sig=>
   simp only[argsOk,a]at e;have i:Xg "object.__eq__" sig ⟨[.ref x,.ref x],[]⟩=pure ():=e;show wpAny _ A (Xg "object.__eq__" sig ⟨[.ref x,.ref x],[]⟩) k E _;rw[i];exact ua f
 repeat (first|(with_reducible refine qe m ?_;rw[j])|(with_reducible refine W.Looks.at b ?_)|(with_reducible refine wpAny_isSame_ref_self ?_)|wp_step)
 exact l
theorem mY(X:K.In h)(c:Jo K C)(b:h.get? x=some ox)(a:ox.cls=.ref C)(e:Q (some (.bool true)) ⟨h,g,d,t,os⟩) :
  wpAny (model prog w) A (kt (.ref x) "__eq__" (.ref x)) Q E ⟨h,g,d,t,os⟩:=by
 simp only[kt];refine da ?_;simp only[Xy,Yy];refine Qd (da (da (ZQ X c.f b a ?_)));simp only[Do.eq.bind];refine da (dF (wpAny_ite ?_));split
 ·exact da (ua (ua (da (XS X c b a (ua (ua e))))))
 ·exact Ef (da (ua (ua (da (XS X c b a (ua (ua e)))))))
theorem D7(X:K.In h)(c:Jo K C)(b:h.get? x=some ox)(f:ox.cls=.ref C)(k:h.get? y=some oy)(i:oy.cls=.ref C)(n:A.units<cLine)(o:Q (.bool true) ⟨h,g,d,t,os⟩)(m:Q (.bool false) ⟨h,g,d,t,os⟩) :
  wpAny (model prog w) A (Sb .Eq (.ref x) (.ref y)) Q E ⟨h,g,d,t,os⟩:=by
 have l:ox.cls≠.type "tuple":=by rw[f];intro e;cases e
 have j:(Ec C != Ec C)=false:=by simp
 show wpAny (model prog w) A (tm .Eq (.ref x) (.ref y)) Q E _;by_cases a:x=y
 ·subst a;simp only[tm,xA,aw];repeat (first|with_reducible refine dt n ?_|(with_reducible refine qe b ?_;rw[f])|(rw[j,ka ub])|(with_reducible refine mY X c b f ?_)|wp_step)
  exact o
 ·simp only[tm,xA,aw];repeat (first|with_reducible refine dt n ?_|(with_reducible refine qe b ?_;rw[f])|(with_reducible refine qe k ?_;rw[i])|(rw[j,ka ub])|(with_reducible refine xH X c b f k a ?_)|(with_reducible refine xH X c k i b (Xe a) ?_)|(with_reducible refine Ck a b k l ?_)|wp_step)
  exact m
end
def B4(K:W.Frag):R2:=λv u H Q=>VS K v u H Q\/∃ x y C a b c d,v=.ref x/\u=.ref y/\H x=some (.Jd C a c)/\H y=some (.Jd C b d)/\Jo K C/\Q (.bl true) H/\Q (.bl false) H
def zW(A R:Hl Fl):Prop:=∃ d a,A=.ok (.rt d) a/\R=.ok (.rt d) a
open Classical in
def yL(l:List (Nat × Nat))(a:List Nat)(A R:M Fl)(x y:D):M Fl:=λσ=>match mn σ x,mn σ y with
 |some (c,_),some (d,_)=>if (c,d)∈l then R σ else if (c=d/\c∈a)/\zW (A σ) (R σ)then R σ else .Pb
 |_,_=>.Pb
def vC(l:List (Nat × Nat))(b:List Nat)(c d:Ev->M D)(e f:Ev->M Fl):Ev->M Fl:=λa=>xs a (c a) λx=>xs a (d a) (yL l b (e a) (f a) x)
theorem yjf{K:W.Frag}{a:Nat->Addr}:∀ c∈([]:List Nat),Jo K (a c):=λ_ h=>nomatch h
theorem ĺ{K:W.Frag}{b:Nat->Addr}(a:Jo K (b c))(r:∀ x∈l,Jo K (b x)):∀ x∈c::l,Jo K (b x):=λx d=>by
 rcases Ea.mp d with rfl|d
 ·exact a
 ·exact r x d
section
variable{T:Tb}{X:Cx}
theorem Á(r:X.A.units+9<cLine):di X (Sb .Eq) (B4 X.K):=by
 intro a s st H v u b i Q I f e h;rcases h with h|h
 ·exact Ŷ r a s st H v u b i Q I f e h
 ·obtain⟨x,y,C,j,k,l,m,rfl,rfl,n,o,c,q,D⟩:=h;obtain rfl:b=Ec x:=f;obtain rfl:i=Ec y:=e;obtain⟨_,_,_,z,_⟩:=(show Ym X.prog X.w H s.heap x (.Jd C j l)from I.zd x _ n)
  obtain⟨_,_,_,B,_⟩:=(show Ym X.prog X.w H s.heap y (.Jd C k m)from I.zd y _ o)
  have p:=I.sk;obtain⟨h,g,d,t,E⟩:=s;exact D7 p c z rfl B rfl (by omega) ⟨.bl true,H,I,rfl,q⟩ ⟨.bl false,H,I,rfl,D⟩
theorem T9{A rest:List Stmt}(hu:X.A.units+9<cLine)(ht:uF X.K T.ca l)(hs:∀ c∈w,Jo X.K (T.ca c))(hm:Ge .Eq b=false)(hl:FE T X a S)(hr:FE T X b U)(ha:Pl T X A z)(i:Pl T X rest B) :
  Pl T X (.If (.Compare a [.Eq] [b] p) A [] G::rest) (vC l w S U z B):=by
 intro n s st H D I hw;refine aQ (cQ (HJ (Á hu) hl hr hm) ha bT) i n s st H D I ?_;obtain⟨μ,ρ,σ,m,E,hp⟩:=hw;refine⟨μ,ρ,σ,m,E,gc.xs m hp λx N L v H1 _ r r1 p1 q1=>⟨L,ρ,N,m.mono r,r1,gc.xs (m.mono r) q1 λy f j u H2 _ R o p2 e=>?_⟩⟩;have F:=La.mono R _ _ p1;have h:=(m.mono r).mono R;unfold yL at e;cases q:mn f x with
 |none=>rw[q]at e;exact e.elim
 |some cf=>
  cases t:mn f y with
  |none=>rw[q,t]at e;exact e.elim
  |some cg=>
   obtain⟨c,fs⟩:=cf;obtain⟨d,gs⟩:=cg;rw[q,t]at e;dsimp only at e;obtain⟨O,P,vs,rfl,W,_⟩:=ZB o F q;obtain⟨k,Q,ws,rfl,Y,_⟩:=ZB o p2 t;by_cases g:(c,d)∈l
   ·rw[ia g]at e;obtain⟨z1,z2,z3,z4⟩:=ht (c,d) g;exact .inl ⟨O,k,_,_,P,Q,vs,ws,rfl,rfl,W,Y,z1,z2,z3,z4,false,rfl,j,ρ,f,h,o,e⟩
   ·rw[ka g]at e;by_cases C:(c=d/\c∈w)/\zW (z ρ f) (B ρ f)
    ·rw[ia C]at e;obtain⟨⟨rfl,hc⟩,dd,a0,hA,hR⟩:=C;refine .inr ⟨O,k,_,P,Q,vs,ws,rfl,rfl,W,Y,hs c hc,⟨true,rfl,j,ρ,f,h,o,?_⟩,⟨false,rfl,j,ρ,f,h,o,e⟩⟩;rw[hR]at e;rw[hA];intro J V H' e' r' Z;have:=e J V H' e' r' Z;cases V with
     |rt v=>exact this
     |_=>exact Z.elim
    ·rw[ka C]at e;exact e.elim
end
def Gv(c:Ev->M Bool)(g:Ev->M Fl):Nat->Ev->M Fl
 |0,_=>Pb
 |n+1,ρ=>xs ρ (c ρ) λb=>if b=true then Fd (g ρ) (xu (Gv c g n))else ret (.nx ρ)
def UK(c:Ev->M Bool)(g:Ev->M Fl):Ev->M Fl:=Gv c g 100
section
variable{T:Tb}{X:Cx}{c:Ma}{body:List Stmt}{tc:Ev->M Bool}{g:Ev->M Fl}{pos:Ce}
theorem v9(o:Yj (model X.prog X.w) X.A X.env X.xe)(K:FT T X c tc)(J:Pl T X body g):FS T X (.While c body [] pos) (UK tc g):=by
 intro e s st H D I L;refine zvo o K J e s st H D I ?_;obtain⟨b,ρ,σ,G,M,o⟩:=L;refine⟨λn d j=>∃ b ρ σ,Th T b j ρ d/\Sd T b j σ/\gc T EN (wm T) b j (Gv tc g n ρ σ) (Tl X D),⟨100,b,ρ,σ,G,M,o⟩,?_⟩;rintro m d j ⟨q,i,x,a,Q,C⟩;cases m with
 |zero=>exact C.elim
 |succ m=>
  refine⟨q,i,x,a,Q,C.xs a λc u p v S _ z E O B=>?_⟩;cases O;cases c with
  |true=>
   exact⟨λf k=>∃ b ρ σ,Th T b k ρ f/\Sd T b k σ/\gc T EN (wm T) b k (Gv tc g m ρ σ) (Tl X D),λf k h=>⟨m,pd _,h⟩,p,i,u,a.mono z,E,B.bind λW y r Y U _ V F P p4=>WG F P p4 λt R l N=>⟨r,t,y,l,F,N⟩⟩
  |false=>
   exact gc.here (g:=zr.nx d) B E (a.mono z)
end
section
variable{T:Tb}{X:Cx}
def IA(x:D)(xs:List D):M D:=λσ=>match x,xs with
 | .ref n,[.int i]=>(match bi σ n with
  |some a=>if 0<=i/\i<1000 then (match a[i.toNat]? with
   |some y=>.ok y (σ.set n (.la (a.take i.toNat++a.drop (i.toNat+1))))
   |none=>.Pb)else .Pb
  |none=>.Pb)
 |_,_=>.Pb
theorem ŷ:Rz T qQ IA:=by
 intro E C H σ x xs v b Q r p q h;cases x with
 |ref n=>
  match xs with
  |[.int i]=>
   obtain⟨w,z,rfl,t,A⟩:=q;rw[Db]at A;subst A;rw[La]at t;subst t;unfold IA at h;cases c:bi σ n with
   |none=>simp only[c]at h;exact h.elim
   |some j=>
    simp only[c]at h;by_cases m:0<=i/\i<1000
    ·rw[ia m]at h;cases f:j[i.toNat]? with
     |none=>simp only[f]at h;exact h.elim
     |some y=>
      simp only[f]at h;obtain⟨a,b,rfl,o,k,g⟩:=r.la p c;obtain⟨u,s,G⟩:=g.get f;have F:=(ja.mp s).1;have ex:∀ l,ie C H C (pc H a (.la l)):=λl=>Nv (Fa o) k (λ_ z=>by cases z) (λ_ _ z=>by cases z);have B:=r.write (ob:=.la (j.take i.toNat++j.drop (i.toNat+1))) o ⟨_,vh,Db.append (Db.take _ (Db.mono (ex _) _ _ g)) (Db.drop _ (Db.mono (ex _) _ _ g))⟩;have D:b.eraseIdx i.toNat=b.take i.toNat++b.drop (i.toNat+1):=List.eraseIdx_eq_take_drop_succ ..;refine⟨a,b,i,i.toNat,u,rfl,rfl,k,by omega,by omega,?_,s,?_⟩
      ·unfold Tu;simp;omega
      ·rw[D];exact h _ _ _ B.1 B.2 (La.mono (ex _) _ _ G)
    ·rw[ka m]at h;exact h.elim
  |[]=>exact h.elim
  |d::e::l=>cases d<;>exact h.elim
  |[.wc]=>exact h.elim
  |[.bl _]=>exact h.elim
  |[.str _]=>exact h.elim
  |[.Ka _]=>exact h.elim
  |[.la _]=>exact h.elim
  |[.ref _]=>exact h.elim
  |[.Fh _]=>exact h.elim
  |[.obj ..]=>exact h.elim
  |[.Dt ..]=>exact h.elim
  |[.yc ..]=>exact h.elim
  |[.gt ..]=>exact h.elim
 |_=>cases xs<;>exact h.elim
end
end L4
set_option maxHeartbeats 0
namespace L4
open PySem PySem.Spec PyProof.Rows L2
section
variable{T:Tb}{X:Cx}{P:Aa}{w:Wa}{K:W.Frag}{mg:Str->Option Value}{base:Heap}{ca:Nat->Addr}{tx:Tx}
theorem ze{sc:Scope}(a:sc.kind=.function:=by rfl)(b:sc.isCoroutine=false:=by rfl)(c:sc.isGenerator=false:=by rfl)(h:N.Nodup/\N.take Q.length=Q/\(∀ x∈Q,sc.names.lookup x=some .local\/sc.names.lookup x=some .cell)/\∀ y∈sc.names,y.2≠.free:=by decide +kernel):va N Q sc:=⟨a,b,c,h.1,h.2.1,h.2.2.1,h.2.2.2⟩
theorem Od(h:Qe T X.prog X.w X.mg X.base k x i f)(r:Yd n X.A)(l:FA T X (e::a) g)(j:T.K=X.K:=by rfl)(q:k<=n:=by decide)(o:Gl X x:=by exact rfl)(c:(x == ("__debug__" : Str))=false:=by decide)(m:qa (e::a) X.env=(false,Yb e X.env)::qa a X.env:=by rfl)(d:(Vc b (qa a X.env)).any (·.1)=false:=by rfl):FE T X (.Call (.Name x p) (e::a) [] b) (yd i.length f [] g):=M7 h j (r.mono q) o l c m d
theorem fmt{pl:bq Bool}(h:uk T X.prog X.w X.mg X.base k m l p)(u:Yd n X.A)(s:FE T X o f)(r:FA T X (e::c) i)(q:T.K=X.K:=by rfl)(t:k<=n:=by decide)(g:qa (e::c) X.env=(false,Yb e X.env)::qa c X.env:=by rfl)(d:(Vc a (qa c X.env)).any (·.1)=false:=by rfl)
  (v:Yb (.Call (.Attribute o m b) (e::c) [] a) X.env=(do
   let j <-Yb o X.env
   Dk b.atName
   let (f,first) <-Jg [j] (Hm j m pl)
   Vx a f first (Vc a (qa (e::c) X.env)) (Zj a (mh [] X.env))):=by rfl):FE T X (.Call (.Attribute o m b) (e::c) [] a) (Rg p l.length m f i):=yjq q s h (u.mono t) r g d v
theorem Fu{pl:bq Bool}(h:uk T X.prog X.w X.mg X.base k m d e)(l:Yd n X.A)(i:FE T X o f)(g:T.K=X.K:=by rfl)(j:k<=n:=by decide)
  (p:Yb (.Call (.Attribute o m a) [] [] b) X.env=(do
   let c <-Yb o X.env
   Dk a.atName
   let (f,first) <-Jg [c] (Hm c m pl)
   Vx b f first (Vc b (qa [] X.env)) (Zj b (mh [] X.env))):=by rfl):FE T X (.Call (.Attribute o m a) [] [] b) (Rg e d.length m f Ja):=U3 g i h (l.mono j) p
theorem Qb(f:FE T X a fa)(g:FE T X b d)(e:T.K=X.K:=by rfl)(h:OJ b:=by exact λ_ _=>rfl):FE T X (.Subscript a b c) (Ba Oa fa d):=U8 xZ (v7 e) f g h
theorem Qp(g:Yd k X.A)(e:FE T X a fa)(f:FE T X b d):FE T X (.Compare a [.Eq] [b] c) (Ba Gf fa d):=Mu (Si (Ae g)) sg e f (lf _)
theorem Sl(f:FE T X a fa)(g:FE T X b d)(e:T.K=X.K:=by rfl):FE T X (.BinOp a .Add b c) (Ba Nh fa d):=Hj (l6 e) sg f g
theorem De(h:Gn T b f)(i:FE T X e g)(c:T.K=X.K:=by rfl)(d:ee e f X.env (Yb e X.env)=Yb e X.env:=by rfl):FE T X (.Attribute e f a) (Cd (Uc b f) g):=X4 c h i d
theorem qd(b:FE T X e f):Pl T X [.Return (some e) a] (gd f):=Sh (ykf b)
theorem db(b:FE T X e a)(c:qa [e] X.env=(false,Yb e X.env)::qa [] X.env:=by rfl):FA T X [e] (ra a Ja):=nb b jo c
theorem Nf(c:X.N.Nodup)(d:FE T X e f)(h:X.N[i]?=some x:=by rfl)(k:Loc X.env.scope x:=by exact Or.inl rfl)(j:Qi e (some (.Name x a)) b.line X.env=pure false:=by rfl)(g:X.fn x=true\/X.env.scope.names.lookup x=some .local:=by first|exact .inl rfl|exact .inr rfl|assumption):FS T X (.Assign [.Name x a] e b) (Ue i f):=zN c h k d j g
theorem Wh(b:X.N.Nodup)(d:X.N[i]?=some x:=by rfl)(e:Loc X.env.scope x:=by exact Or.inl rfl)(c:X.fn x=true\/X.env.scope.names.lookup x=some .local:=by first|exact .inl rfl|exact .inr rfl|assumption):FG T X (.Name x a) (je i):=SB b d e c
theorem nk(e:Ro T.K (T.ca c))(g:dg T.K (T.ca c) m f)(i:qi T P w mg base j f a b)(h:uk T P w mg base k m a d)(l:j<=k:=by decide):uk T P w mg base k m a ((c,b)::d):=D1 e g i l h
theorem Hg{st:Stmt}(h:bg K mg x st c)(S:va N c (Qc st))
  (e:∀ {f:Addr} {b:Value} {A:Qa} {a:List qh} {s:aa} {H:Hp} {E:XK},Yd k (A.deeper (yg x (Qc st) s.heap.objs.size f b))->Pl ⟨K,ca,tx⟩ (Tp (Il P w) P w K mg base N x (Qc st) f b A a s H E) (Ej st) g) (i:N.length=n:=by rfl) :
  Qe ⟨K,ca,tx⟩ P w mg base (k+1) x c (L4.Ab λd=>L4.vc (Nd n g d)):=i ▸ Qe.Ab (Qe.vc (nU h S λ_ _ _ _ _ _ _=>e))
theorem Dr{st:Stmt}(h:Gg K C x a st d f)(S:va N d (Qc st))
  (i:∀ {c:Value} {A:Qa} {b:List qh} {s:aa} {H:Hp} {E:XK},Yd k (A.deeper (yg a (Qc st) s.heap.objs.size f c))->Pl ⟨K,ca,tx⟩ (Tp (Il P w) P w K mg base N a (Qc st) f c A b s H E) (Ej st) g) (j:N.length=n:=by rfl) :
  qi ⟨K,ca,tx⟩ P w mg base (k+1) f d (L4.Ab λe=>L4.vc (Nd n g e)):=j ▸ qi.Ab (qi.vc (mU h S λ_ _ _ _ _ _=>i))
theorem Hx{st:Stmt}(h:Gg K C x a st d f)(S:va N d (Qc st))
  (e:∀ {c:Value} {A:Qa} {b:List qh} {s:aa} {H:Hp} {E:XK},Yd k (A.deeper (yg a (Qc st) s.heap.objs.size f c))->Pl ⟨K,ca,tx⟩ (Tp (Il P w) P w K mg base N a (Qc st) f c A b s H E) (Ej st) g) (i:N.length=n:=by rfl) :
  qi ⟨K,ca,tx⟩ P w mg base (k+1) f d (L4.Ab (Nd n g)):=i ▸ qi.Ab (mU h S λ_ _ _ _ _ _=>e)
end
end L4
section
variable{α:Type}{P:List α->Prop}(u:List α)
@[elab_as_elim] theorem bq1(h:u.length=1)(z:∀ a,P [a]):P u:=match u,h with|[a],_=>z a
@[elab_as_elim] theorem bq2(h:u.length=2)(z:∀ a b,P [a,b]):P u:=match u,h with|[a,b],_=>z a b
@[elab_as_elim] theorem bq3(h:u.length=3)(z:∀ a b c,P [a,b,c]):P u:=match u,h with|[a,b,c],_=>z a b c
@[elab_as_elim] theorem bq4(h:u.length=4)(z:∀ a b c d,P [a,b,c,d]):P u:=match u,h with|[a,b,c,d],_=>z a b c d
@[elab_as_elim] theorem bq5(h:u.length=5)(z:∀ a b c d e,P [a,b,c,d,e]):P u:=match u,h with|[a,b,c,d,e],_=>z a b c d e
@[elab_as_elim] theorem bq6(h:u.length=6)(z:∀ a b c d e f,P [a,b,c,d,e,f]):P u:=match u,h with|[a,b,c,d,e,f],_=>z a b c d e f
@[elab_as_elim] theorem bq7(h:u.length=7)(z:∀ a b c d e f g,P [a,b,c,d,e,f,g]):P u:=match u,h with|[a,b,c,d,e,f,g],_=>z a b c d e f g
end
namespace K43
open PySem PySem.Spec PyProof.Rows L2 L4
noncomputable def bc(i:Nat):Stmt:=PySem.Challenge.pw_sidebook_k43_two_hands_agree.main.body.getD i (.Pass ⟨0,0,0,0⟩)
def nH(K:W.Frag):Tab:=⟨Tw K "least_fate",266,35, "least_fate.<locals>.<lambda>"⟩
def OG(K:W.Frag):Tab:=⟨Tw K "paper",281,27, "paper.<locals>.<lambda>"⟩
def tx(K:W.Frag):Tx:=⟨[nH K,OG K],gy K⟩
theorem gP(K:W.Frag):nH K∈(tx K).nq:=(.head _)
theorem rV(K:W.Frag):OG K∈(tx K).nq:=(.tail _ (.head _))
theorem ywn(K:W.Frag):∀ t∈(tx K).nq,∃ x∈[("least_fate" : Str),("paper" : Str)],t.P=Tw K x:=by
 intro t a;have h:t∈[nH K,OG K]:=a;simp only[Ea,we,Pn]at h;rcases h with rfl|rfl
 ·exact⟨"least_fate",by simp,rfl⟩
 ·exact⟨"paper",by simp,rfl⟩
structure sd(K:W.Frag)(mg:Str->Option Value)(ca:Nat->Addr):Prop where
 Fc:bg K mg "_law_cell_at" (bc 91) ["_law_script","_law_k"]
 Zg:bg K mg "is_whole" (bc 7) ["thing"]
 Lc:bg K mg "is_between" (bc 8) ["thing","least","most"]
 Zf:bg K mg "check_span" (bc 81) ["hand","every","pots"]
 Gc:Gg K (ca 9) "learn" "Keeper.learn" (lh (bc 89) 2) ["self","words"] (ca 22)
 Ud:Gg K (ca 9) "hold" "Keeper.hold" (lh (bc 89) 1) ["self","account","claim","seen"] (ca 21)
 Ci:bg K mg "is_day" (bc 11) ["thing"]
 eh:bg K mg "is_word" (bc 10) ["thing"]
 Je:bg K mg "is_amount" (bc 13) ["thing"]
 Ag:bg K mg "is_side" (bc 9) ["thing"]
 Ng:bg K mg "is_tie" (bc 24) ["thing"]
 Tf:bg K mg "are_ties" (bc 26) ["thing"]
 Ie:bg K mg "are_shares" (bc 25) ["thing"]
 Of:bg K mg "is_number" (bc 12) ["thing"]
 md:bg K mg "is_stand" (bc 27) ["thing"]
 Hh:IJ K mg "stand" (bc 28) ["number","shares","ties"] [.none]
 Vi:bg K mg "first" (bc 29) ["left","right"]
 Oj:Gg K (ca 4) "__init__" "Account.__init__" (lh (bc 52) 0) ["self","pot","side","mine","grant","may","strikes"] (ca 10)
 Ee:bg K mg "first_account" (bc 56) ["pot","side","left","right"]
 Vo:ev K (ca 9) "__init__" "Keeper.__init__" (lh (bc 89) 0) ["self","hand","every","pots","words"] [.none] (ca 20)
 Cg:bg K mg "_law_wish" (bc 92) ["_law_one","_law_side","_law_cell"]
 ce:bg K mg "shown_in_time" (bc 37) ["tie","shown"]
 Af:bg K mg "lot_of_paid" (bc 61) ["view","seen","tie"]
 Yf:bg K mg "lot_of_due" (bc 62) ["view","seen","tie"]
 Ai:bg K mg "lot_of" (bc 63) ["view","pot","tie"]
 vf:bg K mg "read_stand" (bc 64) ["view","pot","one"]
 Bg:bg K mg "read_pots" (bc 65) ["view"]
 Me:bg K mg "all_choices" (bc 66) ["readings"]
 bf:bg K mg "lots_by_word" (bc 68) ["reads"]
 Yg:bg K mg "fates_of" (bc 69) ["lots"]
 be:bg K mg "comes_by_fate" (bc 70) ["lot","fate","every"]
 Wd:bg K mg "sum_by_fate" (bc 71) ["lots","fate","every"]
 tf:HG K mg "least_fate" (bc 72) ["lots","every"]
 Ei:bg K mg "sum_of" (bc 73) ["reads","by_word","fates","every"]
 Le:bg K mg "least_paper" (bc 74) ["reads","chosen","every"]
 Dd:bg K mg "chosen_readings" (bc 67) ["readings","chosen"]
 Gj:HG K mg "paper" (bc 75) ["view"]
 ni:bg K mg "worth" (bc 76) ["view"]
 Cf:bg K mg "stands_told" (bc 82) ["account","claim"]
 ms:Gg K (ca 8) "__init__" "View.__init__" (lh (bc 60) 0) ["self","every","look","words","pots"] (ca 19)
 Xc:Gg K (ca 9) "words" "Keeper.words" (lh (bc 89) 3) ["self"] (ca 23)
 Pc:Gg K (ca 9) "view_by" "Keeper.view_by" (lh (bc 89) 7) ["self","accounts"] (ca 27)
 me:Gg K (ca 9) "view" "Keeper.view" (lh (bc 89) 8) ["self"] (ca 28)
 Nc:Gg K (ca 9) "worth" "Keeper.worth" (lh (bc 89) 9) ["self"] (ca 29)
 Rb:Gg K (ca 9) "given" "Keeper.given" (lh (bc 89) 5) ["self"] (ca 25)
 sf:bg K mg "_law_sums" (bc 96) ["_law_pair"]
 Oc:Gg K (ca 9) "holds" "Keeper.holds" (lh (bc 89) 12) ["self","pot"] (ca 32)
 Kb:Gg K (ca 5) "word" "Calm.word" (lh (bc 53) 0) ["self"] (ca 13)
 Xb:Gg K (ca 6) "word" "Offered.word" (lh (bc 54) 0) ["self"] (ca 15)
 Wb:Gg K (ca 7) "word" "Waiting.word" (lh (bc 55) 0) ["self"] (ca 17)
 He:bg K mg "with_more" (bc 32) ["shares","side","amount"]
 Ad:bg K mg "following" (bc 33) ["one","shares","ties"]
 Ke:bg K mg "other_side" (bc 15) ["side"]
 jk:bg K mg "gift" (bc 34) ["one","side","amount"]
 Bj:bg K mg "tied" (bc 35) ["one","payer","amount","word","day"]
 lg:bg K mg "tie_of" (bc 36) ["one","word"]
 xf:bg K mg "is_paid_by" (bc 85) ["one","word","side"]
 uf:bg K mg "tie_to_end" (bc 38) ["one","word"]
 Ri:bg K mg "ended" (bc 39) ["one","tie","side"]
 Oh:bg K mg "settled" (bc 40) ["one","word"]
 Mh:bg K mg "dropped" (bc 41) ["one","word"]
 af:bg K mg "stand_wished" (bc 86) ["account","wish","known"]
 ff:bg K mg "allowance_of" (bc 87) ["wish"]
 Gh:bg K mg "deals" (bc 30) ["one"]
 ke:bg K mg "is_stand_of" (bc 31) ["thing","coin"]
 ma:Gg K (ca 4) "agree_of" "Account.agree_of" (lh (bc 52) 1) ["self","side","one"] (ca 11)
 bh:bg K mg "offered" (bc 57) ["account","shares","ties"]
 Vh:bg K mg "is_pot" (bc 14) ["thing"]
 re:bg K mg "is_of_a_side" (bc 43) ["thing"]
 wf:bg K mg "is_thing" (bc 44) ["thing"]
 vg:bg K mg "is_agree" (bc 46) ["thing"]
 Rf:bg K mg "is_strike" (bc 47) ["thing"]
 Zc:bg K mg "has_its_parts" (bc 48) ["letter"]
 Yc:bg K mg "is_letter" (bc 49) ["thing"]
 df:bg K mg "is_following" (bc 51) ["thing","one"]
 Ga:Gg K (ca 4) "strike_of" "Account.strike_of" (lh (bc 52) 2) ["self","side","one"] (ca 12)
 Kc:Gg K (ca 5) "taken" "Calm.taken" (lh (bc 53) 1) ["self","letter"] (ca 14)
 kc:Gg K (ca 6) "taken" "Offered.taken" (lh (bc 54) 1) ["self","letter"] (ca 16)
 lc:Gg K (ca 7) "taken" "Waiting.taken" (lh (bc 55) 1) ["self","letter"] (ca 18)
 dh:bg K mg "step_to" (bc 88) ["account","one"]
 Nb:Gg K (ca 9) "is_good" "Keeper.is_good" (lh (bc 89) 11) ["self","account","allowance"] (ca 31)
 rc:Gg K (ca 9) "wish_for" "Keeper.wish_for" (lh (bc 89) 14) ["self","one","wish"] (ca 34)
 Bc:Gg K (ca 9) "wish" "Keeper.wish" (lh (bc 89) 13) ["self","wish"] (ca 33)
 Jc:Gg K (ca 9) "take_ask" "Keeper.take_ask" (lh (bc 89) 16) ["self","letter"] (ca 36)
 Va:Gg K (ca 9) "is_as_asked" "Keeper.is_as_asked" (lh (bc 89) 17) ["self","letter"] (ca 37)
 Mb:Gg K (ca 9) "take_step" "Keeper.take_step" (lh (bc 89) 18) ["self","letter"] (ca 38)
 Bb:Gg K (ca 9) "take" "Keeper.take" (lh (bc 89) 15) ["self","letter"] (ca 35)
 Dg:bg K mg "_law_talk" (bc 94) ["_law_pair","_law_side","_law_letters","_law_halts"]
 xb:Gg K (ca 9) "account" "Keeper.account" (lh (bc 89) 6) ["self","pot"] (ca 26)
 Oe:bg K mg "_law_states" (bc 95) ["_law_pair"]
 oe:bg K mg "_law_wished" (bc 93) ["_law_one","_law_side","_law_wish_here"]
 Qf:bg K mg "_law_came" (bc 97) ["_law_pair","_law_one","_law_new","_law_side","_law_wish_here","_law_told","_law_given_before"]
 Wp:bg K mg "law" (bc 98) ["_law_script"]
 uj:mg "worth_worth" = mg "worth"
 BE:mg "all" = none
 qz:mg "bool" = none
 av:mg "dict" = none
 Wq:mg "enumerate" = none
 cy:mg "int" = none
 Vd:mg "isinstance" = none
 zg:mg "len" = none
 dm:mg "list" = none
 WC:mg "max" = none
 xr:mg "min" = none
 Ij:mg "range" = none
 MC:mg "set" = none
 Bv:mg "sorted" = none
 Ly:mg "str" = none
 zt:mg "sum" = none
 Eh:mg "tuple" = none
 Yx:mg "zip" = none
 bz:ED K mg "FIRM" ["won","sure","back"]
 jv:ED K mg "HELD" ["held"]
 ek:∃ t,mg "MOST_AMOUNT" = some (.int 1000000000000 t)
 qo:∃ t,mg "MOST_DAY" = some (.int 1000000 t)
 Kk:∃ t,mg "MOST_EVERY" = some (.int 50 t)
 ck:∃ t,mg "MOST_NUMBER" = some (.int 1000000 t)
 Yn:∃ t,mg "MOST_POT" = some (.int 2 t)
 Ih:∃ t,mg "MOST_SHARE" = some (.int 2000000000000 t)
 Fm:∃ t,mg "MOST_TIES" = some (.int 6 t)
 Dm:∃ t,mg "MOST_WORD" = some (.int 59 t)
 Lh:mg "NoStand" = some (.ref (ca 1))
 Di:W.excIn K (ca 1) A8 "ValueError.__new__" = true
 ul:W.exmOne K (.ref (ca 1)) (.ref (ca 1))=some true
 Zb:L2.Ro K (ca 9)
 zo:L2.Rh K (ca 9) "hand"
 wn:L2.Rh K (ca 9) "every"
 Cn:L2.Ro K (ca 8)
 Yo:L2.Rh K (ca 8) "every"
 Uj:L2.Rh K (ca 9) "last_look"
 Sk:L2.Rh K (ca 8) "last_look"
 ko:L2.Rh K (ca 9) "gave"
 Vm:L2.Rh K (ca 9) "known"
 xp:L2.Rh K (ca 8) "known"
 Ak:L2.Rh K (ca 9) "accounts"
 Zl:L2.Rh K (ca 9) "claims"
 eo:L2.Rh K (ca 9) "seen"
 Nm:L2.Rh K (ca 9) "asked"
 Rj:L2.Rh K (ca 9) "finishing"
 on:L2.dg K (ca 9) "learn" (ca 22)
 Pe:L2.Ro K (ca 7)
 uo:L2.Rh K (ca 7) "pot"
 se:L2.Ro K (ca 6)
 ao:L2.Rh K (ca 6) "pot"
 Og:L2.Ro K (ca 5)
 yr:L2.Rh K (ca 5) "pot"
 wg:L2.Ro K (ca 4)
 oo:L2.Rh K (ca 4) "pot"
 ro:L2.dg K (ca 9) "hold" (ca 21)
 bn:L2.Rh K (ca 7) "side"
 cn:L2.Rh K (ca 6) "side"
 gq:L2.Rh K (ca 5) "side"
 Rm:L2.Rh K (ca 4) "side"
 Jm:L2.Rh K (ca 7) "mine"
 Zm:L2.Rh K (ca 6) "mine"
 mq:L2.Rh K (ca 5) "mine"
 vn:L2.Rh K (ca 4) "mine"
 Rl:L2.Rh K (ca 7) "grant"
 Ul:L2.Rh K (ca 6) "grant"
 yp:L2.Rh K (ca 5) "grant"
 Ql:L2.Rh K (ca 4) "grant"
 mo:L2.Rh K (ca 7) "may"
 Bo:L2.Rh K (ca 6) "may"
 Xq:L2.Rh K (ca 5) "may"
 yo:L2.Rh K (ca 4) "may"
 xk:L2.Rh K (ca 7) "strikes"
 qk:L2.Rh K (ca 6) "strikes"
 Km:L2.Rh K (ca 5) "strikes"
 rk:L2.Rh K (ca 4) "strikes"
 js:mg "Calm" = some (.ref (ca 5))
 qq:L2.Mk K (ca 5) (ca 10)
 mr:mg "Keeper" = some (.ref (ca 9))
 Pp:L2.Mk K (ca 9) (ca 20)
 Aq:L2.Rh K (ca 8) "pots"
 Wz:mg "View" = some (.ref (ca 8))
 Mw:L2.Mk K (ca 8) (ca 19)
 rn:L2.dg K (ca 9) "words" (ca 23)
 jl:L2.dg K (ca 9) "view_by" (ca 27)
 Tn:L2.dg K (ca 9) "view" (ca 28)
 Mm:L2.dg K (ca 9) "worth" (ca 29)
 gn:L2.dg K (ca 9) "given" (ca 25)
 yn:L2.dg K (ca 9) "holds" (ca 32)
 Sm:L2.dg K (ca 7) "word" (ca 17)
 jn:L2.dg K (ca 6) "word" (ca 15)
 sq:L2.dg K (ca 5) "word" (ca 13)
 eu:mg "Offered" = some (.ref (ca 6))
 Rs:L2.Mk K (ca 6) (ca 10)
 Pj:L2.dg K (ca 7) "agree_of" (ca 11)
 Ch:L2.dg K (ca 6) "agree_of" (ca 11)
 zi:L2.dg K (ca 5) "agree_of" (ca 11)
 Qj:L2.dg K (ca 4) "agree_of" (ca 11)
 ju:mg "Waiting" = some (.ref (ca 7))
 Qs:L2.Mk K (ca 7) (ca 10)
 rl:L2.dg K (ca 5) "strike_of" (ca 12)
 wj:L2.dg K (ca 6) "strike_of" (ca 12)
 tj:L2.dg K (ca 7) "strike_of" (ca 12)
 Xl:L2.dg K (ca 7) "taken" (ca 18)
 am:L2.dg K (ca 6) "taken" (ca 16)
 qp:L2.dg K (ca 5) "taken" (ca 14)
 Jk:L2.dg K (ca 9) "is_good" (ca 31)
 pk:L2.dg K (ca 9) "wish_for" (ca 34)
 Ao:L2.dg K (ca 9) "wish" (ca 33)
 zk:L2.dg K (ca 9) "take_ask" (ca 36)
 Lk:L4.Jo K (ca 5)
 ur:L4.Jo K (ca 6)
 dn:W.mroIn K (ca 6) (.ref (ca 5))=some false
 Om:(ca 5)≠(ca 6)
 Am:L4.Jo K (ca 7)
 Pm:W.mroIn K (ca 7) (.ref (ca 5))=some false
 kn:(ca 5)≠(ca 7)
 xn:W.mroIn K (ca 5) (.ref (ca 7))=some false
 Xm:(ca 7)≠(ca 5)
 mj:L2.dg K (ca 9) "is_as_asked" (ca 37)
 Sj:L2.dg K (ca 9) "take_step" (ca 38)
 Vn:L2.dg K (ca 9) "take" (ca 35)
 Nk:L2.dg K (ca 9) "account" (ca 26)
 tb:Jx K ["least_fate","paper"]
 LV:mg "__builtins__" = some (.ref (gy K))
 NC:∀ t∈(tx K).nq,∀ t'∈(tx K).nq,t'.P=t.P->t'=t
seal L2.PE L2.PS L2.Fs L2.PT L2.PW L2.PA L2.PI L2.PG
section
variable{P:Aa}{w:Wa}{K:W.Frag}{mg:Str->Option Value}{base:Heap}{ca:Nat->Addr}
abbrev n9:Stmt:=bc 91
def fT:Ev->M Fl:=
 (Cb (Bf (eT (Ba oLt (ba 1) (ah Fj (ra (ba 0) Ja)))) (gd (Ba Oa (ba 0) (ba 1))) Pf) (gd (eC (.int 0))))
def Fc:List D->M D:=Ab λa=>vc (Nd 2 fT a)
theorem Ĺ:va ["_law_script","_law_k"] ["_law_script","_law_k"] (Qc n9):=ze
theorem xG(a:sd K mg ca):Qe ⟨K,ca,tx K⟩ P w mg base 1 "_law_cell_at" ["_law_script","_law_k"] Fc:=
 Hg a.Fc Ĺ λb=>
  (ic (Hf (rf dy By (ga 1) (Yk yq (jq rfl) rfl a.zg Jb (db (ga 0))) (lf _)) (qd (Qb (ga 0) (ga 1))) Xf)
  (qd Xa))
abbrev eZ:Stmt:=bc 7
def zQ:Ev->M Fl:=
 (gd (kj (Cd (Nq .int) (ba 0)) (jJ (Cd (Nq .bool) (ba 0)))))
def Zg:List D->M D:=Ab λa=>vc (Nd 1 zQ a)
theorem E9:va ["thing"] ["thing"] (Qc eZ):=ze
theorem Ũ(a:sd K mg ca):Qe ⟨K,ca,tx K⟩ P w mg base 1 "is_whole" ["thing"] Zg:=
 Hg a.Zg E9 λb=>
  (qd (xj (sw .int (ga 0) rfl a.Vd rfl a.cy boot_int) (Kn (M8 (sw .bool (ga 0) rfl a.Vd rfl a.qz boot_bool)))))
abbrev Č:Stmt:=bc 8
def fV:Ev->M Fl:=
 (gd (kj (yd 1 Zg [] (ra (ba 0) Ja)) (AJ oLe oLe (ba 1) (ba 0) (ba 2))))
def Lc:List D->M D:=Ab λa=>vc (Nd 3 fV a)
theorem VZ:va ["thing","least","most"] ["thing","least","most"] (Qc Č):=ze
theorem ax(a:sd K mg ca):Qe ⟨K,ca,tx K⟩ P w mg base 2 "is_between" ["thing","least","most"] Lc:=
 Hg a.Lc VZ λb=>
  (qd (xj (Od (Ũ a) b (db (ga 0))) (Kn (z7 fQ oV fQ oV (ga 1) (ga 0) (ga 2)))))
abbrev zg7:Stmt:=bc 81
abbrev TN:Ev->M Fl:=(Bf (Jv (eT (Ba (To false) (ba 0) (YB (ba 3) none (some (eC (.int 2)))))) (eT (Ba oLt (Ba Oa (ba 3) (eC (.int 4))) (Ba Nh (ba 1) (eC (.int 1)))))) Js Pf)
def LS:Ev->M Fl:=
 (Cb (Bf (il (eT (yd 3 Lc [] (ra (ba 1) (ra (eC (.int 1)) (ra (eC (.int 50)) Ja)))))) Js Pf) (vt (gi (ba 2)) (je 3) TN))
def Zf:List D->M D:=Ab λa=>vc (Nd 4 LS a)
theorem HQ:va ["hand","every","pots","made"] ["hand","every","pots"] (Qc zg7):=ze
theorem Ö(a:sd K mg ca):Qe ⟨K,ca,tx K⟩ P w mg base 3 "check_span" ["hand","every","pots"] Zf:=
 Hg a.Zf HQ λb=>
  (ic (Hf (Yl (zj (Od (ax a) b (nb (ga 1) (nb Xa (db (Dx (u:=.int 50 (a.Kk).choose) rfl (a.Kk).choose_spec ⟨_,rfl⟩))))))) yt Xf)
  (Sh (Lu Kq rfl (xm rfl (ga 2)) (Wh HQ.nd) (Sh (Hf (L2.PW.pt (Uw (rf SH (YD rfl false) (ga 0) (bH rfl (ga 3) rH (sI Xa)) rfl) (qy (rf dy By (Qb (ga 3) Xa) (Sl (ga 1) Xa) (lf _))))) yt Xf)))))
theorem L9(a:sd K mg ca):Gn ⟨K,ca,tx K⟩ [9] "hand":=(cj a.Zb a.zo Ar)
theorem iD(a:sd K mg ca):Gn ⟨K,ca,tx K⟩ [8,9] "every":=(cj a.Cn a.Yo (cj a.Zb a.wn Ar))
theorem WB(a:sd K mg ca):Gn ⟨K,ca,tx K⟩ [8,9] "last_look":=(cj a.Cn a.Sk (cj a.Zb a.Uj Ar))
theorem NH(a:sd K mg ca):Gn ⟨K,ca,tx K⟩ [9] "gave":=(cj a.Zb a.ko Ar)
theorem OB(a:sd K mg ca):Gn ⟨K,ca,tx K⟩ [8,9] "known":=(cj a.Cn a.xp (cj a.Zb a.Vm Ar))
theorem Nr(a:sd K mg ca):Gn ⟨K,ca,tx K⟩ [9] "accounts":=(cj a.Zb a.Ak Ar)
theorem AH(a:sd K mg ca):Gn ⟨K,ca,tx K⟩ [9] "claims":=(cj a.Zb a.Zl Ar)
theorem eK(a:sd K mg ca):Gn ⟨K,ca,tx K⟩ [9] "seen":=(cj a.Zb a.eo Ar)
theorem aC(a:sd K mg ca):Gn ⟨K,ca,tx K⟩ [9] "asked":=(cj a.Zb a.Nm Ar)
theorem zga(a:sd K mg ca):Gn ⟨K,ca,tx K⟩ [9] "finishing":=(cj a.Zb a.Rj Ar)
abbrev ń:Stmt:=lh (bc 89) 2
abbrev sK:Ev->M Fl:=(mu (eC (.bl true)) (Cd (Uc [8,9] "known") (ba 0)) (ba 2))
def bN:Ev->M Fl:=
 (vt (gi (ba 1)) (je 2) sK)
def Gc:List D->M D:=Ab (Nd 3 bN)
theorem LR:va ["self","words","word"] ["self","words"] (Qc ń):=ze
theorem A1(a:sd K mg ca):qi ⟨K,ca,tx K⟩ P w mg base 1 (ca 22) ["self","words"] Gc:=
 Hx a.Gc LR λb=>
  (Sh (Lu Kq rfl (xm rfl (ga 1)) (Wh LR.nd) (Sh (bv (Ae b) Up (De (OB a) (ga 0)) (ga 2)))))
theorem lS(a:sd K mg ca):uk ⟨K,ca,tx K⟩ P w mg base 1 "learn" ["self","words"] [(9,Gc)]:=(nk a.Zb a.on (A1 a) Nn)
theorem iq(a:sd K mg ca):Gn ⟨K,ca,tx K⟩ [4,5,6,7] "pot":=(cj a.wg a.oo (cj a.Og a.yr (cj a.se a.ao (cj a.Pe a.uo Ar))))
abbrev cZ:Stmt:=lh (bc 89) 1
def mX:Ev->M Fl:=
 (Cb (mu (ba 1) (Cd (Uc [9] "accounts") (ba 0)) (Cd (Uc [4,5,6,7] "pot") (ba 1))) (Cb (mu (ba 2) (Cd (Uc [9] "claims") (ba 0)) (Cd (Uc [4,5,6,7] "pot") (ba 1))) (mu (ba 3) (Cd (Uc [9] "seen") (ba 0)) (Cd (Uc [4,5,6,7] "pot") (ba 1)))))
def Ud:List D->M D:=Ab (Nd 4 mX)
theorem Q4:va ["self","account","claim","seen"] ["self","account","claim","seen"] (Qc cZ):=ze
theorem Û(a:sd K mg ca):qi ⟨K,ca,tx K⟩ P w mg base 1 (ca 21) ["self","account","claim","seen"] Ud:=
 Hx a.Ud Q4 λb=>
  (ic (bv (Ae b) (ga 1) (De (Nr a) (ga 0)) (De (iq a) (ga 1)))
  (ic (bv (Ae b) (ga 2) (De (AH a) (ga 0)) (De (iq a) (ga 1)))
  (Sh (bv (Ae b) (ga 3) (De (eK a) (ga 0)) (De (iq a) (ga 1))))))
theorem ŉ(a:sd K mg ca):uk ⟨K,ca,tx K⟩ P w mg base 1 "hold" ["self","account","claim","seen"] [(9,Ud)]:=(nk a.Zb a.ro (Û a) Nn)
abbrev mZ:Stmt:=bc 11
def gW:Ev->M Fl:=
 (gd (yd 3 Lc [] (ra (ba 0) (ra (eC (.int 0)) (ra (eC (.int 1000000)) Ja)))))
def Ci:List D->M D:=Ab λa=>vc (Nd 1 gW a)
theorem zpd:va ["thing"] ["thing"] (Qc mZ):=ze
theorem PZ(a:sd K mg ca):Qe ⟨K,ca,tx K⟩ P w mg base 3 "is_day" ["thing"] Ci:=
 Hg a.Ci zpd λb=>
  (qd (Od (ax a) b (nb (ga 0) (nb Xa (db (Dx (u:=.int 1000000 (a.qo).choose) rfl (a.qo).choose_spec ⟨_,rfl⟩))))))
abbrev vZ:Stmt:=bc 10
def hO:Ev->M Fl:=
 (gd (yd 3 Lc [] (ra (ba 0) (ra (eC (.int 0)) (ra (eC (.int 59)) Ja)))))
def eh:List D->M D:=Ab λa=>vc (Nd 1 hO a)
theorem ī:va ["thing"] ["thing"] (Qc vZ):=ze
theorem jV(a:sd K mg ca):Qe ⟨K,ca,tx K⟩ P w mg base 3 "is_word" ["thing"] eh:=
 Hg a.eh ī λb=>
  (qd (Od (ax a) b (nb (ga 0) (nb Xa (db (Dx (u:=.int 59 (a.Dm).choose) rfl (a.Dm).choose_spec ⟨_,rfl⟩))))))
abbrev j5:Stmt:=bc 13
def kN:Ev->M Fl:=
 (gd (yd 3 Lc [] (ra (ba 0) (ra (eC (.int 1)) (ra (eC (.int 1000000000000)) Ja)))))
def Je:List D->M D:=Ab λa=>vc (Nd 1 kN a)
theorem Ν:va ["thing"] ["thing"] (Qc j5):=ze
theorem eP(a:sd K mg ca):Qe ⟨K,ca,tx K⟩ P w mg base 3 "is_amount" ["thing"] Je:=
 Hg a.Je Ν λb=>
  (qd (Od (ax a) b (nb (ga 0) (nb Xa (db (Dx (u:=.int 1000000000000 (a.ek).choose) rfl (a.ek).choose_spec ⟨_,rfl⟩))))))
abbrev YX:Stmt:=bc 9
def eS:Ev->M Fl:=
 (gd (yd 3 Lc [] (ra (ba 0) (ra (eC (.int 0)) (ra (eC (.int 1)) Ja)))))
def Ag:List D->M D:=Ab λa=>vc (Nd 1 eS a)
theorem n5:va ["thing"] ["thing"] (Qc YX):=ze
theorem ZM(a:sd K mg ca):Qe ⟨K,ca,tx K⟩ P w mg base 3 "is_side" ["thing"] Ag:=
 Hg a.Ag n5 λb=>
  (qd (Od (ax a) b (nb (ga 0) (nb Xa (db Xa)))))
abbrev ł:Stmt:=bc 24
def LW:Ev->M Fl:=
 (gd (kj (Cd (Nq .tuple) (ba 0)) (kj (Ba Gf (ah Fj (ra (ba 0) Ja)) (eC (.int 4))) (kj (yd 1 Ag [] (ra (Ba Oa (ba 0) (eC (.int 0))) Ja)) (kj (yd 1 Je [] (ra (Ba Oa (ba 0) (eC (.int 1))) Ja)) (kj (yd 1 eh [] (ra (Ba Oa (ba 0) (eC (.int 2))) Ja)) (yd 1 Ci [] (ra (Ba Oa (ba 0) (eC (.int 3))) Ja))))))))
def Ng:List D->M D:=Ab λa=>vc (Nd 1 LW a)
theorem zpf:va ["thing"] ["thing"] (Qc ł):=ze
theorem nX(a:sd K mg ca):Qe ⟨K,ca,tx K⟩ P w mg base 4 "is_tie" ["thing"] Ng:=
 Hg a.Ng zpf λb=>
  (qd (xj (sw .tuple (ga 0) rfl a.Vd rfl a.Eh gh) (xj (Qp b (Yk yq (jq rfl) rfl a.zg Jb (db (ga 0))) Xa) (xj (Od (ZM a) b (db (Qb (ga 0) Xa))) (xj (Od (eP a) b (db (Qb (ga 0) Xa))) (xj (Od (jV a) b (db (Qb (ga 0) Xa))) (Kn (Od (PZ a) b (db (Qb (ga 0) Xa))))))))))
abbrev zkz:Stmt:=bc 26
def BJ:Ev->M Fl:=
 (Cb (Bf (Go (il (eT (Cd (Nq .tuple) (ba 0)))) (eT (Ba xL (ah Fj (ra (ba 0) Ja)) (eC (.int 6))))) (gd (eC (.bl false))) Pf) (Cb (Bf (il (eT (ah IE (ra (Bh (pj (Fk (gi (ba 0))) [] (je 0) ik (yd 1 Ng [] (ra (ba 0) Ja)))) Ja)))) (gd (eC (.bl false))) Pf) (gd (Ba Gf (Cd qD (Bh (pj (Fk (gi (ba 0))) [] (je 0) ik (Ba Oa (ba 0) (eC (.int 2)))))) (ah Fj (ra (ba 0) Ja))))))
def Tf:List D->M D:=Ab λa=>vc (Nd 1 BJ a)
theorem Ġ:va ["thing"] ["thing"] (Qc zkz):=ze
theorem x9(a:sd K mg ca):Qe ⟨K,ca,tx K⟩ P w mg base 5 "are_ties" ["thing"] Tf:=
 Hg a.Tf Ġ λb=>
  (ic (Hf (L2.PW.pt (Np (Yl (zj (sw .tuple (ga 0) rfl a.Vd rfl a.Eh gh))) (Er (rf cT UR (Yk yq (jq rfl) rfl a.zg Jb (db (ga 0))) (Dx (u:=.int 6 (a.Fm).choose) rfl (a.Fm).choose_spec ⟨_,rfl⟩) (lf _))))) (qd Up) Xf)
  (ic (Hf (Yl (zj (Yk (ĳ rfl) (x5 rfl) rfl a.BE boot_all (db (Kl (Iq (x:="tie") (z0:="0") (M':=[]) (ix:=[]) rfl ⟨rfl,rfl,rfl,rfl,rfl,rfl⟩ (oq (xm rfl (ga 0))) (λ_ _ _ _ _=>Wh (by show List.Nodup (("tie"::"0"::[]):List Str);decide +kernel)) (λ_ _ _ _ _=>rs) (λ_ _ _ _ _=>(Od (nX a) b (db (ga 0)))))))))) (qd Up) Xf)
  (qd (Qp b (qZ rfl rfl rfl a.zg rfl a.MC (Kl (Iq (x:="tie") (z0:="0") (M':=[]) (ix:=[]) rfl ⟨rfl,rfl,rfl,rfl,rfl,rfl⟩ (oq (xm rfl (ga 0))) (λ_ _ _ _ _=>Wh (by show List.Nodup (("tie"::"0"::[]):List Str);decide +kernel)) (λ_ _ _ _ _=>rs) (λ_ _ _ _ _=>(Qb (ga 0) Xa))))) (Yk yq (jq rfl) rfl a.zg Jb (db (ga 0)))))))
abbrev XY:Stmt:=bc 25
def bM:Ev->M Fl:=
 (gd (kj (Cd (Nq .tuple) (ba 0)) (kj (Ba Gf (ah Fj (ra (ba 0) Ja)) (eC (.int 2))) (kj (yd 3 Lc [] (ra (Ba Oa (ba 0) (eC (.int 0))) (ra (eC (.int 0)) (ra (eC (.int 2000000000000)) Ja)))) (yd 3 Lc [] (ra (Ba Oa (ba 0) (eC (.int 1))) (ra (eC (.int 0)) (ra (eC (.int 2000000000000)) Ja))))))))
def Ie:List D->M D:=Ab λa=>vc (Nd 1 bM a)
theorem Ŕ:va ["thing"] ["thing"] (Qc XY):=ze
theorem Z1(a:sd K mg ca):Qe ⟨K,ca,tx K⟩ P w mg base 3 "are_shares" ["thing"] Ie:=
 Hg a.Ie Ŕ λb=>
  (qd (xj (sw .tuple (ga 0) rfl a.Vd rfl a.Eh gh) (xj (Qp b (Yk yq (jq rfl) rfl a.zg Jb (db (ga 0))) Xa) (xj (Od (ax a) b (nb (Qb (ga 0) Xa) (nb Xa (db (Dx (u:=.int 2000000000000 (a.Ih).choose) rfl (a.Ih).choose_spec ⟨_,rfl⟩))))) (Kn (Od (ax a) b (nb (Qb (ga 0) Xa) (nb Xa (db (Dx (u:=.int 2000000000000 (a.Ih).choose) rfl (a.Ih).choose_spec ⟨_,rfl⟩))))))))))
abbrev Q1:Stmt:=bc 12
def rO:Ev->M Fl:=
 (gd (yd 3 Lc [] (ra (ba 0) (ra (eC (.int 0)) (ra (eC (.int 1000000)) Ja)))))
def Of:List D->M D:=Ab λa=>vc (Nd 1 rO a)
theorem J6:va ["thing"] ["thing"] (Qc Q1):=ze
theorem DV(a:sd K mg ca):Qe ⟨K,ca,tx K⟩ P w mg base 3 "is_number" ["thing"] Of:=
 Hg a.Of J6 λb=>
  (qd (Od (ax a) b (nb (ga 0) (nb Xa (db (Dx (u:=.int 1000000 (a.ck).choose) rfl (a.ck).choose_spec ⟨_,rfl⟩))))))
abbrev K7:Stmt:=bc 27
def LJ:Ev->M Fl:=
 (gd (kj (Cd (Nq .tuple) (ba 0)) (kj (Ba Gf (ah Fj (ra (ba 0) Ja)) (eC (.int 3))) (kj (yd 1 Of [] (ra (Ba Oa (ba 0) (eC (.int 0))) Ja)) (kj (yd 1 Ie [] (ra (Ba Oa (ba 0) (eC (.int 1))) Ja)) (yd 1 Tf [] (ra (Ba Oa (ba 0) (eC (.int 2))) Ja)))))))
def md:List D->M D:=Ab λa=>vc (Nd 1 LJ a)
theorem Ś:va ["thing"] ["thing"] (Qc K7):=ze
theorem EF(a:sd K mg ca):Qe ⟨K,ca,tx K⟩ P w mg base 6 "is_stand" ["thing"] md:=
 Hg a.md Ś λb=>
  (qd (xj (sw .tuple (ga 0) rfl a.Vd rfl a.Eh gh) (xj (Qp b (Yk yq (jq rfl) rfl a.zg Jb (db (ga 0))) Xa) (xj (Od (DV a) b (db (Qb (ga 0) Xa))) (xj (Od (Z1 a) b (db (Qb (ga 0) Xa))) (Kn (Od (x9 a) b (db (Qb (ga 0) Xa)))))))))
abbrev BD(x q:Str)(s:Stmt)(c:List Str):Prop:=∀ (kV b d:Value) (an:Option Addr) (a ct:Value) (us:List Value),us.length=c.length->bindArgs (W.fnOf x q (pp s) (Ej s) (Qc s) .none kV b d an a ct) ⟨us,[]⟩=pure (c.zip us)
abbrev xz:Stmt:=bc 28
def iJ:Ev->M Fl:=
 (Cb (Ue 3 (gg (ra (ba 0) (ra (ba 1) (ra (Gx (eT (Ba Ft (ba 2) (eC .wc))) (gg Ja) (ba 2)) Ja))))) (Cb (Bf (il (eT (yd 1 md [] (ra (ba 3) Ja)))) (jz 1 (ra (eC (.str "number, shares and ties make no stand")) Ja)) Pf) (gd (ba 3))))
def Hh:List D->M D:=Ab λa=>vc (Nd 4 iJ a)
theorem ZS:va ["number","shares","ties","made"] ["number","shares","ties"] (Qc xz):=ze
theorem l8(t:Addr)(kV c h:Value)(e:Option Addr)(b ct:Value)(s:aa)(o:jd)(n:Nat)(a:List Value)(f:s.heap.get? t=some o)(g:o.data=.seq ([Mc]:List Value).toArray n) :
  ((a++[]).length=(["number","shares","ties"]:List Str).length->yh s (W.fnOf "stand" "stand" (pp xz) (Ej xz) (Qc xz) (.ref t) kV c h e b ct) ⟨a,[]⟩ ((["number","shares","ties"]:List Str).zip (a++[])))/\
  ((a++[Mc]).length=(["number","shares","ties"]:List Str).length->yh s (W.fnOf "stand" "stand" (pp xz) (Ej xz) (Qc xz) (.ref t) kV c h e b ct) ⟨a,[]⟩ ((["number","shares","ties"]:List Str).zip (a++[Mc]))):=
 ⟨λd=>bq3 a (by simpa using d) λ_ _ _=>Dh rfl f g rfl rfl,λd=>bq2 a (by simpa using d) λ_ _=>Dh rfl f g rfl rfl⟩
theorem WV(a:sd K mg ca):Bu ⟨K,ca,tx K⟩ P w mg base 7 "stand" ["number","shares","ties"] [Mc] Hh:=
 Bu.Ab (Bu.vc (VX a.Hh ZS λ_ _ _ _ _ _ _ b=>
  (ic (Nf ZS.nd (Pg (nb (ga 0) (nb (ga 1) (db (ZA (rf zC pE (ga 2) Ms (lf _)) (Pg jo) (ga 2)))))))
  (ic (Hf (Yl (zj (Od (EF a) b (db (ga 3))))) (Sh (mE 1 ve rfl a.Di a.Lh rfl rfl (db kf))) Xf)
  (qd (ga 3))))))
abbrev Ĵ:Stmt:=bc 29
def vW:Ev->M Fl:=
 (gd (yd 3 Hh [.wc] (ra (eC (.int 0)) (ra (gg (ra (ba 0) (ra (ba 1) Ja))) Ja))))
def Vi:List D->M D:=Ab λa=>vc (Nd 2 vW a)
theorem KY:va ["left","right"] ["left","right"] (Qc Ĵ):=ze
theorem zu8(a:sd K mg ca):Qe ⟨K,ca,tx K⟩ P w mg base 8 "first" ["left","right"] Vi:=
 Hg a.Vi KY λb=>
  (qd (ι (WV a) rfl (b.mono (by decide)) rfl zxx O5 (nb Xa (db (Pg (nb (ga 0) (db (ga 1))))))))
theorem Lv(a:sd K mg ca):Gn ⟨K,ca,tx K⟩ [4,5,6,7] "side":=(cj a.wg a.Rm (cj a.Og a.gq (cj a.se a.cn (cj a.Pe a.bn Ar))))
theorem Es(a:sd K mg ca):Gn ⟨K,ca,tx K⟩ [4,5,6,7] "mine":=(cj a.wg a.vn (cj a.Og a.mq (cj a.se a.Zm (cj a.Pe a.Jm Ar))))
theorem VJ(a:sd K mg ca):Gn ⟨K,ca,tx K⟩ [4,5,6,7] "grant":=(cj a.wg a.Ql (cj a.Og a.yp (cj a.se a.Ul (cj a.Pe a.Rl Ar))))
theorem bE(a:sd K mg ca):Gn ⟨K,ca,tx K⟩ [4,5,6,7] "may":=(cj a.wg a.yo (cj a.Og a.Xq (cj a.se a.Bo (cj a.Pe a.mo Ar))))
theorem NA(a:sd K mg ca):Gn ⟨K,ca,tx K⟩ [4,5,6,7] "strikes":=(cj a.wg a.rk (cj a.Og a.Km (cj a.se a.qk (cj a.Pe a.xk Ar))))
abbrev W7:Stmt:=lh (bc 52) 0
def KR:Ev->M Fl:=
 (Cb (Bn [4,5,6,7] "pot" (ba 1) (ba 0)) (Cb (Bn [4,5,6,7] "side" (ba 2) (ba 0)) (Cb (Bn [4,5,6,7] "mine" (ba 3) (ba 0)) (Cb (Bn [4,5,6,7] "grant" (ba 4) (ba 0)) (Cb (Bn [4,5,6,7] "may" (Bh (ah Yq (ra (ba 5) Ja))) (ba 0)) (Bn [4,5,6,7] "strikes" (Bh (ah Yq (ra (ba 6) Ja))) (ba 0)))))))
def Oj:List D->M D:=Ab (Nd 7 KR)
theorem Ŝ:va ["self","pot","side","mine","grant","may","strikes"] ["self","pot","side","mine","grant","may","strikes"] (Qc W7):=ze
theorem VE(a:sd K mg ca):qi ⟨K,ca,tx K⟩ P w mg base 1 (ca 10) ["self","pot","side","mine","grant","may","strikes"] Oj:=
 Hx a.Oj Ŝ λb=>
  (ic (Vp rfl (iq a) (ga 0) (ga 1))
  (ic (Vp rfl (Lv a) (ga 0) (ga 2))
  (ic (Vp rfl (Es a) (ga 0) (ga 3))
  (ic (Vp rfl (VJ a) (ga 0) (ga 4))
  (ic (Vp rfl (bE a) (ga 0) (Kl (zv SD (ND rfl) rfl a.dm Gm (db (ga 5)))))
  (Sh (Vp rfl (NA a) (ga 0) (Kl (zv SD (ND rfl) rfl a.dm Gm (db (ga 6)))))))))))
abbrev r6:Stmt:=bc 56
def rP:Ev->M Fl:=
 (Cb (Ue 4 (yd 2 Vi [] (ra (ba 2) (ra (ba 3) Ja)))) (gd (Bh (Kt 5 7 Oj (ra (ba 0) (ra (ba 1) (ra (ba 4) (ra (eC .wc) (ra (ci (ra (ba 4) Ja)) (ra (ci Ja) Ja))))))))))
def Ee:List D->M D:=Ab λa=>vc (Nd 5 rP a)
theorem vR:va ["pot","side","left","right","mine"] ["pot","side","left","right"] (Qc r6):=ze
theorem tZ(a:sd K mg ca):Qe ⟨K,ca,tx K⟩ P w mg base 9 "first_account" ["pot","side","left","right"] Ee:=
 Hg a.Ee vR λb=>
  (ic (Nf vR.nd (Od (zu8 a) b (nb (ga 2) (db (ga 3)))))
  (qd (Kl (QA (c:=5) (ps:=["self","pot","side","mine","grant","may","strikes"]) ⟨_,a.js,a.qq,VE a⟩ rfl (b.mono (by decide)) rfl (nb (ga 0) (nb (ga 1) (nb (ga 4) (nb Ms (nb (Mi (db (ga 4))) (db (Mi jo)))))))))))
abbrev mz:Stmt:=lh (bc 89) 0
abbrev hG:Ev->M Fl:=(Bf (eT (Ba Gf (Ba Oa (ba 6) (ba 7)) (ba 1))) (nu (Rg [(9,Ud)] 4 "hold" (ba 0) (ra (yd 4 Ee [] (ra (ba 5) (ra (ba 7) (ra (Ba Oa (ba 6) (eC (.int 2))) (ra (Ba Oa (ba 6) (eC (.int 3))) Ja))))) (ra (eC (.gt ["held"])) (ra (eC (.yc [] [])) Ja))))) Pf)
abbrev aG:Ev->M Fl:=(vt (gi (gg (ra (eC (.int 0)) (ra (eC (.int 1)) Ja)))) (je 7) hG)
def kU:Ev->M Fl:=
 (Cb (nu (yd 3 Zf [] (ra (ba 1) (ra (ba 2) (ra (ba 3) Ja))))) (Cb (Bn [9] "hand" (ba 1) (ba 0)) (Cb (Bn [8,9] "every" (ba 2) (ba 0)) (Cb (Bn [8,9] "last_look" (eC (.int 0)) (ba 0)) (Cb (Bn [9] "gave" (eC (.int 0)) (ba 0)) (Cb (Bn [8,9] "known" zu (ba 0)) (Cb (Bn [9] "accounts" zu (ba 0)) (Cb (Bn [9] "claims" zu (ba 0)) (Cb (Bn [9] "seen" zu (ba 0)) (Cb (Bn [9] "asked" zu (ba 0)) (Cb (Bn [9] "finishing" zu (ba 0)) (Cb (nu (Rg [(9,Gc)] 2 "learn" (ba 0) (ra (Gx (eT (Ba Ft (ba 4) (eC .wc))) (ci Ja) (ba 4)) Ja))) (yw (zM (ba 3)) (Wo 2 (Bi (je 5) (Bi (je 6) Jp))) aG)))))))))))))
def Vo:List D->M D:=Ab (Nd 8 kU)
theorem mH:va ["self","hand","every","pots","words","pot","made","side"] ["self","hand","every","pots","words"] (Qc mz):=ze
theorem D4(t:Addr)(kV c h:Value)(e:Option Addr)(b ct:Value)(s:aa)(o:jd)(n:Nat)(a:List Value)(f:s.heap.get? t=some o)(g:o.data=.seq ([Mc]:List Value).toArray n) :
  ((a++[]).length=(["self","hand","every","pots","words"]:List Str).length->yh s (W.fnOf "__init__" "Keeper.__init__" (pp mz) (Ej mz) (Qc mz) (.ref t) kV c h e b ct) ⟨a,[]⟩ ((["self","hand","every","pots","words"]:List Str).zip (a++[])))/\
  ((a++[Mc]).length=(["self","hand","every","pots","words"]:List Str).length->yh s (W.fnOf "__init__" "Keeper.__init__" (pp mz) (Ej mz) (Qc mz) (.ref t) kV c h e b ct) ⟨a,[]⟩ ((["self","hand","every","pots","words"]:List Str).zip (a++[Mc]))):=
 ⟨λd=>bq5 a (by simpa using d) λ_ _ _ _ _=>Dh rfl f g rfl rfl,λd=>bq4 a (by simpa using d) λ_ _ _ _=>Dh rfl f g rfl rfl⟩
theorem zV(a:sd K mg ca):uw ⟨K,ca,tx K⟩ P w mg base 10 (ca 20) ["self","hand","every","pots","words"] [Mc] Vo:=
 uw.Ab (A3 a.Vo mH λ_ _ _ _ _ _ b=>
  (ic (mv (Od (Ö a) b (nb (ga 1) (nb (ga 2) (db (ga 3))))))
  (ic (Vp rfl (L9 a) (ga 0) (ga 1))
  (ic (Vp rfl (iD a) (ga 0) (ga 2))
  (ic (Vp rfl (WB a) (ga 0) Xa)
  (ic (Vp rfl (NH a) (ga 0) Xa)
  (ic (Vp rfl (OB a) (ga 0) zx)
  (ic (Vp rfl (Nr a) (ga 0) zx)
  (ic (Vp rfl (AH a) (ga 0) zx)
  (ic (Vp rfl (eK a) (ga 0) zx)
  (ic (Vp rfl (aC a) (ga 0) zx)
  (ic (Vp rfl (zga a) (ga 0) zx)
  (ic (mv (fmt (lS a) b (ga 0) (db (ZA (rf zC pE (ga 4) Ms (lf _)) (Mi jo) (ga 4)))))
  (Sh (vD Kq rfl (ç rfl a.Wq (ga 3)) (kw rfl (jp (Wh mH.nd) (jp (Wh mH.nd) tw))) (Sh (Lu Kq rfl (xm rfl (Pg (nb Xa (db Xa)))) (Wh mH.nd) (Sh (Hf (rf (Si (Ae b)) sg (Qb (ga 6) (ga 7)) (ga 1) (lf _)) (Sh (mv (fmt (ŉ a) b (ga 0) (nb (Od (tZ a) b (nb (ga 5) (nb (ga 7) (nb (Qb (ga 6) Xa) (db (Qb (ga 6) Xa)))))) (nb (WQ (ss:=["held"]) rfl a.jv) (db B7)))))) Xf)))))))))))))))))))
abbrev ε:Stmt:=bc 92
abbrev rW:Ev->M Fl:=(Ue 3 (Ba Nh (eC (.int 1)) (Ba Zt (Ba Pz (ba 2) (eC (.int 64))) (ah DE (ra (eC (.int 1)) (ra (Ba Oa (Ba Oa (ba 0) (eC (.int 1))) (ba 1)) Ja))))))
abbrev pO:Ev->M Fl:=(Ue 3 (ah Iz (ra (ba 3) (ra (Ba ux (eC (.int 10)) (eC (.int 12))) Ja))))
abbrev oX:Ev->M Fl:=(Ue 4 (Ba Oa (ci (ra (eC (.str "give")) (ra (eC (.str "pay")) (ra (eC (.str "settle")) (ra (eC (.str "drop")) Ja))))) (Ba Zt (Ba Pz (ba 2) (eC (.int 2))) (eC (.int 4)))))
abbrev GR:Ev->M Fl:=(Bf (eT (Ba Gf (ba 4) (eC (.str "give")))) (gd (gg (ra (eC (.str "give")) (ra (eC (.int 0)) (ra (ba 3) Ja))))) Pf)
abbrev yV:Ev->M Fl:=(Bf (Go (eT (Ba Gf (ba 4) (eC (.str "pay")))) (eT (Ba Gf (Ba Oa (ba 0) (eC (.int 2))) (gg Ja)))) (gd (gg (ra (eC (.str "pay")) (ra (eC (.int 0)) (ra (ba 3) (ra (Ba Zt (Ba Pz (ba 2) (eC (.int 8))) (eC (.int 60))) (ra (Ba Zt (Ba Pz (ba 2) (eC (.int 480))) (eC (.int 40))) Ja))))))) Pf)
abbrev bX:Ev->M Fl:=(gd (gg (ra (ba 4) (ra (eC (.int 0)) (ra (Ba Oa (Ba Oa (Ba Oa (ba 0) (eC (.int 2))) (Ba Zt (Ba Pz (ba 2) (eC (.int 8))) (ah Fj (ra (Ba Oa (ba 0) (eC (.int 2))) Ja)))) (eC (.int 2))) Ja)))))
def ZN:Ev->M Fl:=
 (Cb rW (Cb pO (Cb oX (Cb GR (Cb yV bX)))))
def Cg:List D->M D:=Ab λa=>vc (Nd 5 ZN a)
theorem EH:va ["_law_one","_law_side","_law_cell","_law_amount","_law_kind"] ["_law_one","_law_side","_law_cell"] (Qc ε):=ze
theorem Ė(a:sd K mg ca):Qe ⟨K,ca,tx K⟩ P w mg base 1 "_law_wish" ["_law_one","_law_side","_law_cell"] Cg:=
 Hg a.Cg EH λb=>
  (ic (Nf EH.nd (Sl Xa (Hj Nw Fx (Hj jE TC (ga 2) Xa) (Yk (δ rfl) Ú rfl a.WC boot_max (nb Xa (db (Qb (Qb (ga 0) Xa) (ga 1))))))))
  (ic (Nf EH.nd (Yk (EV rfl) XW rfl a.xr NN (nb (ga 3) (db (Hj UL sN Xa Xa)))))
  (ic (Nf EH.nd (Qb (Mi (nb kf (nb kf (nb kf (db kf))))) (Hj Nw Fx (Hj jE TC (ga 2) Xa) Xa)))
  (ic (Hf (rf (Si (Ae b)) sg (ga 4) kf (lf _)) (qd (Pg (nb kf (nb Xa (db (ga 3)))))) Xf)
  (ic (Hf (L2.PW.pt (Np (rf (Si (Ae b)) sg (ga 4) kf (lf _)) (Er (rf (Si (Ae b)) sg (Qb (ga 0) Xa) (Pg jo) (lf _))))) (qd (Pg (nb kf (nb Xa (nb (ga 3) (nb (Hj Nw Fx (Hj jE TC (ga 2) Xa) Xa) (db (Hj Nw Fx (Hj jE TC (ga 2) Xa) Xa)))))))) Xf)
  (qd (Pg (nb (ga 4) (nb Xa (db (Qb (Qb (Qb (ga 0) Xa) (Hj Nw Fx (Hj jE TC (ga 2) Xa) (Yk yq (jq rfl) rfl a.zg Jb (db (Qb (ga 0) Xa))))) Xa)))))))))))
theorem ZT(a:sd K mg ca):Gn ⟨K,ca,tx K⟩ [8] "pots":=(cj a.Cn a.Aq Ar)
abbrev O0:Stmt:=bc 37
def dQ:Ev->M Fl:=
 (gd (kj (Ba qw (Ba Oa (ba 0) (eC (.int 2))) (ba 1)) (Ba oLt (Ba Xk (ba 1) (Ba Oa (ba 0) (eC (.int 2)))) (Ba Oa (ba 0) (eC (.int 3))))))
def ce:List D->M D:=Ab λa=>vc (Nd 2 dQ a)
theorem zb1:va ["tie","shown"] ["tie","shown"] (Qc O0):=ze
theorem LQ(b:sd K mg ca):Qe ⟨K,ca,tx K⟩ P w mg base 1 "shown_in_time" ["tie","shown"] ce:=
 Hg b.ce zb1 λa=>
  (qd (xj (Mu (jM (Ae a)) cK (Qb (ga 0) Xa) (ga 1) rfl) (Kn (Mu dy By (wt (Ae a) (ga 1) (Qb (ga 0) Xa) (λ_ _=>rfl)) (Qb (ga 0) Xa) (lf _)))))
abbrev bZ:Stmt:=bc 61
def oR:Ev->M Fl:=
 (Cb (Bf (eT (yd 2 ce [] (ra (ba 2) (ra (ba 1) Ja)))) (gd (eC (.str "lost"))) Pf) (Cb (Bf (eT (Ba RF (Cd (Uc [8,9] "last_look") (ba 0)) (Ba Oa (ba 2) (eC (.int 3))))) (gd (eC (.str "back"))) Pf) (gd (eC (.str "open")))))
def Af:List D->M D:=Ab λa=>vc (Nd 3 oR a)
theorem v8:va ["view","seen","tie"] ["view","seen","tie"] (Qc bZ):=ze
theorem Q6(a:sd K mg ca):Qe ⟨K,ca,tx K⟩ P w mg base 2 "lot_of_paid" ["view","seen","tie"] Af:=
 Hg a.Af v8 λb=>
  (ic (Hf (zj (Od (LQ a) b (nb (ga 2) (db (ga 1))))) (qd kf) Xf)
  (ic (Hf (rf QK gM (De (WB a) (ga 0)) (Qb (ga 2) Xa) (lf _)) (qd kf) Xf)
  (qd kf)))
abbrev f9:Stmt:=bc 62
def cW:Ev->M Fl:=
 (Cb (Bf (eT (yd 2 ce [] (ra (ba 2) (ra (ba 1) Ja)))) (gd (eC (.str "won"))) Pf) (Cb (Bf (eT (Ba RF (Cd (Uc [8,9] "last_look") (ba 0)) (Ba Oa (ba 2) (eC (.int 3))))) (gd (eC (.str "gone"))) Pf) (Cb (Bf (Jv (eT (Ba (SC false) (Ba Oa (ba 2) (eC (.int 2))) (Cd (Uc [8,9] "known") (ba 0)))) (eT (Ba oLt (Ba Nh (Cd (Uc [8,9] "last_look") (ba 0)) (Cd (Uc [8,9] "every") (ba 0))) (Ba Oa (ba 2) (eC (.int 3)))))) (gd (eC (.str "sure"))) Pf) (gd (eC (.str "hangs"))))))
def Yf:List D->M D:=Ab λa=>vc (Nd 3 cW a)
theorem m4:va ["view","seen","tie"] ["view","seen","tie"] (Qc f9):=ze
theorem O3(a:sd K mg ca):Qe ⟨K,ca,tx K⟩ P w mg base 2 "lot_of_due" ["view","seen","tie"] Yf:=
 Hg a.Yf m4 λb=>
  (ic (Hf (zj (Od (LQ a) b (nb (ga 2) (db (ga 1))))) (qd kf) Xf)
  (ic (Hf (rf QK gM (De (WB a) (ga 0)) (Qb (ga 2) Xa) (lf _)) (qd kf) Xf)
  (ic (Hf (L2.PW.pt (Uw (rf (Þ rfl (Ae b)) sg (Qb (ga 2) Xa) (De (OB a) (ga 0)) rfl) (qy (rf dy By (Sl (De (WB a) (ga 0)) (De (iD a) (ga 0))) (Qb (ga 2) Xa) (lf _))))) (qd kf) Xf)
  (qd kf))))
abbrev HY:Stmt:=bc 63
def fO:Ev->M Fl:=
 (Cb (Bf (eT (Ba Gf (Ba Oa (ba 2) (eC (.int 0))) (Ba Oa (ba 1) (eC (.int 0))))) (gd (yd 3 Af [] (ra (ba 0) (ra (Ba Oa (ba 1) (eC (.int 2))) (ra (ba 2) Ja))))) Pf) (gd (yd 3 Yf [] (ra (ba 0) (ra (Ba Oa (ba 1) (eC (.int 2))) (ra (ba 2) Ja))))))
def Ai:List D->M D:=Ab λa=>vc (Nd 3 fO a)
theorem ĭ:va ["view","pot","tie"] ["view","pot","tie"] (Qc HY):=ze
theorem zom(a:sd K mg ca):Qe ⟨K,ca,tx K⟩ P w mg base 3 "lot_of" ["view","pot","tie"] Ai:=
 Hg a.Ai ĭ λb=>
  (ic (Hf (rf (Si (Ae b)) sg (Qb (ga 2) Xa) (Qb (ga 1) Xa) (lf _)) (qd (Od (Q6 a) b (nb (ga 0) (nb (Qb (ga 1) Xa) (db (ga 2)))))) Xf)
  (qd (Od (O3 a) b (nb (ga 0) (nb (Qb (ga 1) Xa) (db (ga 2)))))))
abbrev Ÿ:Stmt:=bc 64
abbrev lI:Ev->M Fl:=(Cb (Ue 6 (yd 3 Ai [] (ra (ba 0) (ra (ba 1) (ra (ba 5) Ja))))) (Cb (mu (gg (ra (ba 6) (ra (Ba Oa (ba 5) (eC (.int 1))) (ra (Ba Oa (ba 5) (eC (.int 3))) Ja)))) (ba 4) (Ba Oa (ba 5) (eC (.int 2)))) (Bf (eT (Cd (vF false ["won","sure","back"]) (ba 6))) (iy (λa b=>a+b) 3 (Ba Oa (ba 5) (eC (.int 1)))) Pf)))
def YS:Ev->M Fl:=
 (Cb (Ue 3 (Ba Oa (Ba Oa (ba 2) (eC (.int 1))) (Ba Oa (ba 1) (eC (.int 0))))) (Cb (Ue 4 zu) (Cb (vt (gi (Ba Oa (ba 2) (eC (.int 2)))) (je 5) lI) (gd (gg (ra (ba 3) (ra (ba 4) Ja)))))))
def vf:List D->M D:=Ab λa=>vc (Nd 7 YS a)
theorem VB:va ["view","pot","one","firm","lots","tie","lot"] ["view","pot","one"] (Qc Ÿ):=ze
theorem O1(a:sd K mg ca):Qe ⟨K,ca,tx K⟩ P w mg base 4 "read_stand" ["view","pot","one"] vf:=
 Hg a.vf VB λb=>
  (ic (Nf VB.nd (Qb (Qb (ga 2) Xa) (Qb (ga 1) Xa)))
  (ic (Nf VB.nd zx)
  (ic (Lu Kq rfl (xm rfl (Qb (ga 2) Xa)) (Wh VB.nd) (ic (Nf VB.nd (Od (zom a) b (nb (ga 0) (nb (ga 1) (db (ga 5))))))
  (ic (bv (Ae b) (Pg (nb (ga 6) (nb (Qb (ga 5) Xa) (db (Qb (ga 5) Xa))))) (ga 4) (Qb (ga 5) Xa))
  (Sh (Hf (L8 (ss:=["won","sure","back"]) rfl a.bz (ga 6)) (Sh (zP (i:=3) KO VB.nd rfl (Or.inl rfl) (Qb (ga 5) Xa))) Xf)))))
  (qd (Pg (nb (ga 3) (db (ga 4))))))))
abbrev Ü:Stmt:=bc 65
abbrev uW:Ev->M Fl:=(nu (Sw Mn (ba 1) (ra (Bh (pj (Fk (gi (Ba Oa (ba 2) (eC (.int 1))))) [0,2] (je 0) ik (yd 3 vf [] (ra (ba 2) (ra (ba 3) (ra (ba 0) Ja)))))) Ja)))
def FQ:Ev->M Fl:=
 (Cb (Ue 1 (Xu Ja)) (Cb (vt (gi (Cd (Uc [8] "pots") (ba 0))) (je 2) uW) (gd (ba 1))))
def Bg:List D->M D:=Ab λa=>vc (Nd 3 FQ a)
theorem gL:va ["view","readings","pot"] ["view"] (Qc Ü):=ze
theorem D5(a:sd K mg ca):Qe ⟨K,ca,tx K⟩ P w mg base 5 "read_pots" ["view"] Bg:=
 Hg a.Bg gL λb=>
  (ic (Nf gL.nd (LB jo))
  (ic (Lu Kq rfl (xm rfl (De (ZT a) (ga 0))) (SB (i:=2) gL.nd rfl (Or.inr rfl)) (Sh (mv (nz Bd Re Se MB bC (ga 1) (db (Kl (Iq (x:="one") (z0:="0") (M':=["view","pot"]) (ix:=[0,2]) rfl ⟨rfl,rfl,rfl,rfl,rfl,rfl⟩ (oq (xm rfl (Qb (ga 2) Xa))) (λ_ _ _ _ _=>Wh (by show List.Nodup (("one"::"0"::["view","pot"]):List Str);decide +kernel)) (λ_ _ _ _ _=>rs) (λ_ _ _ _ _=>(Od (O1 a) b (nb (ga 2) (nb (ga 3) (db (ga 0)))))))))))))
  (qd (ga 1))))
abbrev Z9:Stmt:=bc 66
abbrev RG:Ev->M Fl:=(nu (Sw Ez (ba 3) (ra (Bh (pj (Fk (Pu (ah Fj (ra (ba 2) Ja)))) [4] (je 0) ik (Ba Nh (ba 2) (ci (ra (ba 0) Ja))))) Ja)))
abbrev aP:Ev->M Fl:=(Cb (Ue 3 (Xu Ja)) (Cb (vt (gi (ba 1)) (je 4) RG) (Ue 1 (ba 3))))
def GW:Ev->M Fl:=
 (Cb (Ue 1 (ci (ra (ci Ja) Ja))) (Cb (vt (gi (ba 0)) (je 2) aP) (gd (ba 1))))
def Me:List D->M D:=Ab λa=>vc (Nd 5 GW a)
theorem KB:va ["readings","choices","stands","longer","chosen"] ["readings"] (Qc Z9):=ze
theorem zdv(a:sd K mg ca):Qe ⟨K,ca,tx K⟩ P w mg base 1 "all_choices" ["readings"] Me:=
 Hg a.Me KB λb=>
  (ic (Nf KB.nd (Mi (db (Mi jo))))
  (ic (Lu Kq rfl (xm rfl (ga 0)) (Wh KB.nd) (ic (Nf KB.nd (LB jo))
  (ic (Lu Kq rfl (xm rfl (ga 1)) (SB (i:=4) KB.nd rfl (Or.inr rfl)) (Sh (mv (nz Bd PySem.F.slot_list_extend PySem.F.type_list_extend Ů π (ga 3) (db (Kl (Iq (x:="place") (z0:="0") (M':=["chosen"]) (ix:=[4]) rfl ⟨rfl,rfl,rfl,rfl,rfl,rfl⟩ (oq (XH rfl a.Ij (Yk yq (jq rfl) rfl a.zg Jb (db (ga 2))))) (λ_ _ _ _ _=>Wh (by show List.Nodup (("place"::"0"::["chosen"]):List Str);decide +kernel)) (λ_ _ _ _ _=>rs) (λ_ _ _ _ _=>(Sl (ga 2) (Mi (db (ga 0))))))))))))
  (Sh (Nf KB.nd (ga 3))))))
  (qd (ga 1))))
abbrev pZ:Stmt:=bc 68
abbrev SL:Ev->M Fl:=(nu (Sw Mn (BI cA (ba 1) (ra (ba 3) (ra (Xu Ja) Ja))) (ra (ba 4) Ja)))
abbrev AL:Ev->M Fl:=(yw (AA (Ba Oa (ba 2) (eC (.int 1)))) (Wo 2 (Bi (je 3) (Bi (je 4) Jp))) SL)
def UV:Ev->M Fl:=
 (Cb (Ue 1 zu) (Cb (vt (gi (ba 0)) (je 2) AL) (gd (ba 1))))
def bf:List D->M D:=Ab λa=>vc (Nd 5 UV a)
theorem SE:va ["reads","by_word","read","word","lot"] ["reads"] (Qc pZ):=ze
theorem WX(a:sd K mg ca):Qe ⟨K,ca,tx K⟩ P w mg base 1 "lots_by_word" ["reads"] bf:=
 Hg a.bf SE λb=>
  (ic (Nf SE.nd zx)
  (ic (Lu Kq rfl (xm rfl (ga 0)) (Wh SE.nd) (Sh (vD Kq rfl (tM (Qb (ga 2) Xa)) (kw rfl (jp (Wh SE.nd) (jp (Wh SE.nd) tw))) (Sh (mv (nz Bd Re Se MB bC (mR Eg An PySem.F.type_dict_setdefault ş Ĭ (ga 1) (nb (ga 3) (db (LB jo)))) (db (ga 4))))))))
  (qd (ga 1))))
abbrev zk0:Stmt:=bc 69
def DW:Ev->M Fl:=
 (gd (Ba Nh (ci (ra (eC .wc) Ja)) (Bh (pj (Fk (gi (ba 0))) [] (je 0) (eT (Ba Gf (Ba Oa (ba 0) (eC (.int 0))) (eC (.str "open")))) (Ba Oa (ba 0) (eC (.int 2)))))))
def Yg:List D->M D:=Ab λa=>vc (Nd 1 DW a)
theorem IY:va ["lots"] ["lots"] (Qc zk0):=ze
theorem g6(a:sd K mg ca):Qe ⟨K,ca,tx K⟩ P w mg base 1 "fates_of" ["lots"] Yg:=
 Hg a.Yg IY λb=>
  (qd (Sl (Mi (db Ms)) (Kl (Iq (x:="lot") (z0:="0") (M':=[]) (ix:=[]) rfl ⟨rfl,rfl,rfl,rfl,rfl,rfl⟩ (oq (xm rfl (ga 0))) (λ_ _ _ _ _=>Wh (by show List.Nodup (("lot"::"0"::[]):List Str);decide +kernel)) (λ_ _ _ _ _=>JB (rf (Si (Ae b)) sg (Qb (ga 0) Xa) kf (lf _))) (λ_ _ _ _ _=>(Qb (ga 0) Xa))))))
abbrev ß:Stmt:=bc 70
def qS:Ev->M Fl:=
 (Cb (Bf (eT (Ba Gf (Ba Oa (ba 0) (eC (.int 0))) (eC (.str "open")))) (gd (gN (Ba Ft (ba 1) (eC .wc)) (Ba xL (ba 1) (Ba Oa (ba 0) (eC (.int 2)))))) Pf) (gd (kj (Ba Gf (Ba Oa (ba 0) (eC (.int 0))) (eC (.str "hangs"))) (kj (Ba xB (ba 1) (eC .wc)) (Ba oLt (Ba Nh (Ba cr (ba 1) (eC (.int 1))) (ba 2)) (Ba Oa (ba 0) (eC (.int 2))))))))
def be:List D->M D:=Ab λa=>vc (Nd 3 qS a)
theorem BZ:va ["lot","fate","every"] ["lot","fate","every"] (Qc ß):=ze
theorem đ(b:sd K mg ca):Qe ⟨K,ca,tx K⟩ P w mg base 1 "comes_by_fate" ["lot","fate","every"] be:=
 Hg b.be BZ λa=>
  (ic (Hf (rf (Si (Ae a)) sg (Qb (ga 0) Xa) kf (lf _)) (qd (ĵ (Mu zC pE (ga 1) Ms (lf _)) (Kn (Mu cT UR (ga 1) (Qb (ga 0) Xa) (lf _))))) Xf)
  (qd (xj (Qp a (Qb (ga 0) Xa) kf) (xj (Mu fU CT (ga 1) Ms (lf _)) (Kn (Mu dy By (Sl (Hj Ku Au (ga 1) Xa) (ga 2)) (Qb (ga 0) Xa) (lf _)))))))
abbrev UX:Stmt:=bc 71
def pW:Ev->M Fl:=
 (gd (ah Eu (ra (Bh (pj (Fk (gi (ba 0))) [1,2] (je 0) (eT (yd 3 be [] (ra (ba 0) (ra (ba 2) (ra (ba 3) Ja))))) (Ba Oa (ba 0) (eC (.int 1))))) Ja)))
def Wd:List D->M D:=Ab λa=>vc (Nd 3 pW a)
theorem Š:va ["lots","fate","every"] ["lots","fate","every"] (Qc UX):=ze
theorem cU(a:sd K mg ca):Qe ⟨K,ca,tx K⟩ P w mg base 2 "sum_by_fate" ["lots","fate","every"] Wd:=
 Hg a.Wd Š λb=>
  (qd (Yk (yH rfl) (HF rfl) rfl a.zt Px (db (Kl (Iq (x:="lot") (z0:="0") (M':=["fate","every"]) (ix:=[1,2]) rfl ⟨rfl,rfl,rfl,rfl,rfl,rfl⟩ (oq (xm rfl (ga 0))) (λ_ _ _ _ _=>Wh (by show List.Nodup (("lot"::"0"::["fate","every"]):List Str);decide +kernel)) (λ_ _ _ _ _=>JB (zj (Od (đ a) b (nb (ga 0) (nb (ga 2) (db (ga 3))))))) (λ_ _ _ _ _=>(Qb (ga 0) Xa)))))))
abbrev A9:Stmt:=bc 72
def yS:Ev->M Fl:=
 (gd (DG [0,1] (yd 3 Wd [] (ra (ba 1) (ra (ba 0) (ra (ba 2) Ja)))) (ra (yd 1 Yg [] (ra (ba 0) Ja)) Ja)))
def tf:List D->M D:=Ab λa=>vc (Nd 2 yS a)
theorem Ź:va ["lots","every"] ["lots","every"] (Qc A9):=ze
theorem F5(a:sd K mg ca):Qe ⟨K,ca,tx K⟩ P w mg base 5 "least_fate" ["lots","every"] tf:=
 Qe.Ab (Qe.vc (zO a.tf Ź λ_ _ _ _ _ _ b=>
  (qd (oW (x:="fate") (M':=["lots","every"]) (ix:=[0,1]) (t:=nH K) (k:=2) (b.mono (by decide)) ⟨rfl,rfl,rfl,rfl,rfl,rfl⟩ rfl ⟨(gP K),λd c=>a.NC _ (gP K) d c,rfl,a.tb.hd _ (by decide),rfl,rfl,rfl,a.LV,a.tb.bb⟩ rfl a.xr rfl rfl rfl (λ_ _ _ _ _=>rfl) (db (Od (g6 a) b (db (ga 0)))) (λ_ _ _ _ _ b=>(Od (cU a) b (nb (ga 1) (nb (ga 0) (db (ga 2))))))))))
abbrev E8:Stmt:=bc 73
abbrev VW:Ev->M Fl:=(iy (λa b=>a+b) 4 (yd 3 Wd [] (ra (ba 6) (ra (Ba Xk (ba 2) (ba 5)) (ra (ba 3) Ja)))))
abbrev CZ:Ev->M Fl:=(gd (ba 4))
def XP:Ev->M Fl:=
 (Cb (Ue 4 (ah Eu (ra (Bh (pj (Fk (gi (ba 0))) [] (je 0) ik (Ba Oa (ba 0) (eC (.int 0))))) Ja))) (Cb (yw (AA (ba 1)) (Wo 2 (Bi (je 5) (Bi (je 6) Jp))) VW) CZ))
def Ei:List D->M D:=Ab λa=>vc (Nd 7 XP a)
theorem kD:va ["reads","by_word","fates","every","total","word","lots"] ["reads","by_word","fates","every"] (Qc E8):=ze
theorem oZ(a:sd K mg ca):Qe ⟨K,ca,tx K⟩ P w mg base 3 "sum_of" ["reads","by_word","fates","every"] Ei:=
 Hg a.Ei kD λb=>
  (ic (Nf kD.nd (Yk (yH rfl) (HF rfl) rfl a.zt Px (db (Kl (Iq (x:="read") (z0:="0") (M':=[]) (ix:=[]) rfl ⟨rfl,rfl,rfl,rfl,rfl,rfl⟩ (oq (xm rfl (ga 0))) (λ_ _ _ _ _=>Wh (by show List.Nodup (("read"::"0"::[]):List Str);decide +kernel)) (λ_ _ _ _ _=>rs) (λ_ _ _ _ _=>(Qb (ga 0) Xa)))))))
  (ic (vD Kq rfl (tM (ga 1)) (kw rfl (jp (Wh kD.nd) (jp (Wh kD.nd) tw))) (Sh (zP (i:=4) KO kD.nd rfl (Or.inl rfl) (Od (cU a) b (nb (ga 6) (nb (wt (Ae b) (ga 2) (ga 5) (λ_ _=>rfl)) (db (ga 3))))))))
  (qd (ga 4))))
abbrev zZ:Stmt:=bc 74
abbrev WU:Ev->M Fl:=(mu (yd 2 tf [] (ra (ba 6) (ra (ba 2) Ja))) (ba 4) (ba 5))
def QU:Ev->M Fl:=
 (Cb (Ue 3 (yd 1 bf [] (ra (ba 0) Ja))) (Cb (Ue 4 zu) (Cb (yw (AA (ba 3)) (Wo 2 (Bi (je 5) (Bi (je 6) Jp))) WU) (gd (gg (ra (yd 4 Ei [] (ra (ba 0) (ra (ba 3) (ra (ba 4) (ra (ba 2) Ja))))) (ra (ba 1) (ra (ba 4) Ja))))))))
def Le:List D->M D:=Ab λa=>vc (Nd 7 QU a)
theorem YE:va ["reads","chosen","every","by_word","fates","word","lots"] ["reads","chosen","every"] (Qc zZ):=ze
theorem Ţ(a:sd K mg ca):Qe ⟨K,ca,tx K⟩ P w mg base 6 "least_paper" ["reads","chosen","every"] Le:=
 Hg a.Le YE λb=>
  (ic (Nf YE.nd (Od (WX a) b (db (ga 0))))
  (ic (Nf YE.nd zx)
  (ic (vD Kq rfl (tM (ga 3)) (kw rfl (jp (Wh YE.nd) (jp (Wh YE.nd) tw))) (Sh (bv (Ae b) (Od (F5 a) b (nb (ga 6) (db (ga 2)))) (ga 4) (ga 5))))
  (qd (Pg (nb (Od (oZ a) b (nb (ga 0) (nb (ga 3) (nb (ga 4) (db (ga 2)))))) (nb (ga 1) (db (ga 4)))))))))
abbrev zbd:Stmt:=bc 67
def VV:Ev->M Fl:=
 (gd (Bh (pj (Hy (ba 0) (ba 1)) [] (Wo 2 (Bi (je 0) (Bi (je 1) Jp))) ik (Ba Oa (ba 0) (ba 1)))))
def Dd:List D->M D:=Ab λa=>vc (Nd 2 VV a)
theorem ź:va ["readings","chosen"] ["readings","chosen"] (Qc zbd):=ze
theorem R7(a:sd K mg ca):Qe ⟨K,ca,tx K⟩ P w mg base 1 "chosen_readings" ["readings","chosen"] Dd:=
 Hg a.Dd ź λb=>
  (qd (Kl (Iq (x:="stands") (z0:="place") (M':=[]) (ix:=[]) rfl ⟨rfl,rfl,rfl,rfl,rfl,rfl⟩ (cO rfl a.Yx (ga 0) (ga 1)) (λ_ _ _ _ _=>kw rfl (jp (Wh (by show List.Nodup (("stands"::"place"::[]):List Str);decide +kernel)) (jp (Wh (by show List.Nodup (("stands"::"place"::[]):List Str);decide +kernel)) tw))) (λ_ _ _ _ _=>rs) (λ_ _ _ _ _=>(Qb (ga 0) (ga 1))))))
abbrev m7:Stmt:=bc 75
def mW:Ev->M Fl:=
 (Cb (Ue 1 (yd 1 Bg [] (ra (ba 0) Ja))) (Cb (Ue 2 (Bh (pj (Fk (gi (yd 1 Me [] (ra (ba 1) Ja)))) [1,0] (je 0) ik (yd 3 Le [] (ra (yd 2 Dd [] (ra (ba 2) (ra (ba 0) Ja))) (ra (ba 0) (ra (Cd (Uc [8,9] "every") (ba 3)) Ja))))))) (gd (DG [] (Ba Oa (ba 0) (eC (.int 0))) (ra (ba 2) Ja)))))
def Gj:List D->M D:=Ab λa=>vc (Nd 3 mW a)
theorem aM:va ["view","readings","papers"] ["view"] (Qc m7):=ze
theorem W9(a:sd K mg ca):Qe ⟨K,ca,tx K⟩ P w mg base 7 "paper" ["view"] Gj:=
 Qe.Ab (Qe.vc (zO a.Gj aM λ_ _ _ _ _ _ b=>
  (ic (zN (i:=1) aM.nd rfl (Or.inr rfl) (Od (D5 a) b (db (ga 0))))
  (ic (dU (qL (i:=2) aM.nd rfl (Or.inl rfl) (x:="chosen") (z0:="0") (M':=["readings","view"]) (ix:=[1,0]) rfl ⟨rfl,rfl,rfl,rfl,rfl,rfl⟩ (oq (xm rfl (Od (zdv a) b (db (ga 1))))) (λ_ _ _ _ _=>Wh (by show List.Nodup (("chosen"::"0"::["readings","view"]):List Str);decide +kernel)) (λ_ _ _ _ _=>rs) (λ_ _ _ _ _=>(Od (Ţ a) b (nb (Od (R7 a) b (nb (ga 2) (db (ga 0)))) (nb (ga 0) (db (De (iD a) (ga 3)))))))))
  (qd (oW (x:="told") (M':=[]) (ix:=[]) (t:=OG K) (k:=0) (b.mono (by decide)) ⟨rfl,rfl,rfl,rfl,rfl,rfl⟩ rfl ⟨(rV K),λd c=>a.NC _ (rV K) d c,rfl,a.tb.hd _ (by decide),rfl,rfl,rfl,a.LV,a.tb.bb⟩ rfl a.xr rfl rfl rfl (λ_ _ _ _ _=>rfl) (db (ga 2)) (λ_ _ _ _ _ b=>(Qb (ga 0) Xa))))))))
abbrev T1:Stmt:=bc 76
def YW:Ev->M Fl:=
 (gd (Ba Oa (yd 1 Gj [] (ra (ba 0) Ja)) (eC (.int 0))))
def ni:List D->M D:=Ab λa=>vc (Nd 1 YW a)
theorem î:va ["view"] ["view"] (Qc T1):=ze
theorem uV(a:sd K mg ca):Qe ⟨K,ca,tx K⟩ P w mg base 8 "worth" ["view"] ni:=
 Hg a.ni î λb=>
  (qd (Qb (Od (W9 a) b (db (ga 0))) Xa))
abbrev zfs:Stmt:=bc 82
def uR:Ev->M Fl:=
 (Cb (Bf (eT (Ba Gf (Ba Oa (ba 1) (eC (.int 0))) (eC (.str "held")))) (gd (Cd (Uc [4,5,6,7] "may") (ba 0))) Pf) Js)
def Cf:List D->M D:=Ab λa=>vc (Nd 2 uR a)
theorem á:va ["account","claim"] ["account","claim"] (Qc zfs):=ze
theorem l3(a:sd K mg ca):Qe ⟨K,ca,tx K⟩ P w mg base 1 "stands_told" ["account","claim"] Cf:=
 Hg a.Cf á λb=>
  (ic (Hf (rf (Si (Ae b)) sg (Qb (ga 1) Xa) kf (lf _)) (qd (De (bE a) (ga 0))) Xf)
  yt)
abbrev yY:Stmt:=lh (bc 60) 0
def HU:Ev->M Fl:=
 (Cb (Bn [8,9] "every" (ba 1) (ba 0)) (Cb (Bn [8,9] "last_look" (ba 2) (ba 0)) (Cb (Bn [8,9] "known" (Bh (ah Yq (ra (ba 3) Ja))) (ba 0)) (Bn [8] "pots" (Bh (pj (Fk (gi (ba 4))) [] (je 0) ik (gg (ra (Ba Oa (ba 0) (eC (.int 0))) (ra (Bh (ah Yq (ra (Ba Oa (ba 0) (eC (.int 1))) Ja))) (ra (ah nB (ra (Ba Oa (ba 0) (eC (.int 2))) Ja)) Ja)))))) (ba 0)))))
def ms:List D->M D:=Ab (Nd 5 HU)
theorem JY:va ["self","every","look","words","pots"] ["self","every","look","words","pots"] (Qc yY):=ze
theorem U4(a:sd K mg ca):qi ⟨K,ca,tx K⟩ P w mg base 1 (ca 19) ["self","every","look","words","pots"] ms:=
 Hx a.ms JY λb=>
  (ic (Vp rfl (iD a) (ga 0) (ga 1))
  (ic (Vp rfl (WB a) (ga 0) (ga 2))
  (ic (Vp rfl (OB a) (ga 0) (Kl (zv SD (ND rfl) rfl a.dm Gm (db (ga 3)))))
  (Sh (Vp rfl (ZT a) (ga 0) (Kl (Iq (x:="pot") (z0:="0") (M':=[]) (ix:=[]) rfl ⟨rfl,rfl,rfl,rfl,rfl,rfl⟩ (oq (xm rfl (ga 4))) (λ_ _ _ _ _=>Wh (by show List.Nodup (("pot"::"0"::[]):List Str);decide +kernel)) (λ_ _ _ _ _=>rs) (λ_ _ _ _ _=>(Pg (nb (Qb (ga 0) Xa) (nb (Kl (zv SD (ND rfl) rfl a.dm Gm (db (Qb (ga 0) Xa)))) (db (zv OR IZ rfl a.av boot_dict (db (Qb (ga 0) Xa)))))))))))))))
abbrev Ω:Stmt:=lh (bc 89) 3
def yT:Ev->M Fl:=
 (gd (Bh (ah qB (ra (Cd (Uc [8,9] "known") (ba 0)) Ja))))
def Xc:List D->M D:=Ab λa=>vc (Nd 1 yT a)
theorem Ď:va ["self"] ["self"] (Qc Ω):=ze
theorem L1(a:sd K mg ca):qi ⟨K,ca,tx K⟩ P w mg base 1 (ca 23) ["self"] Xc:=
 Dr a.Xc Ď λb=>
  (qd (Kl (Yk (G3 rfl) (D2 rfl) rfl a.Bv L4.T6 (db (De (OB a) (ga 0))))))
theorem MS(a:sd K mg ca):uk ⟨K,ca,tx K⟩ P w mg base 1 "words" ["self"] [(9,Xc)]:=(nk a.Zb a.rn (L1 a) Nn)
abbrev Ë:Stmt:=lh (bc 89) 7
abbrev QL:Ev->M Fl:=(nu (Sw Mn (ba 2) (ra (gg (ra (Cd (Uc [4,5,6,7] "side") (ba 4)) (ra (yd 2 Cf [] (ra (ba 4) (ra (Ba Xk (Cd (Uc [9] "claims") (ba 0)) (ba 3)) Ja))) (ra (Ba Xk (Cd (Uc [9] "seen") (ba 0)) (ba 3)) Ja)))) Ja)))
abbrev u2:Ev->M Fl:=(Ue 2 (Xu Ja))
def tR:Ev->M Fl:=
 (Cb u2 (Cb (XG (ba 1) (yw (KH (ba 1)) (Wo 2 (Bi (je 3) (Bi (je 4) Jp))) QL)) (gd (Bh (Kt 8 5 ms (ra (Cd (Uc [8,9] "every") (ba 0)) (ra (Cd (Uc [8,9] "last_look") (ba 0)) (ra (Rg [(9,Xc)] 1 "words" (ba 0) Ja) (ra (ba 2) Ja)))))))))
def Pc:List D->M D:=Ab λa=>vc (Nd 5 tR a)
theorem kG:va ["self","accounts","pots","pot","account"] ["self","accounts"] (Qc Ë):=ze
theorem t1(a:sd K mg ca):qi ⟨K,ca,tx K⟩ P w mg base 3 (ca 27) ["self","accounts"] Pc:=
 Dr a.Pc kG λb=>
  (ic (Nf kG.nd (LB jo))
  (ic (Ř (vD Kq rfl (ň (ga 1)) (kw rfl (jp (Wh kG.nd) (jp (Wh kG.nd) tw))) (Sh (mv (nz Bd Re Se MB bC (ga 2) (db (Pg (nb (De (Lv a) (ga 4)) (nb (Od (l3 a) b (nb (ga 4) (db (wt (Ae b) (De (AH a) (ga 0)) (ga 3) (λ_ _=>rfl))))) (db (wt (Ae b) (De (eK a) (ga 0)) (ga 3) (λ_ _=>rfl))))))))))))
  (qd (Kl (QA (c:=8) (ps:=["self","every","look","words","pots"]) ⟨_,a.Wz,a.Mw,U4 a⟩ rfl (b.mono (by decide)) rfl (nb (De (iD a) (ga 0)) (nb (De (WB a) (ga 0)) (nb (Fu (MS a) b (ga 0)) (db (ga 2))))))))))
theorem NR(a:sd K mg ca):uk ⟨K,ca,tx K⟩ P w mg base 3 "view_by" ["self","accounts"] [(9,Pc)]:=(nk a.Zb a.jl (t1 a) Nn)
abbrev y6:Stmt:=lh (bc 89) 8
def iV:Ev->M Fl:=
 (gd (Rg [(9,Pc)] 2 "view_by" (ba 0) (ra (Cd (Uc [9] "accounts") (ba 0)) Ja)))
def me:List D->M D:=Ab λa=>vc (Nd 1 iV a)
theorem û:va ["self"] ["self"] (Qc y6):=ze
theorem ö(a:sd K mg ca):qi ⟨K,ca,tx K⟩ P w mg base 4 (ca 28) ["self"] me:=
 Dr a.me û λb=>
  (qd (fmt (NR a) b (ga 0) (db (De (Nr a) (ga 0)))))
theorem V6(a:sd K mg ca):uk ⟨K,ca,tx K⟩ P w mg base 4 "view" ["self"] [(9,me)]:=(nk a.Zb a.Tn (ö a) Nn)
abbrev Α:Stmt:=lh (bc 89) 9
def wR:Ev->M Fl:=
 (gd (yd 1 ni [] (ra (Rg [(9,me)] 1 "view" (ba 0) Ja) Ja)))
def Nc:List D->M D:=Ab λa=>vc (Nd 1 wR a)
theorem ä:va ["self"] ["self"] (Qc Α):=ze
theorem W2(a:sd K mg ca):qi ⟨K,ca,tx K⟩ P w mg base 9 (ca 29) ["self"] Nc:=
 Dr a.Nc ä λb=>
  (qd (Od (Qe.alias (uV a) a.uj) b (db (Fu (V6 a) b (ga 0)))))
theorem TU(a:sd K mg ca):uk ⟨K,ca,tx K⟩ P w mg base 9 "worth" ["self"] [(9,Nc)]:=(nk a.Zb a.Mm (W2 a) Nn)
abbrev v6:Stmt:=lh (bc 89) 5
def OQ:Ev->M Fl:=
 (gd (Cd (Uc [9] "gave") (ba 0)))
def Rb:List D->M D:=Ab λa=>vc (Nd 1 OQ a)
theorem D6:va ["self"] ["self"] (Qc v6):=ze
theorem M2(a:sd K mg ca):qi ⟨K,ca,tx K⟩ P w mg base 1 (ca 25) ["self"] Rb:=
 Dr a.Rb D6 λb=>
  (qd (De (NH a) (ga 0)))
theorem IN(a:sd K mg ca):uk ⟨K,ca,tx K⟩ P w mg base 1 "given" ["self"] [(9,Rb)]:=(nk a.Zb a.gn (M2 a) Nn)
abbrev TZ:Stmt:=bc 96
def MO:Ev->M Fl:=
 (gd (Bh (pj (Fk (gi (ba 0))) [] (je 0) ik (Ba Nh (Rg [(9,Nc)] 1 "worth" (ba 0) Ja) (Rg [(9,Rb)] 1 "given" (ba 0) Ja)))))
def sf:List D->M D:=Ab λa=>vc (Nd 1 MO a)
theorem Z4:va ["_law_pair"] ["_law_pair"] (Qc TZ):=ze
theorem uS(a:sd K mg ca):Qe ⟨K,ca,tx K⟩ P w mg base 10 "_law_sums" ["_law_pair"] sf:=
 Hg a.sf Z4 λb=>
  (qd (Kl (Iq (x:="_law_keeper") (z0:="0") (M':=[]) (ix:=[]) rfl ⟨rfl,rfl,rfl,rfl,rfl,rfl⟩ (oq (xm rfl (ga 0))) (λ_ _ _ _ _=>Wh (by show List.Nodup (("_law_keeper"::"0"::[]):List Str);decide +kernel)) (λ_ _ _ _ _=>rs) (λ_ _ _ _ _=>(Sl (Fu (TU a) b (ga 0)) (Fu (IN a) b (ga 0)))))))
abbrev zd3:Stmt:=lh (bc 89) 12
def sR:Ev->M Fl:=
 (gd (kj (Ba qw (ba 1) (Cd (Uc [9] "accounts") (ba 0))) (Ba lG (Ba Xk (Cd (Uc [9] "claims") (ba 0)) (ba 1)) (eC (.gt ["held"])))))
def Oc:List D->M D:=Ab λa=>vc (Nd 2 sR a)
theorem R4:va ["self","pot"] ["self","pot"] (Qc zd3):=ze
theorem e7(a:sd K mg ca):qi ⟨K,ca,tx K⟩ P w mg base 1 (ca 32) ["self","pot"] Oc:=
 Dr a.Oc R4 λb=>
  (qd (xj (Mu (jM (Ae b)) cK (ga 1) (De (Nr a) (ga 0)) rfl) (Kn (Mu (M5 rfl (Ae b)) sg (wt (Ae b) (De (AH a) (ga 0)) (ga 1) (λ_ _=>rfl)) (WQ (ss:=["held"]) rfl a.jv) (lf _)))))
theorem DR(a:sd K mg ca):uk ⟨K,ca,tx K⟩ P w mg base 1 "holds" ["self","pot"] [(9,Oc)]:=(nk a.Zb a.yn (e7 a) Nn)
abbrev w9:Stmt:=lh (bc 53) 0
def kE:Ev->M Fl:=
 (gd (eC (.str "calm")))
def Kb:List D->M D:=Ab λa=>vc (Nd 1 kE a)
theorem zhf:va ["self"] ["self"] (Qc w9):=ze
theorem Ŀ(a:sd K mg ca):qi ⟨K,ca,tx K⟩ P w mg base 1 (ca 13) ["self"] Kb:=
 Dr a.Kb zhf λb=>
  (qd kf)
abbrev P0:Stmt:=lh (bc 54) 0
def QT:Ev->M Fl:=
 (gd (eC (.str "offered")))
def Xb:List D->M D:=Ab λa=>vc (Nd 1 QT a)
theorem ĩ:va ["self"] ["self"] (Qc P0):=ze
theorem Y1(a:sd K mg ca):qi ⟨K,ca,tx K⟩ P w mg base 1 (ca 15) ["self"] Xb:=
 Dr a.Xb ĩ λb=>
  (qd kf)
abbrev AY:Stmt:=lh (bc 55) 0
def RW:Ev->M Fl:=
 (gd (eC (.str "waiting")))
def Wb:List D->M D:=Ab λa=>vc (Nd 1 RW a)
theorem Ĥ:va ["self"] ["self"] (Qc AY):=ze
theorem X9(a:sd K mg ca):qi ⟨K,ca,tx K⟩ P w mg base 1 (ca 17) ["self"] Wb:=
 Dr a.Wb Ĥ λb=>
  (qd kf)
theorem fG(a:sd K mg ca):uk ⟨K,ca,tx K⟩ P w mg base 1 "word" ["self"] [(5,Kb),(6,Xb),(7,Wb)]:=(nk a.Og a.sq (Ŀ a) (nk a.se a.jn (Y1 a) (nk a.Pe a.Sm (X9 a) Nn)))
abbrev Ą:Stmt:=bc 32
def TV:Ev->M Fl:=
 (Cb (Bf (eT (Ba Gf (ba 1) (eC (.int 0)))) (gd (gg (ra (Ba Nh (Ba Oa (ba 0) (eC (.int 0))) (ba 2)) (ra (Ba Oa (ba 0) (eC (.int 1))) Ja)))) Pf) (gd (gg (ra (Ba Oa (ba 0) (eC (.int 0))) (ra (Ba Nh (Ba Oa (ba 0) (eC (.int 1))) (ba 2)) Ja)))))
def He:List D->M D:=Ab λa=>vc (Nd 3 TV a)
theorem Í:va ["shares","side","amount"] ["shares","side","amount"] (Qc Ą):=ze
theorem wI(a:sd K mg ca):Qe ⟨K,ca,tx K⟩ P w mg base 1 "with_more" ["shares","side","amount"] He:=
 Hg a.He Í λb=>
  (ic (Hf (rf (Si (Ae b)) sg (ga 1) Xa (lf _)) (qd (Pg (nb (Sl (Qb (ga 0) Xa) (ga 2)) (db (Qb (ga 0) Xa))))) Xf)
  (qd (Pg (nb (Qb (ga 0) Xa) (db (Sl (Qb (ga 0) Xa) (ga 2)))))))
abbrev l5:Stmt:=bc 33
def BP:Ev->M Fl:=
 (gd (yd 3 Hh [] (ra (Ba Nh (Ba Oa (ba 0) (eC (.int 0))) (eC (.int 1))) (ra (ba 1) (ra (ba 2) Ja)))))
def Ad:List D->M D:=Ab λa=>vc (Nd 3 BP a)
theorem O8:va ["one","shares","ties"] ["one","shares","ties"] (Qc l5):=ze
theorem EM(a:sd K mg ca):Qe ⟨K,ca,tx K⟩ P w mg base 8 "following" ["one","shares","ties"] Ad:=
 Hg a.Ad O8 λb=>
  (qd (Ι (WV a) rfl (b.mono (by decide)) rfl (nb (Sl (Qb (ga 0) Xa) Xa) (nb (ga 1) (db (ga 2))))))
abbrev zhc:Stmt:=bc 15
def MP:Ev->M Fl:=
 (gd (Ba cr (eC (.int 1)) (ba 0)))
def Ke:List D->M D:=Ab λa=>vc (Nd 1 MP a)
theorem zf2:va ["side"] ["side"] (Qc zhc):=ze
theorem mL(a:sd K mg ca):Qe ⟨K,ca,tx K⟩ P w mg base 1 "other_side" ["side"] Ke:=
 Hg a.Ke zf2 λb=>
  (qd (Hj Ku Au Xa (ga 0)))
abbrev ò:Stmt:=bc 34
def OM:Ev->M Fl:=
 (Cb (Bf (Go (il (eT (yd 1 Ag [] (ra (ba 1) Ja)))) (il (eT (yd 1 Je [] (ra (ba 2) Ja))))) (jz 1 (ra (eC (.str "no side gives such an amount")) Ja)) Pf) (Cb (Ue 3 (yd 3 He [] (ra (Ba Oa (ba 0) (eC (.int 1))) (ra (ba 1) (ra (Cd ZF (ba 2)) Ja))))) (gd (yd 3 Ad [] (ra (ba 0) (ra (yd 3 He [] (ra (ba 3) (ra (yd 1 Ke [] (ra (ba 1) Ja)) (ra (ba 2) Ja)))) (ra (Ba Oa (ba 0) (eC (.int 2))) Ja)))))))
def jk:List D->M D:=Ab λa=>vc (Nd 4 OM a)
theorem IW:va ["one","side","amount","less"] ["one","side","amount"] (Qc ò):=ze
theorem ă(a:sd K mg ca):Qe ⟨K,ca,tx K⟩ P w mg base 9 "gift" ["one","side","amount"] jk:=
 Hg a.jk IW λb=>
  (ic (Hf (L2.PW.pt (Np (Yl (zj (Od (ZM a) b (db (ga 1))))) (Er (Yl (zj (Od (eP a) b (db (ga 2)))))))) (Sh (mE 1 ve rfl a.Di a.Lh rfl rfl (db kf))) Xf)
  (ic (Nf IW.nd (Od (wI a) b (nb (Qb (ga 0) Xa) (nb (ga 1) (db (yR lO FP (ga 2)))))))
  (qd (Od (EM a) b (nb (ga 0) (nb (Od (wI a) b (nb (ga 3) (nb (Od (mL a) b (db (ga 1))) (db (ga 2))))) (db (Qb (ga 0) Xa))))))))
abbrev y2:Stmt:=bc 35
def FF:Ev->M Fl:=
 (Cb (Ue 5 (gg (ra (ba 1) (ra (ba 2) (ra (ba 3) (ra (ba 4) Ja)))))) (Cb (Bf (il (eT (yd 1 Ng [] (ra (ba 5) Ja)))) (jz 1 (ra (eC (.str "payer, amount, word and day make no tie")) Ja)) Pf) (gd (yd 3 Ad [] (ra (ba 0) (ra (yd 3 He [] (ra (Ba Oa (ba 0) (eC (.int 1))) (ra (ba 1) (ra (Cd ZF (ba 2)) Ja)))) (ra (Ba Nh (Ba Oa (ba 0) (eC (.int 2))) (gg (ra (ba 5) Ja))) Ja)))))))
def Bj:List D->M D:=Ab λa=>vc (Nd 6 FF a)
theorem NS:va ["one","payer","amount","word","day","tie"] ["one","payer","amount","word","day"] (Qc y2):=ze
theorem LY(a:sd K mg ca):Qe ⟨K,ca,tx K⟩ P w mg base 9 "tied" ["one","payer","amount","word","day"] Bj:=
 Hg a.Bj NS λb=>
  (ic (Nf NS.nd (Pg (nb (ga 1) (nb (ga 2) (nb (ga 3) (db (ga 4)))))))
  (ic (Hf (Yl (zj (Od (nX a) b (db (ga 5))))) (Sh (mE 1 ve rfl a.Di a.Lh rfl rfl (db kf))) Xf)
  (qd (Od (EM a) b (nb (ga 0) (nb (Od (wI a) b (nb (Qb (ga 0) Xa) (nb (ga 1) (db (yR lO FP (ga 2)))))) (db (Sl (Qb (ga 0) Xa) (Pg (db (ga 5)))))))))))
abbrev T8:Stmt:=bc 36
abbrev ZL:Ev->M Fl:=(Bf (eT (Ba Gf (Ba Oa (ba 2) (eC (.int 2))) (ba 1))) (gd (ba 2)) Pf)
def nR:Ev->M Fl:=
 (Cb (vt (gi (Ba Oa (ba 0) (eC (.int 2)))) (je 2) ZL) (gd (eC .wc)))
def lg:List D->M D:=Ab λa=>vc (Nd 3 nR a)
theorem RT:va ["one","word","tie"] ["one","word"] (Qc T8):=ze
theorem YU(a:sd K mg ca):Qe ⟨K,ca,tx K⟩ P w mg base 1 "tie_of" ["one","word"] lg:=
 Hg a.lg RT λb=>
  (ic (Lu Kq rfl (xm rfl (Qb (ga 0) Xa)) (Wh RT.nd) (Sh (Hf (rf (Si (Ae b)) sg (Qb (ga 2) Xa) (ga 1) (lf _)) (qd (ga 2)) Xf)))
  (qd Ms))
abbrev E5:Stmt:=bc 85
def GS:Ev->M Fl:=
 (Cb (Ue 3 (yd 2 lg [] (ra (ba 0) (ra (ba 1) Ja)))) (gd (kj (Ba xB (ba 3) (eC .wc)) (Ba Gf (Ba Oa (ba 3) (eC (.int 0))) (ba 2)))))
def xf:List D->M D:=Ab λa=>vc (Nd 4 GS a)
theorem EQ:va ["one","word","side","tie"] ["one","word","side"] (Qc E5):=ze
theorem CU(a:sd K mg ca):Qe ⟨K,ca,tx K⟩ P w mg base 2 "is_paid_by" ["one","word","side"] xf:=
 Hg a.xf EQ λb=>
  (ic (Nf EQ.nd (Od (YU a) b (nb (ga 0) (db (ga 1)))))
  (qd (xj (Mu fU CT (ga 3) Ms (lf _)) (Kn (Qp b (Qb (ga 3) Xa) (ga 2))))))
abbrev e6:Stmt:=bc 38
def yP:Ev->M Fl:=
 (Cb (Ue 2 (yd 2 lg [] (ra (ba 0) (ra (ba 1) Ja)))) (Cb (Bf (eT (Ba Ft (ba 2) (eC .wc))) (jz 1 (ra (eC (.str "no tie of the stand has this word")) Ja)) Pf) (gd (ba 2))))
def uf:List D->M D:=Ab λa=>vc (Nd 3 yP a)
theorem jT:va ["one","word","tie"] ["one","word"] (Qc e6):=ze
theorem BV(a:sd K mg ca):Qe ⟨K,ca,tx K⟩ P w mg base 2 "tie_to_end" ["one","word"] uf:=
 Hg a.uf jT λb=>
  (ic (Nf jT.nd (Od (YU a) b (nb (ga 0) (db (ga 1)))))
  (ic (Hf (rf zC pE (ga 2) Ms (lf _)) (Sh (mE 1 ve rfl a.Di a.Lh rfl rfl (db kf))) Xf)
  (qd (ga 2))))
abbrev QX:Stmt:=bc 39
def nS:Ev->M Fl:=
 (Cb (Ue 3 (ah Cz (ra (Bh (pj (Fk (gi (Ba Oa (ba 0) (eC (.int 2))))) [1] (je 0) (eT (Ba ph (Ba Oa (ba 0) (eC (.int 2))) (Ba Oa (ba 2) (eC (.int 2))))) (ba 0))) Ja))) (gd (yd 3 Ad [] (ra (ba 0) (ra (yd 3 He [] (ra (Ba Oa (ba 0) (eC (.int 1))) (ra (ba 2) (ra (Ba Oa (ba 1) (eC (.int 1))) Ja)))) (ra (ba 3) Ja))))))
def Ri:List D->M D:=Ab λa=>vc (Nd 4 nS a)
theorem BW:va ["one","tie","side","ties"] ["one","tie","side"] (Qc QX):=ze
theorem JS(a:sd K mg ca):Qe ⟨K,ca,tx K⟩ P w mg base 9 "ended" ["one","tie","side"] Ri:=
 Hg a.Ri BW λb=>
  (ic (Nf BW.nd (zv ZK (dJ rfl) rfl a.Eh gh (db (Kl (Iq (x:="rest") (z0:="0") (M':=["tie"]) (ix:=[1]) rfl ⟨rfl,rfl,rfl,rfl,rfl,rfl⟩ (oq (xm rfl (Qb (ga 0) Xa))) (λ_ _ _ _ _=>Wh (by show List.Nodup (("rest"::"0"::["tie"]):List Str);decide +kernel)) (λ_ _ _ _ _=>JB (rf (Xo (Ae b)) sg (Qb (ga 0) Xa) (Qb (ga 2) Xa) (lf _))) (λ_ _ _ _ _=>(ga 0)))))))
  (qd (Od (EM a) b (nb (ga 0) (nb (Od (wI a) b (nb (Qb (ga 0) Xa) (nb (ga 2) (db (Qb (ga 1) Xa))))) (db (ga 3)))))))
abbrev J9:Stmt:=bc 40
def bS:Ev->M Fl:=
 (Cb (Ue 2 (yd 2 uf [] (ra (ba 0) (ra (ba 1) Ja)))) (gd (yd 3 Ri [] (ra (ba 0) (ra (ba 2) (ra (yd 1 Ke [] (ra (Ba Oa (ba 2) (eC (.int 0))) Ja)) Ja))))))
def Oh:List D->M D:=Ab λa=>vc (Nd 3 bS a)
theorem dR:va ["one","word","tie"] ["one","word"] (Qc J9):=ze
theorem Ę(a:sd K mg ca):Qe ⟨K,ca,tx K⟩ P w mg base 10 "settled" ["one","word"] Oh:=
 Hg a.Oh dR λb=>
  (ic (Nf dR.nd (Od (BV a) b (nb (ga 0) (db (ga 1)))))
  (qd (Od (JS a) b (nb (ga 0) (nb (ga 2) (db (Od (mL a) b (db (Qb (ga 2) Xa)))))))))
abbrev i8:Stmt:=bc 41
def cR:Ev->M Fl:=
 (Cb (Ue 2 (yd 2 uf [] (ra (ba 0) (ra (ba 1) Ja)))) (gd (yd 3 Ri [] (ra (ba 0) (ra (ba 2) (ra (Ba Oa (ba 2) (eC (.int 0))) Ja))))))
def Mh:List D->M D:=Ab λa=>vc (Nd 3 cR a)
theorem VQ:va ["one","word","tie"] ["one","word"] (Qc i8):=ze
theorem η(a:sd K mg ca):Qe ⟨K,ca,tx K⟩ P w mg base 10 "dropped" ["one","word"] Mh:=
 Hg a.Mh VQ λb=>
  (ic (Nf VQ.nd (Od (BV a) b (nb (ga 0) (db (ga 1)))))
  (qd (Od (JS a) b (nb (ga 0) (nb (ga 2) (db (Qb (ga 2) Xa)))))))
abbrev iY:Stmt:=bc 86
def pP:Ev->M Fl:=
 (Cb (Ue 3 (Cd (Uc [4,5,6,7] "mine") (ba 0))) (Cb (Ue 4 (Cd (Uc [4,5,6,7] "side") (ba 0))) (Cb (Bf (eT (Ba Gf (Ba Oa (ba 1) (eC (.int 0))) (eC (.str "give")))) (gd (yd 3 jk [] (ra (ba 3) (ra (ba 4) (ra (Ba Oa (ba 1) (eC (.int 2))) Ja))))) Pf) (Cb (Bf (Go (eT (Ba Gf (Ba Oa (ba 1) (eC (.int 0))) (eC (.str "pay")))) (eT (Ba Gf (Ba Oa (ba 1) (eC (.int 0))) (eC (.str "pass"))))) (gd (yd 5 Bj [] (ra (ba 3) (ra (ba 4) (ra (Ba Oa (ba 1) (eC (.int 2))) (ra (Ba Oa (ba 1) (eC (.int 3))) (ra (Ba Oa (ba 1) (eC (.int 4))) Ja))))))) Pf) (Cb (Bf (Jv (eT (Ba Gf (Ba Oa (ba 1) (eC (.int 0))) (eC (.str "settle")))) (Jv (eT (yd 3 xf [] (ra (ba 3) (ra (Ba Oa (ba 1) (eC (.int 2))) (ra (yd 1 Ke [] (ra (ba 4) Ja)) Ja))))) (eT (Ba qw (Ba Oa (ba 1) (eC (.int 2))) (ba 2))))) (gd (yd 2 Oh [] (ra (ba 3) (ra (Ba Oa (ba 1) (eC (.int 2))) Ja)))) Pf) (Cb (Bf (Jv (eT (Ba Gf (Ba Oa (ba 1) (eC (.int 0))) (eC (.str "drop")))) (eT (yd 3 xf [] (ra (ba 3) (ra (Ba Oa (ba 1) (eC (.int 2))) (ra (ba 4) Ja)))))) (gd (yd 2 Mh [] (ra (ba 3) (ra (Ba Oa (ba 1) (eC (.int 2))) Ja)))) Pf) (jz 1 (ra (eC (.str "there is nothing that this wish could come to")) Ja))))))))
def af:List D->M D:=Ab λa=>vc (Nd 5 pP a)
theorem lL:va ["account","wish","known","mine","side"] ["account","wish","known"] (Qc iY):=ze
theorem Ø(b:sd K mg ca):Qe ⟨K,ca,tx K⟩ P w mg base 11 "stand_wished" ["account","wish","known"] af:=
 Hg b.af lL λa=>
  (ic (Nf lL.nd (De (Es b) (ga 0)))
  (ic (Nf lL.nd (De (Lv b) (ga 0)))
  (ic (Hf (rf (Si (Ae a)) sg (Qb (ga 1) Xa) kf (lf _)) (qd (Od (ă b) a (nb (ga 3) (nb (ga 4) (db (Qb (ga 1) Xa)))))) Xf)
  (ic (Hf (L2.PW.pt (Np (rf (Si (Ae a)) sg (Qb (ga 1) Xa) kf (lf _)) (Er (rf (Si (Ae a)) sg (Qb (ga 1) Xa) kf (lf _))))) (qd (Od (LY b) a (nb (ga 3) (nb (ga 4) (nb (Qb (ga 1) Xa) (nb (Qb (ga 1) Xa) (db (Qb (ga 1) Xa)))))))) Xf)
  (ic (Hf (L2.PW.pt (Uw (rf (Si (Ae a)) sg (Qb (ga 1) Xa) kf (lf _)) (Uw (zj (Od (CU b) a (nb (ga 3) (nb (Qb (ga 1) Xa) (db (Od (mL b) a (db (ga 4)))))))) (qy (rf (jM (Ae a)) cK (Qb (ga 1) Xa) (ga 2) rfl))))) (qd (Od (Ę b) a (nb (ga 3) (db (Qb (ga 1) Xa))))) Xf)
  (ic (Hf (L2.PW.pt (Uw (rf (Si (Ae a)) sg (Qb (ga 1) Xa) kf (lf _)) (qy (zj (Od (CU b) a (nb (ga 3) (nb (Qb (ga 1) Xa) (db (ga 4))))))))) (qd (Od (η b) a (nb (ga 3) (db (Qb (ga 1) Xa))))) Xf)
  (Sh (mE 1 ve rfl b.Di b.Lh rfl rfl (db kf)))))))))
abbrev F2:Stmt:=bc 87
def YN:Ev->M Fl:=
 (gd (Gx (Go (eT (Ba Gf (Ba Oa (ba 0) (eC (.int 0))) (eC (.str "give")))) (eT (Ba Gf (Ba Oa (ba 0) (eC (.int 0))) (eC (.str "pay"))))) (Ba Oa (ba 0) (eC (.int 2))) (eC (.int 0))))
def ff:List D->M D:=Ab λa=>vc (Nd 1 YN a)
theorem B6:va ["wish"] ["wish"] (Qc F2):=ze
theorem R6(b:sd K mg ca):Qe ⟨K,ca,tx K⟩ P w mg base 1 "allowance_of" ["wish"] ff:=
 Hg b.ff B6 λa=>
  (qd (ZA (L2.PW.pt (Np (rf (Si (Ae a)) sg (Qb (ga 0) Xa) kf (lf _)) (Er (rf (Si (Ae a)) sg (Qb (ga 0) Xa) kf (lf _))))) (Qb (ga 0) Xa) Xa))
abbrev Y4:Stmt:=bc 30
def XT:Ev->M Fl:=
 (gd (Ba Nh (ah Eu (ra (Ba Oa (ba 0) (eC (.int 1))) Ja)) (ah Eu (ra (Bh (pj (Fk (gi (Ba Oa (ba 0) (eC (.int 2))))) [] (je 0) ik (Ba Oa (ba 0) (eC (.int 1))))) Ja))))
def Gh:List D->M D:=Ab λa=>vc (Nd 1 XT a)
theorem ı:va ["one"] ["one"] (Qc Y4):=ze
theorem gJ(a:sd K mg ca):Qe ⟨K,ca,tx K⟩ P w mg base 1 "deals" ["one"] Gh:=
 Hg a.Gh ı λb=>
  (qd (Sl (Yk (yH rfl) (HF rfl) rfl a.zt Px (db (Qb (ga 0) Xa))) (Yk (yH rfl) (HF rfl) rfl a.zt Px (db (Kl (Iq (x:="tie") (z0:="0") (M':=[]) (ix:=[]) rfl ⟨rfl,rfl,rfl,rfl,rfl,rfl⟩ (oq (xm rfl (Qb (ga 0) Xa))) (λ_ _ _ _ _=>Wh (by show List.Nodup (("tie"::"0"::[]):List Str);decide +kernel)) (λ_ _ _ _ _=>rs) (λ_ _ _ _ _=>(Qb (ga 0) Xa))))))))
abbrev V7:Stmt:=bc 31
def yU:Ev->M Fl:=
 (gd (kj (yd 1 md [] (ra (ba 0) Ja)) (Ba Gf (yd 1 Gh [] (ra (ba 0) Ja)) (ba 1))))
def ke:List D->M D:=Ab λa=>vc (Nd 2 yU a)
theorem Ņ:va ["thing","coin"] ["thing","coin"] (Qc V7):=ze
theorem ZR(a:sd K mg ca):Qe ⟨K,ca,tx K⟩ P w mg base 7 "is_stand_of" ["thing","coin"] ke:=
 Hg a.ke Ņ λb=>
  (qd (xj (Od (EF a) b (db (ga 0))) (Kn (Qp b (Od (gJ a) b (db (ga 0))) (ga 1)))))
abbrev zax:Stmt:=lh (bc 52) 1
def BS:Ev->M Fl:=
 (gd (gg (ra (eC (.str "agree")) (ra (Cd (Uc [4,5,6,7] "pot") (ba 0)) (ra (ba 1) (ra (ba 2) Ja))))))
def ma:List D->M D:=Ab λa=>vc (Nd 3 BS a)
theorem G6:va ["self","side","one"] ["self","side","one"] (Qc zax):=ze
theorem HB(a:sd K mg ca):qi ⟨K,ca,tx K⟩ P w mg base 1 (ca 11) ["self","side","one"] ma:=
 Dr a.ma G6 λb=>
  (qd (Pg (nb kf (nb (De (iq a) (ga 0)) (nb (ga 1) (db (ga 2)))))))
theorem mS(a:sd K mg ca):uk ⟨K,ca,tx K⟩ P w mg base 1 "agree_of" ["self","side","one"] [(4,ma),(5,ma),(6,ma),(7,ma)]:=(nk a.wg a.Qj (HB a) (nk a.Og a.zi (HB a) (nk a.se a.Ch (HB a) (nk a.Pe a.Pj (HB a) Nn))))
abbrev zpa:Stmt:=bc 57
def JV:Ev->M Fl:=
 (Cb (Bf (Go (eT (Ba ph (Cd (Uc [4,5,6,7] "side") (ba 0)) (eC (.int 0)))) (eT (Ba ph (Rg [(5,Kb),(6,Xb),(7,Wb)] 1 "word" (ba 0) Ja) (eC (.str "calm"))))) Js Pf) (Cb (Ue 3 (gg (ra (Ba Nh (Ba Oa (Cd (Uc [4,5,6,7] "mine") (ba 0)) (eC (.int 0))) (eC (.int 1))) (ra (ba 1) (ra (ba 2) Ja))))) (Cb (Bf (il (eT (yd 2 ke [] (ra (ba 3) (ra (yd 1 Gh [] (ra (Cd (Uc [4,5,6,7] "mine") (ba 0)) Ja)) Ja))))) Js Pf) (Cb (Ue 4 (Bh (Kt 6 7 Oj (ra (Cd (Uc [4,5,6,7] "pot") (ba 0)) (ra (Cd (Uc [4,5,6,7] "side") (ba 0)) (ra (Cd (Uc [4,5,6,7] "mine") (ba 0)) (ra (Cd (Uc [4,5,6,7] "grant") (ba 0)) (ra (ci (ra (Cd (Uc [4,5,6,7] "mine") (ba 0)) (ra (ba 3) Ja))) (ra (Cd (Uc [4,5,6,7] "strikes") (ba 0)) Ja))))))))) (gd (gg (ra (ba 4) (ra (gg (ra (eC (.str "offer")) (ra (Cd (Uc [4,5,6,7] "pot") (ba 0)) (ra (Rg [(4,ma),(5,ma),(6,ma),(7,ma)] 3 "agree_of" (ba 0) (ra (eC (.int 0)) (ra (ba 3) Ja))) Ja)))) Ja))))))))
def bh:List D->M D:=Ab λa=>vc (Nd 5 JV a)
theorem tJ:va ["account","shares","ties","one","behind"] ["account","shares","ties"] (Qc zpa):=ze
theorem iT(a:sd K mg ca):Qe ⟨K,ca,tx K⟩ P w mg base 8 "offered" ["account","shares","ties"] bh:=
 Hg a.bh tJ λb=>
  (ic (Hf (L2.PW.pt (Np (rf (Xo (Ae b)) sg (De (Lv a) (ga 0)) Xa (lf _)) (Er (rf (Xo (Ae b)) sg (Fu (fG a) b (ga 0)) kf (lf _))))) yt Xf)
  (ic (Nf tJ.nd (Pg (nb (Sl (Qb (De (Es a) (ga 0)) Xa) Xa) (nb (ga 1) (db (ga 2))))))
  (ic (Hf (Yl (zj (Od (ZR a) b (nb (ga 3) (db (Od (gJ a) b (db (De (Es a) (ga 0))))))))) yt Xf)
  (ic (Nf tJ.nd (Kl (QA (c:=6) (ps:=["self","pot","side","mine","grant","may","strikes"]) ⟨_,a.eu,a.Rs,VE a⟩ rfl (b.mono (by decide)) rfl (nb (De (iq a) (ga 0)) (nb (De (Lv a) (ga 0)) (nb (De (Es a) (ga 0)) (nb (De (VJ a) (ga 0)) (nb (Mi (nb (De (Es a) (ga 0)) (db (ga 3)))) (db (De (NA a) (ga 0)))))))))))
  (qd (Pg (nb (ga 4) (db (Pg (nb kf (nb (De (iq a) (ga 0)) (db (fmt (mS a) b (ga 0) (nb Xa (db (ga 3))))))))))))))))
abbrev o6:Stmt:=bc 14
def bQ:Ev->M Fl:=
 (gd (yd 3 Lc [] (ra (ba 0) (ra (eC (.int 0)) (ra (eC (.int 2)) Ja)))))
def Vh:List D->M D:=Ab λa=>vc (Nd 1 bQ a)
theorem Ó:va ["thing"] ["thing"] (Qc o6):=ze
theorem qV(a:sd K mg ca):Qe ⟨K,ca,tx K⟩ P w mg base 3 "is_pot" ["thing"] Vh:=
 Hg a.Vh Ó λb=>
  (qd (Od (ax a) b (nb (ga 0) (nb Xa (db (Dx (u:=.int 2 (a.Yn).choose) rfl (a.Yn).choose_spec ⟨_,rfl⟩))))))
abbrev Ŵ:Stmt:=bc 43
def eX:Ev->M Fl:=
 (gd (kj (Ba Gf (ah Fj (ra (ba 0) Ja)) (eC (.int 4))) (kj (yd 1 Vh [] (ra (Ba Oa (ba 0) (eC (.int 1))) Ja)) (yd 1 Ag [] (ra (Ba Oa (ba 0) (eC (.int 2))) Ja)))))
def re:List D->M D:=Ab λa=>vc (Nd 1 eX a)
theorem kZ:va ["thing"] ["thing"] (Qc Ŵ):=ze
theorem vP(a:sd K mg ca):Qe ⟨K,ca,tx K⟩ P w mg base 4 "is_of_a_side" ["thing"] re:=
 Hg a.re kZ λb=>
  (qd (xj (Qp b (Yk yq (jq rfl) rfl a.zg Jb (db (ga 0))) Xa) (xj (Od (qV a) b (db (Qb (ga 0) Xa))) (Kn (Od (ZM a) b (db (Qb (ga 0) Xa)))))))
abbrev dY:Stmt:=bc 44
def dL:Ev->M Fl:=
 (Cb (Bf (Go (il (eT (Cd (Nq .tuple) (ba 0)))) (Go (eT (Ba Gf (ah Fj (ra (ba 0) Ja)) (eC (.int 0)))) (il (eT (Cd (Nq .str) (Ba Oa (ba 0) (eC (.int 0)))))))) Js Pf) (Cb (Bf (eT (Ba Gf (Ba Oa (ba 0) (eC (.int 0))) (eC (.str "word")))) Js Pf) (Cb (Bf (eT (Ba Gf (Ba Oa (ba 0) (eC (.int 0))) (eC (.str "strike")))) (gd (kj (yd 1 re [] (ra (ba 0) Ja)) (yd 1 Of [] (ra (Ba Oa (ba 0) (eC (.int 3))) Ja)))) Pf) (Cb (Bf (eT (Ba Gf (Ba Oa (ba 0) (eC (.int 0))) (eC (.str "agree")))) (gd (kj (yd 1 re [] (ra (ba 0) Ja)) (yd 1 md [] (ra (Ba Oa (ba 0) (eC (.int 3))) Ja)))) Pf) (gd (eC (.bl false)))))))
def wf:List D->M D:=Ab λa=>vc (Nd 1 dL a)
theorem Q8:va ["thing"] ["thing"] (Qc dY):=ze
theorem xV(a:sd K mg ca):Qe ⟨K,ca,tx K⟩ P w mg base 7 "is_thing" ["thing"] wf:=
 Hg a.wf Q8 λb=>
  (ic (Hf (L2.PW.pt (Np (Yl (zj (sw .tuple (ga 0) rfl a.Vd rfl a.Eh gh))) (Np (rf (Si (Ae b)) sg (Yk yq (jq rfl) rfl a.zg Jb (db (ga 0))) Xa (lf _)) (Er (Yl (zj (sw .str (Qb (ga 0) Xa) rfl a.Vd rfl a.Ly boot_str))))))) yt Xf)
  (ic (Hf (rf (Si (Ae b)) sg (Qb (ga 0) Xa) kf (lf _)) yt Xf)
  (ic (Hf (rf (Si (Ae b)) sg (Qb (ga 0) Xa) kf (lf _)) (qd (xj (Od (vP a) b (db (ga 0))) (Kn (Od (DV a) b (db (Qb (ga 0) Xa)))))) Xf)
  (ic (Hf (rf (Si (Ae b)) sg (Qb (ga 0) Xa) kf (lf _)) (qd (xj (Od (vP a) b (db (ga 0))) (Kn (Od (EF a) b (db (Qb (ga 0) Xa)))))) Xf)
  (qd Up)))))
abbrev Ã:Stmt:=bc 46
def aR:Ev->M Fl:=
 (gd (kj (yd 1 wf [] (ra (ba 0) Ja)) (Ba Gf (Ba Oa (ba 0) (eC (.int 0))) (eC (.str "agree")))))
def vg:List D->M D:=Ab λa=>vc (Nd 1 aR a)
theorem S4:va ["thing"] ["thing"] (Qc Ã):=ze
theorem US(a:sd K mg ca):Qe ⟨K,ca,tx K⟩ P w mg base 8 "is_agree" ["thing"] vg:=
 Hg a.vg S4 λb=>
  (qd (xj (Od (xV a) b (db (ga 0))) (Kn (Qp b (Qb (ga 0) Xa) kf))))
abbrev yZ:Stmt:=bc 47
def jR:Ev->M Fl:=
 (gd (kj (yd 1 wf [] (ra (ba 0) Ja)) (Ba Gf (Ba Oa (ba 0) (eC (.int 0))) (eC (.str "strike")))))
def Rf:List D->M D:=Ab λa=>vc (Nd 1 jR a)
theorem W8:va ["thing"] ["thing"] (Qc yZ):=ze
theorem NV(a:sd K mg ca):Qe ⟨K,ca,tx K⟩ P w mg base 8 "is_strike" ["thing"] Rf:=
 Hg a.Rf W8 λb=>
  (qd (xj (Od (xV a) b (db (ga 0))) (Kn (Qp b (Qb (ga 0) Xa) kf))))
abbrev ś:Stmt:=bc 48
def XB:Ev->M Fl:=
 (Cb (Bf (eT (Ba Gf (Ba Oa (ba 0) (eC (.int 0))) (eC (.str "offer")))) (gd (kj (Ba Gf (ah Fj (ra (ba 0) Ja)) (eC (.int 3))) (yd 1 vg [] (ra (Ba Oa (ba 0) (eC (.int 2))) Ja)))) Pf) (Cb (Bf (eT (Ba Gf (Ba Oa (ba 0) (eC (.int 0))) (eC (.str "accept")))) (gd (kj (Ba Gf (ah Fj (ra (ba 0) Ja)) (eC (.int 4))) (kj (yd 1 vg [] (ra (Ba Oa (ba 0) (eC (.int 2))) Ja)) (yd 1 Rf [] (ra (Ba Oa (ba 0) (eC (.int 3))) Ja))))) Pf) (Cb (Bf (eT (Ba Gf (Ba Oa (ba 0) (eC (.int 0))) (eC (.str "struck")))) (gd (kj (Ba Gf (ah Fj (ra (ba 0) Ja)) (eC (.int 3))) (yd 1 Rf [] (ra (Ba Oa (ba 0) (eC (.int 2))) Ja)))) Pf) (Cb (Bf (eT (Ba Gf (Ba Oa (ba 0) (eC (.int 0))) (eC (.str "ask")))) (gd (kj (Ba Gf (ah Fj (ra (ba 0) Ja)) (eC (.int 4))) (yd 1 md [] (ra (gg (ra (eC (.int 0)) (ra (Ba Oa (ba 0) (eC (.int 2))) (ra (Ba Oa (ba 0) (eC (.int 3))) Ja)))) Ja)))) Pf) (Cb (Bf (eT (Ba Gf (Ba Oa (ba 0) (eC (.int 0))) (eC (.str "word")))) (gd (kj (Ba Gf (ah Fj (ra (ba 0) Ja)) (eC (.int 3))) (yd 1 eh [] (ra (Ba Oa (ba 0) (eC (.int 2))) Ja)))) Pf) (gd (eC (.bl false))))))))
def Zc:List D->M D:=Ab λa=>vc (Nd 1 XB a)
theorem FZ:va ["letter"] ["letter"] (Qc ś):=ze
theorem HZ(b:sd K mg ca):Qe ⟨K,ca,tx K⟩ P w mg base 9 "has_its_parts" ["letter"] Zc:=
 Hg b.Zc FZ λa=>
  (ic (Hf (rf (Si (Ae a)) sg (Qb (ga 0) Xa) kf (lf _)) (qd (xj (Qp a (Yk yq (jq rfl) rfl b.zg Jb (db (ga 0))) Xa) (Kn (Od (US b) a (db (Qb (ga 0) Xa)))))) Xf)
  (ic (Hf (rf (Si (Ae a)) sg (Qb (ga 0) Xa) kf (lf _)) (qd (xj (Qp a (Yk yq (jq rfl) rfl b.zg Jb (db (ga 0))) Xa) (xj (Od (US b) a (db (Qb (ga 0) Xa))) (Kn (Od (NV b) a (db (Qb (ga 0) Xa))))))) Xf)
  (ic (Hf (rf (Si (Ae a)) sg (Qb (ga 0) Xa) kf (lf _)) (qd (xj (Qp a (Yk yq (jq rfl) rfl b.zg Jb (db (ga 0))) Xa) (Kn (Od (NV b) a (db (Qb (ga 0) Xa)))))) Xf)
  (ic (Hf (rf (Si (Ae a)) sg (Qb (ga 0) Xa) kf (lf _)) (qd (xj (Qp a (Yk yq (jq rfl) rfl b.zg Jb (db (ga 0))) Xa) (Kn (Od (EF b) a (db (Pg (nb Xa (nb (Qb (ga 0) Xa) (db (Qb (ga 0) Xa)))))))))) Xf)
  (ic (Hf (rf (Si (Ae a)) sg (Qb (ga 0) Xa) kf (lf _)) (qd (xj (Qp a (Yk yq (jq rfl) rfl b.zg Jb (db (ga 0))) Xa) (Kn (Od (jV b) a (db (Qb (ga 0) Xa)))))) Xf)
  (qd Up))))))
abbrev Â:Stmt:=bc 49
def CW:Ev->M Fl:=
 (Cb (Bf (Go (il (eT (Cd (Nq .tuple) (ba 0)))) (Go (eT (Ba oLt (ah Fj (ra (ba 0) Ja)) (eC (.int 3)))) (il (eT (Cd (Nq .str) (Ba Oa (ba 0) (eC (.int 0)))))))) Js Pf) (gd (kj (yd 1 Vh [] (ra (Ba Oa (ba 0) (eC (.int 1))) Ja)) (yd 1 Zc [] (ra (ba 0) Ja)))))
def Yc:List D->M D:=Ab λa=>vc (Nd 1 CW a)
theorem Æ:va ["thing"] ["thing"] (Qc Â):=ze
theorem TH(a:sd K mg ca):Qe ⟨K,ca,tx K⟩ P w mg base 10 "is_letter" ["thing"] Yc:=
 Hg a.Yc Æ λb=>
  (ic (Hf (L2.PW.pt (Np (Yl (zj (sw .tuple (ga 0) rfl a.Vd rfl a.Eh gh))) (Np (rf dy By (Yk yq (jq rfl) rfl a.zg Jb (db (ga 0))) Xa (lf _)) (Er (Yl (zj (sw .str (Qb (ga 0) Xa) rfl a.Vd rfl a.Ly boot_str))))))) yt Xf)
  (qd (xj (Od (qV a) b (db (Qb (ga 0) Xa))) (Kn (Od (HZ a) b (db (ga 0)))))))
theorem HR(a:sd K mg ca):uk ⟨K,ca,tx K⟩ P w mg base 1 "agree_of" ["self","side","one"] [(5,ma)]:=(nk a.Og a.zi (HB a) Nn)
abbrev U5:Stmt:=bc 51
def xS:Ev->M Fl:=
 (gd (kj (yd 2 ke [] (ra (ba 0) (ra (yd 1 Gh [] (ra (ba 1) Ja)) Ja))) (Ba Gf (Ba Oa (ba 0) (eC (.int 0))) (Ba Nh (Ba Oa (ba 1) (eC (.int 0))) (eC (.int 1))))))
def df:List D->M D:=Ab λa=>vc (Nd 2 xS a)
theorem M0:va ["thing","one"] ["thing","one"] (Qc U5):=ze
theorem B8(a:sd K mg ca):Qe ⟨K,ca,tx K⟩ P w mg base 8 "is_following" ["thing","one"] df:=
 Hg a.df M0 λb=>
  (qd (xj (Od (ZR a) b (nb (ga 0) (db (Od (gJ a) b (db (ga 1)))))) (Kn (Qp b (Qb (ga 0) Xa) (Sl (Qb (ga 1) Xa) Xa)))))
abbrev zak:Stmt:=lh (bc 52) 2
def LU:Ev->M Fl:=
 (gd (gg (ra (eC (.str "strike")) (ra (Cd (Uc [4,5,6,7] "pot") (ba 0)) (ra (ba 1) (ra (Ba Oa (ba 2) (eC (.int 0))) Ja))))))
def Ga:List D->M D:=Ab λa=>vc (Nd 3 LU a)
theorem B0:va ["self","side","one"] ["self","side","one"] (Qc zak):=ze
theorem pM(a:sd K mg ca):qi ⟨K,ca,tx K⟩ P w mg base 1 (ca 12) ["self","side","one"] Ga:=
 Dr a.Ga B0 λb=>
  (qd (Pg (nb kf (nb (De (iq a) (ga 0)) (nb (ga 1) (db (Qb (ga 2) Xa)))))))
theorem nZ(a:sd K mg ca):uk ⟨K,ca,tx K⟩ P w mg base 1 "strike_of" ["self","side","one"] [(5,Ga)]:=(nk a.Og a.rl (pM a) Nn)
abbrev j4:Stmt:=lh (bc 53) 1
def JO:Ev->M Fl:=
 (Cb (Bf (Go (eT (Ba ph (Cd (Uc [4,5,6,7] "side") (ba 0)) (eC (.int 1)))) (Go (il (eT (yd 1 Yc [] (ra (ba 1) Ja)))) (eT (Ba ph (Ba Oa (ba 1) (eC (.int 0))) (eC (.str "offer")))))) (gd (gg (ra (ba 0) (ra (eC .wc) Ja)))) Pf) (Cb (Ue 2 (Ba Oa (Ba Oa (ba 1) (eC (.int 2))) (eC (.int 3)))) (Cb (Ue 3 (Rg [(5,ma)] 3 "agree_of" (ba 0) (ra (eC (.int 0)) (ra (ba 2) Ja)))) (Cb (Bf (Go (eT (Ba ph (ba 1) (gg (ra (eC (.str "offer")) (ra (Cd (Uc [4,5,6,7] "pot") (ba 0)) (ra (ba 3) Ja)))))) (il (eT (yd 2 df [] (ra (ba 2) (ra (Cd (Uc [4,5,6,7] "mine") (ba 0)) Ja)))))) (gd (gg (ra (ba 0) (ra (eC .wc) Ja)))) Pf) (Cb (Ue 4 (Bh (Kt 7 7 Oj (ra (Cd (Uc [4,5,6,7] "pot") (ba 0)) (ra (Cd (Uc [4,5,6,7] "side") (ba 0)) (ra (ba 2) (ra (ba 3) (ra (ci (ra (Cd (Uc [4,5,6,7] "mine") (ba 0)) (ra (ba 2) Ja))) (ra (Cd (Uc [4,5,6,7] "strikes") (ba 0)) Ja))))))))) (gd (gg (ra (ba 4) (ra (gg (ra (eC (.str "accept")) (ra (Cd (Uc [4,5,6,7] "pot") (ba 0)) (ra (Rg [(5,ma)] 3 "agree_of" (ba 0) (ra (eC (.int 1)) (ra (ba 2) Ja))) (ra (Rg [(5,Ga)] 3 "strike_of" (ba 0) (ra (eC (.int 1)) (ra (Cd (Uc [4,5,6,7] "mine") (ba 0)) Ja))) Ja))))) Ja)))))))))
def Kc:List D->M D:=Ab λa=>vc (Nd 5 JO a)
theorem oH:va ["self","letter","one","agree","behind"] ["self","letter"] (Qc j4):=ze
theorem P7(a:sd K mg ca):qi ⟨K,ca,tx K⟩ P w mg base 11 (ca 14) ["self","letter"] Kc:=
 Dr a.Kc oH λb=>
  (ic (Hf (L2.PW.pt (Np (rf (Xo (Ae b)) sg (De (Lv a) (ga 0)) Xa (lf _)) (Np (Yl (zj (Od (TH a) b (db (ga 1))))) (Er (rf (Xo (Ae b)) sg (Qb (ga 1) Xa) kf (lf _)))))) (qd (Pg (nb (ga 0) (db Ms)))) Xf)
  (ic (Nf oH.nd (Qb (Qb (ga 1) Xa) Xa))
  (ic (Nf oH.nd (fmt (HR a) b (ga 0) (nb Xa (db (ga 2)))))
  (ic (Hf (L2.PW.pt (Np (rf (Xo (Ae b)) sg (ga 1) (Pg (nb kf (nb (De (iq a) (ga 0)) (db (ga 3))))) (lf _)) (Er (Yl (zj (Od (B8 a) b (nb (ga 2) (db (De (Es a) (ga 0)))))))))) (qd (Pg (nb (ga 0) (db Ms)))) Xf)
  (ic (Nf oH.nd (Kl (QA (c:=7) (ps:=["self","pot","side","mine","grant","may","strikes"]) ⟨_,a.ju,a.Qs,VE a⟩ rfl (b.mono (by decide)) rfl (nb (De (iq a) (ga 0)) (nb (De (Lv a) (ga 0)) (nb (ga 2) (nb (ga 3) (nb (Mi (nb (De (Es a) (ga 0)) (db (ga 2)))) (db (De (NA a) (ga 0)))))))))))
  (qd (Pg (nb (ga 4) (db (Pg (nb kf (nb (De (iq a) (ga 0)) (nb (fmt (HR a) b (ga 0) (nb Xa (db (ga 2)))) (db (fmt (nZ a) b (ga 0) (nb Xa (db (De (Es a) (ga 0)))))))))))))))))))
theorem ĸ(a:sd K mg ca):uk ⟨K,ca,tx K⟩ P w mg base 1 "agree_of" ["self","side","one"] [(6,ma)]:=(nk a.se a.Ch (HB a) Nn)
theorem zT(a:sd K mg ca):uk ⟨K,ca,tx K⟩ P w mg base 1 "strike_of" ["self","side","one"] [(6,Ga)]:=(nk a.se a.wj (pM a) Nn)
abbrev Q0:Stmt:=lh (bc 54) 1
def iP:Ev->M Fl:=
 (Cb (Ue 2 (Ba Oa (Cd (Uc [4,5,6,7] "may") (ba 0)) (eC (.int 1)))) (Cb (Ue 3 (Rg [(6,ma)] 3 "agree_of" (ba 0) (ra (eC (.int 1)) (ra (ba 2) Ja)))) (Cb (Bf (Go (il (eT (yd 1 Yc [] (ra (ba 1) Ja)))) (eT (Ba ph (ba 1) (gg (ra (eC (.str "accept")) (ra (Cd (Uc [4,5,6,7] "pot") (ba 0)) (ra (ba 3) (ra (Rg [(6,Ga)] 3 "strike_of" (ba 0) (ra (eC (.int 1)) (ra (Cd (Uc [4,5,6,7] "mine") (ba 0)) Ja))) Ja)))))))) (gd (gg (ra (ba 0) (ra (eC .wc) Ja)))) Pf) (Cb (Ue 4 (Bh (Kt 5 7 Oj (ra (Cd (Uc [4,5,6,7] "pot") (ba 0)) (ra (Cd (Uc [4,5,6,7] "side") (ba 0)) (ra (ba 2) (ra (ba 3) (ra (ci (ra (ba 2) Ja)) (ra (Ba Nh (Cd (Uc [4,5,6,7] "strikes") (ba 0)) (ci (ra (Ba Oa (Cd (Uc [4,5,6,7] "mine") (ba 0)) (eC (.int 0))) Ja))) Ja))))))))) (gd (gg (ra (ba 4) (ra (gg (ra (eC (.str "struck")) (ra (Cd (Uc [4,5,6,7] "pot") (ba 0)) (ra (Rg [(6,Ga)] 3 "strike_of" (ba 0) (ra (eC (.int 0)) (ra (Cd (Uc [4,5,6,7] "mine") (ba 0)) Ja))) Ja)))) Ja))))))))
def kc:List D->M D:=Ab λa=>vc (Nd 5 iP a)
theorem zI:va ["self","letter","one","agree","behind"] ["self","letter"] (Qc Q0):=ze
theorem iZ(a:sd K mg ca):qi ⟨K,ca,tx K⟩ P w mg base 11 (ca 16) ["self","letter"] kc:=
 Dr a.kc zI λb=>
  (ic (Nf zI.nd (Qb (De (bE a) (ga 0)) Xa))
  (ic (Nf zI.nd (fmt (ĸ a) b (ga 0) (nb Xa (db (ga 2)))))
  (ic (Hf (L2.PW.pt (Np (Yl (zj (Od (TH a) b (db (ga 1))))) (Er (rf (Xo (Ae b)) sg (ga 1) (Pg (nb kf (nb (De (iq a) (ga 0)) (nb (ga 3) (db (fmt (zT a) b (ga 0) (nb Xa (db (De (Es a) (ga 0)))))))))) (lf _))))) (qd (Pg (nb (ga 0) (db Ms)))) Xf)
  (ic (Nf zI.nd (Kl (QA (c:=5) (ps:=["self","pot","side","mine","grant","may","strikes"]) ⟨_,a.js,a.qq,VE a⟩ rfl (b.mono (by decide)) rfl (nb (De (iq a) (ga 0)) (nb (De (Lv a) (ga 0)) (nb (ga 2) (nb (ga 3) (nb (Mi (db (ga 2))) (db (Sl (De (NA a) (ga 0)) (Mi (db (Qb (De (Es a) (ga 0)) Xa)))))))))))))
  (qd (Pg (nb (ga 4) (db (Pg (nb kf (nb (De (iq a) (ga 0)) (db (fmt (zT a) b (ga 0) (nb Xa (db (De (Es a) (ga 0)))))))))))))))))
theorem f5(a:sd K mg ca):uk ⟨K,ca,tx K⟩ P w mg base 1 "strike_of" ["self","side","one"] [(7,Ga)]:=(nk a.Pe a.tj (pM a) Nn)
abbrev EY:Stmt:=lh (bc 55) 1
def gO:Ev->M Fl:=
 (Cb (Ue 2 (Ba Oa (Cd (Uc [4,5,6,7] "may") (ba 0)) (eC (.int 0)))) (Cb (Bf (Go (il (eT (yd 1 Yc [] (ra (ba 1) Ja)))) (eT (Ba ph (ba 1) (gg (ra (eC (.str "struck")) (ra (Cd (Uc [4,5,6,7] "pot") (ba 0)) (ra (Rg [(7,Ga)] 3 "strike_of" (ba 0) (ra (eC (.int 0)) (ra (ba 2) Ja))) Ja))))))) (gd (gg (ra (ba 0) (ra (eC .wc) Ja)))) Pf) (Cb (Ue 3 (Bh (Kt 5 7 Oj (ra (Cd (Uc [4,5,6,7] "pot") (ba 0)) (ra (Cd (Uc [4,5,6,7] "side") (ba 0)) (ra (Cd (Uc [4,5,6,7] "mine") (ba 0)) (ra (Cd (Uc [4,5,6,7] "grant") (ba 0)) (ra (ci (ra (Cd (Uc [4,5,6,7] "mine") (ba 0)) Ja)) (ra (Ba Nh (Cd (Uc [4,5,6,7] "strikes") (ba 0)) (ci (ra (Ba Oa (ba 2) (eC (.int 0))) Ja))) Ja))))))))) (gd (gg (ra (ba 3) (ra (eC .wc) Ja)))))))
def lc:List D->M D:=Ab λa=>vc (Nd 4 gO a)
theorem qM:va ["self","letter","old","behind"] ["self","letter"] (Qc EY):=ze
theorem S1(a:sd K mg ca):qi ⟨K,ca,tx K⟩ P w mg base 11 (ca 18) ["self","letter"] lc:=
 Dr a.lc qM λb=>
  (ic (Nf qM.nd (Qb (De (bE a) (ga 0)) Xa))
  (ic (Hf (L2.PW.pt (Np (Yl (zj (Od (TH a) b (db (ga 1))))) (Er (rf (Xo (Ae b)) sg (ga 1) (Pg (nb kf (nb (De (iq a) (ga 0)) (db (fmt (f5 a) b (ga 0) (nb Xa (db (ga 2)))))))) (lf _))))) (qd (Pg (nb (ga 0) (db Ms)))) Xf)
  (ic (Nf qM.nd (Kl (QA (c:=5) (ps:=["self","pot","side","mine","grant","may","strikes"]) ⟨_,a.js,a.qq,VE a⟩ rfl (b.mono (by decide)) rfl (nb (De (iq a) (ga 0)) (nb (De (Lv a) (ga 0)) (nb (De (Es a) (ga 0)) (nb (De (VJ a) (ga 0)) (nb (Mi (db (De (Es a) (ga 0)))) (db (Sl (De (NA a) (ga 0)) (Mi (db (Qb (ga 2) Xa)))))))))))))
  (qd (Pg (nb (ga 3) (db Ms)))))))
theorem QQ(a:sd K mg ca):uk ⟨K,ca,tx K⟩ P w mg base 11 "taken" ["self","letter"] [(5,Kc),(6,kc),(7,lc)]:=(nk a.Og a.qp (P7 a) (nk a.se a.am (iZ a) (nk a.Pe a.Xl (S1 a) Nn)))
abbrev zpc:Stmt:=bc 88
def PL:Ev->M Fl:=
 (Cb (Bf (eT (Ba Gf (Cd (Uc [4,5,6,7] "side") (ba 0)) (eC (.int 0)))) (gd (yd 3 bh [] (ra (ba 0) (ra (Ba Oa (ba 1) (eC (.int 1))) (ra (Ba Oa (ba 1) (eC (.int 2))) Ja))))) Pf) (Cb (Ue 2 (gg (ra (eC (.str "offer")) (ra (Cd (Uc [4,5,6,7] "pot") (ba 0)) (ra (Rg [(4,ma),(5,ma),(6,ma),(7,ma)] 3 "agree_of" (ba 0) (ra (eC (.int 0)) (ra (ba 1) Ja))) Ja))))) (gd (gg (ra (Ba Oa (Rg [(5,Kc),(6,kc),(7,lc)] 2 "taken" (ba 0) (ra (ba 2) Ja)) (eC (.int 0))) (ra (gg (ra (eC (.str "ask")) (ra (Cd (Uc [4,5,6,7] "pot") (ba 0)) (ra (Ba Oa (ba 1) (eC (.int 1))) (ra (Ba Oa (ba 1) (eC (.int 2))) Ja))))) Ja))))))
def dh:List D->M D:=Ab λa=>vc (Nd 3 PL a)
theorem xQ:va ["account","one","offer"] ["account","one"] (Qc zpc):=ze
theorem C2(a:sd K mg ca):Qe ⟨K,ca,tx K⟩ P w mg base 12 "step_to" ["account","one"] dh:=
 Hg a.dh xQ λb=>
  (ic (Hf (rf (Si (Ae b)) sg (De (Lv a) (ga 0)) Xa (lf _)) (qd (Od (iT a) b (nb (ga 0) (nb (Qb (ga 1) Xa) (db (Qb (ga 1) Xa)))))) Xf)
  (ic (Nf xQ.nd (Pg (nb kf (nb (De (iq a) (ga 0)) (db (fmt (mS a) b (ga 0) (nb Xa (db (ga 1)))))))))
  (qd (Pg (nb (Qb (fmt (QQ a) b (ga 0) (db (ga 2))) Xa) (db (Pg (nb kf (nb (De (iq a) (ga 0)) (nb (Qb (ga 1) Xa) (db (Qb (ga 1) Xa))))))))))))
abbrev J5:Stmt:=lh (bc 89) 11
def qO:Ev->M Fl:=
 (Cb (Ue 3 (ah XC (ra (Cd (Uc [9] "accounts") (ba 0)) Ja))) (Cb (mu (ba 1) (ba 3) (Cd (Uc [4,5,6,7] "pot") (ba 1))) (gd (Ba RF (yd 1 ni [] (ra (Rg [(9,Pc)] 2 "view_by" (ba 0) (ra (ba 3) Ja)) Ja)) (Ba cr (Rg [(9,Nc)] 1 "worth" (ba 0) Ja) (ba 2))))))
def Nb:List D->M D:=Ab λa=>vc (Nd 4 qO a)
theorem bP:va ["self","account","allowance","accounts"] ["self","account","allowance"] (Qc J5):=ze
theorem T7(a:sd K mg ca):qi ⟨K,ca,tx K⟩ P w mg base 10 (ca 31) ["self","account","allowance"] Nb:=
 Dr a.Nb bP λb=>
  (ic (Nf bP.nd (zv OR O7 rfl a.av boot_dict (db (De (Nr a) (ga 0)))))
  (ic (bv (Ae b) (ga 1) (ga 3) (De (iq a) (ga 1)))
  (qd (Mu QK gM (Od (Qe.alias (uV a) a.uj) b (db (fmt (NR a) b (ga 0) (db (ga 3))))) (Hj Ku Au (Fu (TU a) b (ga 0)) (ga 2)) (lf _)))))
theorem AK(a:sd K mg ca):uk ⟨K,ca,tx K⟩ P w mg base 10 "is_good" ["self","account","allowance"] [(9,Nb)]:=(nk a.Zb a.Jk (T7 a) Nn)
abbrev zbc:Stmt:=lh (bc 89) 14
abbrev rN:Ev->M Fl:=(Ue 3 (Ba Oa (ba 2) (eC (.int 1))))
abbrev oJ:Ev->M Fl:=(Ue 4 (Cd (Uc [4,5,6,7] "side") (Ba Xk (Cd (Uc [9] "accounts") (ba 0)) (ba 3))))
abbrev nK:Ev->M Fl:=(Ue 5 (yd 1 ff [] (ra (ba 2) Ja)))
abbrev uN:Ev->M Fl:=(Ue 6 (yd 2 dh [] (ra (Ba Xk (Cd (Uc [9] "accounts") (ba 0)) (ba 3)) (ra (ba 1) Ja))))
abbrev aL:Ev->M Fl:=(Bf (il (eT (Rg [(9,Nb)] 3 "is_good" (ba 0) (ra (Ba Oa (ba 6) (eC (.int 0))) (ra (ba 5) Ja))))) (gd (gg (ra (eC (.bl false)) (ra (ci Ja) Ja)))) Pf)
abbrev FN:Ev->M Fl:=(Bf (eT (Ba Gf (ba 4) (eC (.int 0)))) (Cb (mu (Ba Oa (ba 6) (eC (.int 0))) (Cd (Uc [9] "accounts") (ba 0)) (ba 3)) (jG [9] "gave" (ba 5) (ba 0))) (mu (gg (ra (ba 5) (ra (Ba Oa (ba 1) (eC (.int 1))) (ra (Ba Oa (ba 1) (eC (.int 2))) Ja)))) (Cd (Uc [9] "asked") (ba 0)) (ba 3)))
abbrev nJ:Ev->M Fl:=(Bf (eT (Ba Gf (Ba Oa (ba 2) (eC (.int 0))) (eC (.str "settle")))) (gd (gg (ra (eC (.bl true)) (ra (ci (ra (gg (ra (eC (.str "word")) (ra (ba 3) (ra (Ba Oa (ba 2) (eC (.int 2))) Ja)))) (ra (Ba Oa (ba 6) (eC (.int 1))) Ja))) Ja)))) Pf)
abbrev YK:Ev->M Fl:=(gd (gg (ra (eC (.bl true)) (ra (ci (ra (Ba Oa (ba 6) (eC (.int 1))) Ja)) Ja))))
def DM:Ev->M Fl:=
 (Cb rN (Cb oJ (Cb nK (Cb uN (Cb aL (Cb FN (Cb nJ YK)))))))
def rc:List D->M D:=Ab (Nd 7 DM)
theorem VD:va ["self","one","wish","pot","side","allowance","step"] ["self","one","wish"] (Qc zbc):=ze
theorem N1(a:sd K mg ca):qi ⟨K,ca,tx K⟩ P w mg base 13 (ca 34) ["self","one","wish"] rc:=
 Hx a.rc VD λb=>
  (ic (Nf VD.nd (Qb (ga 2) Xa))
  (ic (Nf VD.nd (De (Lv a) (wt (Ae b) (De (Nr a) (ga 0)) (ga 3) (λ_ _=>rfl))))
  (ic (Nf VD.nd (Od (R6 a) b (db (ga 2))))
  (ic (Nf VD.nd (Od (C2 a) b (nb (wt (Ae b) (De (Nr a) (ga 0)) (ga 3) (λ_ _=>rfl)) (db (ga 1)))))
  (ic (Hf (Yl (zj (fmt (AK a) b (ga 0) (nb (Qb (ga 6) Xa) (db (ga 5)))))) (qd (Pg (nb Up (db (Mi jo))))) Xf)
  (ic (Hf (rf (Si (Ae b)) sg (ga 4) Xa (lf _)) (ic (bv (Ae b) (Qb (ga 6) Xa) (De (Nr a) (ga 0)) (ga 3))
  (Sh (xT rfl (NH a) (ga 0) (ga 5)))) (Sh (bv (Ae b) (Pg (nb (ga 5) (nb (Qb (ga 1) Xa) (db (Qb (ga 1) Xa))))) (De (aC a) (ga 0)) (ga 3))))
  (ic (Hf (rf (Si (Ae b)) sg (Qb (ga 2) Xa) kf (lf _)) (qd (Pg (nb Up (db (Mi (nb (Pg (nb kf (nb (ga 3) (db (Qb (ga 2) Xa))))) (db (Qb (ga 6) Xa)))))))) Xf)
  (qd (Pg (nb Up (db (Mi (db (Qb (ga 6) Xa))))))))))))))
theorem GZ(a:sd K mg ca):uk ⟨K,ca,tx K⟩ P w mg base 13 "wish_for" ["self","one","wish"] [(9,rc)]:=(nk a.Zb a.pk (N1 a) Nn)
abbrev ņ:Stmt:=lh (bc 89) 13
abbrev DJ:Ev->M Fl:=(Bf (il (eT (Rg [(9,Oc)] 2 "holds" (ba 0) (ra (Ba Oa (ba 1) (eC (.int 1))) Ja)))) Js Pf)
abbrev KL:Ev->M Fl:=(Bf (eT (Ba Gf (Ba Oa (ba 1) (eC (.int 0))) (eC (.str "finish")))) Js Pf)
abbrev UM:Ev->M Fl:=(Ue 2 (Ba Xk (Cd (Uc [9] "accounts") (ba 0)) (Ba Oa (ba 1) (eC (.int 1)))))
abbrev cJ:Ev->M Fl:=(Bf (eT (Ba ph (Rg [(5,Kb),(6,Xb),(7,Wb)] 1 "word" (ba 2) Ja) (eC (.str "calm")))) Js Pf)
abbrev wL:Ev->M Fl:=(xF (Ue 3 (yd 3 af [] (ra (ba 2) (ra (ba 1) (ra (Cd (Uc [8,9] "known") (ba 0)) Ja))))) (⟨(gG [(1,true)]),none,(gd (gg (ra (eC (.bl false)) (ra (ci Ja) Ja))))⟩::[]))
abbrev WM:Ev->M Fl:=(gd (Rg [(9,rc)] 3 "wish_for" (ba 0) (ra (ba 3) (ra (ba 1) Ja))))
def zev:Ev->M Fl:=
 (Cb DJ (Cb KL (Cb UM (Cb cJ (Cb wL WM)))))
def Bc:List D->M D:=Ab (Nd 4 zev)
theorem JJ:va ["self","wish","account","one"] ["self","wish"] (Qc ņ):=ze
theorem Ċ(a:sd K mg ca):qi ⟨K,ca,tx K⟩ P w mg base 14 (ca 33) ["self","wish"] Bc:=
 Hx a.Bc JJ λb=>
  (ic (Hf (Yl (zj (fmt (DR a) b (ga 0) (db (Qb (ga 1) Xa))))) yt Xf)
  (ic (Hf (rf (Si (Ae b)) sg (Qb (ga 1) Xa) kf (lf _)) yt Xf)
  (ic (Nf JJ.nd (wt (Ae b) (De (Nr a) (ga 0)) (Qb (ga 1) Xa) (λ_ _=>rfl)))
  (ic (Hf (rf (Xo (Ae b)) sg (Fu (fG a) b (ga 2)) kf (lf _)) yt Xf)
  (ic (UW rfl rfl (λ_ _ c=>(Sh (Nf JJ.nd (Od (Ø a) b (nb (ga 2) (nb (ga 1) (db (De (OB a) (ga 0))))))))) (.cons rfl (by decide) (.inl a.Lh) (i9 (ybj a.ul Ò)) (λ_=>(qd (Pg (nb Up (db (Mi jo)))))) .nil))
  (qd (fmt (GZ a) b (ga 0) (nb (ga 3) (db (ga 1))))))))))
theorem Ľ(a:sd K mg ca):uk ⟨K,ca,tx K⟩ P w mg base 14 "wish" ["self","wish"] [(9,Bc)]:=(nk a.Zb a.Ao (Ċ a) Nn)
abbrev m3:Stmt:=lh (bc 89) 16
abbrev rM:Ev->M Fl:=(xF (Ue 2 (yd 3 bh [] (ra (Ba Xk (Cd (Uc [9] "accounts") (ba 0)) (Ba Oa (ba 1) (eC (.int 1)))) (ra (Ba Oa (ba 1) (eC (.int 2))) (ra (Ba Oa (ba 1) (eC (.int 3))) Ja))))) [])
abbrev sM:Ev->M Fl:=(Bf (il (eT (Rg [(9,Nb)] 3 "is_good" (ba 0) (ra (Ba Oa (ba 2) (eC (.int 0))) (ra (eC (.int 0)) Ja))))) (gd (ci Ja)) Pf)
abbrev fL:Ev->M Fl:=(mu (Ba Oa (ba 2) (eC (.int 0))) (Cd (Uc [9] "accounts") (ba 0)) (Ba Oa (ba 1) (eC (.int 1))))
abbrev EK:Ev->M Fl:=(gd (ci (ra (Ba Oa (ba 2) (eC (.int 1))) Ja)))
def GL:Ev->M Fl:=
 (Cb rM (Cb sM (Cb fL EK)))
def Jc:List D->M D:=Ab (Nd 3 GL)
theorem NU:va ["self","letter","step"] ["self","letter"] (Qc m3):=ze
theorem gY(a:sd K mg ca):qi ⟨K,ca,tx K⟩ P w mg base 11 (ca 36) ["self","letter"] Jc:=
 Hx a.Jc NU λb=>
  (ic (UW rfl rfl (λ_ _ c=>(Sh (Nf NU.nd (Od (iT a) b (nb (wt (Ae b) (De (Nr a) (ga 0)) (Qb (ga 1) Xa) (λ_ _=>rfl)) (nb (Qb (ga 1) Xa) (db (Qb (ga 1) Xa)))))))) .nil)
  (ic (Hf (Yl (zj (fmt (AK a) b (ga 0) (nb (Qb (ga 2) Xa) (db Xa))))) (qd (Mi jo)) Xf)
  (ic (bv (Ae b) (Qb (ga 2) Xa) (De (Nr a) (ga 0)) (Qb (ga 1) Xa))
  (qd (Mi (db (Qb (ga 2) Xa)))))))
theorem ŗ(a:sd K mg ca):uk ⟨K,ca,tx K⟩ P w mg base 11 "take_ask" ["self","letter"] [(9,Jc)]:=(nk a.Zb a.zk (gY a) Nn)
abbrev Δ:Stmt:=lh (bc 89) 17
def pH:Ev->M Fl:=
 (Cb (Bf (Go (eT (Ba ph (Ba Oa (ba 1) (eC (.int 0))) (eC (.str "offer")))) (eT (Ba Ju (Ba Oa (ba 1) (eC (.int 1))) (Cd (Uc [9] "asked") (ba 0))))) (gd (eC (.bl false))) Pf) (gd (Ba Gf (YB (Ba Oa (Ba Oa (ba 1) (eC (.int 2))) (eC (.int 3))) (some (eC (.int 1))) none) (YB (Ba Xk (Cd (Uc [9] "asked") (ba 0)) (Ba Oa (ba 1) (eC (.int 1)))) (some (eC (.int 1))) none))))
def Va:List D->M D:=Ab λa=>vc (Nd 2 pH a)
theorem ù:va ["self","letter"] ["self","letter"] (Qc Δ):=ze
theorem Ħ(b:sd K mg ca):qi ⟨K,ca,tx K⟩ P w mg base 1 (ca 37) ["self","letter"] Va:=
 Dr b.Va ù λa=>
  (ic (Hf (L2.PW.pt (Np (rf (Xo (Ae a)) sg (Qb (ga 1) Xa) kf (lf _)) (Er (rf (uU (Ae a)) GO (Qb (ga 1) Xa) (De (aC b) (ga 0)) rfl)))) (qd Up) Xf)
  (qd (Qp a (bH rfl (Qb (Qb (ga 1) Xa) Xa) (sI Xa) rH) (bH rfl (wt (Ae a) (De (aC b) (ga 0)) (Qb (ga 1) Xa) (λ_ _=>rfl)) (sI Xa) rH))))
theorem SY(a:sd K mg ca):uk ⟨K,ca,tx K⟩ P w mg base 1 "is_as_asked" ["self","letter"] [(9,Va)]:=(nk a.Zb a.mj (Ħ a) Nn)
abbrev zay:Stmt:=lh (bc 89) 18
abbrev UG:Ev->M Fl:=(Ue 2 (Ba Oa (ba 1) (eC (.int 1))))
abbrev bG:Ev->M Fl:=(Ue 3 (Rg [(5,Kc),(6,kc),(7,lc)] 2 "taken" (Ba Xk (Cd (Uc [9] "accounts") (ba 0)) (ba 2)) (ra (ba 1) Ja)))
abbrev iI:Ev->M Fl:=(Ue 4 (Rg [(9,Va)] 2 "is_as_asked" (ba 0) (ra (ba 1) Ja)))
abbrev MG:Ev->M Fl:=(Ue 5 (Gx (eT (ba 4)) (Ba Oa (Ba Xk (Cd (Uc [9] "asked") (ba 0)) (ba 2)) (eC (.int 0))) (eC (.int 0))))
abbrev zG:Ev->M Fl:=(Bf (il (eT (Rg [(9,Nb)] 3 "is_good" (ba 0) (ra (Ba Oa (ba 3) (eC (.int 0))) (ra (ba 5) Ja))))) (gd (ci Ja)) Pf)
abbrev UF:Ev->M Fl:=(mu (Ba Oa (ba 3) (eC (.int 0))) (Cd (Uc [9] "accounts") (ba 0)) (ba 2))
abbrev YH:Ev->M Fl:=(Bf (eT (ba 4)) (Cb (nu (BI Lz (Cd (Uc [9] "asked") (ba 0)) (ra (ba 2) Ja))) (jG [9] "gave" (ba 5) (ba 0))) Pf)
abbrev IG:Ev->M Fl:=(gd (Gx (eT (Ba Ft (Ba Oa (ba 3) (eC (.int 1))) (eC .wc))) (ci Ja) (ci (ra (Ba Oa (ba 3) (eC (.int 1))) Ja))))
def QG:Ev->M Fl:=
 (Cb UG (Cb bG (vC [(7,5),(5,7),(5,6)] [5] (Ba Oa (ba 3) (eC (.int 0))) (Ba Xk (Cd (Uc [9] "accounts") (ba 0)) (ba 2)) (gd (ci Ja)) (Cb iI (Cb MG (Cb zG (Cb UF (Cb YH IG))))))))
def Mb:List D->M D:=Ab (Nd 6 QG)
theorem DC:va ["self","letter","pot","step","as_asked","allowance"] ["self","letter"] (Qc zay):=ze
theorem į(a:sd K mg ca):qi ⟨K,ca,tx K⟩ P w mg base 12 (ca 38) ["self","letter"] Mb:=
 Hx a.Mb DC λb=>
  (ic (Nf DC.nd (Qb (ga 1) Xa))
  (ic (Nf DC.nd (fmt (QQ a) b (wt (Ae b) (De (Nr a) (ga 0)) (ga 2) (λ_ _=>rfl)) (db (ga 1))))
  (T9 (Ae b) (wK a.Am a.Lk a.xn a.Xm (wK a.Lk a.Am a.Pm a.kn (wK a.Lk a.ur a.dn a.Om ZY))) (ĺ a.Lk yjf) rfl (Qb (ga 3) Xa) (wt (Ae b) (De (Nr a) (ga 0)) (ga 2) (λ_ _=>rfl)) (qd (Mi jo))
  (ic (Nf DC.nd (fmt (SY a) b (ga 0) (db (ga 1))))
  (ic (Nf DC.nd (ZA (zj (ga 4)) (Qb (wt (Ae b) (De (aC a) (ga 0)) (ga 2) (λ_ _=>rfl)) Xa) Xa))
  (ic (Hf (Yl (zj (fmt (AK a) b (ga 0) (nb (Qb (ga 3) Xa) (db (ga 5)))))) (qd (Mi jo)) Xf)
  (ic (bv (Ae b) (Qb (ga 3) Xa) (De (Nr a) (ga 0)) (ga 2))
  (ic (Hf (zj (ga 4)) (ic (mv (mR Eg Sq PySem.F.type_dict_pop vY K3 (De (aC a) (ga 0)) (db (ga 2))))
  (Sh (xT rfl (NH a) (ga 0) (ga 5)))) Xf)
  (qd (ZA (rf zC pE (Qb (ga 3) Xa) Ms (lf _)) (Mi jo) (Mi (db (Qb (ga 3) Xa)))))))))))))
theorem n6(a:sd K mg ca):uk ⟨K,ca,tx K⟩ P w mg base 12 "take_step" ["self","letter"] [(9,Mb)]:=(nk a.Zb a.Sj (į a) Nn)
abbrev Y5:Stmt:=lh (bc 89) 15
def lH:Ev->M Fl:=
 (Cb (Bf (il (eT (yd 1 Yc [] (ra (ba 1) Ja)))) Js Pf) (Cb (Bf (eT (Ba Gf (Ba Oa (ba 1) (eC (.int 0))) (eC (.str "word")))) (Cb (nu (Rg [(9,Gc)] 2 "learn" (ba 0) (ra (ci (ra (Ba Oa (ba 1) (eC (.int 2))) Ja)) Ja))) (gd (ci Ja))) Pf) (Cb (Bf (il (eT (Rg [(9,Oc)] 2 "holds" (ba 0) (ra (Ba Oa (ba 1) (eC (.int 1))) Ja)))) Js Pf) (Cb (Bf (eT (Ba Gf (Ba Oa (ba 1) (eC (.int 0))) (eC (.str "ask")))) (gd (Rg [(9,Jc)] 2 "take_ask" (ba 0) (ra (ba 1) Ja))) Pf) (gd (Rg [(9,Mb)] 2 "take_step" (ba 0) (ra (ba 1) Ja)))))))
def Bb:List D->M D:=Ab (Nd 2 lH)
theorem X0:va ["self","letter"] ["self","letter"] (Qc Y5):=ze
theorem Ş(b:sd K mg ca):qi ⟨K,ca,tx K⟩ P w mg base 13 (ca 35) ["self","letter"] Bb:=
 Hx b.Bb X0 λa=>
  (ic (Hf (Yl (zj (Od (TH b) a (db (ga 1))))) yt Xf)
  (ic (Hf (rf (Si (Ae a)) sg (Qb (ga 1) Xa) kf (lf _)) (ic (mv (fmt (lS b) a (ga 0) (db (Mi (db (Qb (ga 1) Xa))))))
  (qd (Mi jo))) Xf)
  (ic (Hf (Yl (zj (fmt (DR b) a (ga 0) (db (Qb (ga 1) Xa))))) yt Xf)
  (ic (Hf (rf (Si (Ae a)) sg (Qb (ga 1) Xa) kf (lf _)) (qd (fmt (ŗ b) a (ga 0) (db (ga 1)))) Xf)
  (qd (fmt (n6 b) a (ga 0) (db (ga 1))))))))
theorem E4(a:sd K mg ca):uk ⟨K,ca,tx K⟩ P w mg base 13 "take" ["self","letter"] [(9,Bb)]:=(nk a.Zb a.Vn (Ş a) Nn)
abbrev v5:Stmt:=bc 94
abbrev wC:Ev->M Bool:=(Jv (eT (Ba ph (ba 5) (ci Ja))) (eT (Ba oLt (ah Fj (ra (ba 4) Ja)) (eC (.int 9)))))
abbrev JQ:Ev->M Fl:=(IC (Sw IA (ba 5) (ra (eC (.int 0)) Ja)) (Wo 2 (Bi (je 6) (Bi (je 7) Jp))))
abbrev IP:Ev->M Fl:=(nu (Sw Mn (ba 4) (ra (Ba Oa (ba 7) (eC (.int 0))) Ja)))
abbrev CM:Ev->M Fl:=(Bf (Go (il (eT (ba 3))) (eT (Ba ph (Ba Oa (ba 7) (eC (.int 0))) (eC (.str "struck"))))) (Ue 5 (Ba ME (ba 5) (pj (Fk (gi (Rg [(9,Bb)] 2 "take" (Ba Oa (ba 0) (ba 6)) (ra (ba 7) Ja)))) [6] (je 0) ik (gg (ra (Ba cr (eC (.int 1)) (ba 2)) (ra (ba 0) Ja)))))) Pf)
abbrev wB:Ev->M Fl:=(Cb JQ (Cb IP CM))
abbrev LP:Ev->M Fl:=(Ue 4 (Xu Ja))
abbrev jQ:Ev->M Fl:=(Ue 5 (pj (Fk (gi (ba 2))) [1] (je 0) ik (gg (ra (Ba cr (eC (.int 1)) (ba 2)) (ra (ba 0) Ja)))))
def iQ:Ev->M Fl:=
 (Cb LP (Cb jQ (Cb (UK wC wB) (gd (ba 4)))))
def Dg:List D->M D:=Ab (Nd 8 iQ)
theorem uB:va ["_law_pair","_law_side","_law_letters","_law_halts","_law_told","_law_road","_law_to","_law_letter"] ["_law_pair","_law_side","_law_letters","_law_halts"] (Qc v5):=ze
theorem g8(a:sd K mg ca):Qe ⟨K,ca,tx K⟩ P w mg base 14 "_law_talk" ["_law_pair","_law_side","_law_letters","_law_halts"] Dg:=
 Qe.Ab (nU a.Dg uB λ_ _ _ _ _ _ _ b=>
  (ic (Nf uB.nd (LB jo))
  (ic (qL (i:=5) uB.nd rfl (Or.inl rfl) (x:="_law_letter") (z0:="0") (M':=["_law_side"]) (ix:=[1]) rfl ⟨rfl,rfl,rfl,rfl,rfl,rfl⟩ (oq (xm rfl (ga 2))) (λ_ _ _ _ _=>Wh (by show List.Nodup (("_law_letter"::"0"::["_law_side"]):List Str);decide +kernel)) (λ_ _ _ _ _=>rs) (λ_ _ _ _ _=>(Pg (nb (Hj Ku Au Xa (ga 2)) (db (ga 0))))))
  (ic (v9 Kq (L2.PW.pt (Uw (rf (Xo (Ae b)) sg (ga 5) (Mi jo) (lf _)) (qy (rf dy By (Yk yq (jq rfl) rfl a.zg Jb (db (ga 4))) Xa (lf _))))) (ic (rK (nz Bd PySem.F.slot_list_pop PySem.F.type_list_pop l4 ŷ (ga 5) (db Xa)) (kw rfl (jp (SB (i:=6) uB.nd rfl (Or.inr rfl)) (jp (Wh uB.nd) tw))))
  (ic (mv (nz Bd Re Se MB bC (ga 4) (db (Qb (ga 7) Xa))))
  (Sh (Hf (L2.PW.pt (Np (Yl (zj (ga 3))) (Er (rf (Xo (Ae b)) sg (Qb (ga 7) Xa) kf (lf _))))) (Sh (Nf uB.nd (Hj â sg (ga 5) (Iq (x:="_law_answer") (z0:="0") (M':=["_law_to"]) (ix:=[6]) rfl ⟨rfl,rfl,rfl,rfl,rfl,rfl⟩ (oq (xm rfl (fmt (E4 a) b (Qb (ga 0) (ga 6)) (db (ga 7))))) (λ_ _ _ _ _=>Wh (by show List.Nodup (("_law_answer"::"0"::["_law_to"]):List Str);decide +kernel)) (λ_ _ _ _ _=>rs) (λ_ _ _ _ _=>(Pg (nb (Hj Ku Au Xa (ga 2)) (db (ga 0))))))))) Xf)))))
  (qd (ga 4))))))
abbrev zbs:Stmt:=lh (bc 89) 6
def PQ:Ev->M Fl:=
 (Cb (Bf (eT (Ba Ju (ba 1) (Cd (Uc [9] "accounts") (ba 0)))) Js Pf) (gd (Ba Xk (Cd (Uc [9] "accounts") (ba 0)) (ba 1))))
def xb:List D->M D:=Ab λa=>vc (Nd 2 PQ a)
theorem G8:va ["self","pot"] ["self","pot"] (Qc zbs):=ze
theorem ó(a:sd K mg ca):qi ⟨K,ca,tx K⟩ P w mg base 1 (ca 26) ["self","pot"] xb:=
 Dr a.xb G8 λb=>
  (ic (Hf (rf (uU (Ae b)) GO (ga 1) (De (Nr a) (ga 0)) rfl) yt Xf)
  (qd (wt (Ae b) (De (Nr a) (ga 0)) (ga 1) (λ_ _=>rfl))))
theorem LC(a:sd K mg ca):uk ⟨K,ca,tx K⟩ P w mg base 1 "account" ["self","pot"] [(9,xb)]:=(nk a.Zb a.Nk (ó a) Nn)
abbrev LZ:Stmt:=bc 95
def bU:Ev->M Fl:=
 (gd (Bh (pj (Fk (gi (ba 0))) [] (je 0) ik (gg (ra (Cd (Uc [4,5,6,7] "mine") (Rg [(9,xb)] 2 "account" (ba 0) (ra (eC (.int 0)) Ja))) (ra (Cd (Uc [4,5,6,7] "may") (Rg [(9,xb)] 2 "account" (ba 0) (ra (eC (.int 0)) Ja))) (ra (Rg [(5,Kb),(6,Xb),(7,Wb)] 1 "word" (Rg [(9,xb)] 2 "account" (ba 0) (ra (eC (.int 0)) Ja)) Ja) Ja)))))))
def Oe:List D->M D:=Ab λa=>vc (Nd 1 bU a)
theorem T0:va ["_law_pair"] ["_law_pair"] (Qc LZ):=ze
theorem dX(a:sd K mg ca):Qe ⟨K,ca,tx K⟩ P w mg base 2 "_law_states" ["_law_pair"] Oe:=
 Hg a.Oe T0 λb=>
  (qd (Kl (Iq (x:="_law_keeper") (z0:="0") (M':=[]) (ix:=[]) rfl ⟨rfl,rfl,rfl,rfl,rfl,rfl⟩ (oq (xm rfl (ga 0))) (λ_ _ _ _ _=>Wh (by show List.Nodup (("_law_keeper"::"0"::[]):List Str);decide +kernel)) (λ_ _ _ _ _=>rs) (λ_ _ _ _ _=>(Pg (nb (De (Es a) (fmt (LC a) b (ga 0) (db Xa))) (nb (De (bE a) (fmt (LC a) b (ga 0) (db Xa))) (db (Fu (fG a) b (fmt (LC a) b (ga 0) (db Xa)))))))))))
abbrev Ý:Stmt:=bc 93
abbrev nG:Ev->M Fl:=(Cb (cB (Ba cr (Ba Oa (ba 4) (ba 1)) (Ba Oa (ba 2) (eC (.int 2)))) (ba 4) (ba 1)) (cB (Ba Nh (Ba Oa (ba 4) (Ba cr (eC (.int 1)) (ba 1))) (Ba Oa (ba 2) (eC (.int 2)))) (ba 4) (Ba cr (eC (.int 1)) (ba 1))))
abbrev nP:Ev->M Fl:=(Cb (cB (Ba cr (Ba Oa (ba 4) (ba 1)) (Ba Oa (ba 2) (eC (.int 2)))) (ba 4) (ba 1)) (Ue 5 (Ba Nh (ba 5) (gg (ra (Ba Nh (gg (ra (ba 1) Ja)) (YB (ba 2) (some (eC (.int 2))) none)) Ja)))))
abbrev nE:Ev->M Fl:=(Cb (Ue 6 (Ba Oa (Bh (pj (Fk (gi (ba 5))) [2] (je 0) (eT (Ba Gf (Ba Oa (ba 0) (eC (.int 2))) (Ba Oa (ba 2) (eC (.int 2))))) (ba 0))) (eC (.int 0)))) (Cb (cB (Ba Nh (Ba Oa (ba 4) (ba 1)) (Ba Oa (ba 6) (eC (.int 1)))) (ba 4) (ba 1)) (Ue 5 (ah Cz (ra (Bh (pj (Fk (gi (ba 5))) [6] (je 0) (eT (Ba ph (ba 0) (ba 2))) (ba 0))) Ja)))))
abbrev sH:Ev->M Fl:=(IC (ba 0) (Wo 3 (Bi (je 3) (Bi (je 4) (Bi (je 5) Jp)))))
abbrev ZC:Ev->M Fl:=(Ue 4 (ah Yq (ra (ba 4) Ja)))
abbrev uy:Ev->M Fl:=(Bf (eT (Ba Gf (Ba Oa (ba 2) (eC (.int 0))) (eC (.str "give")))) nG (Bf (eT (Ba Gf (Ba Oa (ba 2) (eC (.int 0))) (eC (.str "pay")))) nP nE))
abbrev AE:Ev->M Fl:=(gd (gg (ra (Ba Nh (ba 3) (eC (.int 1))) (ra (ah Cz (ra (ba 4) Ja)) (ra (ba 5) Ja)))))
abbrev u8:Ev->M Fl:=(gd (eC (.bl true)))
def UN:Ev->M Fl:=
 (Cb sH (Cb ZC (Cb uy AE)))
def oe:List D->M D:=Ab λa=>vc (Nd 7 UN a)
theorem ly:va ["_law_one","_law_side","_law_wish_here","_law_number","_law_split","_law_ties","_law_tie"] ["_law_one","_law_side","_law_wish_here"] (Qc Ý):=ze
theorem fY(a:sd K mg ca):Qe ⟨K,ca,tx K⟩ P w mg base 1 "_law_wished" ["_law_one","_law_side","_law_wish_here"] oe:=
 Hg a.oe ly λb=>
  (ic (rK (ga 0) (kw rfl (jp (Wh ly.nd) (jp (Wh ly.nd) (jp (Wh ly.nd) tw)))))
  (ic (Nf ly.nd (zv SD (ND rfl) rfl a.dm Gm (db (ga 4))))
  (ic (Hf (rf (Si (Ae b)) sg (Qb (ga 2) Xa) kf (lf _)) (ic (AI (Hj Ku Au (Qb (ga 4) (ga 1)) (Qb (ga 2) Xa)) (ga 4) (ga 1))
  (Sh (AI (Sl (Qb (ga 4) (Hj Ku Au Xa (ga 1))) (Qb (ga 2) Xa)) (ga 4) (Hj Ku Au Xa (ga 1))))) (Sh (Hf (rf (Si (Ae b)) sg (Qb (ga 2) Xa) kf (lf _)) (ic (AI (Hj Ku Au (Qb (ga 4) (ga 1)) (Qb (ga 2) Xa)) (ga 4) (ga 1))
  (Sh (Nf ly.nd (Sl (ga 5) (Pg (db (Sl (Pg (db (ga 1))) (bH rfl (ga 2) (sI Xa) rH)))))))) (ic (zN (i:=6) ly.nd rfl (Or.inr rfl) (Qb (Kl (Iq (x:="_law_other") (z0:="0") (M':=["_law_wish_here"]) (ix:=[2]) rfl ⟨rfl,rfl,rfl,rfl,rfl,rfl⟩ (oq (xm rfl (ga 5))) (λ_ _ _ _ _=>Wh (by show List.Nodup (("_law_other"::"0"::["_law_wish_here"]):List Str);decide +kernel)) (λ_ _ _ _ _=>JB (rf (Si (Ae b)) sg (Qb (ga 0) Xa) (Qb (ga 2) Xa) (lf _))) (λ_ _ _ _ _=>(ga 0)))) Xa))
  (ic (AI (Sl (Qb (ga 4) (ga 1)) (Qb (ga 6) Xa)) (ga 4) (ga 1))
  (Sh (Nf ly.nd (zv ZK (dJ rfl) rfl a.Eh gh (db (Kl (Iq (x:="_law_other") (z0:="0") (M':=["_law_tie"]) (ix:=[6]) rfl ⟨rfl,rfl,rfl,rfl,rfl,rfl⟩ (oq (xm rfl (ga 5))) (λ_ _ _ _ _=>Wh (by show List.Nodup (("_law_other"::"0"::["_law_tie"]):List Str);decide +kernel)) (λ_ _ _ _ _=>JB (rf (Xo (Ae b)) sg (ga 0) (ga 2) (lf _))) (λ_ _ _ _ _=>(ga 0)))))))))))))
  (qd (Pg (nb (Sl (ga 3) Xa) (nb (zv ZK (dJ rfl) rfl a.Eh gh (db (ga 4))) (db (ga 5)))))))))
abbrev JZ:Stmt:=bc 97
abbrev jH:Ev->M Fl:=(Cb (Bf (eT (Ba ph (Cd (Uc [4,5,6,7] "strikes") (Rg [(9,xb)] 2 "account" (Ba Oa (ba 0) (ba 10)) (ra (eC (.int 0)) Ja))) (ba 9))) (gd (eC (.bl false))) Pf) (Bf (eT (Ba ph (Rg [(9,Rb)] 1 "given" (Ba Oa (ba 0) (ba 10)) Ja) (Ba Nh (Ba Oa (ba 6) (ba 10)) (Ba cG (ba 8) (ah SF (ra (Ba Gf (ba 10) (ba 3)) Ja)))))) (gd (eC (.bl false))) Pf))
abbrev bA:Ev->M Fl:=(Ue 7 (ci (ra (eC (.str "offer")) (ra (eC (.str "accept")) (ra (eC (.str "struck")) Ja)))))
abbrev Sz:Ev->M Fl:=(Bf (eT (Ba Gf (ba 3) (eC (.int 1)))) (Ue 7 (Ba Nh (ci (ra (eC (.str "ask")) Ja)) (ba 7))) Pf)
abbrev rC:Ev->M Fl:=(Bf (eT (Ba Gf (Ba Oa (ba 4) (eC (.int 0))) (eC (.str "settle")))) (Cb (Ue 7 (Ba Nh (ci (ra (eC (.str "word")) Ja)) (ba 7))) (Bf (eT (Ba (To true) (Ba Oa (ba 4) (eC (.int 2))) (Rg [(9,Xc)] 1 "words" (Ba Oa (ba 0) (Ba cr (eC (.int 1)) (ba 3))) Ja))) (gd (eC (.bl false))) Pf)) Pf)
abbrev HC:Ev->M Fl:=(Bf (Go (eT (Ba ph (ba 5) (ba 7))) (eT (Ba ph (yd 1 Oe [] (ra (ba 0) Ja)) (ci (ra (gg (ra (ba 2) (ra (ci (ra (ba 2) Ja)) (ra (eC (.str "calm")) Ja)))) (ra (gg (ra (ba 2) (ra (ci (ra (ba 2) Ja)) (ra (eC (.str "calm")) Ja)))) Ja)))))) (gd (eC (.bl false))) Pf)
abbrev iE:Ev->M Fl:=(Ue 8 (Gx (eT (Ba (To false) (Ba Oa (ba 4) (eC (.int 0))) (gg (ra (eC (.str "give")) (ra (eC (.str "pay")) Ja))))) (Ba Oa (ba 4) (eC (.int 2))) (eC (.int 0))))
abbrev HH:Ev->M Fl:=(Ue 9 (Cd OA (Ba Oa (ba 2) (eC (.int 0)))))
abbrev oE:Ev->M Fl:=(vt (Pu (eC (.int 2))) (je 10) jH)
abbrev AM:Ev->M Fl:=u8
def jO:Ev->M Fl:=
 (Cb bA (Cb Sz (Cb rC (Cb HC (Cb iE (Cb HH (Cb oE AM)))))))
def Qf:List D->M D:=Ab λa=>vc (Nd 11 jO a)
theorem Dz:va ["_law_pair","_law_one","_law_new","_law_side","_law_wish_here","_law_told","_law_given_before","_law_due","_law_gave","_law_strikes","_law_at"] ["_law_pair","_law_one","_law_new","_law_side","_law_wish_here","_law_told","_law_given_before"] (Qc JZ):=ze
theorem Ģ(b:sd K mg ca):Qe ⟨K,ca,tx K⟩ P w mg base 3 "_law_came" ["_law_pair","_law_one","_law_new","_law_side","_law_wish_here","_law_told","_law_given_before"] Qf:=
 Hg b.Qf Dz λa=>
  (ic (Nf Dz.nd (Mi (nb kf (nb kf (db kf)))))
  (ic (Hf (rf (Si (Ae a)) sg (ga 3) Xa (lf _)) (Sh (Nf Dz.nd (Sl (Mi (db kf)) (ga 7)))) Xf)
  (ic (Hf (rf (Si (Ae a)) sg (Qb (ga 4) Xa) kf (lf _)) (ic (Nf Dz.nd (Sl (Mi (db kf)) (ga 7)))
  (Sh (Hf (rf KP (YD rfl true) (Qb (ga 4) Xa) (Fu (MS b) a (Qb (ga 0) (Hj Ku Au Xa (ga 3)))) rfl) (qd Up) Xf))) Xf)
  (ic (Hf (L2.PW.pt (Np (rf (Xo (Ae a)) sg (ga 5) (ga 7) (lf _)) (Er (rf (Xo (Ae a)) sg (Od (dX b) a (db (ga 0))) (Mi (nb (Pg (nb (ga 2) (nb (Mi (db (ga 2))) (db kf)))) (db (Pg (nb (ga 2) (nb (Mi (db (ga 2))) (db kf))))))) (lf _))))) (qd Up) Xf)
  (ic (Nf Dz.nd (ZA (rf SH (YD rfl false) (Qb (ga 4) Xa) (Pg (nb kf (db kf))) rfl) (Qb (ga 4) Xa) Xa))
  (ic (Nf Dz.nd (W4 rfl rfl b.dm rfl b.Ij (Qb (ga 2) Xa)))
  (ic (Lu Kq rfl (XH rfl b.Ij Xa) (Wh Dz.nd) (ic (Hf (rf (Xo (Ae a)) sg (De (NA b) (fmt (LC b) a (Qb (ga 0) (ga 10)) (db Xa))) (ga 9) (lf _)) (qd Up) Xf)
  (Sh (Hf (rf (Xo (Ae a)) sg (Fu (IN b) a (Qb (ga 0) (ga 10))) (Sl (Qb (ga 6) (ga 10)) (Hj Ł D8 (ga 8) (zv ż ĕ rfl b.cy boot_int (db (Qp a (ga 10) (ga 3)))))) (lf _)) (qd Up) Xf))))
  (qd Up))))))))
abbrev yvv:Stmt:=bc 98
abbrev QE:Ev->M Fl:=(nu (Sw Mn (ba 2) (ra (Bh (pj (Fk (Pu (eC (.int 60)))) [0,3] (je 0) (eT (Ba Gf (Ba uG (Ba fE (yd 2 Fc [] (ra (ba 2) (ra (Ba Nh (eC (.int 2)) (ba 3)) Ja))) (ba 0)) (eC (.int 1))) (eC (.int 1)))) (ba 0))) Ja)))
abbrev R3:Ev->M Fl:=(Cb (Ue 16 (yd 3 oe [] (ra (ba 6) (ra (ba 7) (ra (ba 8) Ja))))) (Cb (Bf (il (eT (yd 7 Qf [] (ra (ba 5) (ra (ba 6) (ra (ba 16) (ra (ba 7) (ra (ba 8) (ra (ba 14) (ra (ba 10) Ja)))))))))) (gd (eC (.bl false))) Pf) (Ue 6 (ba 16))))
abbrev aH:Ev->M Fl:=(Bf (Go (eT (Ba ph (Rg [(5,Kb),(6,Xb),(7,Wb)] 1 "word" (Rg [(9,xb)] 2 "account" (Ba Oa (ba 5) (ba 7)) (ra (eC (.int 0)) Ja)) Ja) (eC (.str "calm")))) (Jv (il (eT (ba 11))) (eT (Ba ph (ba 14) (ci Ja))))) (gd (Ba (To true) (eC (.str "accept")) (ba 14))) Pf)
abbrev eH:Ev->M Fl:=(Ue 7 (Ba Zt (Ba Oa (ba 0) (ba 3)) (eC (.int 2))))
abbrev yF:Ev->M Fl:=(Ue 8 (yd 3 Cg [] (ra (ba 6) (ra (ba 7) (ra (Ba Oa (ba 0) (ba 3)) Ja)))))
abbrev QF:Ev->M Fl:=(Ue 9 (yd 1 sf [] (ra (ba 5) Ja)))
abbrev BH:Ev->M Fl:=(Ue 10 (Bh (pj (Fk (gi (ba 5))) [] (je 0) ik (Rg [(9,Rb)] 1 "given" (ba 0) Ja))))
abbrev BF:Ev->M Fl:=(IC (Rg [(9,Bc)] 2 "wish" (Ba Oa (ba 5) (ba 7)) (ra (ba 8) Ja)) (Wo 2 (Bi (je 11) (Bi (je 12) Jp))))
abbrev UJ:Ev->M Fl:=(Ue 13 (kj (Ba Gf (ba 3) (Ba cr (ah Fj (ra (ba 0) Ja)) (eC (.int 1)))) (Ba Gf (Ba Zt (yd 2 Fc [] (ra (ba 0) (ra (eC (.int 4)) Ja))) (eC (.int 4))) (eC (.int 1)))))
abbrev HI:Ev->M Fl:=(Ue 14 (yd 4 Dg [] (ra (ba 5) (ra (ba 7) (ra (ba 12) (ra (ba 13) Ja))))))
abbrev DF:Ev->M Fl:=(Bf (eT (Ba oLt (ah (GC Vw) (ra (Bh (pj (Hy (yd 1 sf [] (ra (ba 5) Ja)) (ba 9)) [] (Wo 2 (Bi (je 0) (Bi (je 1) Jp))) ik (Ba cr (ba 0) (ba 1)))) Ja)) (eC (.int 0)))) (gd (eC (.bl false))) Pf)
abbrev CH:Ev->M Fl:=(Ue 15 (ci (ra (gg (ra (ba 6) (ra (ci (ra (ba 6) Ja)) (ra (eC (.str "calm")) Ja)))) (ra (gg (ra (ba 6) (ra (ci (ra (ba 6) Ja)) (ra (eC (.str "calm")) Ja)))) Ja))))
abbrev LA:Ev->M Fl:=(Bf (Jv (il (eT (ba 11))) (Go (eT (Ba ph (ba 12) (ci Ja))) (eT (Ba ph (yd 1 Oe [] (ra (ba 5) Ja)) (ba 15))))) (gd (eC (.bl false))) Pf)
abbrev DB:Ev->M Fl:=(Bf (Jv (eT (Ba (To false) (eC (.str "struck")) (ba 14))) (il (eT (ba 13)))) R3 (Bf (eT (ba 13)) (gd (eC (.bl true))) aH))
abbrev PD:Ev->M Fl:=(Cb eH (Cb yF (Cb QF (Cb BH (Cb BF (Cb UJ (Cb HI (Cb DF (Cb CH (Cb LA DB))))))))))
abbrev u1:Ev->M Fl:=(Ue 1 (gg (ra (Ba Zt (yd 2 Fc [] (ra (ba 0) (ra (eC (.int 0)) Ja))) (Ba Nh (Ba ux (eC (.int 10)) (eC (.int 12))) (eC (.int 1)))) (ra (Ba Zt (yd 2 Fc [] (ra (ba 0) (ra (eC (.int 1)) Ja))) (Ba Nh (Ba ux (eC (.int 10)) (eC (.int 12))) (eC (.int 1)))) Ja))))
abbrev u3:Ev->M Fl:=(vt (Pu (eC (.int 2))) (je 3) QE)
abbrev u4:Ev->M Fl:=(Ue 4 (ci (ra (gg (ra (eC (.int 1)) (ra (eC (.int 2)) (ra (Ba Oa (ba 1) (eC (.int 0))) (ra (Ba Oa (ba 1) (eC (.int 1))) (ra (eC (.int 20)) Ja)))))) Ja)))
abbrev u5:Ev->M Fl:=(Ue 5 (ci (ra (Kt 9 5 Vo (rz [] (ra (eC (.int 1)) (ra (eC (.int 5)) (ra (ba 4) (ra (Ba Oa (ba 2) (eC (.int 0))) Ja)))))) (ra (Kt 9 5 Vo (rz [] (ra (eC (.int 2)) (ra (eC (.int 6)) (ra (ba 4) (ra (Ba Oa (ba 2) (eC (.int 1))) Ja)))))) Ja))))
abbrev u6:Ev->M Fl:=(Ue 6 (gg (ra (eC (.int 0)) (ra (ba 1) (ra (gg Ja) Ja)))))
abbrev u7:Ev->M Fl:=(vt (KF (eC (.int 5)) (ah Iz (ra (ah Fj (ra (ba 0) Ja)) (ra (eC (.int 13)) Ja)))) (je 3) PD)
def CS:Ev->M Fl:=
 (Cb u1 (Cb (Ue 2 (Xu Ja)) (Cb u3 (Cb u4 (Cb u5 (Cb u6 (Cb u7 (gd (eC (.bl true))))))))))
def Wp:List D->M D:=Nd 17 CS
theorem dq:va ["_law_script","_law_coins","_law_words","_law_k","_law_pots","_law_pair","_law_one","_law_side","_law_wish_here","_law_before","_law_spent","_law_done","_law_letters","_law_halts","_law_told","_law_still","_law_new"] ["_law_script"] (Qc yvv):=ze
theorem S6(a:sd K mg ca):NK ⟨K,ca,tx K⟩ P w mg 15 "law" ["_law_script"] Wp:=
 n4 a.Wp dq λ_ _ _ _ _ _ _ _ b=>
  (ic (Nf dq.nd (Pg (nb (Hj Nw Fx (Od (xG a) b (nb (ga 0) (db Xa))) (Sl (Hj UL sN Xa Xa) Xa)) (db (Hj Nw Fx (Od (xG a) b (nb (ga 0) (db Xa))) (Sl (Hj UL sN Xa Xa) Xa))))))
  (ic (Nf dq.nd (LB jo))
  (ic (Lu Kq rfl (XH rfl a.Ij Xa) (SB (i:=3) dq.nd rfl (Or.inr rfl)) (Sh (mv (nz Bd Re Se MB bC (ga 2) (db (Kl (Iq (x:="_law_word") (z0:="0") (M':=["_law_script","_law_k"]) (ix:=[0,3]) rfl ⟨rfl,rfl,rfl,rfl,rfl,rfl⟩ (oq (XH rfl a.Ij Xa)) (λ_ _ _ _ _=>Wh (by show List.Nodup (("_law_word"::"0"::["_law_script","_law_k"]):List Str);decide +kernel)) (λ_ _ _ _ _=>JB (rf (Si (Ae b)) sg (Hj æ OX (Hj ĉ y3 (Od (xG a) b (nb (ga 2) (db (Sl Xa (ga 3))))) (ga 0)) Xa) Xa (lf _))) (λ_ _ _ _ _=>(ga 0)))))))))
  (ic (Nf dq.nd (Mi (db (Pg (nb Xa (nb Xa (nb (Qb (ga 1) Xa) (nb (Qb (ga 1) Xa) (db Xa)))))))))
  (ic (Nf dq.nd (Mi (nb (UO (c:=9) (ps:=["self","hand","every","pots","words"]) a.mr a.Pp (zV a) (.inl rfl) .nil (λ_ _=>Db.nil) rfl (b.mono (by decide)) rfl (nb Xa (nb Xa (nb (ga 4) (db (Qb (ga 2) Xa)))))) (db (UO (c:=9) (ps:=["self","hand","every","pots","words"]) a.mr a.Pp (zV a) (.inl rfl) .nil (λ_ _=>Db.nil) rfl (b.mono (by decide)) rfl (nb Xa (nb Xa (nb (ga 4) (db (Qb (ga 2) Xa))))))))))
  (ic (Nf dq.nd (Pg (nb Xa (nb (ga 1) (db (Pg jo))))))
  (ic (Lu Kq rfl (ť rfl a.Ij Xa (Yk (EV rfl) XW rfl a.xr NN (nb (Yk yq (jq rfl) rfl a.zg Jb (db (ga 0))) (db Xa)))) (SB (i:=3) dq.nd rfl (Or.inr rfl)) (ic (Nf dq.nd (Hj Nw Fx (Qb (ga 0) (ga 3)) Xa))
  (ic (Nf dq.nd (Od (Ė a) b (nb (ga 6) (nb (ga 7) (db (Qb (ga 0) (ga 3)))))))
  (ic (Nf dq.nd (Od (uS a) b (db (ga 5))))
  (ic (dU (qL (i:=10) dq.nd rfl (Or.inl rfl) (x:="_law_keeper") (z0:="0") (M':=[]) (ix:=[]) rfl ⟨rfl,rfl,rfl,rfl,rfl,rfl⟩ (oq (xm rfl (ga 5))) (λ_ _ _ _ _=>Wh (by show List.Nodup (("_law_keeper"::"0"::[]):List Str);decide +kernel)) (λ_ _ _ _ _=>rs) (λ_ _ _ _ _=>(Fu (IN a) b (ga 0)))))
  (ic (rK (fmt (Ľ a) b (Qb (ga 5) (ga 7)) (db (ga 8))) (kw rfl (jp (Wh dq.nd) (jp (Wh dq.nd) tw))))
  (ic (Nf dq.nd (xj (Qp b (ga 3) (Hj Ku Au (Yk yq (jq rfl) rfl a.zg Jb (db (ga 0))) Xa)) (Kn (Qp b (Hj Nw Fx (Od (xG a) b (nb (ga 0) (db Xa))) Xa) Xa))))
  (ic (Nf dq.nd (Od (g8 a) b (nb (ga 5) (nb (ga 7) (nb (ga 12) (db (ga 13)))))))
  (ic (Hf (rf dy By (Yk (Ķ rfl) (W0 rfl) rfl a.xr NN (db (Kl (Iq (x:="_law_after") (z0:="_law_ahead") (M':=[]) (ix:=[]) rfl ⟨rfl,rfl,rfl,rfl,rfl,rfl⟩ (cO rfl a.Yx (Od (uS a) b (db (ga 5))) (ga 9)) (λ_ _ _ _ _=>kw rfl (jp (Wh (by show List.Nodup (("_law_after"::"_law_ahead"::[]):List Str);decide +kernel)) (jp (Wh (by show List.Nodup (("_law_after"::"_law_ahead"::[]):List Str);decide +kernel)) tw))) (λ_ _ _ _ _=>rs) (λ_ _ _ _ _=>(Hj Ku Au (ga 0) (ga 1))))))) Xa (lf _)) (qd Up) Xf)
  (ic (Nf dq.nd (Mi (nb (Pg (nb (ga 6) (nb (Mi (db (ga 6))) (db kf)))) (db (Pg (nb (ga 6) (nb (Mi (db (ga 6))) (db kf))))))))
  (ic (Hf (L2.PW.pt (Uw (Yl (zj (ga 11))) (qy (L2.PW.pt (Np (rf (Xo (Ae b)) sg (ga 12) (Mi jo) (lf _)) (Er (rf (Xo (Ae b)) sg (Od (dX a) b (db (ga 5))) (ga 15) (lf _)))))))) (qd Up) Xf)
  (Sh (Hf (L2.PW.pt (Uw (rf SH (YD rfl false) kf (ga 14) rfl) (qy (Yl (zj (ga 13)))))) (ic (Nf dq.nd (Od (fY a) b (nb (ga 6) (nb (ga 7) (db (ga 8))))))
  (ic (Hf (Yl (zj (Od (Ģ a) b (nb (ga 5) (nb (ga 6) (nb (ga 16) (nb (ga 7) (nb (ga 8) (nb (ga 14) (db (ga 10))))))))))) (qd Up) Xf)
  (Sh (Nf dq.nd (ga 16))))) (Sh (Hf (zj (ga 13)) (qd Up) (Sh (Hf (L2.PW.pt (Np (rf (Xo (Ae b)) sg (Fu (fG a) b (fmt (LC a) b (Qb (ga 5) (ga 7)) (db Xa))) kf (lf _)) (Er (L2.PW.pt (Uw (Yl (zj (ga 11))) (qy (rf (Xo (Ae b)) sg (ga 14) (Mi jo) (lf _)))))))) (qd (Mu KP (YD rfl true) kf (ga 14) rfl)) Xf)))))))))))))))))
  (qd Up))))))))
end
end K43
namespace K43
open PySem L2 L4
set_option maxHeartbeats 4000000
section
variable{α:Type}{xs:List α}{σ:Ta}{fi:Ev->M Bool}{fe:Ev->M D}{tg:D->Ev->Option Ev}{nx:NX}{rest:Ev}
theorem fM(O:Option D->Prop)(v a:α->D)(b:α->Option D)(p:α->Bool)(y:α->D)(w:∀ i j,i<=xs.length->nx i (σ++j)=some ((xs[i]?).map v))(z:∀ x o c,O c->tg (v x) (o::c::rest)=some (some (a x)::b x::rest)/\O (b x))
  (h:∀ x∈xs,∀ j,fi (some (a x)::b x::rest) (σ++j)=.ok (p x) (σ++j)/\(p x=true->fe (some (a x)::b x::rest) (σ++j)=.ok (y x) (σ++j))) (B:xs.length<=1000) :
  ∀ (k i:Nat) (o c:Option D) (f:List D),O c->xs.length<k+i->i<=xs.length->f.length<=i->
   El nx σ.length tg fi fe k i (o::c::rest) (σ++[.la f])=.ok () (σ++[.la (f++((xs.drop i).filter p).map y)]):=by
 intro k;induction k with
 |zero=>intro i o c f _ t n;omega
 |succ k r=>
  intro i o c f u t n C;unfold El;rw[w i _ n];cases e:xs[i]? with
  |none=>
   have l:=qc.mp e;rw[Yr l];simp
  |some d=>
   obtain⟨l,m⟩:=ja.mp e;have q:xs.drop i=d::xs.drop (i+1):=by rw[<-m];exact rg l
   obtain⟨s1,s2⟩:=h d (by rw[<-m];exact fj l) [.la f];obtain⟨A,s⟩:=z d o c u;simp only[On,A];rw[tp,ZG s1,gf];by_cases g:p d=true
   ·rw[g,ia rfl,tp,ZG (s2 g),gf,tp,UE (by omega),gf,r (i+1) _ _ (f++[y d]) s (by omega) (by omega) (by simp;omega),q,ye,ia g];simp
   ·rw[ka g,r (i+1) _ _ f s (by omega) (by omega) (by omega),q,ye,ka g]
end
theorem xE{xs:List D}(h:fg xs=true):Uh a (.ok (.ref a.length) (a++[.la xs]))=.ok (.la xs) a:=by
 have:=pR (σ:=a) (j:=[]) (j':=[]) h;simpa using this
theorem dz{e:Type}{xs:List e}{src:Ev->M Em}{s:Em}{ix:List Nat}{fi:Ev->M Bool}{fe:Ev->M D}{ρ:Ev}{σ:Ta}(v y:e->D)(p:e->Bool)(m:src ρ σ=.ok s σ)(l:∀ i j,s.nx i (σ++j)=some ((xs[i]?).map v))(k:xs.length<=1000)
  (a:∀ x∈xs,∀ j,fi (some (v x)::none::(ix.map λi=>(ρ[i]?).getD none)) (σ++j)=.ok (p x) (σ++j)/\(p x=true->fe (some (v x)::none::(ix.map λi=>(ρ[i]?).getD none)) (σ++j)=.ok (y x) (σ++j))) (f:∀ x∈xs,p x=true->cl (y x)=true) :
  Bh (pj (Fk src) ix (je 0) fi fe) ρ σ=.ok (.la ((xs.filter p).map y)) σ:=by
 show Uh σ (Fd (Fd (src ρ) CL) (kH (je 0) fi fe (Av ix ρ)) σ)=_;rw[tp,tp,m,gf];show Uh σ (Fd (El s.nx σ.length (je 0) fi fe 1001 0 (none::none::(ix.map λi=>(ρ[i]?).getD none))) _ (σ++[.la []]))=_;rw[tp,fM (λo=>o=none) v v (λ_=>none) p y (λi j _=>l i j) (λx o q h=>by subst h;exact⟨rfl,rfl⟩) a k 1001 0 none none [] rfl (by omega) (by omega) (by simp),gf];refine Eq.trans (cc (Uh σ) ?_) (xE (Jt λd g=>by obtain⟨x,n,rfl⟩:=gb.mp g;obtain⟨b,c⟩:=Jf.mp n;exact f x b c));simp
theorem kx{c:Type}{xs:List c}{src:Ev->M Em}{s:Em}{ix:List Nat}{fe:Ev->M D}{ρ:Ev}{σ:Ta}(v y:c->D)(h:src ρ σ=.ok s σ)(g:∀ i j,s.nx i (σ++j)=some ((xs[i]?).map v))(f:xs.length<=1000)
  (a:∀ x∈xs,∀ j,fe (some (v x)::none::(ix.map λi=>(ρ[i]?).getD none)) (σ++j)=.ok (y x) (σ++j)) (e:∀ x∈xs,cl (y x)=true) :
  Bh (pj (Fk src) ix (je 0) ik fe) ρ σ=.ok (.la (xs.map y)) σ:=by
 have:=dz (p:=λ_=>true) v y (fi:=ik) h g f (λd b j=>⟨rfl,λ_=>a d b j⟩) (λd b _=>e d b);rw[ug.mpr λ_ _=>rfl]at this;exact this
theorem VU{g:Type}{xs:List g}{c:Ev->M NX}{nx:NX}{ix:List Nat}{fe:Ev->M D}{ρ:Ev}{σ:Ta}(a b y:g->D)(n:c ρ σ=.ok nx σ)(m:∀ i j,i<=xs.length->nx i (σ++j)=some ((xs[i]?).map λx=>.Ka [a x,b x]))(l:xs.length<=1000)
  (e:∀ x∈xs,∀ j,fe (some (a x)::some (b x)::(ix.map λi=>(ρ[i]?).getD none)) (σ++j)=.ok (y x) (σ++j)) (h:∀ x∈xs,cl (y x)=true) :
  Bh (pj c ix (Wo 2 (Bi (je 0) (Bi (je 1) Jp))) ik fe) ρ σ=.ok (.la (xs.map y)) σ:=by
 show Uh σ (Fd (c ρ) (kH _ ik fe (Av ix ρ)) σ)=_;rw[tp,n,gf];show Uh σ (Fd (El nx σ.length _ ik fe 1001 0 (none::none::(ix.map λi=>(ρ[i]?).getD none))) _ (σ++[.la []]))=_;rw[tp,fM (λ_=>True) (λx=>.Ka [a x,b x]) a (λx=>some (b x)) (λ_=>true) y m (λx o p _=>⟨rfl,trivial⟩) (λx f j=>⟨rfl,λ_=>e x f j⟩) l 1001 0 none none [] trivial (by omega) (by omega) (by simp),gf];refine Eq.trans (cc (Uh σ) ?_) (xE (Jt λd k=>by obtain⟨x,f,rfl⟩:=gb.mp k;exact h x f));have fe:List.filter (λ_=>true) xs=xs:=ug.mpr λ_ _=>rfl;simp[fe]
def Sc:D->Bool
 | .int _=>true
 | .wc=>true
 | .bl _=>true
 | .str _=>true
 |_=>false
noncomputable def bd(d:D)(a b:Int):Bool:=match d with
 | .int i=>decide (a<=i) && decide (i<=b)
 |_=>false
theorem I0(x:Str)(a:Ta):Nq .int (.str x) a=.ok (.bl false) a:=nr rfl
theorem Z7(h:Sc d=true)(σ:Ta):Zg [d] σ=.ok (.bl (match d with | .int _=>true|_=>false)) σ:=by
 unfold Zg zQ;cases d with
 |int i=>simp
 |wc=>simp
 |bl b=>simp
 |str x=>simp[I0]
 |_=>cases h
theorem iz(h:Sc d=true)(a b:Int)(σ:Ta):Lc [d,.int a,.int b] σ=.ok (.bl (bd d a b)) σ:=by
 have w:=Z7 h;unfold Lc fV;cases d with
 |int i=>cases c:decide (a<=i)<;>simp[bd,c,w]
 |wc=>simp[bd,w]
 |bl b=>simp[bd,w]
 |str x=>simp[bd,w]
 |_=>cases h
theorem SQ(a b c d e:D)(r:List D)(f:Ta):Oa (.Ka (a::b::c::d::e::r)) (.int 4) f=.ok e f:=TB (Tr rfl)
@[simp] theorem yi7(f:Ev->M D)(lo b:PF)(a:Ev)(c:Ta):YB f lo b a c=(f a c).bind (uL (fA lo a) (fA b a)):=nr rfl
@[simp] theorem yfq(lo a:M (Option Int))(x:D)(b:Ta):uL lo a x b=(lo b).bind (cM x a):=nr rfl
@[simp] theorem yfr(x:D)(a:M (Option Int))(lo:Option Int)(b:Ta):cM x a lo b=(a b).bind (fw x lo):=nr rfl
@[simp] theorem zzh(b:Ev)(a:Ta):fA none b a=.ok none a:=nr rfl
@[simp] theorem zzi(f:Ev->M D)(a:Ev)(b:Ta):fA (some f) a b=(f a b).bind yM:=nr rfl
@[simp] theorem ydv(i:Int)(a:Ta):yM (.int i) a=.ok (some i) a:=nr rfl
@[simp] theorem qC(xs:List D)(lo a:Option Int)(b:Ta):fw (.Ka xs) lo a b=.ok (.Ka (pv xs lo a)) b:=nr rfl
@[simp] theorem lM(a:D)(r:List D)(b:Ta):Oa (.la (a::r)) (.int 0) b=.ok a b:=Tz (Tr rfl)
@[simp] theorem AT(a b:D)(r:List D)(c:Ta):Oa (.la (a::b::r)) (.int 1) c=.ok b c:=Tz (Tr rfl)
@[simp] theorem N6(a b c:D)(r:List D)(d:Ta):Oa (.la (a::b::c::r)) (.int 2) d=.ok c d:=Tz (Tr rfl)
@[simp] theorem O9(a b c d:D)(r:List D)(e:Ta):Oa (.la (a::b::c::d::r)) (.int 3) e=.ok d e:=Tz (Tr rfl)
theorem nM(h:nx i c=some (some d))(f:b d e=some ρ1):Qr nx b a (k+1) i e c=(a ρ1 c).bind (xu (Qr nx b a k (i+1))):=by
 rw[Qr];simp only[h,f];rfl
theorem qK(h:nx i b=some none):Qr nx d a (k+1) i c b=.ok (.nx c) b:=by
 rw[Qr];simp only[h]
@[simp] theorem f6(f:Ev->M D)(a:Ev)(b:Ta):zM f a b=(f a b).bind dB:=nr rfl
@[simp] theorem oz(b:Ev->M NX)(d:D->Ev->Option Ev)(a:Ev->M Fl)(c:Ev)(e:Ta):yw b d a c e=Ln c (WK d a c) (b c e):=Wn ..
theorem ţ{xs:List D}(b:yj a x=some xs)(h:fg xs=true):Uh a (Yq [x] a)=.ok (.la xs) a:=by
 have e:Yq [x] a=.ok (.ref a.length) (a++[.la xs]):=by unfold Yq;simp only[b];rfl
 rw[e];have:=pR (σ:=a) (j:=[]) (j':=[]) h;simpa using this
section
variable{σ:Ta}{x:D}{xs:List D}
theorem Y0(h:rh σ x=some xs):dB x σ=.ok (Bx x) σ:=by unfold dB;rw[h]
theorem g5(h:rh σ x=some xs)(a:xs[i]?=some d):Bx x i σ=some (some (.Ka [.int i,d])):=by unfold Bx;rw[h];simp only[a]
theorem ć(h:rh σ x=some xs):Bx x xs.length σ=some none:=by unfold Bx;rw[h];simp
end
@[simp] theorem b_0:(("accept" : Str) == "offer")=false:=by decide
@[simp] theorem b_1:(("agree" : Str) == "strike")=false:=by decide
@[simp] theorem b_2:(("agree" : Str) == "word")=false:=by decide
@[simp] theorem b_3:(("ask" : Str) == "accept")=false:=by decide
@[simp] theorem b_4:(("ask" : Str) == "offer")=false:=by decide
@[simp] theorem b_5:(("ask" : Str) == "struck")=false:=by decide
@[simp] theorem b_6:(("ask" : Str) == "word")=false:=by decide
@[simp] theorem b_8:(("drop" : Str) == "give")=false:=by decide
@[simp] theorem b_9:(("drop" : Str) == "pass")=false:=by decide
@[simp] theorem yyl:(("drop" : Str) == "pay")=false:=by decide
@[simp] theorem yym:(("drop" : Str) == "settle")=false:=by decide
@[simp] theorem yyn:(("give" : Str) == "settle")=false:=by decide
@[simp] theorem yyo:(("pass" : Str) == "give")=false:=by decide
@[simp] theorem yyp:(("pass" : Str) == "pay")=false:=by decide
@[simp] theorem yyq:(("pass" : Str) == "settle")=false:=by decide
@[simp] theorem yyr:(("pay" : Str) == "give")=false:=by decide
@[simp] theorem yys:(("pay" : Str) == "settle")=false:=by decide
@[simp] theorem yyt:(("settle" : Str) == "drop")=false:=by decide
@[simp] theorem yyu:(("settle" : Str) == "give")=false:=by decide
@[simp] theorem yyv:(("settle" : Str) == "pass")=false:=by decide
@[simp] theorem yyw:(("settle" : Str) == "pay")=false:=by decide
@[simp] theorem yyx:(("strike" : Str) == "word")=false:=by decide
@[simp] theorem yyy:(("struck" : Str) == "accept")=false:=by decide
@[simp] theorem yyz:(("struck" : Str) == "offer")=false:=by decide
theorem TF{xs:List D}(h:fg xs=true)(a:Ta):Uh a (Yq [.la xs] a)=.ok (.la xs) a:=ţ (lZ xs) h
theorem Ht(xs:List a)(v:a->D)(i:Nat):(xs.map v)[i]?=(xs[i]?).map v:=jb ..
theorem bt(h:a<=i/\i<=b)(c:Ta):Lc [.int i,.int a,.int b] c=.ok (.bl true) c:=by
 rw[iz rfl];simp[bd,h]
theorem XJ(h:s=0\/s=1)(c:Ta):Ag [.int s] c=.ok (.bl true) c:=by
 have b:=bt (i:=s) (a:=0) (b:=1) (by omega) c;unfold Ag eS;simp[b]
theorem rR(h:0<=s/\s<=59)(a:Ta):eh [.int s] a=.ok (.bl true) a:=by
 have b:=bt h a;unfold eh hO;simp[b]
theorem pL(h:0<=s/\s<=1000000)(a:Ta):Of [.int s] a=.ok (.bl true) a:=by
 have b:=bt h a;unfold Of rO;simp[b]
theorem kT(c:Ta):Vh [.int 0] c=.ok (.bl true) c:=by
 have b:=bt (i:=0) (a:=0) (b:=2) (by omega) c;unfold Vh bQ;simp[b]
theorem JK(s:Int)(a:Ta):Ke [.int s] a=.ok (.int (1 - s)) a:=by
 unfold Ke MP;simp
structure Ti where
 (p a w y:Int)
noncomputable def Ti.D(t:Ti):L4.D:=.Ka [.int t.p,.int t.a,.int t.w,.int t.y]
structure Ti.Ok(t:Ti):Prop where
 p:t.p=0\/t.p=1
 a:1<=t.a/\t.a<=1000000000000
 w:0<=t.w/\t.w<=59
 y:0<=t.y/\t.y<=1000000
def Pr(b:List Ti):Int:=(b.map Ti.a).sum
def Bm(n a b:Int)(ts:List Ti):D:=.Ka [.int n,.Ka [.int a,.int b],.Ka (ts.map Ti.D)]
theorem qX{t:Ti}(i:t.p=0\/t.p=1)(j:0<=t.w/\t.w<=59)(k:0<=t.y/\t.y<=1000000)(c:Ta):Ng [t.D] c=.ok (.bl (bd (.int t.a) 1 1000000000000)) c:=by
 have e:=XJ i c;have f:Je [.int t.a] c=.ok (.bl (bd (.int t.a) 1 1000000000000)) c:=by
  have b:=iz (d:=.int t.a) rfl 1 1000000000000 c;unfold Je kN;simp[b]
 have g:=rR j c;have h:Ci [.int t.y] c=.ok (.bl true) c:=by
  have b:=bt k c;unfold Ci gW;simp[b]
 unfold Ti.D Ng LW;generalize bd (.int t.a) 1 1000000000000=B at *;cases B<;>simp[e,f,g,h]
theorem Η{t:Ti}(h:t.Ok)(b:Ta):Ng [t.D] b=.ok (.bl true) b:=by
 rw[qX h.p h.w h.y];simp[bd,h.a]
theorem Y3{a:List Ti}(o:∀ t∈a,t.Ok)(s:a.length<=6)(σ:Ta):Tf [.Ka (a.map Ti.D)] σ=.ok (.bl (decide (a.map Ti.w).Nodup)) σ:=by
 have g:∀ σ,gi (ba 0) [some (.Ka (a.map Ti.D))] σ=.ok (.seq (a.map Ti.D)) σ:=λσ=>by simp
 have l1:=kx (ix:=[]) (fe:=yd 1 Ng [] (ra (ba 0) Ja)) Ti.D (λ_=>.bl true) (g σ) (λi _=>cc some (Ht a _ i)) (by omega) (λt h j=>by
  have:=Η (o t h) (σ++j);simp[this]) (λ_ _=>by simp)
 have l2:=kx (ix:=[]) (fe:=Ba Oa (ba 0) (eC (.int 2))) Ti.D (λt=>.int t.w) (g σ) (λi _=>cc some (Ht a _ i)) (by omega) (λt h j=>by simp[Ti.D]) (λd r=>by simp);have k:a.map (λt=>D.int t.w)=(a.map Ti.w).map D.int:=by rw[dc];rfl
 rw[k]at l2;have b:=QZ (σ:=σ) (f:=λ_:Ti=>true) (l:=a);rw[show a.all (λ_=>true)=true from Vb.mpr λ_ _=>rfl]at b;have s1:=eY (σ:=σ) (l:=a.map Ti.w) (by simp;omega);have p:Fj [.Ka (a.map Ti.D)] σ=.ok (.int (a.length:Int)) σ:=by
  have:=YM (σ:=σ) (a.map Ti.D);simpa using this
 have n:decide ((a.length:Int) > 6)=false:=by simp;omega
 have m:(((Ou (a.map Ti.w)).length:Int) == (a.length:Int))=decide (a.map Ti.w).Nodup:=by
  have c:=T5 (a.map Ti.w);have e:(a.map Ti.w).length=a.length:=by simp
  by_cases h:(a.map Ti.w).Nodup
  ·rw[lb h,c.mpr h,e];simp
  ·rw[Ua h];have:(Ou (a.map Ti.w)).length≠a.length:=λz=>h (c.mp (by rw[z,e]));simp;omega
 unfold Tf BJ;generalize ((Ou (a.map Ti.w)).length:Int)=M,(a.length:Int)=N,a.map (λ_=>D.bl true)=q,a.map Ti.D=TT,(a.map Ti.w).map D.int=W at *;simp[l1,l2,b,s1,p,n,m,-wq]
def Gs(a b:Int):Bool:=bd (.int a) 0 2000000000000 && bd (.int b) 0 2000000000000
theorem QM(i:0<=n/\n<=1000000)(j:∀ t∈ts,t.Ok)(h:ts.length<=6)(c:Ta):md [Bm n a b ts] c=.ok (.bl (Gs a b && decide (ts.map Ti.w).Nodup)) c:=by
 have e:=pL i c;have f:Ie [.Ka [.int a,.int b]] c=.ok (.bl (Gs a b)) c:=by
  have w:=iz (d:=.int a) rfl 0 2000000000000 c;have k:=iz (d:=.int b) rfl 0 2000000000000 c;unfold Ie bM Gs;generalize bd (.int a) 0 2000000000000=B at *;cases B<;>simp[w,k]
 have g:=Y3 j h c;unfold Bm md LJ;generalize Gs a b=B,D.Ka (ts.map Ti.D)=TT at *;cases B<;>simp[e,f,g]
theorem hZ{a:List Ti}(d:6<a.length)(b:Ta):Tf [.Ka (a.map Ti.D)] b=.ok (.bl false) b:=by
 have c:decide ((a.length:Int) > 6)=true:=by simp;omega
 unfold Tf BJ;simp[c]
theorem ygi(i:0<=n/\n<=1000000)(h:6<ts.length)(c:Ta):md [Bm n a b ts] c=.ok (.bl false) c:=by
 have e:=pL i c;have f:Ie [.Ka [.int a,.int b]] c=.ok (.bl (Gs a b)) c:=by
  have w:=iz (d:=.int a) rfl 0 2000000000000 c;have j:=iz (d:=.int b) rfl 0 2000000000000 c;unfold Ie bM Gs;generalize bd (.int a) 0 2000000000000=B at *;cases B<;>simp[w,j]
 have g:=hZ h c;unfold Bm md LJ;generalize Gs a b=B,D.Ka (ts.map Ti.D)=TT at *;cases B<;>simp[e,f,g]
structure Hs(n a b:Int)(ts:List Ti):Prop where
 n:0<=n/\n<=1000000
 a:0<=a/\a<=2000000000000
 b:0<=b/\b<=2000000000000
 t:∀ t∈ts,t.Ok
 l:ts.length<=6
 d:(ts.map Ti.w).Nodup
theorem tz(h:Hs n a b ts)(c:Ta):md [Bm n a b ts] c=.ok (.bl true) c:=by
 rw[QM h.n h.t (by have:=h.l;omega)];simp[Gs,bd,h.a,h.b,h.d]
theorem VA(t:Ti):cl t.D=true:=by unfold Ti.D;simp
theorem tQ(b:List Ti):fg (b.map Ti.D)=true:=Jt λd a=>by obtain⟨t,_,rfl⟩:=gb.mp a;exact VA t
theorem HW(n a b:Int)(ts:List Ti):cl (Bm n a b ts)=true:=by
 unfold Bm;simp[tQ]
theorem zsd(g:0<=u/\u<=1000000000000)(h:0<=v/\v<=1000000000000)(c:Ta):Vi [.int u,.int v] c=.ok (Bm 0 u v []) c:=by
 have d:=tz (n:=0) (a:=u) (b:=v) (ts:=[]) ⟨by omega,by omega,by omega,by simp,by simp,by simp⟩ c;have e:Hh [.int 0,.Ka [.int u,.int v],.wc] c=.ok (Bm 0 u v []) c:=by
  unfold Bm at d ⊢;simp only[Vr]at d ⊢;unfold Hh iJ;simp[d]
 have f:=HW 0 u v [];unfold Vi vW;simp[e,f]
theorem lY(a b:Int)(c:Ta):Eu [.Ka [.int a,.int b]] c=.ok (.int (a+b)) c:=by
 simp[Eu,qt]
theorem lT(l:List Int)(a:Ta):Eu [.la (l.map D.int)] a=.ok (.int l.sum) a:=by
 simp[Eu]
theorem cL(n a b:Int)(k:ts.length<=6)(σ:Ta):Gh [Bm n a b ts] σ=.ok (.int (a+b+Pr ts)) σ:=by
 have f:∀ σ,Oa (Bm n a b ts) (.int 2) σ=.ok (.Ka (ts.map Ti.D)) σ:=λσ=>by simp[Bm]
 have e:∀ σ,Oa (Bm n a b ts) (.int 1) σ=.ok (.Ka [.int a,.int b]) σ:=λσ=>by simp[Bm]
 have l:=kx (s:=.seq (ts.map Ti.D)) (ix:=[]) (fe:=Ba Oa (ba 0) (eC (.int 1))) (ρ:=[some (Bm n a b ts)]) (σ:=σ) (src:=gi (Ba Oa (ba 0) (eC (.int 2)))) Ti.D (λt=>.int t.a) (by simp[f]) (λi _=>cc some (Ht ts _ i)) (by omega) (λt h j=>by simp[Ti.D]) (λd g=>by simp);have c:ts.map (λt=>D.int t.a)=(ts.map Ti.a).map D.int:=by rw[dc];rfl
 rw[c]at l;have o:=lT (ts.map Ti.a) σ;unfold Gh XT;generalize (ts.map Ti.a).map D.int=G,Bm n a b ts=S at *;simp[e,l,lY,o,Pr,-wq]
theorem sP(h:Hs n a b ts)(c:Ta):ke [Bm n a b ts,.int (a+b+Pr ts)] c=.ok (.bl true) c:=by
 have d:=tz h c;have e:=cL n a b (by have:=h.l;omega) c;unfold ke yU;simp[d,e]
abbrev Kv:=List (ud × D)
structure Sn where
 (n a b:Int)
 ts:List Ti
def Sn.D(s:Sn):L4.D:=Bm s.n s.a s.b s.ts
theorem Aj(s:Sn):cl s.D=true:=HW ..
theorem EB(ss:List Sn):fg (ss.map Sn.D)=true:=Jt λd a=>by obtain⟨s,_,rfl⟩:=gb.mp a;exact Aj s
theorem s0(s:Sn)(a:Ta):Oa s.D (.int 0) a=.ok (.int s.n) a:=by unfold Sn.D Bm;simp
theorem s1(s:Sn)(c:Ta):Oa s.D (.int 1) c=.ok (.Ka [.int s.a,.int s.b]) c:=by unfold Sn.D Bm;simp
theorem s2(s:Sn)(a:Ta):Oa s.D (.int 2) a=.ok (.Ka (s.ts.map Ti.D)) a:=by unfold Sn.D Bm;simp
def ow(q:Int)(s:Sn):Int:=if q=0 then s.a else s.b
theorem FU(d:q=0\/q=1)(s:Sn)(c:Ta):Oa (.Ka [.int s.a,.int s.b]) (.int q) c=.ok (.int (ow q s)) c:=by
 rcases d with rfl|rfl<;>simp[ow]
structure Sn.Ok(W:Int)(s:Sn):Prop where
 st:Hs s.n s.a s.b s.ts
 w:s.a+s.b+Pr s.ts=W
def kh(q:Int)(a:List Sn):D:=.Ka [.int q,.la (a.map Sn.D),.yc [] []]
def gm(q:Int)(K:List Int)(P:List D):D:=.obj 8 ["every","last_look","known","pots"] [.int (5+q),.int 0,.la (K.map D.int),.la P]
theorem fW(K:List Int):fg (K.map D.int)=true:=Jt λd a=>by obtain⟨s,_,rfl⟩:=gb.mp a;rfl
theorem VL(q:Int)(a:List Sn):cl (kh q a)=true:=by unfold kh;simp[cl,EB]
theorem yrf(q:Int)(K:List Int)(h:fg P=true):cl (gm q K P)=true:=by unfold gm;simp[h]
structure Lo where
 (w:Int)
 (k:Str)
 (v d:Int)
def Lo.D(l:Lo):L4.D:=.Ka [.str l.k,.int l.v,.int l.d]
structure Rd where
 (f:Int)
 (x:List Lo)
def zl(x:List Lo):Kv:=x.map λl=>(.inl l.w,l.D)
def Rd.D(r:Rd):L4.D:=.Ka [.int r.f,.yc ((zl r.x).map (·.1)) ((zl r.x).map (·.2))]
noncomputable def lk(K:List Int)(q:Int)(t:Ti):Str:=if t.p=q then (if t.y<=0 then "back" else "open")else if t.y<=0 then "gone" else if t.w∈K/\5+q<t.y then "sure" else "hangs"
def sB(k:Str):Bool:=k == "sure" || k == "back"
def fa(K:List Int)(q:Int)(t:Ti):Int:=if sB (lk K q t)then t.a else 0
def Op(K:List Int)(q:Int)(a:List Ti):Int:=(a.map (fa K q)).sum
def lo(K:List Int)(q:Int)(t:Ti):Lo:=⟨t.w,lk K q t,t.a,t.y⟩
def rd(K:List Int)(q:Int)(s:Sn):Rd:=⟨ow q s+Op K q s.ts,s.ts.map (lo K q)⟩
theorem KW(l:Lo):cl l.D=true:=by unfold Lo.D;simp
theorem oQ(x:List Lo):fg ((zl x).map (·.2))=true:=Jt λd a=>by
 unfold zl at a;rw[dc]at a;obtain⟨l,_,rfl⟩:=gb.mp a;exact KW l
theorem jI(r:Rd):cl r.D=true:=by unfold Rd.D;simp[cl,oQ]
theorem x4(b:List Rd):fg (b.map Rd.D)=true:=Jt λd a=>by obtain⟨s,_,rfl⟩:=gb.mp a;exact jI s
@[simp] theorem zra(b:Ev)(a:Ta):zu b a=.ok (.ref a.length) (a++[.yc []]):=nr rfl
@[simp] theorem zmn(o:D->List D->M D)(f:Ev->M D)(b:Ev->M (List D))(a:Ev)(c:Ta):BI o f b a c=(f a c).bind (gz o (b a)):=nr rfl
@[simp] theorem zv6(f b fi:Ev->M D)(a:Ev)(c:Ta):mu f b fi a c=Ln a (nL a b fi) (f a c):=Wn ..
@[simp] theorem zwl(b fi:Ev->M D)(d:D)(a:Ev)(c:Ta):nL a b fi d c=Ln a (iN a fi d) (b a c):=Wn ..
@[simp] theorem zwm(fi:Ev->M D)(d x:D)(a:Ev)(b:Ta):iN a fi d x b=Ln a (ku a d x) (fi a b):=Wn ..
theorem Dw(h:σ[n]?=some (.yc kvs))(a:kvs.length<1000):ku ρ d (.ref n) (.int w) σ=.ok (.nx ρ) (σ.set n (.yc (Jn kvs (.inl w) d))):=by
 unfold ku;simp only[Ip,h];rw[ia (show kvs.length<ai from a)]
theorem tN{f:D->Option D}(a:∀ d,cl d=true->f d=some d):∀ {xs:List D},fg xs=true->Fn f xs=some xs
 |[],_=>rfl
 |x::xs,h=>by
  rw[fg,Ca]at h;rw[Fn,a x h.1,tN a h.2]
theorem AU(h:fg (kvs.map (·.2))=true):fz σ.length (σ++.yc kvs::j) (m+1) (.ref σ.length)=some (.yc (kvs.map (·.1)) (kvs.map (·.2))):=by
 have e:(σ++Ob.yc kvs::j)[σ.length]?=some (.yc kvs):=by simp
 unfold fz;dsimp only;rw[ka (Zd _),e];dsimp only;rw[tN (λd a=>VC a) h];rfl
theorem U6(a:Ta)(m:Int)(xs:List Int):Ow a (.int m) (xs.map D.int)=some (xs.map λx=>decide (x=m)):=by
 induction xs with
 |nil=>rfl
 |cons x xs b=>
  rw[Ra,Ra,Ow,b];have:li a 7 (.int x) (.int m)=some (decide (x=m)):=by
   simp[li,kd,Io,Mj];by_cases h:x=m<;>simp[h]
  rw[this]
theorem Ï(K:List Int)(w:Int)(a:Ta):SC false (.int w) (.la (K.map D.int)) a=.ok (.bl (decide (w∈K))) a:=by
 have:yj a (.la (K.map D.int))=some (K.map D.int):=rfl;unfold SC;simp only[this,U6];have e:((K.map λx=>decide (x=w)).any id)=decide (w∈K):=by
  rw[List.any_map];by_cases h:w∈K
  ·rw[lb h,jg];exact⟨w,h,by simp⟩
  ·rw[Ua h,Ov];intro x b;simp;intro z;exact h (z ▸ b)
 simp[e]
theorem Ρ(K:List Int)(q:Int)(t:Ti):lk K q t = "back"\/lk K q t = "open"\/lk K q t = "gone"\/lk K q t = "sure"\/lk K q t = "hangs":=by
 unfold lk;repeat' split
 all_goals simp
theorem N7(K:List Int)(q:Int)(t:Ti)(a:Ta):vF false ["won","sure","back"] (.str (lk K q t)) a=.ok (.bl (sB (lk K q t))) a:=by
 rcases Ρ K q t with h|h|h|h|h<;>rw[h]<;>exact nr rfl
section
variable(K:List Int)(P:List D)(σ:Ta)(q:Int)(ss:List Sn)
theorem õ(t:Ti):Ai [gm q K P,kh q ss,t.D] σ=.ok (.str (lk K q t)) σ:=by
 have d:∀ σ,Uc [8,9] "last_look" (gm q K P) σ=.ok (.int 0) σ:=λσ=>xo (Ho rfl) rfl rfl;have n:∀ σ,Uc [8,9] "known" (gm q K P) σ=.ok (.la (K.map D.int)) σ:=λσ=>xo (Ho rfl) rfl rfl;have o:∀ σ,Uc [8,9] "every" (gm q K P) σ=.ok (.int (5+q)) σ:=λσ=>xo (Ho rfl) rfl rfl;have s:∀ σ,Oa (kh q ss) (.int 0) σ=.ok (.int q) σ:=λσ=>by unfold kh;simp
 have u:∀ σ,Oa (kh q ss) (.int 2) σ=.ok (.yc [] []) σ:=λσ=>by unfold kh;simp
 have r:∀ σ,Oa t.D (.int 0) σ=.ok (.int t.p) σ:=λσ=>by unfold Ti.D;simp
 have k:∀ σ,Oa t.D (.int 2) σ=.ok (.int t.w) σ:=λσ=>by unfold Ti.D;simp
 have e:∀ σ,Oa t.D (.int 3) σ=.ok (.int t.y) σ:=λσ=>by unfold Ti.D;simp
 have v:∀ σ,qw (.int t.w) (.yc [] []) σ=.ok (.bl false) σ:=λσ=>nr rfl;have g:=Ï K t.w;have f:∀ σ,ce [t.D,.yc [] []] σ=.ok (.bl false) σ:=λσ=>by
  unfold ce dQ;simp[k,v]
 have x:∀ σ,Yf [gm q K P,.yc [] [],t.D] σ=.ok (.str (if t.y<=0 then "gone" else if t.w∈K/\5+q<t.y then "sure" else "hangs")) σ:=λσ=>by
  unfold Yf cW;by_cases a:t.y<=0
  ·have c:decide ((0:Int) ≥ t.y)=true:=lb a;simp[f,d,e,c,a]
  ·have c:decide ((0:Int) ≥ t.y)=false:=Ua a;by_cases i:t.w∈K
   ·have l:decide (t.w∈K)=true:=lb i;rw[l]at g;by_cases j:5+q<t.y
    ·have m:decide (5+q<t.y)=true:=lb j;rw[ka a,ia ⟨i,j⟩];simp[f,d,n,o,k,e,c,g,m]
    ·have m:decide (5+q<t.y)=false:=Ua j;rw[ka a,ka λz=>j z.2];simp[f,d,n,o,k,e,c,g,m]
   ·have l:decide (t.w∈K)=false:=Ua i;rw[l]at g;rw[ka a,ka λz=>i z.1];simp[f,d,n,o,k,e,c,g]
 have A:∀ σ,Af [gm q K P,.yc [] [],t.D] σ=.ok (.str (if t.y<=0 then "back" else "open")) σ:=λσ=>by
  unfold Af oR;by_cases a:t.y<=0
  ·have c:decide ((0:Int) ≥ t.y)=true:=lb a;simp[f,d,e,c,a]
  ·have c:decide ((0:Int) ≥ t.y)=false:=Ua a;simp[f,d,e,c,a]
 unfold Ai fO lk;by_cases h:t.p=q
 ·simp only[h,xg];rw[h]at r;simp[s,u,r,A]
 ·have b:(t.p == q)=false:=by simp[h]
  simp only[h,yi];simp[s,u,r,x,b]
theorem BC(d:D)(h:∀ p∈a,p.1≠.inl w):Jn a (.inl w) d=a++[(.inl w,d)]:=by
 unfold Jn;rw[ka];intro z;obtain⟨p,b,e⟩:=jg.mp z;exact h p b (by simpa using e)
theorem GU(S:D):∀ (ts c:List Ti) (f:Int) (s j:Option D),((c++ts).map Ti.w).Nodup->(c++ts).length<=9->∃ g h,Cm (je 5) lI (ts.map Ti.D) [some (gm q K P),some (kh q ss),some S,some (.int f),some (.ref σ.length),s,j] (σ++[.yc (zl (c.map (lo K q)))])=.ok (.nx [some (gm q K P),some (kh q ss),some S,some (.int (f+Op K q ts)),some (.ref σ.length),g,h]) (σ++[.yc (zl ((c++ts).map (lo K q)))])
 |[],c,f,s,j,_,_=>⟨s,j,by simp[Op]⟩
 |t::ts,c,f,s,j,hd,z=>by
  have l:=λσ=>õ K P σ q ss t;have H:∀ σ,Oa t.D (.int 1) σ=.ok (.int t.a) σ:=λσ=>by unfold Ti.D;simp
  have I:∀ σ,Oa t.D (.int 2) σ=.ok (.int t.w) σ:=λσ=>by unfold Ti.D;simp
  have J:∀ σ,Oa t.D (.int 3) σ=.ok (.int t.y) σ:=λσ=>by unfold Ti.D;simp
  have i:∀ p∈zl (c.map (lo K q)),p.1≠.inl t.w:=λp u e=>by
   unfold zl at u;rw[dc]at u;obtain⟨A,v,rfl⟩:=gb.mp u;have e:A.w=t.w:=by simpa [lo]using e
   rw[Ic,Ra,We]at hd;exact hd.2.2 A.w (Tc v) t.w Ha e
  have st:=λρ=>Dw (ρ:=ρ) (σ:=σ++[.yc (zl (c.map (lo K q)))]) (d:=.Ka [.str (lk K q t),.int t.a,.int t.y]) (n:=σ.length) (w:=t.w) (kvs:=zl (c.map (lo K q))) (by simp) (by unfold zl;simp at z ⊢;omega);rw[RE,BC _ i,show zl (c.map (lo K q))++[((.inl t.w),D.Ka [.str (lk K q t),.int t.a,.int t.y])]=zl ((c++[t]).map (lo K q)) by simp[zl,lo,Lo.D]]at st;have G:=N7 K q t;have E:∀ (f:Ev->M D) (k m o r g h:Option D) (x:D) (σ:Ta),iy (λa b=>a+b) 3 f [k,m,o,some x,r,g,h] σ=Ln [k,m,o,some x,r,g,h] (LD (λa b=>a+b) 3 [k,m,o,some x,r,g,h] x) (f [k,m,o,some x,r,g,h] σ):=λf k m o r g h x σ=>iR rfl;obtain⟨g,h,F⟩:=GU S ts (c++[t]) (f+fa K q t) (some t.D) (some (.str (lk K q t))) (by rw[Wg];exact hd) (by rw[Wg];exact z);refine⟨g,h,?_⟩;rw[show f+Op K q (t::ts)=f+fa K q t+Op K q ts by simp[Op];omega,show c++t::ts=c++[t]++ts by simp,<-F,Ra,au];simp only[Cc,Dc];have b:lI [some (gm q K P),some (kh q ss),some S,some (.int f),some (.ref σ.length),some t.D,j] (σ++[.yc (zl (c.map (lo K q)))])=.ok (.nx [some (gm q K P),some (kh q ss),some S,some (.int (f+fa K q t)),some (.ref σ.length),some t.D,some (.str (lk K q t))]) (σ++[.yc (zl ((c++[t]).map (lo K q)))]):=by
   unfold lI fa;generalize σ++[.yc (zl (c.map (lo K q)))]=Y,σ++[.yc (zl ((c++[t]).map (lo K q)))]=Z,kh q ss=P,gm q K P=V,t.D=L,lk K q t=C at *;generalize sB C=B at *;cases B<;>simp[l,H,I,J,st,G,E]
  rw[b,gf,lq]
theorem pY(d:q=0\/q=1){s:Sn}(b:(s.ts.map Ti.w).Nodup)(c:s.ts.length<=9):vf [gm q K P,kh q ss,s.D] σ=.ok (rd K q s).D σ:=by
 have e:∀ σ,Oa (kh q ss) (.int 0) σ=.ok (.int q) σ:=λσ=>by unfold kh;simp
 have g:=s1 s;have i:=s2 s;have k:=FU d s;obtain⟨l,n,a⟩:=GU K P σ q ss s.D s.ts [] (ow q s) none none b c;have a:Cm _ _ _ _ (σ++[.yc []])=.ok (.nx [some (gm q K P),some (kh q ss),some s.D,some (.int (rd K q s).f),some (.ref σ.length),l,n]) (σ++[.yc (zl (rd K q s).x)]):=a;have fz:Uh σ (.ok (.Ka [.int (rd K q s).f,.ref σ.length]) (σ++[.yc (zl (rd K q s).x)]))=.ok (rd K q s).D σ:=by
  unfold Uh;dsimp only;rw[ia (by simp)];have h:=AU (σ:=σ) (j:=[]) (m:=4) (oQ (rd K q s).x);have:fz σ.length (σ++[.yc (zl (rd K q s).x)]) 6 (.Ka [.int (rd K q s).f,.ref σ.length])=some (rd K q s).D:=by
   unfold fz;dsimp only;unfold Fn;unfold Fn;rw[h];rfl
  rw[this]
 unfold vf YS;simp[e,g,i,k,a,fz]
end
theorem zju(h:ys.length+zs.length<=1000):Ez (.ref σ.length) [.la zs] (σ++[.la ys])=.ok .wc (σ++[.la (ys++zs)]):=by
 have e:rh (σ++[Ob.la ys]) (.la zs)=some zs:=rfl;unfold Ez;simp only[KC,e];rw[ia (show _<=ai from h),RE]
abbrev Fy{b:Type}(a:List b):Prop:=(∃ s,a=[s])\/∃ s t,a=[s,t]
theorem Fy.le{a:List b}(h:Fy a):a.length<=2:=by rcases h with⟨s,rfl⟩|⟨s,t,rfl⟩<;>simp
theorem Fy.map{a:List b}(h:Fy a)(f:b->c):Fy (a.map f):=by
 rcases h with⟨s,rfl⟩|⟨s,t,rfl⟩
 ·exact .inl ⟨_,rfl⟩
 ·exact .inr ⟨_,_,rfl⟩
theorem GY{xs c:List D}(e:ba i d σ=.ok (.la xs) σ)(f:ba j d σ=.ok (.la c) σ):Hy (ba i) (ba j) d σ=.ok (vH (.la xs) (.la c)) σ:=by
 have a:rh σ (.la xs)=some xs:=rfl;have b:rh σ (.la c)=some c:=rfl;unfold Hy;rw[tp,e,gf];unfold RM;rw[tp,f,gf];unfold aI;simp only[a,b]
def ut{c:Type}(a:c->Int):List c->c->c
 |[],b=>b
 |x::xs,b=>if a x<a b then ut a xs x else ut a xs b
theorem TJ{f:Type}(a:f->Int):∀ (xs:List f) (b:f),∀ y∈b::xs,a (ut a xs b)<=a y
 |[],b,y,d=>by
  have:y=b:=by simpa using d
  rw[this];exact eg _
 |x::xs,b,y,d=>by
  unfold ut;split
  ·next h=>
   have c:=TJ a xs x;rcases Ea.mp d with e|e
   ·have:=c x Ha;rw[e];omega
   ·exact c y e
  ·next h=>
   have c:=TJ a xs b;rcases Ea.mp d with e|e
   ·rw[e];exact c b Ha
   ·rcases Ea.mp e with e|e
    ·have:=c b Ha;rw[e];omega
    ·exact c y (Na _ e)
theorem kJ{d:Type}{f:d->D}{a:d->Int}{e:Ev->M D}{rest:Ev}{σ:Ta}:∀ (xs:List d) (b:d),(∀ x∈xs,e (some (f x)::rest) σ=.ok (.int (a x)) σ)->px e rest (xs.map f) (f b) (a b) σ=.ok (f (ut a xs b)) σ
 |[],b,_=>rfl
 |x::xs,b,h=>by
  have i:=h x Ha;have g:=λy j=>h y (Na _ j);rw[Ra];unfold px ut;rw[tp,ZG i,gf];dsimp only;by_cases c:a x<a b
  ·rw[ia c,ia c];exact kJ xs x g
  ·rw[ka c,ka c];exact kJ xs b g
theorem XR{f:a->D}{key:a->Int}{rest:Ev}{xs:List a}{x:a}(h:∀ y∈x::xs,fe (some (f y)::rest) σ=.ok (.int (key y)) σ):gA fe rest [.la ((x::xs).map f)] σ=.ok (f (ut key xs x)) σ:=by
 rw[Ra];unfold gA;dsimp only;rw[tp,ZG (h x Ha),gf];exact kJ xs x λy b=>h y (Na _ b)
@[simp] theorem zrd(d:List Nat)(b:Ev->M D)(c:Ev->M (List D))(a:Ev)(e:Ta):DG d b c a e=(c a e).bind (gA b (d.map λi=>(a[i]?).getD none)):=nr rfl
def RL(a:List Rd):D:=.la [.la (a.map Rd.D)]
section
variable{q:Int}(hq:q=0\/q=1){ss:List Sn}(hs:Fy ss)(K:List Int)(σ:Ta)(hd:∀ s∈ss,(s.ts.map Ti.w).Nodup/\s.ts.length<=9)
include hq hs hd
theorem zv3:Bg [gm q K [kh q ss]] σ=.ok (RL (ss.map (rd K q))) σ:=by
 have c:∀ σ,Uc [8] "pots" (gm q K [kh q ss]) σ=.ok (.la [kh q ss]) σ:=λσ=>xo (Ho rfl) rfl rfl;have l:Bh (pj (Fk (gi (Ba Oa (ba 2) (eC (.int 1))))) [0,2] (je 0) ik (yd 3 vf [] (ra (ba 2) (ra (ba 3) (ra (ba 0) Ja))))) [some (gm q K [kh q ss]),some (.ref σ.length),some (kh q ss)] (σ++[.la []])=.ok (.la ((ss.map (rd K q)).map Rd.D)) (σ++[.la []]):=by
  rw[dc];refine kx (s:=.seq (ss.map Sn.D)) (ix:=[0,2]) Sn.D _ (by unfold kh;simp) (λi _=>cc some (Ht ss _ i)) (by have:=hs.le;omega) (λs a j=>?_) (λs _=>jI _);have r:=pY K [kh q ss] (σ++[.la []]++j) q ss hq (hd s a).1 (hd s a).2;rw[show (Rd.D ∘ rd K q) s=(rd K q s).D from rfl];generalize σ++[Ob.la []]++j=Y,s.D=k,kh q ss=n,gm q K [kh q ss]=V,(rd K q s).D=R at *;simp[r]
 have b:=UE (σ:=σ) (xs:=[]) (d:=.la ((ss.map (rd K q)).map Rd.D)) (by simp);have f:∀ m,Ew Mn m (.ref σ.length) (σ++[.la []])=(m (σ++[.la []])).bind (Mn (.ref σ.length)):=λm=>Mz (xs:=[]) (by unfold rh bi;simp);have fz:Uh σ (.ok (.ref σ.length) (σ++[.la ([]++[.la ((ss.map (rd K q)).map Rd.D)])]))=.ok (RL (ss.map (rd K q))) σ:=xE (by simp only[Qx,fg,cl,x4];rfl);have e:Cm (je 2) uW [kh q ss] [some (gm q K [kh q ss]),some (.ref σ.length),none] (σ++[.la []])=.ok (.nx [some (gm q K [kh q ss]),some (.ref σ.length),some (kh q ss)]) (σ++[.la ([]++[.la ((ss.map (rd K q)).map Rd.D)])]):=by
  generalize kh q ss=P,gm q K [kh q ss]=V,σ++[Ob.la []]=Y,σ++[Ob.la ([]++[.la ((ss.map (rd K q)).map Rd.D)])]=Z,(ss.map (rd K q)).map Rd.D=g at *;simp[f,l,b,-wq]
 unfold Bg FQ;generalize kh q ss=P,gm q K [kh q ss]=V,σ++[Ob.la ([]++[.la ((ss.map (rd K q)).map Rd.D)])]=Z,RL (ss.map (rd K q))=h at *;simp[c,e,fz]
end
section
variable{ss:List Rd}(hs:Fy ss)(σ:Ta)
include hs
abbrev Rx:=Rd × Nat
def cD(p:Rx):D:=.la [.int p.2]
theorem T3:Me [RL ss] σ=.ok (.la (ss.zipIdx.map cD)) σ:=by
 have r:=hs.le;have c:∀ (i:Nat) a,Nh (.la []) (.la [.int i]) a=.ok (.la [.int i]) a:=λi a=>by rw[uC (by unfold ai;simp)];rfl
 have h:∀ a,Fj [.la (ss.map Rd.D)] a=.ok (.int ss.length) a:=λa=>by simp
 have l:∀ (R C b:Option D) (a:Ta),Bh (pj (Fk (Pu (ah Fj (ra (ba 2) Ja)))) [4] (je 0) ik (Ba Nh (ba 2) (ci (ra (ba 0) Ja)))) [R,C,some (.la (ss.map Rd.D)),b,some (.la [])] a=.ok (.la (ss.zipIdx.map cD)) a:=λR C b a=>by
  have n:Fz (.int ss.length) a=.ok (.seq ((List.range ss.length).map λ(i:Nat)=>.int i)) a:=by
   rw[iG (by omega) (by omega)];rfl
  have o:Pu (ah Fj (ra (ba 2) Ja)) [R,C,some (.la (ss.map Rd.D)),b,some (.la [])] a=.ok (.seq ((List.range ss.length).map λ(i:Nat)=>.int i)) a:=by
   generalize ss.map Rd.D=q at *;simp[h,n]
  have:=kx (ix:=[4]) (xs:=List.range ss.length) (fe:=Ba Nh (ba 2) (ci (ra (ba 0) Ja))) (λ(i:Nat)=>.int i) (λ(i:Nat)=>.la [.int i]) o (λi _=>cc some (Ht (List.range ss.length) _ i)) (by simp;omega) (λi _ j=>by
   have:=c i (a++j);simp[this]) (λi _=>by simp)
  rw[this];rcases hs with⟨s,rfl⟩|⟨s,t,rfl⟩<;>rfl
 have ex:=zju (σ:=σ) (ys:=[]) (zs:=ss.zipIdx.map cD) (by simp;omega);have k:∀ m,Ew Ez m (.ref σ.length) (σ++[.la []])=(m (σ++[.la []])).bind (Ez (.ref σ.length)):=λm=>Mz (xs:=[]) (by unfold rh bi;simp);rw[Qx]at ex;have fz:Uh σ (.ok (.ref σ.length) (σ++[.la (ss.zipIdx.map cD)]))=.ok (.la (ss.zipIdx.map cD)) σ:=xE (Jt λd e=>by obtain⟨p,_,rfl⟩:=gb.mp e;unfold cD;simp);have st:∀ R C,RG [R,C,some (.la (ss.map Rd.D)),some (.ref σ.length),some (.la [])] (σ++[.la []])=.ok (.nx [R,C,some (.la (ss.map Rd.D)),some (.ref σ.length),some (.la [])]) (σ++[.la (ss.zipIdx.map cD)]):=λR C=>by
  unfold RG;simp[k,l,ex,-wq]
 have g:∀ R C,Cm (je 4) RG [.la []] [R,C,some (.la (ss.map Rd.D)),some (.ref σ.length),none] (σ++[.la []])=.ok (.nx [R,C,some (.la (ss.map Rd.D)),some (.ref σ.length),some (.la [])]) (σ++[.la (ss.zipIdx.map cD)]):=λR C=>by
  rw[au];simp only[Cc,Dc];rw[st,gf,lq,fB]
 have f:∀ R,Cm (je 2) aP [.la (ss.map Rd.D)] [R,some (.la [.la []]),none,none,none] σ=.ok (.nx [R,some (.ref σ.length),some (.la (ss.map Rd.D)),some (.ref σ.length),some (.la [])]) (σ++[.la (ss.zipIdx.map cD)]):=λR=>by
  simp[g]
 unfold Me GW RL;simp[f,fz]
omit hs
theorem x3{p:Rx}(c:ss[p.2]?=some p.1):Dd [RL ss,cD p] σ=.ok (.la [p.1.D]) σ:=by
 have b:cl (.la [p.1.D])=true:=by simp[jI]
 have d:∀ σ,Oa (.la (ss.map Rd.D)) (.int p.2) σ=.ok (p.1.D) σ:=λσ=>Tz (Tr (by rw[jb,c];rfl));have l:=VU (xs:=[p]) (ix:=[]) (fe:=Ba Oa (ba 0) (ba 1)) (ρ:=[some (RL ss),some (cD p)]) (λ_=>.la (ss.map Rd.D)) (λx=>.int x.2) (λx=>x.1.D) (GY (i:=0) (j:=1) (σ:=σ) rfl rfl) (λi j h=>by
  match i,h with
  |0,_=>rfl
  |1,_=>rfl) (by simp) (λx a j=>by
  have a:x=p:=by simpa using a
  subst a;have:=d (σ++j);simp[this]) (λx _=>jI _)
 have l:Bh _ _ σ=.ok (.la [p.1.D]) σ:=l;unfold Dd VV;simp[l,b,-wq]
end
theorem LO(A:Kv)(a:Ta):Xt A A.length a=some none:=by unfold Xt;simp
theorem A5(h:f b a=.ok (.yc (A.map (·.1)) (A.map (·.2))) a):AA f b a=.ok (Xt A) a:=by
 have z:∀ A:Kv,(A.map (·.1)).zip (A.map (·.2))=A:=λA=>by
  induction A with
  |nil=>rfl
  |cons x r c=>rw[Ra,Ra,List.zip_cons_cons,c]
 show Fd (f b) LF a=_;rw[tp,h,gf];unfold LF;dsimp only;rw[ia (by simp),z]
theorem gQ{nx:NX}{m:D->Ev->Option Ev}{f:Ev->M Fl}{N:Nat}(P:Nat->Ev->Ta->Prop)(l:∀ i ρ σ,i<N->P i ρ σ->∃ d g b e,nx i σ=some (some d)/\m d ρ=some g/\f g σ=.ok (.nx b) e/\P (i+1) b e)(j:∀ σ,nx N σ=some none):∀ (k i:Nat) (ρ:Ev) (σ:Ta),N<k+i->i<=N->P i ρ σ->∃ a c,Qr nx m f k i ρ σ=.ok (.nx a) c/\P N a c
 |0,i,ρ,σ,t,u,_=>by omega
 |k+1,i,ρ,σ,t,u,h=>by
  by_cases v:i=N
  ·subst v;exact⟨ρ,σ,qK (j σ),h⟩
  ·obtain⟨d,g,b,e,n,o,p,q⟩:=l i ρ σ (by omega) h;obtain⟨a,c,r,s⟩:=gQ P l j k (i+1) b e (by omega) (by omega) q;refine⟨a,c,?_,s⟩;rw[nM n o,p,gf,lq,r]
theorem HM{A:Kv}(h:f ρ σ=.ok (.yc (A.map (·.1)) (A.map (·.2))) σ)(r:A.length<=1000)(P:Nat->Ev->Ta->Prop)(q:∀ i k v ρ σ,A[i]?=some (k,v)->P i ρ σ->∃ a b c,tg (.Ka [sE k,v]) ρ=some a/\body a σ=.ok (.nx b) c/\P (i+1) b c)(n:P 0 ρ σ):∃ d g,yw (AA f) tg body ρ σ=.ok (.nx d) g/\P A.length d g:=by
 rw[oz,A5 h,Hq];refine gQ P (λi ρ σ p o=>?_) (LO A) 1001 0 ρ σ (by omega) (by omega) n;have e:A[i]?=some (A[i].1,A[i].2):=ja.mpr ⟨p,rfl⟩;obtain⟨a,b,c,j,l,m⟩:=q i _ _ ρ σ e o;refine⟨_,a,b,c,?_,j,l,m⟩;unfold Xt;simp only[e]
abbrev Gr:=List (Int × List Lo)
def gD(g:Gr):D:=.yc (g.map λp=>.inl p.1) (g.map λp=>.la (p.2.map Lo.D))
theorem S8(b:List Lo):fg (b.map Lo.D)=true:=Jt λd a=>by obtain⟨t,_,rfl⟩:=gb.mp a;exact KW t
theorem ï(a:Ta)(R rd:Option D)(w:Int)(L:D)(b:Kv)(j:Ta)(n:Rp b (.inl w)=none)(o:b.length<=9):SL [R,some (.ref a.length),rd,some (.int w),some L] (a++.yc b::j)=.ok (.nx [R,some (.ref a.length),rd,some (.int w),some L]) (a++.yc (Jn b (.inl w) (.ref (a.length+1+j.length)))::(j++[.la [L]])):=by
 have f:∀ c,gz cA c (.ref a.length) (a++.yc b::j)=(c (a++.yc b::j)).bind (cA (.ref a.length)):=λc=>by
  have:Tj (a++.yc b::j) (.ref a.length)=some b:=by unfold Tj;simp
  unfold gz;rw[this];rfl
 have h:cA (.ref a.length) [.int w,.ref (a.length+1+j.length)] (a++.yc b::(j++[.la []]))=.ok (.ref (a.length+1+j.length)) (a++.yc (Jn b (.inl w) (.ref (a.length+1+j.length)))::(j++[.la []])):=by
  have e:(a++Ob.yc b::(j++[.la []]))[a.length]?=some (.yc b):=by simp
  unfold cA;simp only[Ip,e];rw[ia (by unfold ai;omega)];simp[n]
 have g:bi (a++Ob.yc (Jn b (.inl w) (.ref (a.length+1+j.length)))::(j++[.la []])) (a.length+1+j.length)=some []:=by
  unfold bi;rw[Ld (by omega),show a.length+1+j.length - a.length=j.length+1 by omega];simp
 have i:∀ c,Ew Mn c (.ref (a.length+1+j.length)) (a++.yc (Jn b (.inl w) (.ref (a.length+1+j.length)))::(j++[.la []]))=(c (a++.yc (Jn b (.inl w) (.ref (a.length+1+j.length)))::(j++[.la []]))).bind (Mn (.ref (a.length+1+j.length))):=λc=>Mz (xs:=[]) g;have k:Mn (.ref (a.length+1+j.length)) [L] (a++.yc (Jn b (.inl w) (.ref (a.length+1+j.length)))::(j++[.la []]))=.ok .wc (a++.yc (Jn b (.inl w) (.ref (a.length+1+j.length)))::(j++[.la [L]])):=by
  have:=UE (σ:=a++.yc (Jn b (.inl w) (.ref (a.length+1+j.length)))::j) (xs:=[]) (d:=L) (by simp);have e:(a++Ob.yc (Jn b (.inl w) (.ref (a.length+1+j.length)))::j).length=a.length+1+j.length:=by simp;omega
  rw[e]at this;simpa using this
 have l:(a++Ob.yc b::j).length=a.length+1+j.length:=by simp;omega
 have m:(a++Ob.yc b::j)++[.la []]=a++.yc b::(j++[.la []]):=by simp
 simp[f,h,i,k,l,m]
theorem U0(g:List (Int × Nat × List Lo))(h:∀ p∈g,σ.length<=p.2.1/\(σ++.yc (g.map λp=>(.inl p.1,.ref p.2.1))::j)[p.2.1]?=some (.la (p.2.2.map Lo.D))):Uh σ (.ok (.ref σ.length) (σ++.yc (g.map λp=>(.inl p.1,.ref p.2.1))::j))=.ok (gD (g.map λp=>(p.1,p.2.2))) σ:=by
 have e:(σ++Ob.yc (g.map λp=>(.inl p.1,.ref p.2.1))::j)[σ.length]?=some (.yc (g.map λp=>(.inl p.1,.ref p.2.1))):=by simp
 have go:∀ T (q:List (Int × Nat × List Lo)),(∀ p∈q,σ.length<=p.2.1/\T[p.2.1]?=some (.la (p.2.2.map Lo.D)))->Fn (fz σ.length T 5) (q.map λp=>D.ref p.2.1)=some (q.map λp=>D.la (p.2.2.map Lo.D)):=λT q=>by
  induction q with
  |nil=>intro _;rfl
  |cons p q k=>
   intro a;obtain⟨l,b⟩:=a p Ha;have f:fz σ.length T 5 (.ref p.2.1)=some (.la (p.2.2.map Lo.D)):=by
    unfold fz;rw[ka (by simp)];dsimp only;rw[ka (by omega),b];dsimp only;rw[tN (λd c=>VC c) (S8 _)];rfl
   rw[Ra,Fn,f,k λp i=>a p (Na _ i)];rfl
 unfold Uh;dsimp only;rw[ia (by simp)];have:fz σ.length (σ++.yc (g.map λp=>(.inl p.1,.ref p.2.1))::j) 6 (.ref σ.length)=some (gD (g.map λp=>(p.1,p.2.2))):=by
  unfold fz;dsimp only;rw[ka (Zd _),e];dsimp only;rw[show (g.map λp=>((Sum.inl p.1:ud),D.ref p.2.1)).map (λx=>x.2)=g.map (λp=>D.ref p.2.1) by rw[dc];rfl,go _ g h];unfold gD;rw[dc,dc,dc];rfl
 rw[this]
def gx:Nat->List Lo->List (Int × Nat × List Lo)
 |_,[]=>[]
 |n,l::a=>(l.w,n,[l])::gx (n+1) a
theorem wT:∀ (n:Nat) (a:List Lo) (l:Lo),gx n (a++[l])=gx n a++[(l.w,n+a.length,[l])]
 |n,[],l=>rfl
 |n,b::a,l=>by
  show (b.w,n,[b])::gx (n+1) (a++[l])=_;rw[wT (n+1) a l,show n+(b::a).length=n+1+a.length by simp;omega];rfl
theorem fN:∀ (n:Nat) (a:List Lo) {p:Int × Nat × List Lo},p∈gx n a->∃ i l,a[i]?=some l/\p=(l.w,n+i,[l])
 |n,[],p,h=>by simp[gx]at h
 |n,b::a,p,h=>by
  rcases Ea.mp h with rfl|h
  ·exact⟨0,b,rfl,rfl⟩
  ·obtain⟨i,l,c,d⟩:=fN (n+1) a h;exact⟨i+1,l,c,by rw[d,show n+(i+1)=n+1+i by omega]⟩
theorem lU:∀ (n:Nat) (a:List Lo),(gx n a).map (λp=>(p.1,p.2.2))=a.map λl=>(l.w,[l])
 |n,[]=>rfl
 |n,b::a=>by
  show (b.w,[b])::(gx (n+1) a).map _=_;rw[lU (n+1) a];rfl
theorem BO:∀ (n:Nat) (a:List Lo),(gx n a).length=a.length
 |n,[]=>rfl
 |n,b::a=>cc (·+ 1) (BO (n+1) a)
def At(x:List Lo):Gr:=x.map λl=>(l.w,[l])
structure Rd.Ok(r:Rd):Prop where
 d:(r.x.map Lo.w).Nodup
 l:r.x.length<=9
 v:∀ l∈r.x,0<=l.v
theorem V1(h:∀ p∈a,p.1≠.inl w):Rp a (.inl w)=none:=by
 unfold Rp;rw[List.find?_eq_none.mpr λp b=>by simpa using h p b];rfl
theorem g7(h:w ∉ a.map Lo.w):∀ p∈(gx n a).map (λp=>((.inl p.1:ud),D.ref p.2.1)),p.1≠.inl w:=λp d e=>by
 obtain⟨g,c,rfl⟩:=gb.mp d;obtain⟨i,l,b,rfl⟩:=fN n a c;have e:l.w=w:=by simpa using e
 exact h (e ▸ Tc (Fa b))
theorem wO{x:List b}{a:b}(h:x[i]?=some a):x.take (i+1)=x.take i++[a]:=by
 rw[List.take_add_one,h];rfl
theorem lQ{f:b->Int}{x:List b}(c:(x.map f).Nodup){a:b}(h:x[i]?=some a):f a ∉ (x.take i).map f:=λk=>by
 have e:=(List.take_append_drop i x).symm;obtain⟨j,g⟩:=ja.mp h;have d:x.drop i=a::x.drop (i+1):=by rw[<-g];exact rg j
 rw[e,d,Ic,Ra,We]at c;exact c.2.2 _ k _ Ha rfl
theorem ŝ{r:Rd}(m:r.Ok)(a:Ta):bf [.la [r.D]] a=.ok (gD (At r.x)) a:=by
 have u:∀ a,Oa r.D (.int 1) a=.ok (.yc ((zl r.x).map (·.1)) ((zl r.x).map (·.2))) a:=λa=>by unfold Rd.D;simp
 have o:∃ b c,AL [some (.la [r.D]),some (.ref a.length),some r.D,none,none] (a++[.yc []])=.ok (.nx [some (.la [r.D]),some (.ref a.length),some r.D,b,c]) (a++.yc ((gx (a.length+1) r.x).map λp=>(.inl p.1,.ref p.2.1))::r.x.map λl=>.la [l.D]):=by
  obtain⟨G,H,e,b,c,rfl,rfl⟩:=HM (f:=Ba Oa (ba 2) (eC (.int 1))) (A:=zl r.x) (ρ:=[some (.la [r.D]),some (.ref a.length),some r.D,none,none]) (σ:=a++[.yc []]) (tg:=Wo 2 (Bi (je 3) (Bi (je 4) Jp))) (body:=SL) (by
    simp[u]) (by unfold zl;rw[zb];have:=m.l;omega) (λi q t=>∃ b c,q=[some (.la [r.D]),some (.ref a.length),some r.D,b,c]/\t=a++.yc ((gx (a.length+1) (r.x.take i)).map λp=>(.inl p.1,.ref p.2.1))::(r.x.take i).map λl=>.la [l.D]) (λi k v q t g z=>by
    obtain⟨b,c,rfl,rfl⟩:=z;unfold zl at g;rw[jb]at g;obtain⟨l,h,y⟩:=Eb.mp g;obtain⟨rfl,rfl⟩:=Mr y;have B:i<r.x.length:=(ja.mp h).1;have F:(r.x.take i).length=i:=by rw[uh];omega
    have s:=g7 (n:=a.length+1) (lQ m.d h);refine⟨[some (.la [r.D]),some (.ref a.length),some r.D,some (.int l.w),some l.D],_,_,rfl,ï a _ _ l.w l.D _ _ (V1 s) (by rw[zb,BO,F];have:=m.l;omega),some (.int l.w),some l.D,rfl,?_⟩;rw[BC _ s,wO h,wT,Ic,Ic,zb];rfl) ⟨none,none,rfl,rfl⟩
  refine⟨b,c,?_⟩;rw[show (zl r.x).length=r.x.length by unfold zl;simp,ej]at e;exact e
 obtain⟨b,c,o⟩:=o;have E:Cm (je 2) AL [r.D] [some (.la [r.D]),some (.ref a.length),none,none,none] (a++[.yc []])=.ok (.nx [some (.la [r.D]),some (.ref a.length),some r.D,b,c]) (a++.yc ((gx (a.length+1) r.x).map λp=>(.inl p.1,.ref p.2.1))::r.x.map λl=>.la [l.D]):=by
  rw[au];simp only[Cc,Dc];rw[o,gf,lq,fB]
 have fz:=U0 (σ:=a) (j:=r.x.map λl=>.la [l.D]) (gx (a.length+1) r.x) (λp C=>by
  obtain⟨i,l,e,rfl⟩:=fN _ _ C;refine⟨by dsimp only;omega,?_⟩;dsimp only;rw[Ld (by omega),show a.length+1+i - a.length=i+1 by omega,List.getElem?_cons_succ,jb,e];rfl)
 rw[lU]at fz;unfold bf UV At;simp[E,fz,-oz]
noncomputable def Ey(l:Lo):Bool:=l.k == "open"
def oD:Option Int->D
 |none=>.wc
 |some i=>.int i
theorem jK(F:Option Int):cl (oD F)=true:=by cases F<;>rfl
def Oq(a:List Lo):List (Option Int):=(a.filter Ey).map λl=>some l.d
def cm(F:Option Int)(e:Int)(l:Lo):Bool:=if Ey l then (match F with
 |none=>true
 |some f=>decide (f > l.d))else (l.k == "hangs") && (match F with
 |none=>false
 |some f=>decide (f - 1+e<l.d))
def Nt(a:List Lo)(F:Option Int)(e:Int):Int:=((a.filter (cm F e)).map Lo.v).sum
def mf(a:List Lo)(e:Int):Option Int:=ut (λx=>Nt a x e) (Oq a) none
section
variable(l:Lo)(σ:Ta)
theorem l0:Oa l.D (.int 0) σ=.ok (.str l.k) σ:=by unfold Lo.D;simp
theorem l1:Oa l.D (.int 1) σ=.ok (.int l.v) σ:=by unfold Lo.D;simp
theorem l2:Oa l.D (.int 2) σ=.ok (.int l.d) σ:=by unfold Lo.D;simp
end
section
variable{ls:List Lo}(hl:ls.length<=2)(e:Int)(σ:Ta)
theorem UZ(l:Lo)(F:Option Int):be [l.D,oD F,.int e] σ=.ok (.bl (cm F e l)) σ:=by
 have b:=l0 l;have c:=l2 l;have o:(l.k == ("open"))=Ey l:=rfl;unfold be qS cm;generalize Ey l=B,l.D=L at *;generalize a:(l.k == ("hangs"))=H at *;cases F with
 |none=>cases B<;>cases H<;>simp[b,o,a,oD]
 |some f=>
  cases B<;>cases H<;>simp[b,c,o,a,oD]
include hl
theorem Τ:Yg [.la (ls.map Lo.D)] σ=.ok (.la ((none::Oq ls).map oD)) σ:=by
 have l:=dz (src:=gi (ba 0)) (ρ:=[some (.la (ls.map Lo.D))]) (σ:=σ) (s:=.seq (ls.map Lo.D)) (ix:=[]) (fi:=eT (Ba Gf (Ba Oa (ba 0) (eC (.int 0))) (eC (.str "open")))) (fe:=Ba Oa (ba 0) (eC (.int 2))) Lo.D (λl=>.int l.d) Ey (by simp) (λi _=>cc some (Ht ls _ i)) (by omega) (λl _ j=>by
  have e:=l0 l (σ++j);have f:=l2 l (σ++j);have o:(l.k == ("open"))=Ey l:=rfl;exact⟨by simp[e,o],λ_=>by simp[f]⟩) (λ_ _ _=>rfl)
 rw[show (ls.filter Ey).map (λl=>D.int l.d)=(Oq ls).map oD by unfold Oq;rw[dc];rfl]at l;have m:(Oq ls).length<=2:=by unfold Oq;rw[zb];exact Ib (Lj ..) hl
 have a:∀ σ,Nh (.la [.wc]) (.la ((Oq ls).map oD)) σ=.ok (.la ((none::Oq ls).map oD)) σ:=λσ=>by rw[uC (by unfold ai;simp;omega)];rfl
 have b:fg ((none::Oq ls).map oD)=true:=Jt λd c=>by obtain⟨t,_,rfl⟩:=gb.mp c;exact jK t
 unfold Yg DW;generalize ls.map Lo.D=L,(Oq ls).map oD=g,(none::Oq ls).map oD=h at *;simp[l,a,b,-wq]
theorem aV(F:Option Int):Wd [.la (ls.map Lo.D),oD F,.int e] σ=.ok (.int (Nt ls F e)) σ:=by
 have l:=dz (src:=gi (ba 0)) (ρ:=[some (.la (ls.map Lo.D)),some (oD F),some (.int e)]) (σ:=σ) (s:=.seq (ls.map Lo.D)) (ix:=[1,2]) (fi:=eT (yd 3 be [] (ra (ba 0) (ra (ba 2) (ra (ba 3) Ja))))) (fe:=Ba Oa (ba 0) (eC (.int 1))) Lo.D (λl=>.int l.v) (cm F e) (by simp) (λi _=>cc some (Ht ls _ i)) (by omega) (λl _ j=>by
  have c:=UZ e (σ++j) l F;have a:=l1 l (σ++j);exact⟨by simp[c],λ_=>by simp[a]⟩) (λ_ _ _=>rfl)
 rw[show (ls.filter (cm F e)).map (λl=>D.int l.v)=((ls.filter (cm F e)).map Lo.v).map D.int by rw[dc];rfl]at l;have s:=lT ((ls.filter (cm F e)).map Lo.v) σ;unfold Wd pW Nt;generalize oD F=b,ls.map Lo.D=L,((ls.filter (cm F e)).map Lo.v).map D.int=d at *;simp[l,s,-wq]
theorem M3:tf [.la (ls.map Lo.D),.int e] σ=.ok (oD (mf ls e)) σ:=by
 have b:=Τ hl;have m:=XR (f:=oD) (key:=λx=>Nt ls x e) (x:=none) (xs:=Oq ls) (fe:=yd 3 Wd [] (ra (ba 1) (ra (ba 0) (ra (ba 2) Ja)))) (rest:=[some (.la (ls.map Lo.D)),some (.int e)]) (σ:=σ) (λx _=>by
  have s1:=λσ=>aV hl e σ x;simp[s1])
 rw[show ut (λx=>Nt ls x e) (Oq ls) none=mf ls e from rfl]at m;have c:=jK (mf ls e);unfold tf yS;generalize (none::Oq ls).map oD=d,D.la (ls.map Lo.D)=g,oD (mf ls e)=a at *;simp[b,m,c]
end
theorem RH:∀ {xs:List Int},(∀ x∈xs,0<=x)->0<=xs.sum
 |[],_=>by simp
 |x::xs,h=>by
  have b:=h x Ha;have c:=RH λy a=>h y (Na _ a);rw[List.sum_cons];omega
theorem ê(a:List Lo)(e:Int)(h:x∈none::Oq a):Nt a (mf a e) e<=Nt a x e:=TJ (λx=>Nt a x e) (Oq a) none x h
theorem O6(h:∀ l∈a,0<=l.v)(F:Option Int)(e:Int):0<=Nt a F e:=RH λx c=>by
 obtain⟨l,b,rfl⟩:=gb.mp c;exact h l (Jf.mp b).1
theorem lz(h:∀ l∈a,0<=l.v)(e:Int)(b:x∈none::Oq a)(c:Nt a x e=0):Nt a (mf a e) e=0:=by
 have:=ê a e b;have:=O6 h (mf a e) e;omega
theorem yuq(h:0<=l.v)(e:Int):Nt [l] (mf [l] e) e=0:=by
 have c:∀ k∈[l],0<=k.v:=λk b=>by simp at b;rw[b];exact h
 by_cases a:Ey l=true
 ·exact lz c e (x:=some l.d) (by simp[Oq,a]) (by simp[Nt,cm,a])
 ·exact lz c e (x:=none) (by simp) (by simp[Nt,cm,a])
theorem r0(r:Rd)(a:Ta):Oa r.D (.int 0) a=.ok (.int r.f) a:=by unfold Rd.D;simp
theorem xP(x:List Lo):gD (At x)=.yc ((x.map λl=>((.inl l.w:ud),D.la [l.D])).map (·.1)) ((x.map λl=>((.inl l.w:ud),D.la [l.D])).map (·.2)):=by
 unfold gD At;simp only[dc];rfl
def FK(q:Int)(x:List Lo):Kv:=x.map λl=>(.inl l.w,oD (mf [l] (5+q)))
theorem RP(q:Int)(x:List Lo):fg ((FK q x).map (·.2))=true:=Jt λd a=>by
 unfold FK at a;rw[dc]at a;obtain⟨p,_,rfl⟩:=gb.mp a;exact jK _
theorem nQ{q:Int}:∀ {x:List Lo},(x.map Lo.w).Nodup->∀ l∈x,Rp (FK q x) (.inl l.w)=some (oD (mf [l] (5+q)))
 |[],_,l,h=>by cases h
 |b::x,hd,l,h=>by
  rw[Ra,ge]at hd;unfold FK Rp;rcases Ea.mp h with rfl|h
  ·simp
  ·have a:b.w≠l.w:=λe=>hd.1 (e ▸ Tc h);have c:=nQ (q:=q) hd.2 l h;unfold FK Rp at c;simpa [a]using c
section
variable{q:Int}{r:Rd}(hr:r.Ok)(σ:Ta)
include hr
theorem o9(F:D)(u:∀ l∈r.x,Xk F (.int l.w) σ=.ok (oD (mf [l] (5+q))) σ):Ei [.la [r.D],gD (At r.x),F,.int (5+q)] σ=.ok (.int r.f) σ:=by
 have l:=kx (src:=gi (ba 0)) (ρ:=[some (.la [r.D]),some (gD (At r.x)),some F,some (.int (5+q)),none,none,none]) (σ:=σ) (s:=.seq [r.D]) (ix:=[]) (fe:=Ba Oa (ba 0) (eC (.int 0))) Rd.D (λr=>.int r.f) (by simp) (λi _=>cc some (Ht [r] _ i)) (by simp) (λr _ j=>by
  have:=r0 r (σ++j);simp[this]) (λ_ _=>rfl)
 have l:Bh _ _ σ=.ok (.la [.int r.f]) σ:=l;have s1:Eu [.la [.int r.f]] σ=.ok (.int r.f) σ:=by simp[Eu,qt]
 have E:∀ f g h m n c d (x:D) (σ:Ta),iy (λa b=>a+b) 4 f [g,h,m,n,some x,c,d] σ=Ln [g,h,m,n,some x,c,d] (LD (λa b=>a+b) 4 [g,h,m,n,some x,c,d] x) (f [g,h,m,n,some x,c,d] σ):=λ_ _ _ _ _ _ _ _ _=>iR rfl;obtain⟨G,H,C,c,d,rfl,rfl⟩:=HM (f:=ba 1) (A:=r.x.map λl=>((.inl l.w:ud),D.la [l.D])) (ρ:=[some (.la [r.D]),some (gD (At r.x)),some F,some (.int (5+q)),some (.int r.f),none,none]) (σ:=σ) (tg:=Wo 2 (Bi (je 5) (Bi (je 6) Jp))) (body:=VW) (by rw[<-xP];rfl) (by rw[zb];have:=hr.l;omega) (λ_ ρ e=>∃ c d,ρ=[some (.la [r.D]),some (gD (At r.x)),some F,some (.int (5+q)),some (.int r.f),c,d]/\e=σ) (λi k v ρ e o y=>by
  obtain⟨c,d,rfl,rfl⟩:=y;rw[jb]at o;obtain⟨l,B,t⟩:=Eb.mp o;obtain⟨rfl,rfl⟩:=Mr t;have p:=Fa B;have sb:=aV (ls:=[l]) (by simp) (5+q) e (mf [l] (5+q));rw[yuq (hr.v l p) (5+q)]at sb;have z:=u l p;refine⟨[some (.la [r.D]),some (gD (At r.x)),some F,some (.int (5+q)),some (.int r.f),some (.int l.w),some (.la [l.D])],[some (.la [r.D]),some (gD (At r.x)),some F,some (.int (5+q)),some (.int r.f),some (.int l.w),some (.la [l.D])],e,rfl,?_,some (.int l.w),some (.la [l.D]),rfl,rfl⟩;have sb:Wd [.la [l.D],oD (mf [l] (5+q)),.int (5+q)] e=.ok (.int 0) e:=sb;simp[E,sb,z]) ⟨none,none,rfl,rfl⟩
 unfold Ei XP;simp[l,s1,C,-wq,-oz]
end
def Ps(q:Int)(p:Rx):D:=.Ka [.int p.1.f,cD p,.yc ((FK q p.1.x).map (·.1)) ((FK q p.1.x).map (·.2))]
theorem qT(q:Int)(p:Rx):cl (Ps q p)=true:=by unfold Ps cD;simp[cl,RP]
theorem ā(b:p.1.Ok)(a:Ta):Le [.la [p.1.D],cD p,.int (5+q)] a=.ok (Ps q p) a:=by
 have l:=ŝ b;obtain⟨J,K,G,r,s,rfl,rfl⟩:=HM (f:=ba 3) (A:=p.1.x.map λl=>((.inl l.w:ud),D.la [l.D])) (ρ:=[some (.la [p.1.D]),some (cD p),some (.int (5+q)),some (gD (At p.1.x)),some (.ref a.length),none,none]) (σ:=a++[.yc []]) (tg:=Wo 2 (Bi (je 5) (Bi (je 6) Jp))) (body:=WU) (by rw[<-xP];rfl) (by rw[zb];have:=b.l;omega) (λi c y=>∃ r s,c=[some (.la [p.1.D]),some (cD p),some (.int (5+q)),some (gD (At p.1.x)),some (.ref a.length),r,s]/\y=a++[.yc (FK q (p.1.x.take i))]) (λi k v c y t C=>by
  obtain⟨r,s,rfl,rfl⟩:=C;rw[jb]at t;obtain⟨l,g,B⟩:=Eb.mp t;obtain⟨rfl,rfl⟩:=Mr B;have E:i<p.1.x.length:=(ja.mp g).1;have o:=M3 (ls:=[l]) (by simp) (5+q);have o:∀ a,tf [.la [l.D],.int (5+q)] a=.ok (oD (mf [l] (5+q))) a:=o;have st:=λc=>Dw (ρ:=c) (σ:=a++[.yc (FK q (p.1.x.take i))]) (d:=oD (mf [l] (5+q))) (n:=a.length) (w:=l.w) (kvs:=FK q (p.1.x.take i)) (by simp) (by unfold FK;rw[zb,uh];have:=b.l;omega);have H:∀ z∈FK q (p.1.x.take i),z.1≠.inl l.w:=λz u e=>by
   unfold FK at u;obtain⟨m,F,rfl⟩:=gb.mp u;have e:m.w=l.w:=by simpa using e
   exact lQ b.d g (e ▸ Tc F)
  rw[RE,BC _ H,show FK q (p.1.x.take i)++[((.inl l.w:ud),oD (mf [l] (5+q)))]=FK q (p.1.x.take (i+1)) by rw[wO g];unfold FK;rw[Ic];rfl]at st;refine⟨[some (.la [p.1.D]),some (cD p),some (.int (5+q)),some (gD (At p.1.x)),some (.ref a.length),some (.int l.w),some (.la [l.D])],[some (.la [p.1.D]),some (cD p),some (.int (5+q)),some (gD (At p.1.x)),some (.ref a.length),some (.int l.w),some (.la [l.D])],_,rfl,?_,some (.int l.w),some (.la [l.D]),rfl,rfl⟩;simp[o,st]) ⟨none,none,rfl,rfl⟩
 have gt:∀ l∈p.1.x,Xk (.ref a.length) (.int l.w) (a++[.yc (FK q p.1.x)])=.ok (oD (mf [l] (5+q))) (a++[.yc (FK q p.1.x)]):=λl g=>by
  have h:=nQ (q:=q) b.d l g;unfold Xk Tj;simp[Ip,h]
 have I:=o9 b (a++[.yc (FK q p.1.x)]) (.ref a.length) gt;have fz:Uh a (.ok (.Ka [.int p.1.f,cD p,.ref a.length]) (a++[.yc (FK q p.1.x)]))=.ok (Ps q p) a:=by
  unfold Uh;dsimp only;rw[ia (by simp)];have h:=AU (σ:=a) (kvs:=FK q p.1.x) (j:=[]) (m:=4) (RP ..);have:fz a.length (a++[.yc (FK q p.1.x)]) 6 (.Ka [.int p.1.f,cD p,.ref a.length])=some (Ps q p):=by
   unfold fz;dsimp only;unfold Fn;unfold Fn;unfold Fn;rw[h];rfl
  rw[this]
 unfold Le QU;simp[l,G,I,fz,-oz]
noncomputable def ez(b:List Rd):Rx:=match b.zipIdx with
 |[]=>(⟨0,[]⟩,0)
 |p::a=>ut (λp=>p.1.f) a p
def GE(a:List Rd):Int:=(ez a).1.f
structure qv(ss:List Sn):Prop where
 f:Fy ss
 d:∀ s∈ss,(s.ts.map Ti.w).Nodup/\s.ts.length<=9
 a:∀ s∈ss,∀ t∈s.ts,0<=t.a
theorem ė(h:qv c)(K:List Int)(q:Int):∀ r∈c.map (rd K q),r.Ok:=λr f=>by
 obtain⟨s,b,rfl⟩:=gb.mp f;refine⟨?_,?_,?_⟩
 ·unfold rd;rw[dc];exact(h.d s b).1
 ·unfold rd;rw[zb];exact(h.d s b).2
 ·intro l e;obtain⟨t,g,rfl⟩:=gb.mp e;exact h.a s b t g
theorem U2(u:q=0\/q=1)(h:qv ss)(K:List Int)(σ:Ta):ni [gm q K [kh q ss]] σ=.ok (.int (GE (ss.map (rd K q)))) σ:=by
 have A:=λσ=>zv3 u h.f K σ h.d;have z:=ė h K q;have e:=h.f.map (rd K q);have o:∀ σ,Uc [8,9] "every" (gm q K [kh q ss]) σ=.ok (.int (5+q)) σ:=λσ=>xo (Ho rfl) rfl rfl;generalize ss.map (rd K q)=a,gm q K [kh q ss]=V at *;have c:=T3 e;have g:∀ σ,Bh (pj (Fk (gi (yd 1 Me [] (ra (ba 1) Ja)))) [1,0] (je 0) ik (yd 3 Le [] (ra (yd 2 Dd [] (ra (ba 2) (ra (ba 0) Ja))) (ra (ba 0) (ra (Cd (Uc [8,9] "every") (ba 3)) Ja))))) [some V,some (RL a),none] σ=.ok (.la (a.zipIdx.map (Ps q))) σ:=λσ=>by
  refine kx (s:=.seq (a.zipIdx.map cD)) cD (Ps q) ?_ (λi _=>cc some (Ht _ _ i)) (by have:=e.le;simp;omega) (λp b j=>?_) (λp _=>qT q p)
  ·generalize RL a=R at *;simp[c]
  ·have m:=List.mem_zipIdx_iff_getElem?.mp b;have n:=λσ=>x3 σ m;have w:=ā (q:=q) (z p.1 (Fa m));simp[n,w,o]
 have k:∀ σ,gA (Ba Oa (ba 0) (eC (.int 0))) [] [.la (a.zipIdx.map (Ps q))] σ=.ok (Ps q (ez a)) σ:=λσ=>by
  obtain⟨p,l,b⟩:∃ p l,a.zipIdx=p::l:=by rcases e with⟨s,rfl⟩|⟨s,t,rfl⟩<;>exact⟨_,_,rfl⟩
  rw[show ez a=ut (λp=>p.1.f) l p by unfold ez;rw[b],b];refine XR (f:=Ps q) λy _=>?_;have:∀ σ,Oa (Ps q y) (.int 0) σ=.ok (.int y.1.f) σ:=λσ=>by unfold Ps;simp
  simp[this]
 have r:=qT q (ez a);have v:∀ σ,Oa (Ps q (ez a)) (.int 0) σ=.ok (.int (GE a)) σ:=λσ=>by unfold Ps GE;simp
 have x:∀ σ,Gj [V] σ=.ok (Ps q (ez a)) σ:=λσ=>by
  have g:=g σ;have k:=k σ;unfold Gj mW;simp[A,g,k,r,-wq]
 unfold ni YW;simp[x,v]
theorem L7(r s:Rd):GE [r,s]=if s.f<r.f then s.f else r.f:=by
 show (ut _ [(s,1)] (r,0)).1.f=_;unfold ut ut;by_cases h:s.f<r.f
 ·rw[ia h,ia h]
 ·rw[ka h,ka h]
structure Ac where
 q:Int
 c:Nat
 m:Sn
 G:D
 y:List Sn
 L:List D
def Ac.D(a:Ac):L4.D:=.obj a.c ["pot","side","mine","grant","may","strikes"] [.int 0,.int a.q,a.m.D,a.G,.la (a.y.map Sn.D),.la a.L]
structure Ac.Ok(a:Ac):Prop where
 q:a.q=0\/a.q=1
 c:[4,5,6,7].contains a.c=true
 g:cl a.G=true
 l:fg a.L=true
 y:qv a.y
theorem ľ(c:Nat)(i:List D->M D)(a b d e f g:D)(h:Ta):Lp c 7 i [a,b,d,e,f,g] h=FC h.length (i [.ref h.length,a,b,d,e,f,g] (h++[.Jd c []])):=IS rfl
section
variable{a:Ac}(h:a.Ok)(σ:Ta)
include h
theorem cx:mn σ a.D=some (a.c,([("pot",.int 0),("side",.int a.q),("mine",a.m.D),("grant",a.G),("may",.la (a.y.map Sn.D)),("strikes",.la a.L)]:List (Str × D))):=Ho rfl
theorem wx:Uc [4,5,6,7] "pot" a.D σ=.ok (.int 0) σ:=xo (cx h σ) h.c rfl
theorem Yw:Uc [4,5,6,7] "side" a.D σ=.ok (.int a.q) σ:=xo (cx h σ) h.c rfl
theorem JA:Uc [4,5,6,7] "mine" a.D σ=.ok a.m.D σ:=xo (cx h σ) h.c rfl
theorem tV:Uc [4,5,6,7] "grant" a.D σ=.ok a.G σ:=xo (cx h σ) h.c rfl
theorem rG:Uc [4,5,6,7] "may" a.D σ=.ok (.la (a.y.map Sn.D)) σ:=xo (cx h σ) h.c rfl
theorem NE:Uc [4,5,6,7] "strikes" a.D σ=.ok (.la a.L) σ:=xo (cx h σ) h.c rfl
theorem Cy:cl a.D=true:=by unfold Ac.D;simp[Aj,EB,h.g,h.l]
theorem zE:Uh σ (Lp a.c 7 Oj [.int 0,.int a.q,a.m.D,a.G,.la (a.y.map Sn.D),.la a.L] σ)=.ok a.D σ:=by
 have k:=EB a.y;have w:=Aj a.m;have t:=h.g;have n:=h.l;have r:=h.c;unfold Ac.D;generalize a.q=j,a.c=c,a.m.D=m,a.G=g,a.L=z,a.y.map Sn.D=y at *;have e:=λf v (b:List (Str × D)) (u:b.length<1000)=>IU (ρ:=[some (.ref σ.length),some (.int 0),some (.int j),some m,some g,some (.la y),some (.la z)]) (σ:=σ) (cs:=[4,5,6,7]) (f:=f) (d:=v) (c:=c) (fs:=b) r u;have x:∀ p:D,wo "pot" p []=([("pot",p)]:List (Str × D)):=λ_=>rfl;have A:∀ p s:D,wo "side" s [("pot",p)]=([("pot",p),("side",s)]:List (Str × D)):=λ_ _=>rfl;have B:∀ p s:D,wo "mine" m [("pot",p),("side",s)]=([("pot",p),("side",s),("mine",m)]:List (Str × D)):=λ_ _=>rfl;have C:∀ p s:D,wo "grant" g [("pot",p),("side",s),("mine",m)]=([("pot",p),("side",s),("mine",m),("grant",g)]:List (Str × D)):=λ_ _=>rfl;have p4:∀ p s:D,wo "may" (.la y) [("pot",p),("side",s),("mine",m),("grant",g)]=([("pot",p),("side",s),("mine",m),("grant",g),("may",.la y)]:List (Str × D)):=λ_ _=>rfl;have E:∀ p s:D,wo "strikes" (.la z) [("pot",p),("side",s),("mine",m),("grant",g),("may",.la y)]=([("pot",p),("side",s),("mine",m),("grant",g),("may",.la y),("strikes",.la z)]:List (Str × D)):=λ_ _=>rfl;have o:=TF k;have fz:=TF n;have i:Oj [.ref σ.length,.int 0,.int j,m,g,.la y,.la z] (σ++[.Jd c []])=.ok .wc (σ++[.Jd c [("pot",.int 0),("side",.int j),("mine",m),("grant",g),("may",.la y),("strikes",.la z)]]):=by
  unfold Oj KR;simp[e,x,A,B,C,p4,E,o,fz]
 rw[ľ,i,GK,ER (by simp[w,t,k,n])];rfl
end
def Da(q:Int)(m:Sn)(G:D)(L:List D):Ac:=⟨q,5,m,G,[m],L⟩
def Ni(q:Int)(m o:Sn)(G:D)(L:List D):Ac:=⟨q,6,m,G,[m,o],L⟩
def mi(q:Int)(o m:Sn)(G:D)(L:List D):Ac:=⟨q,7,m,G,[o,m],L⟩
theorem Iv{a L:Ta}(i:Nat):(a++L)[a.length+i]?=L[i]?:=by
 rw[Ld (by omega),show a.length+i - a.length=i by omega]
theorem vL{a L:Ta}:(a++L)[a.length]?=L[0]?:=Iv 0
theorem zw{a L:Ta}(i:Nat)(x:Ob):(a++L).set (a.length+i) x=a++L.set i x:=by
 rw[Us _ _ (by omega),show a.length+i - a.length=i by omega]
theorem sQ{a L:Ta}(x:Ob):(a++L).set a.length x=a++L.set 0 x:=zw 0 x
def Qw(b:Nat)(q g:Int):List (Str × D):=[("hand",.int (1+q)),("every",.int (5+q)),("last_look",.int 0),("gave",.int g),("known",.ref (b+1)),("accounts",.ref (b+2)),("claims",.ref (b+3)),("seen",.ref (b+4)),("asked",.ref (b+5)),("finishing",.ref (b+6))]
def tq(K:List Int):Kv:=K.map λw=>(.inl w,.bl true)
def jx:Kv:=[(.inl 0,.gt ["held"])]
def vx:Kv:=[(.inl 0,.yc [] [])]
def fi(f:Bool):Kv:=if f then [(.inl 0,.bl true)]else []
abbrev AV(a:Ac):Kv:=[(.inl 0,a.D)]
def S(a:Ta)(q g:Int)(K:List Int)(A Q:Kv)(F:Bool)(J:Ta):Ta:=a++.Jd 9 (Qw a.length q g)::.yc (tq K)::.yc A::.yc jx::.yc vx::.yc Q::.yc (fi F)::J
structure Vs(b:Nat)(q g:Int)(K:List Int)(σ:Ta):Prop where
 h0:σ[b]?=some (.Jd 9 (Qw b q g))
 h1:σ[b+1]?=some (.yc (tq K))
 h3:σ[b+3]?=some (.yc jx)
 h4:σ[b+4]?=some (.yc vx)
theorem ym(a:Ta)(q g:Int)(K:List Int)(A Q:Kv)(F:Bool)(J:Ta):Vs a.length q g K (S a q g K A Q F J):=⟨vL,Iv 1,Iv 3,Iv 4⟩
theorem Zu{a j:Ta}{k:Nat}(h:a[k]?=some o):(a++j)[k]?=some o:=by
 rw[Hb (ja.mp h).1,h]
theorem Vs.app(h:Vs b q g K a)(j:Ta):Vs b q g K (a++j):=⟨Zu h.h0,Zu h.h1,Zu h.h3,Zu h.h4⟩
theorem IB{a:Ta}(n:r≠k)(h:a[k]?=some o):(a.set r x)[k]?=some o:=by
 rw[fk n,h]
theorem Vs.set(h:Vs b q g K a)(c:r=b+2\/b+6<r)(x:Ob):Vs b q g K (a.set r x):=⟨IB (by omega) h.h0,IB (by omega) h.h1,IB (by omega) h.h3,IB (by omega) h.h4⟩
theorem Vz(h:a[n]?=some (.yc b))(c:Rp b (.inl w)=some d):Xk (.ref n) (.int w) a=.ok d a:=by
 unfold Xk Tj;simp only[Ip,h];simp[c]
section
variable{b:Nat}{q g:Int}{K:List Int}{σ:Ta}(h:Vs b q g K σ)
include h
theorem Fw:mn σ (.ref b)=some (9,Qw b q g):=by unfold mn;simp[h.h0]
theorem ŭ:Uc [8,9] "every" (.ref b) σ=.ok (.int (5+q)) σ:=xo (Fw h) rfl rfl
theorem n7:Uc [8,9] "last_look" (.ref b) σ=.ok (.int 0) σ:=xo (Fw h) rfl rfl
theorem WF:Uc [8,9] "known" (.ref b) σ=.ok (.ref (b+1)) σ:=xo (Fw h) rfl rfl
theorem F8:Uc [9] "gave" (.ref b) σ=.ok (.int g) σ:=xo (Fw h) rfl rfl
theorem ou:Uc [9] "accounts" (.ref b) σ=.ok (.ref (b+2)) σ:=xo (Fw h) rfl rfl
theorem rS:Uc [9] "claims" (.ref b) σ=.ok (.ref (b+3)) σ:=xo (Fw h) rfl rfl
theorem Υ:Uc [9] "seen" (.ref b) σ=.ok (.ref (b+4)) σ:=xo (Fw h) rfl rfl
theorem Az:Uc [9] "asked" (.ref b) σ=.ok (.ref (b+5)) σ:=xo (Fw h) rfl rfl
theorem Zn{m:Str}(n:Nat)(a:List D->M D)(c:M (List D))(d:(Qw b q g).lookup m=none):vm [(9,a)] n m c (.ref b) σ=(c σ).bind (Gk n a (.ref b)):=Fo (Fw h) rfl d
theorem AO:Xk (.ref (b+3)) (.int 0) σ=.ok (.gt ["held"]) σ:=Vz h.h3 rfl
theorem E6:Xk (.ref (b+4)) (.int 0) σ=.ok (.yc [] []) σ:=Vz h.h4 rfl
end
theorem gX:∀ K:List Int,ay (tq K)=some K
 |[]=>rfl
 |w::K=>by
  have a:=gX K;unfold tq at a ⊢;unfold ay;simp[a]
abbrev ks(K:List Int):List Int:=Cw K
theorem MK:w∈ks K ↔ w∈K:=(xC K).mem_iff
theorem qR(h:Vs b q g K a)(i:K.length<=60):Xc [.ref b] a=.ok (.la ((ks K).map D.int)) a:=by
 have e:=WF h;have o:qB [.ref (b+1)] a=.ok (.ref a.length) (a++[.la ((ks K).map D.int)]):=by
  have l:rh a (.ref (b+1))=none:=by unfold rh bi;simp[h.h1]
  have d:Tj a (.ref (b+1))=some (tq K):=by unfold Tj;simp[h.h1]
  unfold qB;simp only[l];unfold GI;simp only[d,gX];rw[ia (by omega)];rfl
 have c:=fW (ks K);have f:Uh a (qB [.ref (b+1)] a)=.ok (.la ((ks K).map D.int)) a:=by rw[o];exact xE c
 unfold Xc yT;simp[e,f]
theorem è{a:Ac}(c:a.Ok)(b:Ta):Cf [a.D,.gt ["held"]] b=.ok (.la (a.y.map Sn.D)) b:=by
 have m:=rG c;have e:∀ b,Oa (.gt ["held"]) (.int 0) b=.ok (.str "held") b:=λb=>nr rfl;have d:=EB a.y;unfold Cf uR;simp[e,m,d]
theorem wN{xs:List D}(h:bi a n=some xs)(j:Ta):bi (a++j) n=some xs:=by
 have e:=sS h;unfold bi;rw[Zu e]
theorem K8(j:f ρ σ=.ok (.ref n) σ)(g:σ[n]?=some (.yc A))(i:src ρ σ=.ok nx c)(k:Qr nx e a 1001 0 ρ c=.ok (.nx d) b)(h:b[n]?=some (.Sf A')):XG f (yw src e a) ρ σ=.ok (.nx d) (b.set n (.yc A')):=by
 show qI JM (f ρ) (yw src e a ρ) σ=_;unfold qI;rw[j];dsimp only;rw[g];rw[oz,i,Hq];show eD JM _ (Qr nx e a 1001 0 ρ c)=_;rw[k];unfold eD;simp only[h];rfl
theorem À(c:f b a=.ok (.ref n) a)(g:a[n]?=some (.yc A)):KH f b a=.ok (Xt A) (a.set n (.Sf A)):=by
 show Fd (f b) eG a=_;rw[tp,c,gf];unfold eG;simp only[g]
theorem zws{a:Ta}(h:a[r]?=some o):a.set r o=a:=by
 obtain⟨b,c⟩:=ja.mp h;rw[<-c];exact List.set_getElem_self b
theorem zS(c:Nat)(g:List D->M D)(a b d e:D)(f:Ta):Lp c 5 g [a,b,d,e] f=FC f.length (g [.ref f.length,a,b,d,e] (f++[.Jd c []])):=IS rfl
theorem t0(σ:Ta)(K:List Int)(m:bi σ n=some [kh q ss]):ms [.ref σ.length,.int (5+q),.int 0,.la (K.map D.int),.ref n] (σ++[.Jd 8 []])=.ok .wc (σ++[.Jd 8 [("every",.int (5+q)),("last_look",.int 0),("known",.la (K.map D.int)),("pots",.la [kh q ss])]]):=by
 have E:=λ(l:List Nat) (u:l.contains 8=true) (f:Str) (w:D) (e:List (Str × D)) (x:e.length<1000)=>IU (ρ:=[some (.ref σ.length),some (.int (5+q)),some (.int 0),some (.la (K.map D.int)),some (.ref n)]) (σ:=σ) (cs:=l) (f:=f) (d:=w) (c:=8) (fs:=e) u x;have r:∀ e,Uh (σ++[.Jd 8 e]) (Yq [.la (K.map D.int)] (σ++[.Jd 8 e]))=.ok (.la (K.map D.int)) (σ++[.Jd 8 e]):=λe=>TF (fW K) _;have y:∀ e,Bh (pj (Fk (gi (ba 4))) [] (je 0) ik (gg (ra (Ba Oa (ba 0) (eC (.int 0))) (ra (Bh (ah Yq (ra (Ba Oa (ba 0) (eC (.int 1))) Ja))) (ra (ah nB (ra (Ba Oa (ba 0) (eC (.int 2))) Ja)) Ja))))) [some (.ref σ.length),some (.int (5+q)),some (.int 0),some (.la (K.map D.int)),some (.ref n)] (σ++[.Jd 8 e])=.ok (.la [kh q ss]) (σ++[.Jd 8 e]):=λe=>by
  have s1:EA (.ref n) (σ++[.Jd 8 e])=.ok (.gu n) (σ++[.Jd 8 e]):=by
   show (match bi (σ++[.Jd 8 e]) n with|some _=>_|none=>_)=_;rw[wN m]
  have:=kx (ix:=[]) (src:=gi (ba 4)) (s:=.gu n) (xs:=[kh q ss]) (ρ:=[some (.ref σ.length),some (.int (5+q)),some (.int 0),some (.la (K.map D.int)),some (.ref n)]) (σ:=σ++[.Jd 8 e]) (fe:=gg (ra (Ba Oa (ba 0) (eC (.int 0))) (ra (Bh (ah Yq (ra (Ba Oa (ba 0) (eC (.int 1))) Ja))) (ra (ah nB (ra (Ba Oa (ba 0) (eC (.int 2))) Ja)) Ja)))) (λd=>d) (λd=>d) (by simp[s1]) (λi j=>by
    show (bi (σ++[.Jd 8 e]++j) n).map _=_;rw[wN (wN m _)];cases h:[kh q ss][i]?<;>simp[h]) (by simp)
   (λv g j=>by
    have g:v=kh q ss:=by simpa using g
    subst g;have p:=TF (EB ss);have o:∀ k,nB [.yc [] []] k=.ok (.yc [] []) k:=λk=>nr rfl;unfold kh;simp[p,o]) (λv g=>by
    have g:v=kh q ss:=by simpa using g
    subst g;exact VL ..)
  exact this
 have z:wo "every" (.int (5+q)) ([]:List (Str × D))=([("every",.int (5+q))]:List (Str × D)):=rfl;have A:∀ a b:D,wo "last_look" b ([("every",a)]:List (Str × D))=([("every",a),("last_look",b)]:List (Str × D)):=λ_ _=>rfl;have B:∀ a b c:D,wo "known" c ([("every",a),("last_look",b)]:List (Str × D))=([("every",a),("last_look",b),("known",c)]:List (Str × D)):=λ_ _ _=>rfl;have p4:∀ a b c d:D,wo "pots" d ([("every",a),("last_look",b),("known",c)]:List (Str × D))=([("every",a),("last_look",b),("known",c),("pots",d)]:List (Str × D)):=λ_ _ _ _=>rfl;have t:∀ ρ σ,Bh (ah Yq (ra (ba 3) Ja)) ρ σ=Uh σ (ah Yq (ra (ba 3) Ja) ρ σ):=λ_ _=>rfl;unfold ms HU;simp[E,z,A,B,p4,r,y,t,-wq]
def yz(K:List Int)(a:Ac):D:=gm a.q (ks K) [kh a.q a.y]
theorem fP(K:List Int)(a:Ac):cl (yz K a)=true:=yrf _ _ (by simp[VL])
theorem HS(I:K.length<=60)(u:a.Ok)(p:a.q=q)(h:Vs b q g K c)(o:c[r]?=some (.yc (AV a)))(H:r=b+2\/b+6<r):Pc [.ref b,.ref r] c=.ok (yz K a) c:=by
 subst p;have e:=(ja.mp o).1;have M:=h.set H (.Sf (AV a));have s:(c.set r (.Sf (AV a))).length=c.length:=No;have T:QL [some (.ref b),some (.ref r),some (.ref c.length),some (.int 0),some a.D] (c.set r (.Sf (AV a))++[Ob.la []])=.ok (.nx [some (.ref b),some (.ref r),some (.ref c.length),some (.int 0),some a.D]) (c.set r (.Sf (AV a))++[Ob.la ([]++[kh a.q a.y])]):=by
  have t:=UE (σ:=c.set r (.Sf (AV a))) (xs:=[]) (d:=kh a.q a.y) (by simp);rw[s]at t;have O:∀ m,Ew Mn m (.ref c.length) (c.set r (.Sf (AV a))++[Ob.la []])=(m (c.set r (.Sf (AV a))++[Ob.la []])).bind (Mn (.ref c.length)):=λm=>Mz (xs:=[]) (by rw[<-s];unfold rh bi;simp);have v:=M.app [.la []];have A:=rS v;have B:=Υ v;have C:=AO v;have E:=E6 v;have st:=è u;have R:=Yw u;have S:D.Ka [.int a.q,.la (a.y.map Sn.D),.yc [] []]=kh a.q a.y:=rfl;simp[A,B,C,E,st,R,O,S,t]
 have J:∀ x z,Qr (Xt (AV a)) (Wo 2 (Bi (je 3) (Bi (je 4) Jp))) QL 1001 0 [some (.ref b),some (.ref r),some (.ref c.length),x,z] ((c++[Ob.la []]).set r (.Sf (AV a)))=.ok (.nx [some (.ref b),some (.ref r),some (.ref c.length),some (.int 0),some a.D]) (c.set r (.Sf (AV a))++[Ob.la [kh a.q a.y]]):=λx z=>by
  rw[Tt _ _ e];rw[nM (d:=.Ka [.int 0,a.D]) rfl (ρ1:=[some (.ref b),some (.ref r),some (.ref c.length),some (.int 0),some a.D]) rfl,T,gf,lq];exact qK (k:=999) (LO (AV a) _)
 have i:=Zu (j:=[.la []]) o;have w:=K8 (f:=ba 1) (src:=KH (ba 1)) (ρ:=[some (.ref b),some (.ref r),some (.ref c.length),none,none]) (σ:=c++[.la []]) (n:=r) (by simp) i (À (by simp) i) (J none none) (A':=AV a) (Zu (by rw[Df e]));rw[Tt _ _ (by rw[s];exact e),List.set_set,zws o]at w;have l:=h.app [.la [kh a.q a.y]];have U:=qR l I;have Q:=λG=>Zn l (m:="words") 1 Xc G rfl;have F:=ŭ l;have N:=n7 l;have L:=fP K a;have P:Uh (c++[.la [kh a.q a.y]]) (Lp 8 5 ms [.int (5+a.q),.int 0,.la ((ks K).map D.int),.ref c.length] (c++[.la [kh a.q a.y]]))=.ok (yz K a) (c++[.la [kh a.q a.y]]):=by
  rw[zS,t0 _ (ks K) (n:=c.length) (q:=a.q) (ss:=a.y) (by unfold bi;simp),GK,ER (by simp[VL])];rfl
 have fz:Uh c (.ok (yz K a) (c++[.la [kh a.q a.y]]))=.ok (yz K a) c:=kK L;unfold Pc tR;simp[-oz,w,F,N,U,Q,P,fz]
def W(K:List Int)(a:Ac):Int:=GE (a.y.map (rd (ks K) a.q))
theorem DU(K:List Int)(c:a.Ok)(b:Ta):ni [yz K a] b=.ok (.int (W K a)) b:=U2 c.q c.y (ks K) b
section
variable{σ0:Ta}{q g:Int}{K:List Int}(hK:K.length<=60){a:Ac}(ha:a.Ok){Q:Kv}{F:Bool}{J:Ta}
abbrev SA(b:Ta)(g:Int)(K:List Int)(a:Ac)(Q:Kv)(F:Bool)(J:Ta):Ta:=S b a.q g K (AV a) Q F J
theorem vB:(SA σ0 g K a Q F J)[σ0.length+2]?=some (.yc (AV a)):=Iv 2
include hK ha
theorem nO:Nc [.ref σ0.length] (SA σ0 g K a Q F J)=.ok (.int (W K a)) (SA σ0 g K a Q F J):=by
 have b:=ym σ0 a.q g K (AV a) Q F J;have v:=HS hK ha rfl b vB (.inl rfl);have d:=ou b;have w:=DU K ha;have f:=λc=>Zn b (m:="view_by") 2 Pc c rfl;have h:=λc=>Zn b (m:="view") 1 me c rfl;have e:=fP K a;unfold SA at *;generalize yz K a=V,S σ0 a.q g K (AV a) Q F J=Y at *;have i:me [.ref σ0.length] Y=.ok V Y:=by
  unfold me iV;simp[f,d,v,e]
 unfold Nc wR;simp[h,i,w]
theorem RB{x:Ac}(c:x.Ok)(e:x.q=a.q)(d:Int):Nb [.ref σ0.length,x.D,.int d] (SA σ0 g K a Q F J)=.ok (.bl (decide (W K x ≥ W K a - d))) (SA σ0 g K a Q F J):=by
 have j:=ym σ0 a.q g K (AV a) Q F J;have k:=ou j;have l:XC [.ref (σ0.length+2)] (SA σ0 g K a Q F J)=.ok (.ref (SA σ0 g K a Q F J).length) (SA σ0 g K a Q F J++[.yc (AV a)]):=by
  have:Tj (SA σ0 g K a Q F J) (.ref (σ0.length+2))=some (AV a):=by unfold Tj;simp[vB]
  unfold XC;simp only[this]
 have st:∀ h,ku h x.D (.ref (SA σ0 g K a Q F J).length) (.int 0) (SA σ0 g K a Q F J++[.yc (AV a)])=.ok (.nx h) (SA σ0 g K a Q F J++[.yc (AV x)]):=λh=>by
  rw[Dw (kvs:=AV a) (by simp) (by simp),show Jn (AV a) (.inl 0) x.D=AV x from rfl,RE]
 have p:=wx c;have f:=j.app [.yc (AV x)];have v:=HS hK c e f (r:=(SA σ0 g K a Q F J).length) (by simp) (.inr (by unfold SA S;rw[Ia];show σ0.length+6<σ0.length+(J.length+7);omega));have w:=DU K c;have i:=nO (σ0:=σ0) (g:=g) hK ha (Q:=Q) (F:=F) (J:=J++[.yc (AV x)]);rw[show SA σ0 g K a Q F (J++[.yc (AV x)])=SA σ0 g K a Q F J++[.yc (AV x)] by unfold SA S;simp]at i;have n:=λb=>Zn f (m:="view_by") 2 Pc b rfl;have o:=λb=>Zn f (m:="worth") 1 Nc b rfl;have fz:∀ t,Uh (SA σ0 g K a Q F J) (.ok (.bl t) (SA σ0 g K a Q F J++[.yc (AV x)]))=.ok (.bl t) (SA σ0 g K a Q F J):=λt=>kK (by simp);unfold Nb qO;simp[k,l,st,p,v,w,i,n,o,fz]
omit hK ha
theorem qG:Oc [.ref σ0.length,.int 0] (SA σ0 g K a Q F J)=.ok (.bl true) (SA σ0 g K a Q F J):=by
 have b:=ym σ0 a.q g K (AV a) Q F J;have f:=ou b;have c:=rS b;have h:=AO b;have i:qw (.int 0) (.ref (σ0.length+2)) (SA σ0 g K a Q F J)=.ok (.bl true) (SA σ0 g K a Q F J):=by
  have:Tj (SA σ0 g K a Q F J) (.ref (σ0.length+2))=some (AV a):=by unfold Tj;simp[vB]
  unfold qw;simp only[this];rfl
 have e:∀ d,lG (.gt ["held"]) (.gt ["held"]) d=.ok (.bl true) d:=λd=>nr rfl;unfold Oc sR;simp[f,c,h,i,e]
theorem Aw:Xk (.ref (σ0.length+2)) (.int 0) (SA σ0 g K a Q F J)=.ok a.D (SA σ0 g K a Q F J):=Vz vB rfl
include ha
theorem Z8:xb [.ref σ0.length,.int 0] (SA σ0 g K a Q F J)=.ok a.D (SA σ0 g K a Q F J):=by
 have d:=ym σ0 a.q g K (AV a) Q F J;have c:=ou d;have i:Ju (.int 0) (.ref (σ0.length+2)) (SA σ0 g K a Q F J)=.ok (.bl false) (SA σ0 g K a Q F J):=by
  have:Tj (SA σ0 g K a Q F J) (.ref (σ0.length+2))=some (AV a):=by unfold Tj;simp[vB]
  unfold Ju;simp only[this];rfl
 have h:=Aw (σ0:=σ0) (g:=g) (K:=K) (a:=a) (Q:=Q) (F:=F) (J:=J);have b:=Cy ha;unfold xb PQ;simp[c,i,h,b]
omit ha
theorem zs4:Rb [.ref σ0.length] (SA σ0 g K a Q F J)=.ok (.int g) (SA σ0 g K a Q F J):=by
 have b:=F8 (ym σ0 a.q g K (AV a) Q F J);unfold Rb OQ;simp[b]
theorem tG(x:Ac)(b:x.q=a.q)(c:Ev):ku c x.D (.ref (σ0.length+2)) (.int 0) (SA σ0 g K a Q F J)=.ok (.nx c) (SA σ0 g K x Q F J):=by
 rw[Dw vB (by simp)];unfold SA S;rw[zw,b];rfl
end
def Wf(s:Int)(X:D):D:=.Ka [.str "agree",.int 0,.int s,X]
def Uo(s n:Int):D:=.Ka [.str "strike",.int 0,.int s,.int n]
def Lg(s:Sn):D:=.Ka [.str "offer",.int 0,Wf 0 s.D]
def Jq(n:Int):D:=.Ka [.str "struck",.int 0,Uo 0 n]
def bp(m s:Sn):D:=.Ka [.str "accept",.int 0,Wf 1 s.D,Uo 1 m.n]
def Dn(s:Sn):D:=.Ka [.str "ask",.int 0,.Ka [.int s.a,.int s.b],.Ka (s.ts.map Ti.D)]
theorem kB{xs:List D}(h:∀ x∈xs,pl n x=true):pl (n+1) (.Ka xs)=true:=Vb.mpr h
theorem gR(n:Nat)(t:Ti):pl (n+1) t.D=true:=by simp[pl,Ti.D]
theorem KQ(n:Nat)(ts:List Ti):pl (n+2) (.Ka (ts.map Ti.D))=true:=kB λx a=>by obtain⟨t,_,rfl⟩:=gb.mp a;exact gR n t
theorem nD(n:Nat)(s:Sn):pl (n+3) s.D=true:=kB λx c=>by
 have c:x=.int s.n\/x=.Ka [.int s.a,.int s.b]\/x=.Ka (s.ts.map Ti.D):=by simpa using c
 rcases c with rfl|rfl|rfl
 ·simp[pl]
 ·simp[pl]
 ·exact KQ n s.ts
theorem lX(n:Nat)(q:Int)(s:Sn):pl (n+4) (Wf q s.D)=true:=kB λx a=>by
 have a:x=.str "agree"\/x=.int 0\/x=.int q\/x=s.D:=by simpa using a
 rcases a with rfl|rfl|rfl|rfl
 ·simp[pl]
 ·simp[pl]
 ·simp[pl]
 ·exact nD n s
theorem Đ(s:Sn):pl 8 (Lg s)=true:=kB λx a=>by
 have a:x=.str "offer"\/x=.int 0\/x=Wf 0 s.D:=by simpa using a
 rcases a with rfl|rfl|rfl
 ·simp[pl]
 ·simp[pl]
 ·exact lX 3 0 s
theorem F4(m s:Sn):pl 8 (bp m s)=true:=kB λx a=>by
 have a:x=.str "accept"\/x=.int 0\/x=Wf 1 s.D\/x=Uo 1 m.n:=by simpa using a
 rcases a with rfl|rfl|rfl|rfl
 ·simp[pl]
 ·simp[pl]
 ·exact lX 3 1 s
 ·simp[pl,Uo]
theorem DZ(n:Int):pl 8 (Jq n)=true:=by simp[pl,Jq,Uo]
theorem Ct(h:cl X=true):cl (Wf s X)=true:=by unfold Wf;simp[h]
theorem MQ(s:Sn):cl (Lg s)=true:=by unfold Lg;simp[Ct (Aj s)]
theorem τ(n:Int):cl (Jq n)=true:=by unfold Jq Uo;simp
theorem fZ(m s:Sn):cl (bp m s)=true:=by unfold bp Uo;simp[Ct (Aj s)]
theorem ħ(s:Sn):cl (Dn s)=true:=by unfold Dn;simp[tQ]
section
variable(σ:Ta)
theorem YO{q:Int}(c:q=0\/q=1)(k X:D):re [.Ka [k,.int 0,.int q,X]] σ=.ok (.bl true) σ:=by
 have a:=XJ c σ;have b:=kT σ;unfold re eX;simp[a,b]
theorem kQ{q:Int}(e:q=0\/q=1){s:Sn}(h:Hs s.n s.a s.b s.ts):vg [Wf q s.D] σ=.ok (.bl true) σ:=by
 have c:=tz h σ;have d:=λX=>YO σ e (.str "agree") X;have t:wf [Wf q s.D] σ=.ok (.bl true) σ:=by
  unfold Sn.D Wf wf dL;simp[c,d]
 have i:Oa (Wf q s.D) (.int 0) σ=.ok (.str "agree") σ:=by unfold Wf;simp
 unfold vg aR;simp[t,i]
theorem tU{q n:Int}(c:q=0\/q=1)(h:0<=n/\n<=1000000):Rf [Uo q n] σ=.ok (.bl true) σ:=by
 have a:=pL h σ;have b:=λX=>YO σ c (.str "strike") X;have t:wf [Uo q n] σ=.ok (.bl true) σ:=by
  unfold Uo wf dL;simp[a,b]
 have i:Oa (Uo q n) (.int 0) σ=.ok (.str "strike") σ:=by unfold Uo;simp
 unfold Rf jR;simp[t,i]
theorem mD{k:Str}{x:D}{r:List D}(c:r.length<=3)(h:Zc [.Ka (.str k::.int 0::x::r)] σ=.ok (.bl true) σ):Yc [.Ka (.str k::.int 0::x::r)] σ=.ok (.bl true) σ:=by
 have a:=kT σ;have b:Fj [.Ka (.str k::.int 0::x::r)] σ=.ok (.int (r.length+3)) σ:=by
  have:=YM (σ:=σ) (.str k::.int 0::x::r);rw[this];congr 2
 have lt:decide ((r.length:Int)+3<3)=false:=Ua (by omega);unfold Yc CW;simp[h,a,b,lt]
theorem eI{s:Sn}(h:Hs s.n s.a s.b s.ts):Yc [Lg s] σ=.ok (.bl true) σ:=by
 have a:=kQ σ (.inl rfl) h;refine mD σ (by simp) ?_;unfold Zc XB;simp[a]
theorem TQ{m s:Sn}(h:Hs s.n s.a s.b s.ts)(c:0<=m.n/\m.n<=1000000):Yc [bp m s] σ=.ok (.bl true) σ:=by
 have a:=kQ σ (.inr rfl) h;have b:=tU σ (.inr rfl) c;refine mD σ (by simp) ?_;unfold Zc XB;simp[a,b]
theorem JU{n:Int}(h:0<=n/\n<=1000000):Yc [Jq n] σ=.ok (.bl true) σ:=by
 have b:=tU σ (.inl rfl) h;refine mD σ (by simp) ?_;unfold Zc XB;simp[b]
theorem BY{s:Sn}(h:Hs s.n s.a s.b s.ts):Yc [Dn s] σ=.ok (.bl true) σ:=by
 have a:=tz (n:=0) ⟨by omega,h.a,h.b,h.t,h.l,h.d⟩ σ;unfold Bm at a;refine mD σ (by simp) ?_;unfold Zc XB;simp[a]
end
theorem y4{W:Int}{s m:Sn}(h:s.Ok W)(f:m.Ok W)(i:s.n=m.n+1)(c:Ta):df [s.D,m.D] c=.ok (.bl true) c:=by
 have d:=sP h.st c;have e:=cL m.n m.a m.b (ts:=m.ts) (by have:=f.st.l;omega) c;rw[h.w]at d;rw[f.w]at e;have j:=s0 s c;have k:=s0 m c;have g:(s.n == m.n+1)=true:=by simp[i]
 unfold df xS;unfold Sn.D at *;simp[d,e,j,k,g]
section
variable{a:Ac}(ha:a.Ok)
include ha
theorem uE(s:Int){X:D}(c:cl X=true)(b:Ta):ma [a.D,.int s,X] b=.ok (Wf s X) b:=by
 have p:=wx ha;unfold ma BS Wf;simp[p,c]
theorem xI(s:Int)(m:Sn)(b:Ta):Ga [a.D,.int s,m.D] b=.ok (Uo s m.n) b:=by
 have p:=wx ha;have c:=s0 m;unfold Ga LU Uo;simp[p,c]
end
structure o8(s:Sn):Prop where
 n:0<=s.n/\s.n<=1000000
 t:∀ t∈s.ts,t.Ok
 l:s.ts.length<=6
 d:¬ (s.ts.map Ti.w).Nodup
section
variable{s:Sn}(h:o8 s)(σ:Ta)
include h
omit h
include h
end
theorem NL{W:Int}{s:Sn}(h:s.Ok W):(s.ts.map Ti.w).Nodup/\s.ts.length<=9:=⟨h.st.d,by have:=h.st.l;omega⟩
theorem oG{W:Int}{s:Sn}(h:s.Ok W):∀ t∈s.ts,0<=t.a:=λt b=>by have:=(h.st.t t b).a;omega
theorem zY{W:Int}(h:s.Ok W):qv [s]:=⟨.inl ⟨s,rfl⟩,λt a=>by
 have:t=s:=by simpa using a
 subst this;exact NL h,λt a=>by
 have:t=s:=by simpa using a
 subst this;exact oG h⟩
theorem mP{W:Int}(h:s.Ok W)(b:r.Ok W):qv [s,r]:=⟨.inr ⟨s,r,rfl⟩,λt a=>by
 have a:t=s\/t=r:=by simpa using a
 rcases a with rfl|rfl
 ·exact NL h
 ·exact NL b,λt a=>by
 have a:t=s\/t=r:=by simpa using a
 rcases a with rfl|rfl
 ·exact oG h
 ·exact oG b⟩
section
variable{q:Int}(hq:q=0\/q=1)
include hq
theorem yk{m:Sn}{W:Int}(c:m.Ok W){G:D}{L:List D}(a:cl G=true)(b:fg L=true):(Da q m G L).Ok:=⟨hq,rfl,a,b,zY c⟩
theorem Qz{m o:Sn}{W:Int}(c:m.Ok W)(d:o.Ok W){G:D}{L:List D}(a:cl G=true)(b:fg L=true):(Ni q m o G L).Ok:=⟨hq,rfl,a,b,mP c d⟩
theorem xw{o m:Sn}{W:Int}(d:o.Ok W)(c:m.Ok W){G:D}{L:List D}(a:cl G=true)(b:fg L=true):(mi q o m G L).Ok:=⟨hq,rfl,a,b,mP d c⟩
end
section
variable{m s:Sn}{W:Int}(hm:m.Ok W)(hs:s.Ok W)(hn:s.n=m.n+1){G:D}{L:List D}(hg:cl G=true)(hl:fg L=true)(hLk:L.length<=100)
include hm hs hn hg hl
theorem WH(a:Ta):Kc [(Da 1 m G L).D,Lg s] a=.ok (.Ka [(mi 1 m s (Wf 0 s.D) L).D,bp m s]) a:=by
 have e:(1:Int)=0\/(1:Int)=1:=.inr rfl;have c:=yk e hm hg hl;have g:=xw e hm hs (Ct (s:=0) (Aj s)) hl;have t:=λa=>eI a hs.st;have i:∀ a,Uc [4,5,6,7] "side" (Da 1 m G L).D a=.ok (.int 1) a:=Yw c;have j:=wx c;have p:∀ a,Oa (Lg s) (.int 0) a=.ok (.str "offer") a:=λa=>by unfold Lg;simp
 have q:∀ a,Oa (Lg s) (.int 2) a=.ok (Wf 0 s.D) a:=λa=>by unfold Lg;simp
 have r:∀ a,Oa (Wf 0 s.D) (.int 3) a=.ok s.D a:=λa=>by unfold Wf;simp
 have h:=uE c 0 (Aj s);have d:∀ a,ma [(Da 1 m G L).D,.int 1,s.D] a=.ok (Wf 1 s.D) a:=uE c 1 (Aj s);have z:∀ a,Ga [(Da 1 m G L).D,.int 1,m.D] a=.ok (Uo 1 m.n) a:=xI c 1 m;have y:∀ a,ph (.str "offer") (.str "offer") a=.ok (.bl false) a:=λa=>br (by simp[pl]);have w:∀ b a,vm [(5,ma)] 3 "agree_of" b (Da 1 m G L).D a=(b a).bind (Gk 3 ma (Da 1 m G L).D):=λb a=>Fo (Ho rfl) rfl rfl;have v:∀ b a,vm [(5,Ga)] 3 "strike_of" b (Da 1 m G L).D a=(b a).bind (Gk 3 Ga (Da 1 m G L).D):=λb a=>Fo (Ho rfl) rfl rfl;have x:∀ a,ph (Lg s) (.Ka [.str "offer",.int 0,Wf 0 s.D]) a=.ok (.bl false) a:=λa=>br (Đ s);have o:=y4 hs hm hn;have u:∀ a,Uh a (Lp 7 7 Oj [.int 0,.int 1,s.D,Wf 0 s.D,.la [m.D,s.D],.la L] a)=.ok (mi 1 m s (Wf 0 s.D) L).D a:=zE g;have k:∀ a,Uc [4,5,6,7] "mine" (Da 1 m G L).D a=.ok m.D a:=JA c;have l:∀ a,Uc [4,5,6,7] "strikes" (Da 1 m G L).D a=.ok (.la L) a:=NE c;have f:cl (.Ka [(mi 1 m s (Wf 0 s.D) L).D,bp m s])=true:=by simp[Cy g,fZ]
 unfold bp at f ⊢;unfold Kc JO;simp[t,i,j,k,l,p,q,r,h,d,z,w,v,x,y,o,u,f]
theorem bR(c:Ta):bh [(Da 0 m G L).D,.Ka [.int s.a,.int s.b],.Ka (s.ts.map Ti.D)] c=.ok (.Ka [(Ni 0 m s G L).D,Lg s]) c:=by
 have f:(0:Int)=0\/(0:Int)=1:=.inl rfl;have e:=yk f hm hg hl;have g:=Qz f hm hs hg hl;have k:∀ c,Uc [4,5,6,7] "side" (Da 0 m G L).D c=.ok (.int 0) c:=Yw e;have o:∀ c,Uc [4,5,6,7] "pot" (Da 0 m G L).D c=.ok (.int 0) c:=wx e;have p:∀ c,Uc [4,5,6,7] "mine" (Da 0 m G L).D c=.ok m.D c:=JA e;have q:∀ c,Uc [4,5,6,7] "strikes" (Da 0 m G L).D c=.ok (.la L) c:=NE e;have r:∀ c,Uc [4,5,6,7] "grant" (Da 0 m G L).D c=.ok G c:=tV e;have u:=s0 m;have j:∀ c,Gh [m.D] c=.ok (.int W) c:=λc=>by rw[<-hm.w];exact cL _ _ _ (by have:=hm.st.l;omega) c
 have E:∀ c,ke [s.D,.int W] c=.ok (.bl true) c:=λc=>by rw[<-hs.w];exact sP hs.st c
 have C:D.Ka [.int (m.n+1),.Ka [.int s.a,.int s.b],.Ka (s.ts.map Ti.D)]=s.D:=by rw[<-hn];rfl
 have A:∀ c,ph (.str "calm") (.str "calm") c=.ok (.bl false) c:=λc=>br (by simp[pl]);have i:∀ x c,Kb [x] c=.ok (.str "calm") c:=λx c=>by unfold Kb kE;simp
 have z:∀ d c,vm [(5,Kb),(6,Xb),(7,Wb)] 1 "word" d (Da 0 m G L).D c=(d c).bind (Gk 1 Kb (Da 0 m G L).D):=λd c=>Fo (Ho rfl) rfl rfl;have h:∀ c,ma [(Da 0 m G L).D,.int 0,s.D] c=.ok (Wf 0 s.D) c:=uE e 0 (Aj s);have y:∀ d c,vm [(4,ma),(5,ma),(6,ma),(7,ma)] 3 "agree_of" d (Da 0 m G L).D c=(d c).bind (Gk 3 ma (Da 0 m G L).D):=λd c=>Fo (Ho rfl) rfl rfl;have v:∀ c,Uh c (Lp 6 7 Oj [.int 0,.int 0,m.D,G,.la [m.D,s.D],.la L] c)=.ok (Ni 0 m s G L).D c:=zE g;have B:D.Ka [.str "offer",.int 0,Wf 0 s.D]=Lg s:=rfl;have t:cl (.Ka [(Ni 0 m s G L).D,Lg s])=true:=by simp[Cy g,MQ]
 unfold bh JV;simp[k,o,p,q,r,u,j,E,C,A,i,z,h,y,v,B,t]
omit hn
include hLk
theorem ő(a:Ta):kc [(Ni 0 m s G L).D,bp m s] a=.ok (.Ka [(Da 0 s (Wf 1 s.D) (L++[.int m.n])).D,Jq m.n]) a:=by
 have f:(0:Int)=0\/(0:Int)=1:=.inl rfl;have b:=Qz f hm hs hg hl;have d:fg (L++[.int m.n])=true:=by rw[OH,hl];rfl
 have g:=yk f hs (Ct (s:=1) (Aj s)) d;have t:=λa=>TQ a hs.st hm.st.n;have j:∀ a,Uc [4,5,6,7] "side" (Ni 0 m s G L).D a=.ok (.int 0) a:=Yw b;have k:∀ a,Uc [4,5,6,7] "pot" (Ni 0 m s G L).D a=.ok (.int 0) a:=wx b;have l:∀ a,Uc [4,5,6,7] "mine" (Ni 0 m s G L).D a=.ok m.D a:=JA b;have o:∀ a,Uc [4,5,6,7] "strikes" (Ni 0 m s G L).D a=.ok (.la L) a:=NE b;have p:∀ a,Uc [4,5,6,7] "may" (Ni 0 m s G L).D a=.ok (.la [m.D,s.D]) a:=rG b;have i:∀ a,ma [(Ni 0 m s G L).D,.int 1,s.D] a=.ok (Wf 1 s.D) a:=uE b 1 (Aj s);have y:∀ a,Ga [(Ni 0 m s G L).D,.int 1,m.D] a=.ok (Uo 1 m.n) a:=xI b 1 m;have e:∀ a,Ga [(Ni 0 m s G L).D,.int 0,m.D] a=.ok (Uo 0 m.n) a:=xI b 0 m;have r:=s0 m;have w:∀ c a,vm [(6,ma)] 3 "agree_of" c (Ni 0 m s G L).D a=(c a).bind (Gk 3 ma (Ni 0 m s G L).D):=λc a=>Fo (Ho rfl) rfl rfl;have v:∀ c a,vm [(6,Ga)] 3 "strike_of" c (Ni 0 m s G L).D a=(c a).bind (Gk 3 Ga (Ni 0 m s G L).D):=λc a=>Fo (Ho rfl) rfl rfl;have x:∀ a,ph (bp m s) (.Ka [.str "accept",.int 0,Wf 1 s.D,Uo 1 m.n]) a=.ok (.bl false) a:=λa=>br (F4 m s);have h:∀ a,Nh (.la L) (.la [.int m.n]) a=.ok (.la (L++[.int m.n])) a:=λa=>uC (by unfold ai;simp;omega);have u:∀ a,Uh a (Lp 5 7 Oj [.int 0,.int 0,s.D,Wf 1 s.D,.la [s.D],.la (L++[.int m.n])] a)=.ok (Da 0 s (Wf 1 s.D) (L++[.int m.n])).D a:=zE g;have st:D.Ka [.str "struck",.int 0,Uo 0 m.n]=Jq m.n:=rfl;have q:cl (.Ka [(Da 0 s (Wf 1 s.D) (L++[.int m.n])).D,Jq m.n])=true:=by simp[Cy g,τ]
 unfold kc iP;simp[t,j,k,l,o,p,i,y,e,r,w,v,x,h,u,st,q]
theorem à(a:Ta):lc [(mi 1 m s G L).D,Jq m.n] a=.ok (.Ka [(Da 1 s G (L++[.int m.n])).D,.wc]) a:=by
 have e:(1:Int)=0\/(1:Int)=1:=.inr rfl;have b:=xw e hm hs hg hl;have d:fg (L++[.int m.n])=true:=by rw[OH,hl];rfl
 have f:=yk e hs hg d;have r:=λa=>JU a hm.st.n;have h:∀ a,Uc [4,5,6,7] "side" (mi 1 m s G L).D a=.ok (.int 1) a:=Yw b;have i:=wx b;have j:∀ a,Uc [4,5,6,7] "mine" (mi 1 m s G L).D a=.ok s.D a:=JA b;have k:∀ a,Uc [4,5,6,7] "strikes" (mi 1 m s G L).D a=.ok (.la L) a:=NE b;have l:∀ a,Uc [4,5,6,7] "may" (mi 1 m s G L).D a=.ok (.la [m.D,s.D]) a:=rG b;have o:∀ a,Uc [4,5,6,7] "grant" (mi 1 m s G L).D a=.ok G a:=tV b;have q:=s0 m;have w:∀ a,Ga [(mi 1 m s G L).D,.int 0,m.D] a=.ok (Uo 0 m.n) a:=xI b 0 m;have u:∀ c a,vm [(7,Ga)] 3 "strike_of" c (mi 1 m s G L).D a=(c a).bind (Gk 3 Ga (mi 1 m s G L).D):=λc a=>Fo (Ho rfl) rfl rfl;have v:∀ a,ph (Jq m.n) (.Ka [.str "struck",.int 0,Uo 0 m.n]) a=.ok (.bl false) a:=λa=>br (DZ ..);have g:∀ a,Nh (.la L) (.la [.int m.n]) a=.ok (.la (L++[.int m.n])) a:=λa=>uC (by unfold ai;simp;omega);have t:∀ a,Uh a (Lp 5 7 Oj [.int 0,.int 1,s.D,G,.la [s.D],.la (L++[.int m.n])] a)=.ok (Da 1 s G (L++[.int m.n])).D a:=zE f;have p:cl (.Ka [(Da 1 s G (L++[.int m.n])).D,.wc])=true:=by simp[Cy f]
 unfold lc gO;simp[r,h,i,j,k,l,o,q,w,u,v,g,t,p]
end
theorem A7(m:e b a=.ok x a)(n:f b a=.ok y a)(p:mn a x=some (c,i))(q:mn a y=some (d,k))(o:(c,d)∈l):vC l h e f j g b a=g b a:=by
 unfold vC;rw[Wn,m,Hq,Wn,n,Hq];unfold yL;simp only[p,q];rw[ia o]
def vq(d:Int)(s:Sn):D:=.Ka [.int d,.Ka [.int s.a,.int s.b],.Ka (s.ts.map Ti.D)]
abbrev QV(d:Int)(s:Sn):Kv:=[(.inl 0,vq d s)]
section
variable{σ0:Ta}{q g:Int}{K:List Int}{a:Ac}{F:Bool}{J:Ta}
theorem Nz(Q:Kv):(SA σ0 g K a Q F J)[σ0.length+5]?=some (.yc Q):=Iv 5
theorem JF(Q:Kv):Tj (SA σ0 g K a Q F J) (.ref (σ0.length+5))=some Q:=by unfold Tj;simp[Nz]
theorem AF(h:∀ c,Oa X (.int 0) c=.ok (.str k) c)(l:∀ c,Oa X (.int 1) c=.ok (.int 0) c)(j:Q=[]\/(k == ("offer" : Str))=false):Va [.ref σ0.length,X] (SA σ0 g K a Q F J)=.ok (.bl false) (SA σ0 g K a Q F J):=by
 have i:=Az (ym σ0 a.q g K (AV a) Q F J);have n:Q=[]->Ju (.int 0) (.ref (σ0.length+5)) (SA σ0 g K a Q F J)=.ok (.bl true) (SA σ0 g K a Q F J):=λe=>by
  unfold Ju;simp only[JF];rw[e];rfl
 have f:∀ c,ph (.str k) (.str "offer") c=.ok (.bl (!(k == "offer"))) c:=λc=>my (b:=(k == "offer")) (by simp[li,kd,Io,Mj]);unfold Va pH;rcases j with d|d
 ·have n:=n d;generalize (k == ("offer" : Str))=B at *;cases B<;>simp[h,l,i,n,f]
 ·rw[d]at f;simp[h,i,f]
theorem aZ(d:Int)(s:Sn):Va [.ref σ0.length,Lg s] (SA σ0 g K a (QV d s) F J)=.ok (.bl true) (SA σ0 g K a (QV d s) F J):=by
 have o:=Az (ym σ0 a.q g K (AV a) (QV d s) F J);have n:Ju (.int 0) (.ref (σ0.length+5)) (SA σ0 g K a (QV d s) F J)=.ok (.bl false) (SA σ0 g K a (QV d s) F J):=by
  unfold Ju;simp only[JF];rfl
 have gt:Xk (.ref (σ0.length+5)) (.int 0) (SA σ0 g K a (QV d s) F J)=.ok (vq d s) (SA σ0 g K a (QV d s) F J):=Vz (Nz _) rfl;have p:∀ c,ph (.str "offer") (.str "offer") c=.ok (.bl false) c:=λc=>br (by simp[pl]);have j:∀ c,Oa (Lg s) (.int 0) c=.ok (.str "offer") c:=λc=>by unfold Lg;simp
 have k:∀ c,Oa (Lg s) (.int 1) c=.ok (.int 0) c:=λc=>by unfold Lg;simp
 have l:∀ c,Oa (Lg s) (.int 2) c=.ok (Wf 0 s.D) c:=λc=>by unfold Lg;simp
 have m:∀ c,Oa (Wf 0 s.D) (.int 3) c=.ok s.D c:=λc=>by unfold Wf;simp
 have f:pv [.int s.n,.Ka [.int s.a,.int s.b],.Ka (s.ts.map Ti.D)] (some 1) none=[.Ka [.int s.a,.int s.b],.Ka (s.ts.map Ti.D)]:=rfl;have h:pv [.int d,.Ka [.int s.a,.int s.b],.Ka (s.ts.map Ti.D)] (some 1) none=[.Ka [.int s.a,.int s.b],.Ka (s.ts.map Ti.D)]:=rfl;have l1:∀ c,fw s.D (some 1) none c=.ok (.Ka [.Ka [.int s.a,.int s.b],.Ka (s.ts.map Ti.D)]) c:=λc=>by
  unfold Sn.D Bm;rw[qC,f]
 have l2:∀ c,fw (vq d s) (some 1) none c=.ok (.Ka [.Ka [.int s.a,.int s.b],.Ka (s.ts.map Ti.D)]) c:=λc=>by
  unfold vq;rw[qC,h]
 have i:∀ c,Gf (.Ka [.Ka [.int s.a,.int s.b],.Ka (s.ts.map Ti.D)]) (.Ka [.Ka [.int s.a,.int s.b],.Ka (s.ts.map Ti.D)]) c=.ok (.bl true) c:=λc=>WS (kB λx e=>by
  have e:x=.Ka [.int s.a,.int s.b]\/x=.Ka (s.ts.map Ti.D):=by simpa using e
  rcases e with rfl|rfl
  ·simp[pl]
  ·exact KQ 5 s.ts)
 unfold Va pH;simp[j,k,l,m,o,n,p,gt,l1,l2,i]
end
@[simp] theorem zv4(b:List Nat)(f:Str)(d c:Ev->M D)(a:Ev)(e:Ta):jG b f d c a e=Ln a (Zz a b f d) (c a e):=Wn ..
section
variable{σ0:Ta}{q g:Int}{K:List Int}{a:Ac}{F:Bool}{J:Ta}
theorem rQ(h:c b (SA σ0 g K a Q F J)=.ok (.int d) (SA σ0 g K a Q F J)):Zz b [9] "gave" c (.ref σ0.length) (SA σ0 g K a Q F J)=.ok (.nx b) (SA σ0 (g+d) K a Q F J):=by
 have f:=Fw (ym σ0 a.q g K (AV a) Q F J);have e:=(ym σ0 a.q g K (AV a) Q F J).h0;have lk:List.lookup ("gave" : Str) (Qw σ0.length a.q g)=some (D.int g):=rfl;unfold Zz;rw[f];simp only[lk];rw[Wn,h,Hq];unfold DL;simp only[e];unfold SA S;rw[sQ];rfl
theorem y0(d:Int)(s:Sn):Lz (.ref (σ0.length+5)) [.int 0] (SA σ0 g K a (QV d s) F J)=.ok (vq d s) (SA σ0 g K a [] F J):=by
 have h:=Nz (σ0:=σ0) (g:=g) (K:=K) (a:=a) (F:=F) (J:=J) (QV d s);unfold Lz;simp only[Ip,h];unfold SA S;rw[zw];rfl
theorem k7(c:Q.length<=9)(X:D)(b:Ev):ku b X (.ref (σ0.length+5)) (.int 0) (SA σ0 g K a Q F J)=.ok (.nx b) (SA σ0 g K a (Jn Q (.inl 0) X) F J):=by
 rw[Dw (Nz Q) (by omega)];unfold SA S;rw[zw];rfl
variable{x:Ac}(hK:K.length<=60)(ha:a.Ok)(hx:x.Ok)(hxq:x.q=a.q)
include ha
theorem WI{Q:Kv}{c:Nat}(h:(x.c,a.c)∈[(7,5),(5,7),(5,6)])(hx:x.Ok)(R X:D)(d e:Option D)(b:Ev->M Fl):vC [(7,5),(5,7),(5,6)] [5] (Ba Oa (ba 3) (eC (.int 0))) (Ba Xk (Cd (Uc [9] "accounts") (ba 0)) (ba 2)) (gd (ci Ja)) b [some (.ref σ0.length),some X,some (.int 0),some (.Ka [x.D,R]),d,e] (SA σ0 g K a Q F J)=b [some (.ref σ0.length),some X,some (.int 0),some (.Ka [x.D,R]),d,e] (SA σ0 g K a Q F J):=by
 have i:=ou (ym σ0 a.q g K (AV a) Q F J);have f:=Aw (σ0:=σ0) (g:=g) (K:=K) (a:=a) (Q:=Q) (F:=F) (J:=J);refine A7 ?_ ?_ (cx hx _) (cx ha _) h
 ·simp
 ·unfold SA at *;simp[i,f]
include hK hx hxq
theorem wF{Q:Kv}{X R:D}{f:Bool}{j:List D->M D}(r:∀ b,Oa X (.int 1) b=.ok (.int 0) b)(p:Va [.ref σ0.length,X] (SA σ0 g K a Q F J)=.ok (.bl false) (SA σ0 g K a Q F J))(u:∀ d b,vm [(5,Kc),(6,kc),(7,lc)] 2 "taken" d a.D b=(d b).bind (Gk 2 j a.D))(y:∀ b,j [a.D,X] b=.ok (.Ka [x.D,R]) b)(e:(x.c,a.c)∈[(7,5),(5,7),(5,6)])(w:∀ b,Ft R .wc b=.ok (.bl f) b)(h:W K a<=W K x):Mb [.ref σ0.length,X] (SA σ0 g K a Q F J)=.ok (.la (if f then []else [R])) (SA σ0 g K x Q F J):=by
 have i:=ym σ0 a.q g K (AV a) Q F J;have s:=ou i;have n:=Aw (σ0:=σ0) (g:=g) (K:=K) (a:=a) (Q:=Q) (F:=F) (J:=J);have l:=λz A o=>WI (σ0:=σ0) (g:=g) (K:=K) (F:=F) (J:=J) (c:=0) (Q:=Q) ha e hx R X z A o;have k:=RB (σ0:=σ0) (g:=g) (Q:=Q) (F:=F) (J:=J) hK ha hx hxq 0;rw[lb (show W K x ≥ W K a - 0 by omega)]at k;have t:=λd=>Zn i (m:="is_good") 3 Nb d rfl;have v:=λd=>Zn i (m:="is_as_asked") 2 Va d rfl;have sa:=λB=>tG (σ0:=σ0) (g:=g) (K:=K) (Q:=Q) (F:=F) (J:=J) x hxq B;unfold Mb QG UG bG iI MG zG UF YH IG;cases f<;>simp[s,n,r,u,y,l,k,t,v,p,sa,w]
theorem jX{Q:Kv}{X R:D}{e:Bool}{l:List D->M D}(p:∀ b,Oa X (.int 1) b=.ok (.int 0) b)(o:Va [.ref σ0.length,X] (SA σ0 g K a Q F J)=.ok (.bl e) (SA σ0 g K a Q F J))(B:e=true->∃ s,Q=QV 0 s)(u:∀ d b,vm [(5,Kc),(6,kc),(7,lc)] 2 "taken" d a.D b=(d b).bind (Gk 2 l a.D))(w:∀ b,l [a.D,X] b=.ok (.Ka [x.D,R]) b)(j:(x.c,a.c)∈[(7,5),(5,7),(5,6)])(h:¬ W K a<=W K x):Mb [.ref σ0.length,X] (SA σ0 g K a Q F J)=.ok (.la []) (SA σ0 g K a Q F J):=by
 have f:=ym σ0 a.q g K (AV a) Q F J;have r:=ou f;have C:=Az f;have n:=Aw (σ0:=σ0) (g:=g) (K:=K) (a:=a) (Q:=Q) (F:=F) (J:=J);have k:=λE G A=>WI (σ0:=σ0) (g:=g) (K:=K) (F:=F) (J:=J) (c:=0) (Q:=Q) ha j hx R X E G A;have i:=RB (σ0:=σ0) (g:=g) (Q:=Q) (F:=F) (J:=J) hK ha hx hxq 0;rw[Ua (show ¬ W K x ≥ W K a - 0 by omega)]at i;have t:=λd=>Zn f (m:="is_good") 3 Nb d rfl;have v:=λd=>Zn f (m:="is_as_asked") 2 Va d rfl;unfold Mb QG UG bG iI MG zG UF YH IG;cases e with
 |false=>simp[r,n,p,u,w,k,i,t,v,o]
 |true=>
  obtain⟨s,rfl⟩:=B rfl;have z:Xk (.ref (σ0.length+5)) (.int 0) (SA σ0 g K a (QV 0 s) F J)=.ok (vq 0 s) (SA σ0 g K a (QV 0 s) F J):=Vz (Nz _) rfl;have y:∀ b,Oa (vq 0 s) (.int 0) b=.ok (.int 0) b:=λb=>by unfold vq;simp
  simp[r,C,n,p,u,w,k,i,t,v,o,z,y]
theorem NY{d:Int}{s:Sn}{R:D}{r:List D->M D}(I:∀ e b,vm [(5,Kc),(6,kc),(7,lc)] 2 "taken" e a.D b=(e b).bind (Gk 2 r a.D))(S:∀ b,r [a.D,Lg s] b=.ok (.Ka [x.D,R]) b)(j:(x.c,a.c)∈[(7,5),(5,7),(5,6)])(P:∀ b,Ft R .wc b=.ok (.bl false) b)(h:W K a - d<=W K x):Mb [.ref σ0.length,Lg s] (SA σ0 g K a (QV d s) F J)=.ok (.la [R]) (SA σ0 (g+d) K x [] F J):=by
 have i:=ym σ0 a.q g K (AV a) (QV d s) F J;have T:=ym σ0 x.q g K (AV x) (QV d s) F J;have C:∀ b,Oa (Lg s) (.int 1) b=.ok (.int 0) b:=λb=>by unfold Lg;simp
 have E:=ou i;have G:=Az i;have k:=Az T;have w:=Aw (σ0:=σ0) (g:=g) (K:=K) (a:=a) (Q:=QV d s) (F:=F) (J:=J);have v:=λf U z=>WI (σ0:=σ0) (g:=g) (K:=K) (F:=F) (J:=J) (c:=0) (Q:=QV d s) ha j hx R (Lg s) f U z;have t:=RB (σ0:=σ0) (g:=g) (Q:=QV d s) (F:=F) (J:=J) hK ha hx hxq d;rw[lb (show W K x ≥ W K a - d by omega)]at t;have B:=aZ (σ0:=σ0) (g:=g) (K:=K) (F:=F) (J:=J) (a:=a) d s;have H:=λe=>Zn i (m:="is_good") 3 Nb e rfl;have N:=λe=>Zn i (m:="is_as_asked") 2 Va e rfl;have y:Xk (.ref (σ0.length+5)) (.int 0) (SA σ0 g K a (QV d s) F J)=.ok (vq d s) (SA σ0 g K a (QV d s) F J):=Vz (Nz _) rfl;have u:∀ b,Oa (vq d s) (.int 0) b=.ok (.int d) b:=λb=>by unfold vq;simp
 have sa:=λV=>tG (σ0:=σ0) (g:=g) (K:=K) (Q:=QV d s) (F:=F) (J:=J) x hxq V;have L:∀ e,gz Lz e (.ref (σ0.length+5)) (SA σ0 g K x (QV d s) F J)=(e (SA σ0 g K x (QV d s) F J)).bind (Lz (.ref (σ0.length+5))):=λe=>by
  unfold gz;rw[JF];rfl
 have O:=y0 (σ0:=σ0) (g:=g) (K:=K) (a:=x) (F:=F) (J:=J) d s;have A:∀ (l n o p f:Option D),Zz [l,n,o,p,f,some (.int d)] [9] "gave" (ba 5) (.ref σ0.length) (SA σ0 g K x [] F J)=.ok (.nx [l,n,o,p,f,some (.int d)]) (SA σ0 (g+d) K x [] F J):=λl n o p f=>rQ (by simp);unfold Mb QG UG bG iI MG zG UF YH IG;simp[E,G,k,w,C,I,S,v,t,H,N,B,y,u,sa,L,O,A,P]
omit hK hx hxq
omit ha
theorem zB(h:∀ b,Yc [X] b=.ok (.bl true) b)(j:∀ b,Oa X (.int 0) b=.ok (.str k) b)(l:∀ b,Oa X (.int 1) b=.ok (.int 0) b)(o:(k == ("word" : Str))=false)(n:(k == ("ask" : Str))=false)
  (st:Mb [.ref σ0.length,X] (SA σ0 g K a Q F J)=.ok d c):Bb [.ref σ0.length,X] (SA σ0 g K a Q F J)=.ok d c:=by
 have f:=ym σ0 a.q g K (AV a) Q F J;have i:=qG (σ0:=σ0) (g:=g) (K:=K) (a:=a) (Q:=Q) (F:=F) (J:=J);have p:=λe=>Zn f (m:="holds") 2 Oc e rfl;have r:=λe=>Zn f (m:="take_step") 2 Mb e rfl;unfold Bb lH;simp[h,j,l,o,n,i,p,r,st]
end
section
variable{σ0:Ta}{q g:Int}{K:List Int}(hK:K.length<=60){Q:Kv}{F:Bool}{J:Ta}{m s:Sn}{T:Int}(hm:m.Ok T)(hs:s.Ok T)(hn:s.n=m.n+1){G:D}{L:List D}(hg:cl G=true)(hl:fg L=true)(hLk:L.length<=100)
include hK hm hs hn hg hl
theorem ķ(h:W K (Da 1 m G L)<=W K (mi 1 m s (Wf 0 s.D) L)):Bb [.ref σ0.length,Lg s] (SA σ0 g K (Da 1 m G L) [] F J)=.ok (.la [bp m s]) (SA σ0 g K (mi 1 m s (Wf 0 s.D) L) [] F J):=by
 have d:=yk (.inr rfl) hm hg hl;have e:=xw (.inr rfl) hm hs (Ct (s:=0) (Aj s)) hl;have c:∀ a,Oa (Lg s) (.int 0) a=.ok (.str "offer") a:=λa=>by unfold Lg;simp
 have b:∀ a,Oa (Lg s) (.int 1) a=.ok (.int 0) a:=λa=>by unfold Lg;simp
 have st:=wF (σ0:=σ0) (g:=g) (F:=F) (J:=J) hK d e rfl b (AF c b (.inl rfl)) (λf a=>Fo (Ho rfl) rfl rfl) (λa=>WH hm hs hn hg hl a) (by simp[mi,Da]) (λa=>rfl) h;exact zB (λa=>eI a hs.st) c b (by decide) (by decide) st
theorem hV{d:Int}(h:W K (Da 1 m G L) - d<=W K (mi 1 m s (Wf 0 s.D) L)):Bb [.ref σ0.length,Lg s] (SA σ0 g K (Da 1 m G L) (QV d s) F J)=.ok (.la [bp m s]) (SA σ0 (g+d) K (mi 1 m s (Wf 0 s.D) L) [] F J):=by
 have b:=yk (.inr rfl) hm hg hl;have c:=xw (.inr rfl) hm hs (Ct (s:=0) (Aj s)) hl;have e:∀ a,Oa (Lg s) (.int 0) a=.ok (.str "offer") a:=λa=>by unfold Lg;simp
 have f:∀ a,Oa (Lg s) (.int 1) a=.ok (.int 0) a:=λa=>by unfold Lg;simp
 have st:=NY (σ0:=σ0) (g:=g) (F:=F) (J:=J) hK b c rfl (λi a=>Fo (Ho rfl) rfl rfl) (λa=>WH hm hs hn hg hl a) (by simp[mi,Da]) (λa=>rfl) h;exact zB (λa=>eI a hs.st) e f (by decide) (by decide) st
theorem XN:Bb [.ref σ0.length,Dn s] (SA σ0 g K (Da 0 m G L) Q F J)=if W K (Da 0 m G L)<=W K (Ni 0 m s G L)then .ok (.la [Lg s]) (SA σ0 g K (Ni 0 m s G L) Q F J)else .ok (.la []) (SA σ0 g K (Da 0 m G L) Q F J):=by
 have y:=yk (.inl rfl) hm hg hl;have z:=Qz (.inl rfl) hm hs hg hl;have i:=ym σ0 (Da 0 m G L).q g K (AV (Da 0 m G L)) Q F J;have n:∀ c,Oa (Dn s) (.int 0) c=.ok (.str "ask") c:=λc=>by unfold Dn;simp
 have f:∀ c,Oa (Dn s) (.int 1) c=.ok (.int 0) c:=λc=>by unfold Dn;simp
 have o:∀ c,Oa (Dn s) (.int 2) c=.ok (.Ka [.int s.a,.int s.b]) c:=λc=>by unfold Dn;simp
 have p:∀ c,Oa (Dn s) (.int 3) c=.ok (.Ka (s.ts.map Ti.D)) c:=λc=>by unfold Dn;simp
 have r:=ou i;have k:=Aw (σ0:=σ0) (g:=g) (K:=K) (a:=Da 0 m G L) (Q:=Q) (F:=F) (J:=J);have x:=bR hm hs hn hg hl;have e:=RB (σ0:=σ0) (g:=g) (Q:=Q) (F:=F) (J:=J) hK y z rfl 0;rw[Int.sub_zero]at e;have u:=λd=>Zn i (m:="is_good") 3 Nb d rfl;have sa:=λA=>tG (σ0:=σ0) (g:=g) (K:=K) (a:=Da 0 m G L) (Q:=Q) (F:=F) (J:=J) (Ni 0 m s G L) rfl A;have t:=λc=>BY c hs.st;have l:=qG (σ0:=σ0) (g:=g) (K:=K) (a:=Da 0 m G L) (Q:=Q) (F:=F) (J:=J);have v:=λd=>Zn i (m:="holds") 2 Oc d rfl;have w:=λd=>Zn i (m:="take_ask") 2 Jc d rfl;unfold Bb lH;by_cases h:W K (Da 0 m G L)<=W K (Ni 0 m s G L)
 ·rw[lb h]at e;rw[ia h];have j:Jc [.ref σ0.length,Dn s] (SA σ0 g K (Da 0 m G L) Q F J)=.ok (.la [Lg s]) (SA σ0 g K (Ni 0 m s G L) Q F J):=by
   unfold Jc GL rM sM fL EK;simp[r,k,f,o,p,x,e,u,sa]
  simp[t,n,f,l,v,w,j]
 ·rw[Ua h]at e;rw[ka h];have j:Jc [.ref σ0.length,Dn s] (SA σ0 g K (Da 0 m G L) Q F J)=.ok (.la []) (SA σ0 g K (Da 0 m G L) Q F J):=by
   unfold Jc GL rM sM fL EK;simp[r,k,f,o,p,x,e,u]
  simp[t,n,f,l,v,w,j]
omit hn
include hLk
theorem Q3(h:W K (Ni 0 m s G L)<=W K (Da 0 s (Wf 1 s.D) (L++[.int m.n]))):Bb [.ref σ0.length,bp m s] (SA σ0 g K (Ni 0 m s G L) Q F J)=.ok (.la [Jq m.n]) (SA σ0 g K (Da 0 s (Wf 1 s.D) (L++[.int m.n])) Q F J):=by
 have e:=Qz (.inl rfl) hm hs hg hl;have b:fg (L++[.int m.n])=true:=by rw[OH,hl];rfl
 have f:=yk (.inl rfl) hs (Ct (s:=1) (Aj s)) b;have d:∀ a,Oa (bp m s) (.int 0) a=.ok (.str "accept") a:=λa=>by unfold bp;simp
 have c:∀ a,Oa (bp m s) (.int 1) a=.ok (.int 0) a:=λa=>by unfold bp;simp
 have st:=wF (σ0:=σ0) (g:=g) (F:=F) (J:=J) (Q:=Q) hK e f rfl c (AF d c (.inr (by decide))) (λi a=>Fo (Ho rfl) rfl rfl) (λa=>ő hm hs hg hl hLk a) (by simp[Ni,Da]) (λa=>rfl) h;exact zB (λa=>TQ a hs.st hm.st.n) d c (by decide) (by decide) st
theorem ž(h:W K (mi 1 m s G L)<=W K (Da 1 s G (L++[.int m.n]))):Bb [.ref σ0.length,Jq m.n] (SA σ0 g K (mi 1 m s G L) Q F J)=.ok (.la []) (SA σ0 g K (Da 1 s G (L++[.int m.n])) Q F J):=by
 have e:=xw (.inr rfl) hm hs hg hl;have b:fg (L++[.int m.n])=true:=by rw[OH,hl];rfl
 have f:=yk (.inr rfl) hs hg b;have d:∀ a,Oa (Jq m.n) (.int 0) a=.ok (.str "struck") a:=λa=>by unfold Jq;simp
 have c:∀ a,Oa (Jq m.n) (.int 1) a=.ok (.int 0) a:=λa=>by unfold Jq;simp
 have st:=wF (σ0:=σ0) (g:=g) (F:=F) (J:=J) (Q:=Q) hK e f rfl c (AF d c (.inr (by decide))) (λi a=>Fo (Ho rfl) rfl rfl) (λa=>à hm hs hg hl hLk a) (by simp[mi,Da]) (λa=>rfl) h;exact zB (λa=>JU a hm.st.n) d c (by decide) (by decide) st
omit hs hLk
end
noncomputable def sa(q d a:Int):Int:=if q=0 then a+d else a
def sb(q d b:Int):Int:=if q=0 then b else b+d
theorem kI(e:q=0\/q=1)(a b d:Int)(c:Ta):He [.Ka [.int a,.int b],.int q,.int d] c=.ok (.Ka [.int (sa q d a),.int (sb q d b)]) c:=by
 unfold He TV sa sb;rcases e with rfl|rfl<;>simp
abbrev NW(m:Sn)(w:Int):Prop:=w ∉ m.ts.map Ti.w/\m.ts.length<=5
def So(m:Sn)(q d:Int):Sn:=⟨m.n+1,sa (1 - q) d (sa q (-d) m.a),sb (1 - q) d (sb q (-d) m.b),m.ts⟩
def oj(m:Sn)(t:Ti):Sn:=⟨m.n+1,sa t.p (-t.a) m.a,sb t.p (-t.a) m.b,m.ts++[t]⟩
def rm(w:Int)(a:List Ti):List Ti:=a.filter λu=>decide (u.w≠w)
def wh(m:Sn)(t:Ti)(r:Int):Sn:=⟨m.n+1,sa r t.a m.a,sb r t.a m.b,rm t.w m.ts⟩
section
variable{m s:Sn}{W:Int}(hm:m.Ok W)(hW:W<=2000000000000)(hn:m.n<=99)
theorem ġ(h:∀ c,md [s.D] c=.ok (.bl b) c)(c:Ta):Hh [.int s.n,.Ka [.int s.a,.int s.b],.Ka (s.ts.map Ti.D)] c=if b then .ok s.D c else .ex ⟨1⟩ c:=by
 have e:D.Ka [.int s.n,.Ka [.int s.a,.int s.b],.Ka (s.ts.map Ti.D)]=s.D:=rfl;have d:=Aj s;unfold Hh iJ;cases b<;>simp[e,h,d]
theorem MJ(h:∀ c,md [s.D] c=.ok (.bl b) c)(e:s.n=m.n+1)(c:Ta):Ad [m.D,.Ka [.int s.a,.int s.b],.Ka (s.ts.map Ti.D)] c=if b then .ok s.D c else .ex ⟨1⟩ c:=by
 have st:=ġ h;rw[e]at st;have f:=s0 m;have d:=Aj s;unfold Ad BP;cases b<;>simp[f,st,d]
include hm hW hn
theorem KZ(d:Int)(a:Ta):Je [.int d] a=.ok (.bl (bd (.int d) 1 1000000000000)) a:=by
 have b:=iz (d:=.int d) rfl 1 1000000000000 a;unfold Je kN;simp[b]
theorem FV{q d:Int}(f:q=0\/q=1)(i:0<=d)(c:d<=ow q m):(So m q d).Ok W:=by
 obtain⟨⟨n,a,b,t,l,e⟩,w⟩:=hm;have j:0<=Pr m.ts:=by
  refine RH λx h=>?_;obtain⟨u,g,rfl⟩:=gb.mp h;have:=(t u g).a;omega
 rcases f with rfl|rfl
 ·simp only[ow,xg]at c;refine⟨⟨?_,?_,?_,t,l,e⟩,?_⟩<;>simp[So,sa,sb]<;>omega
 ·simp only[ow]at c;refine⟨⟨?_,?_,?_,t,l,e⟩,?_⟩<;>simp[So,sa,sb]<;>omega
theorem W6{q:Int}(f:q=0\/q=1)(d:Int)(c:Ta):jk [m.D,.int q,.int d] c=if (1<=d/\d<=1000000000000)/\d<=ow q m then .ok (So m q d).D c else .ex ⟨1⟩ c:=by
 have k:=XJ f;have e:=KZ hm hW hn d;by_cases i:1<=d/\d<=1000000000000
 ·have j:bd (.int d) 1 1000000000000=true:=by simp[bd,i]
  rw[j]at e;have v:=kI f m.a m.b (-d);have w:=kI (q:=1 - q) (by omega) (sa q (-d) m.a) (sb q (-d) m.b) d;have x:=JK q;have r:=s1 m;have u:=s2 m;have st:∀ c,md [(So m q d).D] c=.ok (.bl (decide (d<=ow q m))) c:=λc=>by
   by_cases h:d<=ow q m
   ·rw[lb h];exact tz (FV hm hW hn f (by omega) h).st c
   ·rw[Ua h];have:=QM (n:=m.n+1) (a:=(So m q d).a) (b:=(So m q d).b) (by have:=hm.st.n;omega) hm.st.t (by have:=hm.st.l;omega) c;have z:Gs (So m q d).a (So m q d).b=false:=by
     have:=hm.st.a;have:=hm.st.b;rcases f with rfl|rfl
     ·simp[ow]at h;simp[So,sa,Gs,bd];omega
     ·simp[ow]at h;simp[So,sb,Gs,bd];omega
    rw[z,Yp]at this;exact this
  have g:=MJ (m:=m) (s:=So m q d) st rfl;have g:∀ c,Ad [m.D,.Ka [.int (sa (1 - q) d (sa q (-d) m.a)),.int (sb (1 - q) d (sb q (-d) m.b))],.Ka (m.ts.map Ti.D)] c=if decide (d<=ow q m)then .ok (So m q d).D c else .ex ⟨1⟩ c:=g;have p:=Aj (So m q d);have o:((1<=d/\d<=1000000000000)/\d<=ow q m)=(d<=ow q m):=by simp[i]
  simp only[o];unfold jk OM;by_cases h:d<=ow q m<;>simp[k,e,v,w,x,r,u,g,h,p]
 ·have j:bd (.int d) 1 1000000000000=false:=by simp[bd];omega
  rw[j]at e;rw[ka λz=>i z.1];unfold jk OM;simp[k,e]
theorem RQ{t:Ti}(g:t.Ok)(d:t.a<=ow t.p m)(i:NW m t.w):(oj m t).Ok W:=by
 obtain⟨⟨n,a,b,s,l,r⟩,w⟩:=hm;have e:Pr (m.ts++[t])=Pr m.ts+t.a:=by simp[Pr]
 have j:∀ u∈(oj m t).ts,u.Ok:=λu k=>by
  rcases Kf.mp k with h|h
  ·exact s u h
  ·have:u=t:=by simpa using h
   rw[this];exact g
 have l2:(oj m t).ts.length<=6:=by have:=i.2;show (m.ts++[t]).length<=6;simp;omega
 have c:((oj m t).ts.map Ti.w).Nodup:=by
  show ((m.ts++[t]).map Ti.w).Nodup;rw[Ic,We];exact⟨r,by simp,λx o y q e=>i.1 (by have:=(by simpa using q);rw[<-this,<-e];exact o)⟩
 have v:=g.a;rcases g.p with f|f
 ·rw[f]at d;simp only[ow,xg]at d;refine⟨⟨?_,?_,?_,j,l2,c⟩,?_⟩<;>simp[oj,sa,sb]<;>omega
 ·rw[f]at d;simp only[ow]at d;refine⟨⟨?_,?_,?_,j,l2,c⟩,?_⟩<;>simp[oj,sa,sb]<;>omega
theorem ů{t:Ti}(d:t.p=0\/t.p=1)(f:0<=t.w/\t.w<=59)(A:0<=t.y/\t.y<=1000000)(c:Ta):Bj [m.D,.int t.p,.int t.a,.int t.w,.int t.y] c=if ((1<=t.a/\t.a<=1000000000000)/\t.a<=ow t.p m)/\NW m t.w then .ok (oj m t).D c else .ex ⟨1⟩ c:=by
 have r:D.Ka [.int t.p,.int t.a,.int t.w,.int t.y]=t.D:=rfl;have g:=qX (t:=t) d f A;by_cases j:1<=t.a/\t.a<=1000000000000
 ·have o:bd (.int t.a) 1 1000000000000=true:=by simp[bd,j]
  rw[o]at g;have x:t.Ok:=⟨d,j,f,A⟩
  have E:=kI d m.a m.b (-t.a);have B:=s1 m;have C:=s2 m;have F:∀ c,Nh (.Ka (m.ts.map Ti.D)) (.Ka [t.D]) c=.ok (.Ka ((oj m t).ts.map Ti.D)) c:=λc=>by
   rw[bJ (by have:=hm.st.l;unfold ai;simp;omega)];show Hl.ok (D.Ka (m.ts.map Ti.D++[t.D])) c=.ok (.Ka ((m.ts++[t]).map Ti.D)) c;rw[Ic];rfl
  have st:∀ c,md [(oj m t).D] c=.ok (.bl (decide (t.a<=ow t.p m/\NW m t.w))) c:=λc=>by
   by_cases h:t.a<=ow t.p m/\NW m t.w
   ·rw[lb h];exact tz (RQ hm hW hn x h.1 h.2).st c
   ·rw[Ua h];by_cases J:m.ts.length<=5;case neg=>exact ygi (n:=m.n+1) (a:=(oj m t).a) (b:=(oj m t).b) (ts:=m.ts++[t]) (by have:=hm.st.n;omega) (by simp;omega) c
    have:=QM (n:=m.n+1) (a:=(oj m t).a) (b:=(oj m t).b) (ts:=m.ts++[t]) (by have:=hm.st.n;omega) (λu I=>by
     rcases Kf.mp I with h|h
     ·exact hm.st.t u h
     ·have:u=t:=by simpa using h
      rw[this];exact x) (by simp;omega) c
    have z:(Gs (oj m t).a (oj m t).b && decide ((m.ts++[t]).map Ti.w).Nodup)=false:=by
     by_cases e:t.a<=ow t.p m
     ·have H:¬ ((m.ts++[t]).map Ti.w).Nodup:=λz=>h ⟨e,λq=>by
       rw[Ic,We]at z;exact z.2.2 t.w q t.w (by simp) rfl,J⟩
      rw[Ua H,Zp]
     ·have z:Gs (oj m t).a (oj m t).b=false:=by
       have:=hm.st.a;have:=hm.st.b;rcases d with d|d
       ·rw[d]at e;simp[ow]at e;simp[oj,sa,Gs,bd,d];omega
       ·rw[d]at e;simp[ow]at e;simp[oj,sb,Gs,bd,d];omega
      rw[z,Yp]
    rw[z]at this;exact this
  have i:=MJ (m:=m) (s:=oj m t) st rfl;have i:∀ c,Ad [m.D,.Ka [.int (sa t.p (-t.a) m.a),.int (sb t.p (-t.a) m.b)],.Ka ((oj m t).ts.map Ti.D)] c=if decide (t.a<=ow t.p m/\NW m t.w)then .ok (oj m t).D c else .ex ⟨1⟩ c:=i;have v:=Aj (oj m t);have G:(((1<=t.a/\t.a<=1000000000000)/\t.a<=ow t.p m)/\NW m t.w)=(t.a<=ow t.p m/\NW m t.w):=by simp[j]
  simp only[G];by_cases h:t.a<=ow t.p m/\NW m t.w
  ·have k:∀ c,Ad [m.D,.Ka [.int (sa t.p (-t.a) m.a),.int (sb t.p (-t.a) m.b)],.Ka ((oj m t).ts.map Ti.D)] c=.ok (oj m t).D c:=λc=>(i c).trans (by rw[lb h];rfl);rw[ia h];unfold Bj FF;simp[r,g,E,B,C,F,k,v]
  ·have k:∀ c,Ad [m.D,.Ka [.int (sa t.p (-t.a) m.a),.int (sb t.p (-t.a) m.b)],.Ka ((oj m t).ts.map Ti.D)] c=.ex ⟨1⟩ c:=λc=>(i c).trans (by rw[Ua h];rfl);rw[ka h];unfold Bj FF;simp[r,g,E,B,C,F,k,v]
 ·have o:bd (.int t.a) 1 1000000000000=false:=by simp[bd];omega
  rw[o]at g;rw[ka λz=>j z.1.1];unfold Bj FF;simp[r,g]
end
noncomputable def Ks(w:Int)(a:List Ti):Option Ti:=a.find? λu=>decide (u.w=w)
def oT:Option Ti->D
 |some t=>t.D
 |none=>.wc
theorem eA(h:Ks w a=some t):t∈a/\t.w=w:=⟨List.mem_of_find?_eq_some h,by have:=List.find?_some h;simpa using this⟩
theorem rL(t:Ti)(a:Ta):Oa t.D (.int 0) a=.ok (.int t.p) a:=by unfold Ti.D;simp
theorem DS(t:Ti)(b:Ta):Oa t.D (.int 1) b=.ok (.int t.a) b:=by unfold Ti.D;simp
theorem RC(t:Ti)(a:Ta):Oa t.D (.int 2) a=.ok (.int t.w) a:=by unfold Ti.D;simp
theorem N0(a b:Int)(c:Ta):ph (.int a) (.int b) c=.ok (.bl (decide (a≠b))) c:=by
 by_cases h:a=b<;>simp[h]
theorem qU(M:Option D)(w:Int)(a:Ta):∀ (ts:List Ti) (x:Option D),∃ y,Cm (je 2) ZL (ts.map Ti.D) [M,some (.int w),x] a=(match Ks w ts with
  |some t=>.ok (.rt t.D) a
  |none=>.ok (.nx [M,some (.int w),y]) a)
 |[],x=>⟨x,rfl⟩
 |t::ts,x=>by
  obtain⟨y,e⟩:=qU M w a ts (some t.D);refine⟨y,?_⟩;rw[Ra,au];simp only[Cc,Dc];have c:=RC t;have b:ZL [M,some (.int w),some t.D] a=if t.w=w then .ok (.rt t.D) a else .ok (.nx [M,some (.int w),some t.D]) a:=by
   by_cases h:t.w=w
   ·simp[c,h]
   ·have d:(t.w == w)=false:=by simp[h]
    simp[c,h,d]
  rw[b];unfold Ks;rw[Qo];by_cases h:t.w=w
  ·rw[ia h,lb h,gf,BQ]
  ·rw[ka h,Ua h,gf,lq,e];rfl
section
variable{m:Sn}{W:Int}(hm:m.Ok W)(hW:W<=2000000000000)(hn:m.n<=99)
theorem DO(m:Sn)(w:Int)(b:Ta):lg [m.D,.int w] b=.ok (oT (Ks w m.ts)) b:=by
 obtain⟨y,a⟩:=qU (some m.D) w b m.ts none;have c:=s2 m;unfold lg nR oT;cases h:Ks w m.ts with
 |none=>
  rw[h]at a;simp[c,a]
 |some t=>
  have d:=VA t;rw[h]at a;simp[c,a,d]
def pb(w p:Int)(a:List Ti):Bool:=match Ks w a with
 |some t=>decide (t.p=p)
 |none=>false
theorem HV(m:Sn)(w p:Int)(a:Ta):xf [m.D,.int w,.int p] a=.ok (.bl (pb w p m.ts)) a:=by
 have b:=DO m w;unfold xf GS pb;generalize m.D=d at *;cases h:Ks w m.ts with
 |none=>
  rw[h]at b;have b:∀ a,lg [d,.int w] a=.ok .wc a:=b;simp[b]
 |some t=>
  rw[h]at b;have b:∀ a,lg [d,.int w] a=.ok t.D a:=b;have e:=rL t;have f:∀ a,xB t.D .wc a=.ok (.bl true) a:=λa=>rfl;by_cases c:t.p=p
  ·simp[b,e,f,c]
  ·have g:(t.p == p)=false:=by simp[c]
   simp[b,e,f,c]
theorem OW(h:Ks w m.ts=some t)(a:Ta):uf [m.D,.int w] a=.ok t.D a:=by
 have b:=DO m w;rw[h]at b;have b:∀ a,lg [m.D,.int w] a=.ok t.D a:=b;have d:∀ a,Ft t.D .wc a=.ok (.bl false) a:=λa=>rfl;have c:=VA t;unfold uf yP;simp[b,d,c]
theorem ZW:∀ {d:List Ti} {t:Ti},(d.map Ti.w).Nodup->t∈d->Pr (rm t.w d)+t.a=Pr d
 |[],t,_,h=>by cases h
 |b::d,t,hd,h=>by
  rw[Ra,ge]at hd;unfold rm;rw[ye];rcases Ea.mp h with rfl|h
  ·have e:d.filter (λu=>decide (u.w≠t.w))=d:=ug.mpr λu g=>lb λe=>hd.1 (e ▸ Tc g);rw[e];simp[Pr];omega
  ·have i:b.w≠t.w:=λe=>hd.1 (e ▸ Tc h);have f:=ZW hd.2 h;unfold rm at f;rw[lb i,ia rfl];have c:∀ xs:List Ti,Pr (b::xs)=b.a+Pr xs:=λxs=>by simp[Pr]
   rw[c,c,<-f];omega
include hm hW hn
theorem IM{t:Ti}(g:t∈m.ts){r:Int}(i:r=0\/r=1):(wh m t r).Ok W:=by
 have q:=ZW hm.st.d g;obtain⟨⟨n,a,b,f,l,k⟩,w⟩:=hm;have o:=(f t g).a;have p:0<=Pr (rm t.w m.ts):=by
  refine RH λx j=>?_;obtain⟨u,e,rfl⟩:=gb.mp j;have:=(f u (Jf.mp e).1).a;omega
 have h:∀ u∈(wh m t r).ts,u.Ok:=λu e=>f u (Jf.mp e).1;have l2:(wh m t r).ts.length<=6:=Ib (Lj ..) l;have c:((wh m t r).ts.map Ti.w).Nodup:=k.sublist (List.filter_sublist.map _);rcases i with rfl|rfl
 ·refine⟨⟨?_,?_,?_,h,l2,c⟩,?_⟩<;>simp[wh,sa,sb]<;>omega
 ·refine⟨⟨?_,?_,?_,h,l2,c⟩,?_⟩<;>simp[wh,sa,sb]<;>omega
theorem WN{t:Ti}(f:t∈m.ts){r:Int}(d:r=0\/r=1)(σ:Ta):Ri [m.D,t.D,.int r] σ=.ok (wh m t r).D σ:=by
 have h:=s1 m;have k:=s2 m;have l:=dz (src:=gi (Ba Oa (ba 0) (eC (.int 2)))) (ρ:=[some m.D,some t.D,some (.int r),none]) (σ:=σ) (s:=.seq (m.ts.map Ti.D)) (ix:=[1]) (fi:=eT (Ba ph (Ba Oa (ba 0) (eC (.int 2))) (Ba Oa (ba 2) (eC (.int 2))))) (fe:=ba 0) Ti.D Ti.D (λu=>decide (u.w≠t.w)) (by
   simp[k]) (λi _=>cc some (Ht m.ts _ i)) (by have:=hm.st.l;omega) (λu _ j=>by
  have u2:=RC u (σ++j);have p:=RC t (σ++j);have o:=N0 u.w t.w (σ++j);exact⟨by simp[u2,p,o],λ_=>by simp⟩) (λu _ _=>VA u)
 have l:Bh _ _ σ=.ok (.la ((wh m t r).ts.map Ti.D)) σ:=l;have n:=kI d m.a m.b t.a;have g:=DS t;have c:=λσ=>MJ (λσ=>tz (IM hm hW hn f d).st σ) rfl σ;have c:∀ σ,Ad [m.D,.Ka [.int (sa r t.a m.a),.int (sb r t.a m.b)],.Ka ((wh m t r).ts.map Ti.D)] σ=.ok (wh m t r).D σ:=c;have e:=Aj (wh m t r);unfold Ri nS;simp[l,h,n,g,c,e,-wq]
theorem W1{w:Int}{t:Ti}(h:Ks w m.ts=some t)(b:Ta):Oh [m.D,.int w] b=.ok (wh m t (1 - t.p)).D b:=by
 have g:=OW h;have a:=(eA h).1;have i:=(hm.st.t t a).p;have c:=WN hm hW hn a (r:=1 - t.p) (by omega);have f:=JK t.p;have e:=rL t;have d:=Aj (wh m t (1 - t.p));unfold Oh bS;simp[g,c,f,e,d]
theorem M9{w:Int}{t:Ti}(h:Ks w m.ts=some t)(b:Ta):Mh [m.D,.int w] b=.ok (wh m t t.p).D b:=by
 have g:=OW h;have a:=(eA h).1;have e:=(hm.st.t t a).p;have c:=WN hm hW hn a e;have f:=rL t;have d:=Aj (wh m t t.p);unfold Mh cR;simp[g,c,f,d]
end
inductive Wi where
 |Ui (d:Int)
 |Bl (pay:Bool) (d w y:Int)
 |Ed (w:Int)
 |drop (w:Int)
noncomputable def Wi.k:Wi->Str
 | .Ui _=>"give"
 | .Bl true _ _ _=>"pay"
 | .Bl false _ _ _=>"pass"
 | .Ed _=>"settle"
 | .drop _=>"drop"
def Wi.D:Wi->L4.D
 | .Ui d=>.Ka [.str "give",.int 0,.int d]
 | .Bl p d w y=>.Ka [.str (if p then "pay" else "pass"),.int 0,.int d,.int w,.int y]
 | .Ed w=>.Ka [.str "settle",.int 0,.int w]
 | .drop w=>.Ka [.str "drop",.int 0,.int w]
def Wi.al:Wi->Int
 | .Ui d=>d
 | .Bl true d _ _=>d
 |_=>0
def Wi.Ok:Wi->Prop
 | .Bl _ _ w y=>(0<=w/\w<=59)/\0<=y/\y<=1000000
 |_=>True
def Wi.st(q:Int)(K:List Int)(m:Sn):Wi->Option Sn
 | .Ui d=>if (1<=d/\d<=1000000000000)/\d<=ow q m then some (So m q d)else none
 | .Bl _ d w y=>if ((1<=d/\d<=1000000000000)/\d<=ow q m)/\NW m w then some (oj m ⟨q,d,w,y⟩)else none
 | .Ed w=>match Ks w m.ts with
  |some t=>if t.p=1 - q/\w∈K then some (wh m t q)else none
  |none=>none
 | .drop w=>match Ks w m.ts with
  |some t=>if t.p=q then some (wh m t q)else none
  |none=>none
def oS(a:Ta):Option Sn->Hl D
 |some s=>.ok s.D a
 |none=>.ex ⟨1⟩ a
theorem iA(a:Wi)(σ:Ta):Oa a.D (.int 0) σ=.ok (.str a.k) σ:=by
 cases a with
 |Bl p d w y=>cases p<;>simp[Wi.D,Wi.k]
 |_=>simp[Wi.D,Wi.k]
theorem LG(a:Wi)(b:Ta):Oa a.D (.int 1) b=.ok (.int 0) b:=by cases a<;>simp[Wi.D]
theorem nW(a:Wi)(σ:Ta):ff [a.D] σ=.ok (.int a.al) σ:=by
 unfold ff YN;cases a with
 |Bl p d w y=>cases p<;>simp[Wi.D,Wi.al]
 |_=>simp[Wi.D,Wi.al]
section
variable{σ0:Ta}{q g:Int}(hq:q=0\/q=1){K:List Int}{Q:Kv}{F:Bool}{J:Ta}{m:Sn}{T:Int}(hm:m.Ok T)(hT:T<=2000000000000)(hn:m.n<=99){G:D}{L:List D}(hg:cl G=true)(hl:fg L=true)
theorem G4(w:Int):qw (.int w) (.ref (σ0.length+1)) (SA σ0 g K a Q F J)=.ok (.bl (decide (w∈K))) (SA σ0 g K a Q F J):=by
 have:Tj (SA σ0 g K a Q F J) (.ref (σ0.length+1))=some (tq K):=by
  have:=(ym σ0 a.q g K (AV a) Q F J).h1;unfold Tj;simp[this]
 unfold qw;simp only[Ip,this];have e:∀ K:List Int,(Rp (tq K) (.inl w)).isSome=decide (w∈K):=λK=>by
  induction K with
  |nil=>rfl
  |cons v K b=>
   unfold tq Rp at b ⊢;by_cases h:v=w
   ·simp[h]
   ·have c:¬ w=v:=λz=>h z.symm;simpa [h,c]using b
 simp[e]
include hq hm hT hn hg hl
theorem pU{v:Wi}(A:v.Ok):af [(Da q m G L).D,v.D,.ref (σ0.length+1)] (SA σ0 g K (Da q m G L) Q F J)=oS (SA σ0 g K (Da q m G L) Q F J) (v.st q K m):=by
 have x:=yk (q:=q) hq hm hg hl;have c:∀ j,Uc [4,5,6,7] "side" (Da q m G L).D j=.ok (.int q) j:=Yw x;have e:∀ j,Uc [4,5,6,7] "mine" (Da q m G L).D j=.ok m.D j:=JA x;have o:=λw=>G4 (σ0:=σ0) (g:=g) (K:=K) (Q:=Q) (F:=F) (J:=J) (a:=Da q m G L) w;have r:=JK q;unfold SA at *;generalize S σ0 (Da q m G L).q g K (AV (Da q m G L)) Q F J=Y at *;unfold af pP Wi.D Wi.st;cases v with
 |Ui d=>
  have f:=W6 hm hT hn hq d;have l:=Aj (So m q d);dsimp only;generalize (Da q m G L).D=CD at *;by_cases h:(1<=d/\d<=1000000000000)/\d<=ow q m
  ·simp only[ia h]at f ⊢;unfold oS;dsimp only;generalize m.D=n,(So m q d).D=C at *;simp[c,e,f,l]
  ·simp only[ka h]at f ⊢;unfold oS;dsimp only;generalize m.D=n at *;simp[c,e,f]
 |Bl p d w y=>
  have f:=ů (t:=⟨q,d,w,y⟩) hm hT hn hq A.1 A.2;have l:=Aj (oj m ⟨q,d,w,y⟩);dsimp only at f ⊢;generalize (Da q m G L).D=CD at *;have B:∀ k j,Oa (.Ka [.str k,.int 0,.int d,.int w,.int y]) (.int 4) j=.ok (.int y) j:=λk j=>SQ ..;by_cases h:((1<=d/\d<=1000000000000)/\d<=ow q m)/\NW m w
  ·simp only[ia h]at f ⊢;unfold oS;dsimp only;generalize m.D=n,(oj m ⟨q,d,w,y⟩).D=C at *;cases p<;>simp[c,e,f,l,B]
  ·simp only[ka h]at f ⊢;unfold oS;dsimp only;generalize m.D=n at *;cases p<;>simp[c,e,f,B]
 |Ed w=>
  have b:=HV m w (1 - q);have o:=o w;unfold pb at b;dsimp only;generalize (Da q m G L).D=CD at *;cases h:Ks w m.ts with
  |none=>
   rw[h]at b;dsimp only at b ⊢;unfold oS;dsimp only;generalize m.D=n at *;simp[c,e,r,b]
  |some t=>
   rw[h]at b;dsimp only at b ⊢;by_cases i:t.p=1 - q
   ·rw[lb i]at b;by_cases u:w∈K
    ·rw[lb u]at o;have s:=W1 hm hT hn h;rw[show 1 - t.p=q by omega]at s;have l:=Aj (wh m t q);rw[ia ⟨i,u⟩];unfold oS;dsimp only;generalize m.D=n,(wh m t q).D=E at *;simp[c,e,r,b,o,s,l]
    ·rw[Ua u]at o;rw[ka λz=>u z.2];unfold oS;dsimp only;generalize m.D=n at *;simp[c,e,r,b,o]
   ·rw[Ua i]at b;rw[ka λz=>i z.1];unfold oS;simp[c,e,r,b]
 |drop w=>
  have b:=HV m w q;unfold pb at b;dsimp only;cases h:Ks w m.ts with
  |none=>
   rw[h]at b;unfold oS;simp[c,e,r,b]
  |some t=>
   rw[h]at b;dsimp only at b ⊢;by_cases i:t.p=q
   ·rw[lb i]at b;have s:=M9 hm hT hn h;rw[i]at s;have l:=Aj (wh m t q);rw[ia i];unfold oS;simp[c,e,b,s,l]
   ·rw[Ua i]at b;rw[ka i];unfold oS;simp[c,e,b]
omit hg hl
theorem mK{a:Wi}(b:a.Ok){s:Sn}(h:a.st q K m=some s):s.Ok T/\s.n=m.n+1:=by
 unfold Wi.st at h;cases a with
 |Ui d=>
  dsimp only at h;split at h
  ·next c=>cases h;exact⟨FV hm hT hn hq (by omega) c.2,rfl⟩
  ·cases h
 |Bl p d w y=>
  dsimp only at h;split at h
  ·next c=>cases h;exact⟨RQ hm hT hn ⟨hq,c.1.1,b.1,b.2⟩ c.1.2 c.2,rfl⟩
  ·cases h
 |Ed w=>
  dsimp only at h;split at h
  ·next t e=>
   split at h
   ·cases h;exact⟨IM hm hT hn (eA e).1 hq,rfl⟩
   ·cases h
  ·cases h
 |drop w=>
  dsimp only at h;split at h
  ·next t e=>
   split at h
   ·cases h;exact⟨IM hm hT hn (eA e).1 hq,rfl⟩
   ·cases h
  ·cases h
end
def xa(q:Int)(m s:Sn)(G:D)(L:List D):Ac:=if q=0 then Ni 0 m s G L else mi 1 m s (Wf 0 s.D) L
def lt(q:Int)(s:Sn):D:=if q=0 then Lg s else Dn s
def Wi.wd:Wi->List L4.D
 | .Ed w=>[.Ka [.str "word",.int 0,.int w]]
 |_=>[]
section
variable{q:Int}(hq:q=0\/q=1){m s:Sn}{T:Int}(hm:m.Ok T)(hs:s.Ok T)(hn:s.n=m.n+1){G:D}{L:List D}(hg:cl G=true)(hl:fg L=true)
include hq hm hs hg hl
theorem TK:(xa q m s G L).Ok/\(xa q m s G L).q=q/\(xa q m s G L).y=[m,s]:=by
 rcases hq with rfl|rfl
 ·exact⟨Qz (.inl rfl) hm hs hg hl,rfl,rfl⟩
 ·exact⟨xw (.inr rfl) hm hs (Ct (Aj s)) hl,rfl,rfl⟩
include hn
theorem OU(c:Ta):dh [(Da q m G L).D,s.D] c=.ok (.Ka [(xa q m s G L).D,lt q s]) c:=by
 have e:=yk hq hm hg hl;have h:∀ c,Uc [4,5,6,7] "side" (Da q m G L).D c=.ok (.int q) c:=Yw e;have n:∀ c,Uc [4,5,6,7] "pot" (Da q m G L).D c=.ok (.int 0) c:=wx e;have i:=s1 s;have j:=s2 s;rcases hq with rfl|rfl
 ·have g:=bR hm hs hn hg hl;have f:cl (.Ka [(Ni 0 m s G L).D,Lg s])=true:=by simp[Cy (Qz (.inl rfl) hm hs hg hl),MQ]
  show _=Hl.ok (D.Ka [(Ni 0 m s G L).D,Lg s]) c;unfold dh PL;simp[h,i,j,g,f]
 ·have r:=WH hm hs hn hg hl;have k:∀ c,ma [(Da 1 m G L).D,.int 0,s.D] c=.ok (Wf 0 s.D) c:=uE e 0 (Aj s);have p:∀ d c,vm [(4,ma),(5,ma),(6,ma),(7,ma)] 3 "agree_of" d (Da 1 m G L).D c=(d c).bind (Gk 3 ma (Da 1 m G L).D):=λd c=>Fo (Ho rfl) rfl rfl;have o:∀ d c,vm [(5,Kc),(6,kc),(7,lc)] 2 "taken" d (Da 1 m G L).D c=(d c).bind (Gk 2 Kc (Da 1 m G L).D):=λd c=>Fo (Ho rfl) rfl rfl;have g:D.Ka [.str "offer",.int 0,Wf 0 s.D]=Lg s:=rfl;have l:D.Ka [.str "ask",.int 0,.Ka [.int s.a,.int s.b],.Ka (s.ts.map Ti.D)]=Dn s:=rfl;have f:cl (.Ka [(mi 1 m s (Wf 0 s.D) L).D,Dn s])=true:=by simp[Cy (xw (.inr rfl) hm hs (Ct (Aj s)) hl),ħ]
  show _=Hl.ok (D.Ka [(mi 1 m s (Wf 0 s.D) L).D,Dn s]) c;unfold dh PL;simp[h,n,i,j,r,k,p,o,g,l,f]
variable{σ0:Ta}{g:Int}{K:List Int}(hK:K.length<=60){Q:Kv}{F:Bool}{J:Ta}
include hK
end
section
variable{m s:Sn}{T:Int}(hm:m.Ok T)(hs:s.Ok T)(hn:s.n=m.n+1){G:D}{L:List D}(hg:cl G=true)(hl:fg L=true){σ0:Ta}{g:Int}{K:List Int}(hK:K.length<=60){Q:Kv}{F:Bool}{J:Ta}
include hm hs hg hl hn hK
theorem xdp{b:Wi}(h:W K (xa 0 m s G L) ≥ W K (Da 0 m G L) - b.al):rc [.ref σ0.length,s.D,b.D] (SA σ0 g K (Da 0 m G L) Q F J)=.ok (.Ka [.bl true,.la (b.wd++[lt 0 s])]) (SA σ0 (g+b.al) K (xa 0 m s G L) Q F J):=by
 have u:(0:Int)=0\/(0:Int)=1:=.inl rfl;have E:=yk (q:=0) u hm hg hl;obtain⟨O,I,R⟩:=TK u hm hs hg hl;have H:=ym σ0 (Da 0 m G L).q g K (AV (Da 0 m G L)) Q F J;have o:=ou H;have n:=Aw (σ0:=σ0) (g:=g) (K:=K) (a:=Da 0 m G L) (Q:=Q) (F:=F) (J:=J);have l:∀ f,Uc [4,5,6,7] "side" (Da 0 m G L).D f=.ok (.int 0) f:=Yw E;have c:=iA b;have t:=LG b;have j:=nW b;have st:=OU u hm hs hn hg hl;have e:=RB (σ0:=σ0) (g:=g) (Q:=Q) (F:=F) (J:=J) hK E O I b.al;rw[lb h]at e;have r:=λM=>Zn H (m:="is_good") 3 Nb M rfl;have sb:=λP=>tG (σ0:=σ0) (g:=g) (K:=K) (a:=Da 0 m G L) (Q:=Q) (F:=F) (J:=J) (xa 0 m s G L) I P;have i:∀ (v x z A B C:Option D),Zz [v,x,z,A,B,some (.int b.al),C] [9] "gave" (ba 5) (.ref σ0.length) (SA σ0 g K (xa 0 m s G L) Q F J)=.ok (.nx [v,x,z,A,B,some (.int b.al),C]) (SA σ0 (g+b.al) K (xa 0 m s G L) Q F J):=λv x z A B C=>rQ (by simp);unfold rc DM rN oJ nK uN aL FN nJ YK;cases b with
 |Ed w=>
  have N:∀ f,Oa (Wi.Ed w).D (.int 2) f=.ok (.int w) f:=λf=>by unfold Wi.D;simp
  unfold Wi.k at c;unfold Wi.wd;simp[o,n,l,c,t,N,j,st,e,r,sb,i]
 |Ui d=>
  unfold Wi.k at c;unfold Wi.wd;simp[o,n,l,c,t,j,st,e,r,sb,i]
 |drop w=>
  unfold Wi.k at c;unfold Wi.wd;simp[o,n,l,c,t,j,st,e,r,sb,i]
 |Bl p d w y=>
  unfold Wi.wd;cases p with
  |true=>
   unfold Wi.k at c;simp[o,n,l,c,t,j,st,e,r,sb,i]
  |false=>
   unfold Wi.k at c;simp[o,n,l,c,t,j,st,e,r,sb,i]
theorem Ð{c:Wi}(I:Q.length<=9)(h:W K (xa 1 m s G L) ≥ W K (Da 1 m G L) - c.al):rc [.ref σ0.length,s.D,c.D] (SA σ0 g K (Da 1 m G L) Q F J)=.ok (.Ka [.bl true,.la (c.wd++[lt 1 s])]) (SA σ0 g K (Da 1 m G L) (Jn Q (.inl 0) (vq c.al s)) F J):=by
 have B:(1:Int)=0\/(1:Int)=1:=.inr rfl;have E:=yk (q:=1) B hm hg hl;obtain⟨N,O,R⟩:=TK B hm hs hg hl;have C:=ym σ0 (Da 1 m G L).q g K (AV (Da 1 m G L)) Q F J;have u:=ou C;have v:=Az C;have o:=Aw (σ0:=σ0) (g:=g) (K:=K) (a:=Da 1 m G L) (Q:=Q) (F:=F) (J:=J);have n:∀ j,Uc [4,5,6,7] "side" (Da 1 m G L).D j=.ok (.int 1) j:=Yw E;have f:=iA c;have A:=LG c;have l:=nW c;have st:=OU B hm hs hn hg hl;have i:=RB (σ0:=σ0) (g:=g) (Q:=Q) (F:=F) (J:=J) hK E N O c.al;rw[lb h]at i;have x:=λH=>Zn C (m:="is_good") 3 Nb H rfl;have r:=s1 s;have t:=s2 s;have z:=λP=>k7 (σ0:=σ0) (g:=g) (K:=K) (a:=Da 1 m G L) (F:=F) (J:=J) I (vq c.al s) P;have e:D.Ka [.int c.al,.Ka [.int s.a,.int s.b],.Ka (s.ts.map Ti.D)]=vq c.al s:=rfl;unfold rc DM rN oJ nK uN aL FN nJ YK;cases c with
 |Ed w=>
  have M:∀ j,Oa (Wi.Ed w).D (.int 2) j=.ok (.int w) j:=λj=>by unfold Wi.D;simp
  unfold Wi.k at f;unfold Wi.wd;simp[u,v,o,n,f,A,M,l,st,i,x,r,t,e,z]
 |Ui d=>
  unfold Wi.k at f;unfold Wi.wd;simp[u,v,o,n,f,A,l,st,i,x,r,t,e,z]
 |drop w=>
  unfold Wi.k at f;unfold Wi.wd;simp[u,v,o,n,f,A,l,st,i,x,r,t,e,z]
 |Bl p d w y=>
  unfold Wi.wd;cases p with
  |true=>
   unfold Wi.k at f;simp[u,v,o,n,f,A,l,st,i,x,r,t,e,z]
  |false=>
   unfold Wi.k at f;simp[u,v,o,n,f,A,l,st,i,x,r,t,e,z]
end
section
variable{σ0:Ta}{q g:Int}{K:List Int}{Q:Kv}{F:Bool}{J:Ta}
theorem kF(a:Wi):(a.k == ("finish" : Str))=false:=by
 have b:(("give" : Str) == "finish")=false:=by decide
 have c:(("pay" : Str) == "finish")=false:=by decide
 have e:(("pass" : Str) == "finish")=false:=by decide
 have f:(("settle" : Str) == "finish")=false:=by decide
 have g:(("drop" : Str) == "finish")=false:=by decide
 cases a with
 |Bl p d w y=>cases p<;>simp only[Wi.k,c,e]
 |_=>simp only[Wi.k,b,f,g]
variable(hq:q=0\/q=1){m:Sn}{T:Int}(hm:m.Ok T)(hT:T<=2000000000000)(hn:m.n<=99){G:D}{L:List D}(hg:cl G=true)(hl:fg L=true)
include hq hm hT hn hg hl
theorem DP{e:Wi}(r:e.Ok){s:Sn}(k:e.st q K m=some s){d:D}{f:Ta}(h:rc [.ref σ0.length,s.D,e.D] (SA σ0 g K (Da q m G L) Q F J)=.ok d f):Bc [.ref σ0.length,e.D] (SA σ0 g K (Da q m G L) Q F J)=.ok d f:=by
 have j:=pU (σ0:=σ0) (g:=g) (K:=K) (Q:=Q) (F:=F) (J:=J) hq hm hT hn hg hl r;rw[k]at j;unfold oS at j;have i:=ym σ0 (Da q m G L).q g K (AV (Da q m G L)) Q F J;have p:=qG (σ0:=σ0) (g:=g) (K:=K) (a:=Da q m G L) (Q:=Q) (F:=F) (J:=J);have w:=λc=>Zn i (m:="holds") 2 Oc c rfl;have y:=λc=>Zn i (m:="wish_for") 3 rc c rfl;have t:=ou i;have u:=WF i;have o:=Aw (σ0:=σ0) (g:=g) (K:=K) (a:=Da q m G L) (Q:=Q) (F:=F) (J:=J);have A:=iA e;have B:=LG e;have l:=kF e;have z:∀ b,ph (.str "calm") (.str "calm") b=.ok (.bl false) b:=λb=>br (by simp[pl]);have n:∀ x b,Kb [x] b=.ok (.str "calm") b:=λx b=>by unfold Kb kE;simp
 have v:∀ c b,vm [(5,Kb),(6,Xb),(7,Wb)] 1 "word" c (Da q m G L).D b=(c b).bind (Gk 1 Kb (Da q m G L).D):=λc b=>Fo (Ho rfl) rfl rfl;unfold Bc zev DJ KL UM cJ wL WM;simp[p,w,y,t,u,o,A,B,l,z,n,v,j,h]
theorem vS{c:Wi}(p:c.Ok)(f:c.st q K m=none):Bc [.ref σ0.length,c.D] (SA σ0 g K (Da q m G L) Q F J)=.ok (.Ka [.bl false,.la []]) (SA σ0 g K (Da q m G L) Q F J):=by
 have e:=pU (σ0:=σ0) (g:=g) (K:=K) (Q:=Q) (F:=F) (J:=J) hq hm hT hn hg hl p;rw[f]at e;unfold oS at e;have h:=ym σ0 (Da q m G L).q g K (AV (Da q m G L)) Q F J;have o:=qG (σ0:=σ0) (g:=g) (K:=K) (a:=Da q m G L) (Q:=Q) (F:=F) (J:=J);have u:=λd=>Zn h (m:="holds") 2 Oc d rfl;have r:=ou h;have s:=WF h;have l:=Aw (σ0:=σ0) (g:=g) (K:=K) (a:=Da q m G L) (Q:=Q) (F:=F) (J:=J);have w:=iA c;have y:=LG c;have j:=kF c;have v:∀ b,ph (.str "calm") (.str "calm") b=.ok (.bl false) b:=λb=>br (by simp[pl]);have k:∀ x b,Kb [x] b=.ok (.str "calm") b:=λx b=>by unfold Kb kE;simp
 have t:∀ d b,vm [(5,Kb),(6,Xb),(7,Wb)] 1 "word" d (Da q m G L).D b=(d b).bind (Gk 1 Kb (Da q m G L).D):=λd b=>Fo (Ho rfl) rfl rfl;have n:∀ g i b,Ix i ⟨1⟩ [⟨gG [(1,true)],none,g⟩] b=hit ⟨gG [(1,true)],none,g⟩ i ⟨1⟩ b:=λg i b=>Z0 rfl;unfold Bc zev DJ KL UM cJ wL WM;simp[o,u,r,s,l,w,y,j,v,k,t,e,n]
end
def V(K:List Int)(q:Int)(s:Sn):Int:=ow q s+Op (ks K) q s.ts
theorem Oy(K:List Int)(q:Int)(m:Sn)(G:D)(L:List D):W K (Da q m G L)=V K q m:=rfl
theorem xM(K:List Int)(b:a.q=q)(c:a.y=[m,s]):W K a=if V K q s<V K q m then V K q s else V K q m:=by
 unfold W;rw[c,b];exact L7 _ _
theorem VM(K:List Int)(q:Int)(t:Ti):fa K q t=0\/fa K q t=t.a:=by
 unfold fa;split
 ·exact .inr rfl
 ·exact .inl rfl
theorem Y2(K:List Int)(q d w y:Int):fa K q ⟨q,d,w,y⟩=if y<=0 then d else 0:=by
 unfold fa lk;simp only[xg];by_cases h:y<=0
 ·rw[ia h,ia h,ia (show sB "back" = true by decide)]
 ·rw[ka h,ka h,ka (show ¬ sB "open" = true by decide)]
theorem yqj(K:List Int)(a:q=0\/q=1)(m:Sn)(d:Int):V K q (So m q d)=V K q m - d:=by
 rcases a with rfl|rfl<;>simp[V,So,ow,sa,sb]<;>omega
theorem zR(K:List Int)(c:q=0\/q=1)(m:Sn)(b:t.p=0\/t.p=1):V K q (oj m t)=V K q m+fa (ks K) q t - if t.p=q then t.a else 0:=by
 have e:Op (ks K) q (m.ts++[t])=Op (ks K) q m.ts+fa (ks K) q t:=by simp[Op]
 rcases c with rfl|rfl<;>rcases b with b|b<;>simp[V,oj,ow,sa,sb]<;>omega
theorem UT(K:List Int)(q:Int):∀ {a:List Ti} {t:Ti},(a.map Ti.w).Nodup->t∈a->Op K q (rm t.w a)+fa K q t=Op K q a
 |[],t,_,h=>by cases h
 |b::a,t,hd,h=>by
  rw[Ra,ge]at hd;have c:∀ xs:List Ti,Op K q (b::xs)=fa K q b+Op K q xs:=λxs=>by simp[Op]
  unfold rm;rw[ye];rcases Ea.mp h with rfl|h
  ·have e:a.filter (λu=>decide (u.w≠t.w))=a:=ug.mpr λu f=>lb λe=>hd.1 (e ▸ Tc f);rw[show decide (t.w≠t.w)=false by simp];simp only[Kg,yi];rw[e,c];omega
  ·have g:b.w≠t.w:=λe=>hd.1 (e ▸ Tc h);have d:=UT K q hd.2 h;unfold rm at d;rw[lb g,ia rfl,c,c,<-d];omega
theorem sU(K:List Int)(c:q=0\/q=1)(b:(m.ts.map Ti.w).Nodup)(d:t∈m.ts):V K q (wh m t q)=V K q m+t.a - fa (ks K) q t:=by
 have:=UT (ks K) q b d;rcases c with rfl|rfl<;>simp[V,wh,ow,sa,sb]<;>omega
theorem IQ{b:Type}{xs:List b}{src:Ev->M Em}{s:Em}{ix:List Nat}{fe:Ev->M D}{ρ:Ev}{σ σ':Ta}(v y:b->D)(e:src ρ σ=.ok s σ')(d:∀ i j,s.nx i (σ'++j)=some ((xs[i]?).map v))(c:xs.length<=1000)
  (a:∀ x∈xs,∀ j,fe (some (v x)::none::(ix.map λi=>(ρ[i]?).getD none)) (σ'++j)=.ok (y x) (σ'++j)) :
  pj (Fk src) ix (je 0) ik fe ρ σ=.ok (.ref σ'.length) (σ'++[.la (xs.map y)]):=by
 show Fd (Fd (src ρ) CL) (kH (je 0) ik fe (Av ix ρ)) σ=_;rw[tp,tp,e,gf];show Fd (El s.nx σ'.length (je 0) ik fe 1001 0 (none::none::(ix.map λi=>(ρ[i]?).getD none))) _ (σ'++[.la []])=_;rw[tp,fM (λo=>o=none) v v (λ_=>none) (λ_=>true) y (λi j _=>d i j) (λx o g h=>by subst h;exact⟨rfl,rfl⟩) (λx f j=>⟨rfl,λ_=>a x f j⟩) c 1001 0 none none [] rfl (by omega) (by omega) (by simp),gf];have fe:List.filter (λ_=>true) xs=xs:=ug.mpr λ_ _=>rfl;simp[fe]
def BA(w:Int):D:=.Ka [.str "word",.int 0,.int w]
def bu(K:List Int)(w:Int):List Int:=if w∈K then K else K++[w]
theorem CJ:v∈bu K w ↔ v∈K\/v=w:=by
 unfold bu;split
 ·next h=>exact⟨.inl,λz=>z.elim id λe=>e ▸ h⟩
 ·simp
theorem CY(h:K.Nodup)(w:Int):(bu K w).Nodup:=by
 unfold bu;split
 ·exact h
 ·next f=>exact We.mpr ⟨h,by simp,λa c b d e=>f (by have:=(by simpa using d);rw[<-this,<-e];exact c)⟩
theorem yn9(K:List Int)(w:Int):Jn (tq K) (.inl w) (.bl true)=tq (bu K w):=by
 unfold bu;by_cases h:w∈K
 ·have a:(tq K).any (λc=>decide (c.1=.inl w))=true:=jg.mpr ⟨(.inl w,.bl true),gb.mpr ⟨w,h,rfl⟩,by simp⟩;unfold Jn;rw[a,ia rfl,ia h];unfold tq;rw[dc];refine List.map_congr_left λv _=>?_;simp only[Function.comp];split<;>rfl
 ·rw[ka h,BC _ λp b e=>by
   obtain⟨d,a,rfl⟩:=gb.mp b;have e:d=w:=by simpa using e
   exact h (e ▸ a)]
  unfold tq;rw[Ic];rfl
section
variable{σ0:Ta}{g:Int}{K:List Int}{a:Ac}{Q:Kv}{F:Bool}{J:Ta}(hK:K.length<=60)
include hK
theorem Ε(w:Int):Gc [.ref σ0.length,.la [.int w]] (SA σ0 g K a Q F J)=.ok .wc (SA σ0 g (bu K w) a Q F J):=by
 have c:=ym σ0 a.q g K (AV a) Q F J;have d:=WF c;have st:∀ b,ku b (.bl true) (.ref (σ0.length+1)) (.int w) (SA σ0 g K a Q F J)=.ok (.nx b) (SA σ0 g (bu K w) a Q F J):=λb=>by
  rw[Dw c.h1 (by unfold tq;simp;omega),yn9];unfold SA S;rw[zw];rfl
 unfold Gc bN;simp[d,st]
theorem RU{w:Int}(i:0<=w/\w<=59):Bb [.ref σ0.length,BA w] (SA σ0 g K a Q F J)=.ok (.la []) (SA σ0 g (bu K w) a Q F J):=by
 have l:=ym σ0 a.q g K (AV a) Q F J;have j:=Ε (σ0:=σ0) (g:=g) (a:=a) (Q:=Q) (F:=F) (J:=J) hK w;have k:=λh=>Zn l (m:="learn") 2 Gc h rfl;have n:=rR i;have lt:∀ b,Yc [BA w] b=.ok (.bl true) b:=λb=>mD b (by simp) (by
  have c:(("word") == ("offer" : Str))=false:=by decide
  have d:(("word") == ("accept" : Str))=false:=by decide
  have e:(("word" : Str) == ("struck" : Str))=false:=by decide
  have f:(("word" : Str) == ("ask" : Str))=false:=by decide
  unfold Zc XB;simp[n,c,d,e,f])
 unfold Bb lH;unfold BA at *;simp[lt,k,j]
end
theorem G9{u t:Ti}(h:((u.p == t.p) && ((u.a == t.a) && ((u.w == t.w) && ((u.y == t.y) && true))))=true):u=t:=by
 obtain⟨p,a,w,y⟩:=u;obtain⟨c,b,d,e⟩:=t;simp at h ⊢;exact h
theorem eqT(u t:Ti)(c:Ta)(n:Nat):li c (n+1) u.D t.D=some ((u.p == t.p) && ((u.a == t.a) && ((u.w == t.w) && ((u.y == t.y) && true)))):=by
 have e:∀ a b:Int,li c n (.int a) (.int b)=some (a == b):=λa b=>by cases n<;>simp[li,L4.kd,Io,Mj]
 unfold Ti.D;simp[li,L4.kd,Io,Al,e]
theorem GV(σ:Ta)(n:Nat):∀ xs b:List Ti,∃ e,Al (li σ (n+1)) (xs.map Ti.D) (b.map Ti.D)=some e/\(e=true->xs=b)
 |[],[]=>⟨true,rfl,λ_=>rfl⟩
 |[],_::_=>⟨false,rfl,λz=>by cases z⟩
 |_::_,[]=>⟨false,rfl,λz=>by cases z⟩
 |x::xs,y::b=>by
  obtain⟨e,c,d⟩:=GV σ n xs b;rw[Ra,Ra];unfold Al;rw[eqT,c];cases h:((x.p == y.p) && ((x.a == y.a) && ((x.w == y.w) && ((x.y == y.y) && true))))with
  |true=>exact⟨e,rfl,λz=>by rw[G9 h,d z]⟩
  |false=>exact⟨false,rfl,λz=>by cases z⟩
theorem ν(d:Ta)(s c:Sn):∃ e,Gf (.Ka [.Ka [.int s.a,.int s.b],.Ka (s.ts.map Ti.D)]) (.Ka [.Ka [.int c.a,.int c.b],.Ka (c.ts.map Ti.D)]) d=.ok (.bl e) d/\(e=true->s.a=c.a/\s.b=c.b/\s.ts=c.ts):=by
 obtain⟨e,f,g⟩:=GV d 5 s.ts c.ts;have i:∀ n a b,li d n (.int a) (.int b)=some (a == b):=λn a b=>by cases n<;>simp[li,L4.kd,Io,Mj]
 have t:li d 7 (.Ka (s.ts.map Ti.D)) (.Ka (c.ts.map Ti.D))=some e:=f;have p:li d 7 (.Ka [.int s.a,.int s.b]) (.Ka [.int c.a,.int c.b])=some ((s.a == c.a) && ((s.b == c.b) && true)):=by
  show Al (li d 6) [.int s.a,.int s.b] [.int c.a,.int c.b]=_;unfold Al;rw[i];unfold Al;rw[i];cases (s.a == c.a)<;>cases (s.b == c.b)<;>rfl
 have w:li d 8 (.Ka [.Ka [.int s.a,.int s.b],.Ka (s.ts.map Ti.D)]) (.Ka [.Ka [.int c.a,.int c.b],.Ka (c.ts.map Ti.D)])=some (((s.a == c.a) && ((s.b == c.b) && true)) && (e && true)):=by
  show Al (li d 7) [_,_] [_,_]=_;unfold Al;rw[p];unfold Al;rw[t];cases ((s.a == c.a) && ((s.b == c.b) && true))<;>cases e<;>rfl
 refine⟨_,YC w,λz=>?_⟩;simp at z;exact⟨z.1.1,z.1.2,g z.2⟩
section
variable{σ0:Ta}{g:Int}{K:List Int}{a:Ac}{F:Bool}{J:Ta}
theorem ZV(s d:Sn):∃ e,(e=true->QV 0 d=QV 0 s)/\Va [.ref σ0.length,Lg s] (SA σ0 g K a (QV 0 d) F J)=.ok (.bl e) (SA σ0 g K a (QV 0 d) F J):=by
 have r:=Az (ym σ0 a.q g K (AV a) (QV 0 d) F J);have n:Ju (.int 0) (.ref (σ0.length+5)) (SA σ0 g K a (QV 0 d) F J)=.ok (.bl false) (SA σ0 g K a (QV 0 d) F J):=by
  unfold Ju;simp only[JF];rfl
 have gt:Xk (.ref (σ0.length+5)) (.int 0) (SA σ0 g K a (QV 0 d) F J)=.ok (vq 0 d) (SA σ0 g K a (QV 0 d) F J):=Vz (Nz _) rfl;have t:∀ c,ph (.str "offer") (.str "offer") c=.ok (.bl false) c:=λc=>br (by simp[pl]);have l:∀ c,Oa (Lg s) (.int 0) c=.ok (.str "offer") c:=λc=>by unfold Lg;simp
 have m:∀ c,Oa (Lg s) (.int 1) c=.ok (.int 0) c:=λc=>by unfold Lg;simp
 have o:∀ c,Oa (Lg s) (.int 2) c=.ok (Wf 0 s.D) c:=λc=>by unfold Lg;simp
 have p:∀ c,Oa (Wf 0 s.D) (.int 3) c=.ok s.D c:=λc=>by unfold Wf;simp
 have l1:∀ c,fw s.D (some 1) none c=.ok (.Ka [.Ka [.int s.a,.int s.b],.Ka (s.ts.map Ti.D)]) c:=λc=>by
  unfold Sn.D Bm;rw[qC];rfl
 have l2:∀ c,fw (vq 0 d) (some 1) none c=.ok (.Ka [.Ka [.int d.a,.int d.b],.Ka (d.ts.map Ti.D)]) c:=λc=>by
  unfold vq;rw[qC];rfl
 obtain⟨e,f,h⟩:=ν (SA σ0 g K a (QV 0 d) F J) s d;refine⟨e,λz=>?_,?_⟩
 ·obtain⟨i,j,k⟩:=h z;unfold QV vq;rw[i,j,k]
 ·unfold Va pH;simp[l,m,o,p,r,n,t,gt,l1,l2,f]
end
abbrev QO(Q:Kv):Prop:=Q=[]\/∃ s,Q=QV 0 s
section
variable{g:Int}{K:List Int}(hK:K.length<=60){Q:Kv}{m s:Sn}{T:Int}(hm:m.Ok T)(hs:s.Ok T)(hn:s.n=m.n+1){G:D}{L:List D}(hg:cl G=true)(hl:fg L=true)
include hK hm hs hn hg hl
theorem vV(k:QO Q):∃ r,QO r/\∀ c J,Bb [.ref c.length,Lg s] (SA c g K (Da 1 m G L) Q false J)=if W K (Da 1 m G L)<=W K (mi 1 m s (Wf 0 s.D) L)then .ok (.la [bp m s]) (SA c g K (mi 1 m s (Wf 0 s.D) L) r false J)else .ok (.la []) (SA c g K (Da 1 m G L) Q false J):=by
 have l:=yk (.inr rfl) hm hg hl;have o:=xw (.inr rfl) hm hs (Ct (s:=0) (Aj s)) hl;have p:∀ σ,Oa (Lg s) (.int 0) σ=.ok (.str "offer") σ:=λσ=>by unfold Lg;simp
 have i:∀ σ,Oa (Lg s) (.int 1) σ=.ok (.int 0) σ:=λσ=>by unfold Lg;simp
 have ct:=λσ=>WH hm hs hn hg hl σ;have lt:=λσ=>eI σ hs.st;have q:∀ j σ,vm [(5,Kc),(6,kc),(7,lc)] 2 "taken" j (Da 1 m G L).D σ=(j σ).bind (Gk 2 Kc (Da 1 m G L).D):=λj σ=>Fo (Ho rfl) rfl rfl;by_cases h:W K (Da 1 m G L)<=W K (mi 1 m s (Wf 0 s.D) L)
 ·simp only[ia h];rcases k with rfl|⟨f,rfl⟩
  ·exact⟨[],.inl rfl,λc J=>ķ hK hm hs hn hg hl h⟩
  ·by_cases e:QV 0 f=QV 0 s
   ·rw[e];refine⟨[],.inl rfl,λc J=>?_⟩;have:=hV (σ0:=c) (g:=g) (F:=false) (J:=J) hK hm hs hn hg hl (d:=0) (by omega);rw[Int.add_zero]at this;exact this
   ·refine⟨QV 0 f,.inr ⟨f,rfl⟩,λc J=>?_⟩;obtain⟨b,t,n⟩:=ZV (K:=K) (a:=Da 1 m G L) (F:=false) (J:=J) s f;cases b with
    |true=>exact absurd (t rfl) e
    |false=>exact zB lt p i (by decide) (by decide) (wF hK l o rfl i n q ct (by simp[mi,Da]) (λσ=>rfl) h)
 ·simp only[ka h];refine⟨Q,k,λc J=>zB lt p i (by decide) (by decide) ?_⟩;rcases k with rfl|⟨f,rfl⟩
  ·exact jX hK l o rfl i (AF p i (.inl rfl)) (λz=>by cases z) q ct (by simp[mi,Da]) h
  ·obtain⟨e,t,n⟩:=ZV (σ0:=c) (g:=g) (K:=K) (a:=Da 1 m G L) (F:=false) (J:=J) s f;exact jX hK l o rfl i n (λ_=>⟨f,rfl⟩) q ct (by simp[mi,Da]) h
end
theorem Į(h:∀ w∈K,w∈c)(q:Int)(g:0<=t.a):fa K q t<=fa c q t:=by
 have s2:sB "hangs" = false:=by decide
 unfold fa lk;by_cases d:t.p=q
 ·simp only[ia d];omega
 ·simp only[ka d];by_cases e:t.y<=0
  ·simp only[ia e];omega
  ·simp only[ka e];by_cases b:t.w∈K/\5+q<t.y
   ·have f:t.w∈c/\5+q<t.y:=⟨h _ b.1,b.2⟩
    simp only[ia b,ia f];omega
   ·simp only[ka b,s2,Kg,yi];split<;>omega
theorem UP{K K':List Int}(h:∀ w∈K,w∈K')(q:Int):∀ {b:List Ti},(∀ t∈b,0<=t.a)->Op K q b<=Op K' q b
 |[],_=>eg _
 |t::b,d=>by
  have c:∀ K,Op K q (t::b)=fa K q t+Op K q b:=λK=>by simp[Op]
  have f:=Į h q (d t Ha);have g:=UP h q λu e=>d u (Na _ e);rw[c,c];omega
theorem œ(K:List Int)(w q:Int)(a:m.Ok T):V K q m<=V (bu K w) q m:=by
 unfold V;have:=UP (K':=ks (bu K w)) (λv b=>MK.mpr (CJ.mpr (.inl (MK.mp b)))) q (oG a);omega
theorem wD(K:List Int)(m s:Sn)(G:D)(L:List D):W K (mi 1 m s G L)=if V K 1 s<V K 1 m then V K 1 s else V K 1 m:=xM K rfl rfl
theorem jD(K:List Int)(m s:Sn)(G:D)(L:List D):W K (Ni 0 m s G L)=if V K 0 s<V K 0 m then V K 0 s else V K 0 m:=xM K rfl rfl
section
variable{q:Int}(hq:q=0\/q=1){K:List Int}{m:Sn}{T:Int}(hm:m.Ok T)(hT:T<=2000000000000)(hn:m.n<=99){G:D}{L:List D}(hg:cl G=true)(hl:fg L=true)
include hq hm hT hn
include hg hl
theorem iW{f:Wi}(h:f.Ok)(j:f.k ≠ "pass"){s:Sn}(b:f.st q K m=some s):W K (xa q m s G L) ≥ W K (Da q m G L) - f.al:=by
 have l:=mK hq hm hT hn h b;obtain⟨r,n,o⟩:=TK hq hm l.1 hg hl;rw[xM K n o,Oy];have i:V K q m - f.al<=V K q s/\0<=f.al:=by
  cases f with
  |Ui d=>
   unfold Wi.st at b;dsimp only at b;split at b
   ·next c=>cases b;rw[yqj K hq];exact⟨eg _,by show 0<=d;omega⟩
   ·cases b
  |Bl p d w y=>
   unfold Wi.st at b;dsimp only at b;split at b
   ·next c=>
    cases b;rw[zR K hq m hq,ia rfl,Y2];cases p with
    |true=>
     have:(Wi.Bl true d w y).al=d:=rfl;exact⟨by split<;>(dsimp only;omega),by omega⟩
    |false=>
     exact absurd rfl j
   ·cases b
  |Ed w=>
   unfold Wi.st at b;dsimp only at b;split at b
   ·next t e=>
    split at b
    ·cases b;have g:=(eA e).1;rw[sU K hq hm.st.d g];have:=VM (ks K) q t;have:=(hm.st.t t g).a;have:(Wi.Ed w).al=0:=rfl;rw[this];omega
    ·cases b
   ·cases b
  |drop w=>
   unfold Wi.st at b;dsimp only at b;split at b
   ·next t e=>
    split at b
    ·cases b;have g:=(eA e).1;rw[sU K hq hm.st.d g];have:=VM (ks K) q t;have:=(hm.st.t t g).a;have:(Wi.drop w).al=0:=rfl;rw[this];omega
    ·cases b
   ·cases b
 split<;>omega
omit hg hl
theorem ą{f:Wi}(i:f.Ok)(j:f.k ≠ "pass"){s:Sn}(b:f.st q K m=some s)(e:f.al≠0)(g:List Int):V g (1 - q) m<=V g (1 - q) s:=by
 have h:1 - q=0\/1 - q=1:=by omega
 cases f with
 |Ui d=>
  unfold Wi.st at b;dsimp only at b;split at b
  ·next c=>
   cases b;rcases hq with rfl|rfl<;>simp[V,So,ow,sa,sb]<;>omega
  ·cases b
 |Bl p d w y=>
  unfold Wi.st at b;dsimp only at b;split at b
  ·next c=>
   cases b;rw[zR g h m hq,ka (by show ¬ q=1 - q;omega)];have:=VM (ks g) (1 - q) ⟨q,d,w,y⟩;have:(⟨q,d,w,y⟩:Ti).a=d:=rfl;omega
  ·cases b
 |Ed w=>exact absurd rfl e
 |drop w=>exact absurd rfl e
end
@[simp] theorem ycs(d:List D->M D)(x a b c:D):Gk 4 d x [a,b,c] e=d [x,a,b,c] e:=DI rfl
def cS(u v:Int):Sn:=⟨0,u,v,[]⟩
def Mg(u v:Int):D:=.Ka [.int 1,.int 2,.int u,.int v,.int 20]
section
variable{σ0:Ta}
theorem VN(h:b.contains 9=true)(g:Nat.ble (a.length+1) 1000=true):jA c b f d (.ref σ0.length) (σ0++.Jd 9 a::r)=.ok (.nx c) (σ0++.Jd 9 (wo f d a)::r):=by
 have e:aB b f d (.ref σ0.length) (σ0++.Jd 9 a::r)=.ok () (σ0++.Jd 9 (wo f d a)::r):=by
  have:(σ0++Ob.Jd 9 a::r)[σ0.length]?=some (.Jd 9 a):=vL;unfold aB;simp only[this];rw[ia (by rw[h];simpa using (show a.length<1000 from Nat.le_of_ble_eq_true g)),sQ];rfl
 unfold jA;rw[e]
theorem YA(g:c.contains 9=true)(h:Nat.ble (b.length+1) 1000=true)(i:a.length+1=k):Bn c f zu (ba 0) (some (.ref σ0.length)::r) (σ0++.Jd 9 b::a)=.ok (.nx (some (.ref σ0.length)::r)) (σ0++.Jd 9 (wo f (.ref (σ0.length+k)) b)::(a++[.yc []])):=by
 rw[kP,zra,Hq,pX,WE,Hq];have e:(σ0++Ob.Jd 9 b::a).length=σ0.length+k:=by rw[Ia,Fb];omega
 have d:(σ0++Ob.Jd 9 b::a)++[.yc []]=σ0++.Jd 9 b::(a++[.yc []]):=by simp
 rw[e,d];exact VN g h
theorem SG(g:c.contains 9=true)(h:Nat.ble (a.length+1) 1000=true)(i:e (some (.ref σ0.length)::r) (σ0++.Jd 9 a::b)=.ok d (σ0++.Jd 9 a::b)):Bn c f e (ba 0) (some (.ref σ0.length)::r) (σ0++.Jd 9 a::b)=.ok (.nx (some (.ref σ0.length)::r)) (σ0++.Jd 9 (wo f d a)::b):=by
 rw[kP,i,Hq,pX,WE,Hq,VN g h]
def P3(a:Ta)(q:Int)(K:List Int)(A C Z:Kv):Ta:=a++.Jd 9 (Qw a.length q 0)::.yc (tq K)::.yc A::.yc C::.yc Z::.yc []::.yc []::[]
variable{q u v:Int}{K:List Int}
theorem RA(A C Z:Kv):mn (P3 σ0 q K A C Z) (.ref σ0.length)=some (9,Qw σ0.length q 0):=by
 have:(P3 σ0 q K A C Z)[σ0.length]?=_:=vL;unfold mn;simp[this]
theorem R9(e:a.Ok):Ud [.ref σ0.length,a.D,.gt ["held"],.yc [] []] (P3 σ0 q K [] [] [])=.ok .wc (P3 σ0 q K (AV a) jx vx):=by
 have c:=wx e;have f:∀ A C Z,Uc [9] "accounts" (.ref σ0.length) (P3 σ0 q K A C Z)=.ok (.ref (σ0.length+2)) (P3 σ0 q K A C Z):=λA C Z=>xo (RA A C Z) rfl rfl;have h:∀ A C Z,Uc [9] "claims" (.ref σ0.length) (P3 σ0 q K A C Z)=.ok (.ref (σ0.length+3)) (P3 σ0 q K A C Z):=λA C Z=>xo (RA A C Z) rfl rfl;have j:∀ A C Z,Uc [9] "seen" (.ref σ0.length) (P3 σ0 q K A C Z)=.ok (.ref (σ0.length+4)) (P3 σ0 q K A C Z):=λA C Z=>xo (RA A C Z) rfl rfl;have g:∀ b d,ku b d (.ref (σ0.length+2)) (.int 0) (P3 σ0 q K [] [] [])=.ok (.nx b) (P3 σ0 q K [(.inl 0,d)] [] []):=λb d=>by
  rw[Dw (Iv 2) (by simp)];unfold P3;rw[zw];rfl
 have i:∀ b d A,ku b d (.ref (σ0.length+3)) (.int 0) (P3 σ0 q K A [] [])=.ok (.nx b) (P3 σ0 q K A [(.inl 0,d)] []):=λb d A=>by
  rw[Dw (Iv 3) (by simp)];unfold P3;rw[zw];rfl
 have k:∀ b d A C,ku b d (.ref (σ0.length+4)) (.int 0) (P3 σ0 q K A C [])=.ok (.nx b) (P3 σ0 q K A C [(.inl 0,d)]):=λb d A C=>by
  rw[Dw (show (P3 σ0 q K A C [])[σ0.length+4]?=_ from Iv 4) (by simp)];unfold P3;rw[zw];rfl
 show _=Hl.ok D.wc (P3 σ0 q K [(.inl 0,a.D)] [(.inl 0,.gt ["held"])] [(.inl 0,.yc [] [])]);unfold Ud mX;simp[c,f,g,h,i,j,k]
theorem AQ:∀ (c a:List Int) (x:Option D),(a++c).Nodup->(a++c).length<=60->∃ y,Cm (je 2) sK (c.map D.int) [some (.ref σ0.length),some (.la (K.map D.int)),x] (P3 σ0 q a [] [] [])=.ok (.nx [some (.ref σ0.length),some (.la (K.map D.int)),y]) (P3 σ0 q (a++c) [] [] [])
 |[],a,x,_,_=>⟨x,by simp⟩
 |w::c,a,x,hd,f=>by
  obtain⟨y,i⟩:=AQ c (a++[w]) (some (.int w)) (by rw[Wg];exact hd) (by rw[Wg];exact f);refine⟨y,?_⟩;rw[show a++w::c=a++[w]++c by simp,<-i,Ra,au];simp only[Cc,Dc];have j:Uc [8,9] "known" (.ref σ0.length) (P3 σ0 q a [] [] [])=.ok (.ref (σ0.length+1)) (P3 σ0 q a [] [] []):=xo (RA [] [] []) rfl rfl;have k:∀ p∈tq a,p.1≠.inl w:=λp h e=>by
   obtain⟨d,g,rfl⟩:=gb.mp h;have e:d=w:=by simpa using e
   rw[We]at hd;exact hd.2.2 d g w Ha e
  have st:∀ ρ,ku ρ (.bl true) (.ref (σ0.length+1)) (.int w) (P3 σ0 q a [] [] [])=.ok (.nx ρ) (P3 σ0 q (a++[w]) [] [] []):=λρ=>by
   rw[Dw (Iv 1) (by unfold tq;simp at f ⊢;omega),BC _ k];unfold P3;rw[zw];unfold tq;rw[Ic];rfl
  have b:sK [some (.ref σ0.length),some (.la (K.map D.int)),some (.int w)] (P3 σ0 q a [] [] [])=.ok (.nx [some (.ref σ0.length),some (.la (K.map D.int)),some (.int w)]) (P3 σ0 q (a++[w]) [] [] []):=by
   simp[j,st]
  rw[b,gf,lq]
theorem Y7(a:K.Nodup)(b:K.length<=60):Gc [.ref σ0.length,.la (K.map D.int)] (P3 σ0 q [] [] [] [])=.ok .wc (P3 σ0 q K [] [] []):=by
 obtain⟨y,c⟩:=AQ (σ0:=σ0) (q:=q) (K:=K) K [] none a b;unfold Gc bN;simp[c]
variable(hq:q=0\/q=1)(hu:0<=u/\u<=1000000000000)(hv:0<=v/\v<=1000000000000)
include hq
theorem O4(c:Ta):Zf [.int (1+q),.int (5+q),.la [Mg u v]] c=.ok .wc c:=by
 have b:=bt (i:=5+q) (a:=1) (b:=50) (by omega) c;have p4:Oa (Mg u v) (.int 4) c=.ok (.int 20) c:=SQ ..;have e:fw (Mg u v) none (some 2) c=.ok (.Ka [.int 1,.int 2]) c:=nr rfl;have i:To false (.int (1+q)) (.Ka [.int 1,.int 2]) c=.ok (.bl true) c:=by
  rcases hq with rfl|rfl<;>simp[To,fu,Yu,sc,Mj]
 have d:Cm (je 3) TN [Mg u v] [some (.int (1+q)),some (.int (5+q)),some (.la [Mg u v]),none] c=.ok (.nx [some (.int (1+q)),some (.int (5+q)),some (.la [Mg u v]),some (Mg u v)]) c:=by
  have lt:decide (20<5+q+1)=false:=Ua (by omega);simp[p4,e,i,lt]
 unfold Zf LS;simp[b,d]
include hu hv
theorem dM:(cS u v).Ok (u+v):=⟨⟨by show 0<=0/\0<=1000000;omega,by show 0<=u/\u<=2000000000000;omega,by show 0<=v/\v<=2000000000000;omega,by simp[cS],by simp[cS],by simp[cS]⟩,by simp[cS,Pr]⟩
theorem ψ(a:Ta):Ee [.int 0,.int q,.int u,.int v] a=.ok (Da q (cS u v) .wc []).D a:=by
 have f:∀ a,Vi [.int u,.int v] a=.ok (cS u v).D a:=zsd hu hv;have ok:=yk hq (dM hq hu hv) (G:=.wc) (L:=[]) rfl rfl;have c:∀ a,Uh a (Lp 5 7 Oj [.int 0,.int q,(cS u v).D,.wc,.la [(cS u v).D],.la []] a)=.ok (Da q (cS u v) .wc []).D a:=zE ok;have b:=Cy ok;unfold Ee rP;simp[f,c,b]
theorem wQ(o:K.Nodup)(p:K.length<=60){WD:D}(n:WD=.la (K.map D.int)):Lp 9 5 Vo [.int (1+q),.int (5+q),.la [Mg u v],WD] σ0=.ok (.ref σ0.length) (SA σ0 0 K (Da q (cS u v) .wc []) [] false []):=by
 have F:=O4 (u:=u) (v:=v) hq;have ok:=yk hq (dM hq hu hv) (G:=.wc) (L:=[]) rfl rfl;have C:∀ a,vm [(9,Gc)] 2 "learn" a (.ref σ0.length) (P3 σ0 q [] [] [] [])=(a (P3 σ0 q [] [] [] [])).bind (Gk 2 Gc (.ref σ0.length)):=λa=>Fo (RA [] [] []) rfl rfl;have B:∀ a,vm [(9,Ud)] 4 "hold" a (.ref σ0.length) (P3 σ0 q K [] [] [])=(a (P3 σ0 q K [] [] [])).bind (Gk 4 Ud (.ref σ0.length)):=λa=>Fo (RA [] [] []) rfl rfl;have r:=R9 (σ0:=σ0) (q:=q) (K:=K) ok;have fa:=ψ hq hu hv;have z:=Y7 (σ0:=σ0) (q:=q) o p;have f:∀ σ,Oa (Mg u v) (.int 0) σ=.ok (.int 1) σ:=λσ=>by unfold Mg;simp
 have g:∀ σ,Oa (Mg u v) (.int 1) σ=.ok (.int 2) σ:=λσ=>by unfold Mg;simp
 have w:∀ σ,Oa (Mg u v) (.int 2) σ=.ok (.int u) σ:=λσ=>by unfold Mg;simp
 have y:∀ σ,Oa (Mg u v) (.int 3) σ=.ok (.int v) σ:=λσ=>by unfold Mg;simp
 have E:aG [some (.ref σ0.length),some (.int (1+q)),some (.int (5+q)),some (.la [Mg u v]),some WD,some (.int 0),some (Mg u v),none] (P3 σ0 q K [] [] [])=.ok (.nx [some (.ref σ0.length),some (.int (1+q)),some (.int (5+q)),some (.la [Mg u v]),some WD,some (.int 0),some (Mg u v),some (.int 1)]) (P3 σ0 q K (AV (Da q (cS u v) .wc [])) jx vx):=by
  have b:Oa (Mg u v) (.int q) (P3 σ0 q K [] [] [])=.ok (.int (1+q)) (P3 σ0 q K [] [] [])->hG [some (.ref σ0.length),some (.int (1+q)),some (.int (5+q)),some (.la [Mg u v]),some WD,some (.int 0),some (Mg u v),some (.int q)] (P3 σ0 q K [] [] [])=.ok (.nx [some (.ref σ0.length),some (.int (1+q)),some (.int (5+q)),some (.la [Mg u v]),some WD,some (.int 0),some (Mg u v),some (.int q)]) (P3 σ0 q K (AV (Da q (cS u v) .wc [])) jx vx):=λc=>by
   unfold hG;generalize (Da q (cS u v) .wc []).D=I,Mg u v=P,P3 σ0 q K [] [] []=Y,P3 σ0 q K (AV (Da q (cS u v) .wc [])) jx vx=Z at *;simp[c,w,y,fa,B,r]
  have h:∀ (s x:Int) (Y:Ta),Oa (Mg u v) (.int s) Y=.ok (.int x) Y->(x == 1+q)=false->hG [some (.ref σ0.length),some (.int (1+q)),some (.int (5+q)),some (.la [Mg u v]),some WD,some (.int 0),some (Mg u v),some (.int s)] Y=.ok (.nx [some (.ref σ0.length),some (.int (1+q)),some (.int (5+q)),some (.la [Mg u v]),some WD,some (.int 0),some (Mg u v),some (.int s)]) Y:=λs x Y c t=>by
   simp[c,t]
  unfold aG;rw[KG];simp -implicitDefEqProofs only[Ļ,t2,uM,KM,gf,ZJ,cN,SK,V2,N2,Hq,yI];rw[au];simp only[Cc,Dc];rcases hq with rfl|rfl
  ·rw[b (f _),gf,lq,au];simp only[Cc,Dc];rw[h 1 2 _ (g _) (by simp),gf,lq,fB]
  ·rw[h 0 1 _ (f _) (by simp),gf,lq,au];simp only[Cc,Dc];rw[b (g _),gf,lq,fB]
 have l:dB (.la [Mg u v]) (P3 σ0 q K [] [] [])=.ok (Bx (.la [Mg u v])) (P3 σ0 q K [] [] []):=Y0 (xs:=[Mg u v]) rfl;have A:Qr (Bx (.la [Mg u v])) (Wo 2 (Bi (je 5) (Bi (je 6) Jp))) aG 1001 0 [some (.ref σ0.length),some (.int (1+q)),some (.int (5+q)),some (.la [Mg u v]),some WD,none,none,none] (P3 σ0 q K [] [] [])=.ok (.nx [some (.ref σ0.length),some (.int (1+q)),some (.int (5+q)),some (.la [Mg u v]),some WD,some (.int 0),some (Mg u v),some (.int 1)]) (P3 σ0 q K (AV (Da q (cS u v) .wc [])) jx vx):=by
  rw[nM (k:=1000) (g5 (xs:=[Mg u v]) (i:=0) rfl rfl) (ρ1:=[some (.ref σ0.length),some (.int (1+q)),some (.int (5+q)),some (.la [Mg u v]),some WD,some (.int 0),some (Mg u v),none]) rfl,E,gf,lq];exact qK (k:=999) (ć (x:=.la [Mg u v]) (xs:=[Mg u v]) rfl)
 have m:∀ (j:D->Ev->Option Ev) (body:Ev->M Fl) (ρ:Ev) (nx:NX),WK j body ρ nx=Qr nx j body 1001 0 ρ:=λ_ _ _ _=>rfl;have e:Vo [.ref σ0.length,.int (1+q),.int (5+q),.la [Mg u v],WD] (σ0++[.Jd 9 []])=.ok .wc (P3 σ0 q K (AV (Da q (cS u v) .wc [])) jx vx):=by
  unfold Vo kU;rw[Rr,Ĩ];show Kz (Cb _ _ [some (.ref σ0.length),some (.int (1+q)),some (.int (5+q)),some (.la [Mg u v]),some WD,none,none,none] (σ0++[.Jd 9 []]))=_;rw[Ki];simp -implicitDefEqProofs only[ZU,YY,uM,sO,WE,gf,ZJ,cN,SK,ŧ,F,Hq,kX,Ji];rw[Ki,SG (d:=.int (1+q)) rfl rfl (by simp),gf,Ji];rw[Ki,SG (d:=.int (5+q)) rfl rfl (by simp),gf,Ji];rw[Ki,SG (d:=.int 0) rfl rfl (by simp),gf,Ji];rw[Ki,SG (d:=.int 0) rfl rfl (by simp),gf,Ji];rw[Ki,YA (k:=1) rfl rfl rfl,gf,Ji];rw[Ki,YA (k:=2) rfl rfl rfl,gf,Ji];rw[Ki,YA (k:=3) rfl rfl rfl,gf,Ji];rw[Ki,YA (k:=4) rfl rfl rfl,gf,Ji];rw[Ki,YA (k:=5) rfl rfl rfl,gf,Ji];rw[Ki,YA (k:=6) rfl rfl rfl,gf,Ji];show Kz (Cb _ _ [some (.ref σ0.length),some (.int (1+q)),some (.int (5+q)),some (.la [Mg u v]),some WD,none,none,none] (P3 σ0 q [] [] [] []))=_;rw[Ki];have H:Gx (eT (Ba Ft (ba 4) (eC .wc))) (ci Ja) (ba 4) [some (.ref σ0.length),some (.int (1+q)),some (.int (5+q)),some (.la [Mg u v]),some WD,none,none,none] (P3 σ0 q [] [] [] [])=.ok (.la (K.map D.int)) (P3 σ0 q [] [] [] []):=by
   subst n;simp
  simp -implicitDefEqProofs only[ZU,ŀ,WE,gf,C,uM,H,ZJ,cN,SK,X1,z,Hq,kX,Ji];rw[oz];simp -implicitDefEqProofs only[f6,sO,WE,gf,l,Hq,m];rw[A,h9]
 rw[zS,e,GK];rfl
end
structure Hn where
 g:Int
 K:List Int
 a:Ac
 Q:Kv
structure Hn.Ok(h:Hn):Prop where
 k:h.K.length<=60
 a:h.a.Ok
 c:h.a.c=5\/h.a.c=6\/h.a.c=7
def Cu(r:Nat)(h:Hn)(c:Ta):Prop:=∃ b J,r=b.length/\c=SA b h.g h.K h.a h.Q false J
theorem j1(b:Ta)(g:Int)(K:List Int)(a:Ac)(Q:Kv)(F:Bool)(J j:Ta):SA b g K a Q F J++j=SA b g K a Q F (J++j):=by
 unfold SA S;simp
theorem Cu.app(c:Cu r h b)(j:Ta):Cu r h (b++j):=by
 obtain⟨a,J,e,rfl⟩:=c;exact⟨a,J++j,e,j1 ..⟩
def cwd(c:Nat):Str:=if c=5 then "calm" else if c=6 then "offered" else "waiting"
def vw(a:Ac):D:=.Ka [a.m.D,.la (a.y.map Sn.D),.str (cwd a.c)]
section
variable{r:Nat}{h:Hn}{σ:Ta}(hh:Cu r h σ)(ho:h.Ok)
include hh
theorem jw{m:Str}(n:Nat)(c:List D->M D)(d:M (List D))(e:∀ b,(Qw b h.a.q h.g).lookup m=none):vm [(9,c)] n m d (.ref r) σ=(d σ).bind (Gk n c (.ref r)):=by
 obtain⟨f,J,rfl,rfl⟩:=hh;exact Zn (ym ..) n c d (e _)
theorem pJ:Rb [.ref r] σ=.ok (.int h.g) σ:=by
 obtain⟨a,J,rfl,rfl⟩:=hh;exact zs4
include ho
theorem cY:Nc [.ref r] σ=.ok (.int (W h.K h.a)) σ:=by
 obtain⟨b,J,rfl,rfl⟩:=hh;exact nO ho.k ho.a
theorem ZZ:Xc [.ref r] σ=.ok (.la ((ks h.K).map D.int)) σ:=by
 obtain⟨a,J,rfl,rfl⟩:=hh;exact qR (ym ..) ho.k
theorem XM:xb [.ref r,.int 0] σ=.ok h.a.D σ:=by
 obtain⟨b,J,rfl,rfl⟩:=hh;exact Z8 ho.a
theorem OV(ρ:Ev):Ba Nh (Rg [(9,Nc)] 1 "worth" (ba 0) Ja) (Rg [(9,Rb)] 1 "given" (ba 0) Ja) (some (.ref r)::ρ) σ=.ok (.int (W h.K h.a+h.g)) σ:=by
 have c:=λb=>jw hh (m:="worth") 1 Nc b (λ_=>rfl);have d:=λb=>jw hh (m:="given") 1 Rb b (λ_=>rfl);have w:=cY hh ho;have g:=pJ hh;simp[c,d,w,g]
theorem sT(ρ:Ev):Rg [(9,Rb)] 1 "given" (ba 0) Ja (some (.ref r)::ρ) σ=.ok (.int h.g) σ:=by
 have b:=λa=>jw hh (m:="given") 1 Rb a (λ_=>rfl);have g:=pJ hh;simp[b,g]
theorem MV(j:Ev):∀ b,vm [(5,Kb),(6,Xb),(7,Wb)] 1 "word" (Ja j) h.a.D b=.ok (.str (cwd h.a.c)) b:=λb=>by
 have d:∀ x σ,Kb [x] σ=.ok (.str "calm") σ:=λx σ=>by unfold Kb kE;simp
 have f:∀ x σ,Xb [x] σ=.ok (.str "offered") σ:=λx σ=>by unfold Xb QT;simp
 have g:∀ x σ,Wb [x] σ=.ok (.str "waiting") σ:=λx σ=>by unfold Wb RW;simp
 have i:=cx ho.a b;unfold cwd;rcases ho.c with e|e|e
 ·rw[e]at i ⊢;rw[Fo i rfl rfl];simp[d]
 ·rw[e]at i ⊢;rw[Fo i rfl rfl];simp[f]
 ·rw[e]at i ⊢;rw[Fo i rfl rfl];simp[g]
end
def kO(b:Nat)(h:Hn):Ta:=.Jd 9 (Qw b h.a.q h.g)::.yc (tq h.K)::.yc (AV h.a)::.yc jx::.yc vx::.yc h.Q::.yc (fi false)::[]
def PS(B:Ta)(x y:Hn)(J:Ta):Ta:=B++(kO B.length x++(kO (B.length+7) y++J))
def rq(b:Nat)(q:Int):Nat:=if q=0 then b else b+7
def LL(b:Nat):D:=.la [.ref b,.ref (b+7)]
section
variable(B:Ta)(x y:Hn)(J:Ta)
theorem S5:PS B x y J=SA B x.g x.K x.a x.Q false (kO (B.length+7) y++J):=rfl
theorem NB:PS B x y J=SA (B++kO B.length x) y.g y.K y.a y.Q false J:=by
 have e:(B++kO B.length x).length=B.length+7:=by rw[Ia];rfl
 show _=(B++kO B.length x)++(kO (B++kO B.length x).length y++J);rw[e,Wg];rfl
theorem Xx:Cu B.length x (PS B x y J):=⟨B,_,rfl,S5 ..⟩
theorem xy:Cu (B.length+7) y (PS B x y J):=⟨B++kO B.length x,J,by rw[Ia];rfl,NB ..⟩
theorem MF(j:Ta):PS B x y J++j=PS B x y (J++j):=by unfold PS;simp
theorem zF:(PS B x y J).length=B.length+14+J.length:=by
 unfold PS;simp only[Ia];show B.length+(7+(7+J.length))=_;omega
theorem t9(i:Nat):(PS B x y J)[B.length+14+i]?=J[i]?:=by
 show (B++(kO B.length x++(kO (B.length+7) y++J)))[_]?=_;rw[show B++(kO B.length x++(kO (B.length+7) y++J))=(B++kO B.length x++kO (B.length+7) y)++J by simp];have e:(B++kO B.length x++kO (B.length+7) y).length=B.length+14:=by simp only[Ia];rfl
 rw[<-e];exact Iv i
theorem UQ(i:Nat)(o:Ob):(PS B x y J).set (B.length+14+i) o=PS B x y (J.set i o):=by
 unfold PS;rw[show ∀ J,B++(kO B.length x++(kO (B.length+7) y++J))=(B++kO B.length x++kO (B.length+7) y)++J by simp];have e:(B++kO B.length x++kO (B.length+7) y).length=B.length+14:=by simp only[Ia];rfl
 rw[<-e,zw];simp
end
theorem dH(c:q=0\/q=1)(b:Nat)(a:Ta):Oa (LL b) (.int q) a=.ok (.ref (rq b q)) a:=by
 rcases c with rfl|rfl
 ·exact Tz (Tr rfl)
 ·exact Tz (Tr rfl)
theorem two(f:ba i ρ σ=.ok (LL b) σ)(k:∀ j,c [some (.ref b),none] (σ++j)=.ok d (σ++j))(l:∀ j,c [some (.ref (b+7)),none] (σ++j)=.ok e (σ++j))(g:cl d=true)(h:cl e=true) :
  Bh (pj (Fk (gi (ba i))) [] (je 0) ik c) ρ σ=.ok (.la [d,e]) σ:=by
 have:=kx (ix:=[]) (src:=gi (ba i)) (s:=.seq [.ref b,.ref (b+7)]) (ρ:=ρ) (σ:=σ) Prod.fst Prod.snd (by
  unfold LL at f;simp[f]) (λi _=>cc some (Ht [(D.ref b,d),(D.ref (b+7),e)] Prod.fst i)) (by simp) (λp a j=>by
  rcases Ea.mp a with rfl|a
  ·exact k j
  ·have:p=(D.ref (b+7),e):=by simpa using a
   subst this;exact l j) (λp a=>by
  rcases Ea.mp a with rfl|a
  ·exact g
  ·have:p=(D.ref (b+7),e):=by simpa using a
   subst this;exact h)
 exact this
section
variable{B:Ta}{x y:Hn}(hx:x.Ok)(hy:y.Ok)(J:Ta)
include hx hy
theorem ŋ{ρ:Ev}{i:Nat}(a:ba i ρ (PS B x y J)=.ok (LL B.length) (PS B x y J)):Bh (pj (Fk (gi (ba i))) [] (je 0) ik (Rg [(9,Rb)] 1 "given" (ba 0) Ja)) ρ (PS B x y J)=.ok (.la [.int x.g,.int y.g]) (PS B x y J):=
 two a (λj=>sT ((Xx ..).app j) hx _) (λj=>sT ((xy ..).app j) hy _) rfl rfl
theorem aS:sf [LL B.length] (PS B x y J)=.ok (.la [.int (W x.K x.a+x.g),.int (W y.K y.a+y.g)]) (PS B x y J):=by
 have t:=two (ρ:=[some (LL B.length)]) (i:=0) (by simp) (λj=>OV ((Xx B x y J).app j) hx _) (λj=>OV ((xy B x y J).app j) hy _) rfl rfl;unfold sf MO;simp[t,-wq]
theorem vG(a:Ac):cl (vw a)=true:=by unfold vw;simp[Aj,EB]
theorem IT:Oe [LL B.length] (PS B x y J)=.ok (.la [vw x.a,vw y.a]) (PS B x y J):=by
 have e:∀ {r:Nat} {h:Hn} {σ:Ta},Cu r h σ->h.Ok->gg (ra (Cd (Uc [4,5,6,7] "mine") (Rg [(9,xb)] 2 "account" (ba 0) (ra (eC (.int 0)) Ja))) (ra (Cd (Uc [4,5,6,7] "may") (Rg [(9,xb)] 2 "account" (ba 0) (ra (eC (.int 0)) Ja))) (ra (Rg [(5,Kb),(6,Xb),(7,Wb)] 1 "word" (Rg [(9,xb)] 2 "account" (ba 0) (ra (eC (.int 0)) Ja)) Ja) Ja))) [some (.ref r),none] σ=.ok (vw h.a) σ:=fun {r h σ} c b=>by
  have o:=λn=>jw c (m:="account") 2 xb n (λ_=>rfl);have d:=XM c b;have k:=JA b.a σ;have l:=rG b.a σ;have w:=λρ=>MV c b ρ σ;unfold vw;simp[o,d,k,l,w]
 have t:=two (ρ:=[some (LL B.length)]) (i:=0) (by simp) (λj=>e ((Xx B x y J).app j) hx) (λj=>e ((xy B x y J).app j) hy) (vG hx hy _) (vG hx hy _);have f:=vG hx hy x.a;have g:=vG hx hy y.a;unfold Oe bU;simp[t,f,g,-wq]
end
theorem G5{xs:List D}(h:bi a n=some xs)(b:xs.length<1000)(d:D):Mn (.ref n) [d] a=.ok .wc (a.set n (.la (xs++[d]))):=by
 unfold Mn;simp only[h];rw[ia (show xs.length<ai from b)]
theorem Ŗ{xs:List D}(h:bi a n=some (d::xs)):IA (.ref n) [.int 0] a=.ok d (a.set n (.la xs)):=by
 unfold IA;simp[h]
theorem CQ{xs:List D}(h:bi a n=some xs):ph (.ref n) (.la []) a=.ok (.bl (!xs.isEmpty)) a:=my (by
 simp only[li,L4.kd,h];cases xs<;>rfl)
theorem ζ{xs:List D}(h:bi a n=some xs):Fj [.ref n] a=.ok (.int xs.length) a:=by
 unfold Fj;simp[yj,h]
theorem Ž{xs b:List D}(c:rh a x=some xs)(d:rh a y=some b)(e:xs.length+b.length<=1000):ME x y a=.ok (.ref a.length) (a++[.la (xs++b)]):=by
 unfold ME;simp only[c,d];rw[ia (show _<=ai from e)];rfl
theorem RO(h:c b a=.ok true a):Gv c g (n+1) b a=(g b a).bind (xu (Gv c g n)):=by
 unfold Gv;rw[Wn,h,Hq,ia rfl];rfl
theorem İ(h:c b a=.ok false a):Gv c g (n+1) b a=.ok (.nx b) a:=by
 unfold Gv;rw[Wn,h,Hq];rfl
def yG(q:Int)(x y:Hn)(X:D)(a:List D)(b c:Hn):Prop:=∀ B J,Bb [.ref (rq B.length q),X] (PS B x y J)=.ok (.la a) (PS B b c J)
abbrev Pw:=List (Int × D)
def rD(a:Pw):List D:=a.map λp=>.Ka [.int p.1,p.2]
inductive Tk(ha:Bool):Hn->Hn->Pw->List Str->Hn->Hn->List Str->Prop where
 |nil (x y:Hn) (ts:List Str):Tk ha x y [] ts x y ts
 |go {x y x1 y1 x' y':Hn} {q:Int} {X:D} {k:Str} {as:List D} {rest:Pw} {ts ts':List Str} (hq:q=0\/q=1) (i0:∀ σ,Oa X (.int 0) σ=.ok (.str k) σ) (hs:ha=false\/(k == ("struck" : Str))=false) (ht:yG q x y X as x1 y1) (hl:as.length<=2) (r:Tk ha x1 y1 (rest++as.map λa=>(1 - q,a)) (ts++[k]) x' y' ts'):Tk ha x y ((q,X)::rest) ts x' y' ts'
 |st {x y x' y':Hn} {q:Int} {X:D} {rest:Pw} {ts ts':List Str} (hq:q=0\/q=1) (i0:∀ σ,Oa X (.int 0) σ=.ok (.str "struck") σ) (hs:ha=true) (r:Tk ha x y rest (ts++[("struck" : Str)]) x' y' ts'):Tk ha x y ((q,X)::rest) ts x' y' ts'
theorem Tk.le(h:Tk d x y i c j k b):c.length<=b.length:=by
 induction h with
 |nil=>exact ya _
 |go e g f m l r a=>rw[Ia]at a;exact Ib (Jh _) a
 |st e g f r a=>rw[Ia]at a;exact Ib (Jh _) a
section
variable{B:Ta}{x y:Hn}{J:Ta}{ha:Bool}{S Lt:D}{i r:Nat}{ts:List Str}{x6 x7:Option D}
abbrev tE(b:Nat)(S Lt:D)(ha:Bool)(i r:Nat)(x6 x7:Option D):Ev:=[some (LL b),some S,some Lt,some (.bl ha),some (.ref (b+14+i)),some (.ref (b+14+r)),x6,x7]
theorem Gy{xs:List D}(h:J[i]?=some (.la xs)):bi (PS B x y J) (B.length+14+i)=some xs:=by
 unfold bi;rw[t9,h]
theorem GM(b:J[i]?=some (.la (ts.map D.str)))(f:J[r]?=some (.la (rD a)))(d:ts.length<9\/a=[]):wC (tE B.length S Lt ha i r x6 x7) (PS B x y J)=.ok (!a.isEmpty) (PS B x y J):=by
 have n:=CQ (Gy (B:=B) (x:=x) (y:=y) f);have l:=ζ (Gy (B:=B) (x:=x) (y:=y) b);have e:(rD a).isEmpty=a.isEmpty:=by cases a<;>rfl
 rw[e]at n;have c:a.isEmpty=false->ts.length<9:=λz=>by
  rcases d with h|rfl
  ·exact h
  ·cases z
 generalize a.isEmpty=E at *;cases E with
 |true=>simp[n]
 |false=>have c:=c rfl;simp[n,l];omega
theorem KU(n:∀ g,Oa X (.int 0) g=.ok (.str k) g)(j:J[i]?=some (.la (ts.map D.str)))(l:J[r]?=some (.la (rD ((q,X)::a))))(c:i≠r)(u:ts.length<9):(Cb JQ IP) (tE B.length S Lt ha i r x6 x7) (PS B x y J)=.ok (.nx (tE B.length S Lt ha i r (some (.int q)) (some X))) (PS B x y ((J.set r (.la (rD a))).set i (.la ((ts++[k]).map D.str)))):=by
 have e:=Gy (B:=B) (x:=x) (y:=y) l;have p:IA (.ref (B.length+14+r)) [.int 0] (PS B x y J)=.ok (.Ka [.int q,X]) ((PS B x y J).set (B.length+14+r) (.la (rD a))):=Ŗ e;have s:=λo b=>Mz (o:=o) (m:=b) (x:=.ref (B.length+14+r)) e;rw[UQ]at p;have h:(J.set r (.la (rD a)))[i]?=some (.la (ts.map D.str)):=IB (λz=>c z.symm) j;have f:=Gy (B:=B) (x:=x) (y:=y) h;have d:=G5 f (by simp;omega) (.str k);rw[UQ,show ts.map D.str++[.str k]=(ts++[k]).map D.str by simp]at d;have t:=λo b=>Mz (o:=o) (m:=b) (x:=.ref (B.length+14+i)) f;simp[s,p,t,d,n]
theorem F1(p:q=0\/q=1)(H:∀ σ,Oa X (.int 0) σ=.ok (.str k) σ)(F:ha=false\/(k == ("struck" : Str))=false)(G:yG q x y X c f g)(L:c.length<=2)(C:J[r]?=some (.la (rD e)))(M:e.length<=900):CM (tE B.length S Lt ha i r (some (.int q)) (some X)) (PS B x y J)=.ok (.nx (tE B.length S Lt ha i (J.length+1) (some (.int q)) (some X))) (PS B f g (J++[.la (rD (c.map λa=>(1 - q,a)))]++[.la (rD (e++c.map λa=>(1 - q,a)))])):=by
 have t:=dH p B.length;have A:Cu (rq B.length q) (if q=0 then x else y) (PS B x y J):=by
  rcases p with rfl|rfl
  ·exact Xx ..
  ·exact xy ..
 have mt:=λv=>jw A (m:="take") 2 Bb v (λ_=>rfl);have K:=G B J;have u:(!ha || !(k == ("struck" : Str)))=true:=by
  rcases F with rfl|h
  ·rfl
  ·rw[h];cases ha<;>rfl
 have o:=IQ (ix:=[6]) (xs:=c) (src:=gi (Rg [(9,Bb)] 2 "take" (Ba Oa (ba 0) (ba 6)) (ra (ba 7) Ja))) (s:=.seq c) (fe:=gg (ra (Ba cr (eC (.int 1)) (ba 2)) (ra (ba 0) Ja))) (ρ:=tE B.length S Lt ha i r (some (.int q)) (some X)) (σ:=PS B x y J) (σ':=PS B f g J) (λd=>d) (λa=>.Ka [.int (1 - q),a]) (by
   simp[t,mt,K]) (λn _=>cc some (by cases c[n]?<;>rfl)) (by omega) (λa _ j=>by simp)
 rw[MF,zF,show c.map (λa=>D.Ka [.int (1 - q),a])=rD (c.map λa=>(1 - q,a)) by unfold rD;rw[dc];rfl]at o;have w:(J++[.la (rD (c.map λa=>(1 - q,a)))])[r]?=some (.la (rD e)):=Zu C;have z:(J++[.la (rD (c.map λa=>(1 - q,a)))])[J.length]?=some (.la (rD (c.map λa=>(1 - q,a)))):=by simp
 have l:=Ž (x:=.ref (B.length+14+r)) (y:=.ref (B.length+14+J.length)) (Gy (B:=B) (x:=f) (y:=g) w) (Gy (B:=B) (x:=f) (y:=g) z) (by unfold rD;simp;omega);rw[MF,zF,show rD e++rD (c.map λa=>(1 - q,a))=rD (e++c.map λa=>(1 - q,a)) by unfold rD;rw[Ic],Ia]at l;have I:∀ σ,ph (.str k) (.str "struck") σ=.ok (.bl (!(k == "struck"))) σ:=λσ=>my (b:=(k == "struck")) (by simp[li,L4.kd,Io,Mj]);generalize (k == ("struck" : Str))=E at *;cases ha with
 |false=>simp[o,l]
 |true=>
  cases E with
  |true=>cases u
  |false=>simp[H,I,o,l]
theorem ywy(b:∀ a,Oa X (.int 0) a=.ok (.str "struck") a):CM (tE B.length S Lt true i r (some (.int q)) (some X)) (PS B x y J)=.ok (.nx (tE B.length S Lt true i r (some (.int q)) (some X))) (PS B x y J):=by
 have c:∀ a,ph (.str "struck") (.str "struck") a=.ok (.bl false) a:=λa=>br (by simp[pl]);simp[b,c]
end
theorem TL(h:(Cb a b) ρ σ=.ok (.nx d) f):Cb a (Cb b c) ρ σ=c d f:=by
 rw[Ki]at h ⊢;cases e:a ρ σ with
 |ok i g=>
  rw[e,gf]at h;rw[gf];cases i with
  |nx j=>
   rw[Ji]at h ⊢;rw[Ki,h,gf,Ji]
  |_=>cases h
 |ex z g=>rw[e]at h;cases h
 |Pb=>rw[e]at h;cases h
section
variable{B:Ta}{ha:Bool}{S Lt:D}
theorem FY(h:Tk ha x y A ts I K e):e.length<=8->∀ (n:Nat) (J:Ta) (i r:Nat) (f g:Option D),e.length<n+ts.length->A.length+e.length<=100+ts.length->J[i]?=some (.la (ts.map D.str))->J[r]?=some (.la (rD A))->i≠r->∃ C N P Q,C[i]?=some (.la (e.map D.str))/\Gv wC wB n (tE B.length S Lt ha i r f g) (PS B x y J)=.ok (.nx (tE B.length S Lt ha i N P Q)) (PS B I K C):=by
 have E:∀ {J:Ta} {r i:Nat} {a b c:Ob},J[r]?=some a->i≠r->((J.set r b).set i c)[r]?=some b:=fun {J r i a b c} h n=>IB n (by
  obtain⟨p,_⟩:=ja.mp h;rw[Df p])
 have F:∀ {J:Ta} {r i:Nat} {a b c:Ob},J[i]?=some a->((J.set r b).set i c)[i]?=some c:=fun {J r i a b c} h=>by
  obtain⟨p,_⟩:=ja.mp h;rw[Df (by rw[No];exact p)]
 induction h with
 |nil x y ts=>
  intro _ n J i r f g G _ j l _;obtain⟨n,rfl⟩:∃ k,n=k+1:=⟨n - 1,by omega⟩
  exact⟨J,r,f,g,j,İ (GM j l (.inr rfl))⟩
 |@go a1 a2 R T U V q X k as rest ts e H m u M L z v=>
  intro s n J i r f g G t j l d;have o:=z.le;rw[Ia]at o;simp only[Fb]at o t;obtain⟨n,rfl⟩:∃ k,n=k+1:=⟨n - 1,by omega⟩
  have c:=λx y=>GM (B:=B) (x:=x) (y:=y) (S:=S) (Lt:=Lt) (ha:=ha) (x6:=f) (x7:=g) j l (.inl (by omega));have w:=λx y=>KU (B:=B) (x:=x) (y:=y) (S:=S) (Lt:=Lt) (ha:=ha) (x6:=f) (x7:=g) m j l d (by omega);have O:=F1 (B:=B) (S:=S) (Lt:=Lt) (i:=i) H m u M L (E (b:=.la (rD rest)) (c:=.la ((ts++[k]).map D.str)) l d) (by omega);rw[RO (c _ _)];unfold wB;rw[TL (w _ _),O,gf,lq];have W:=(ja.mp j).1;refine v s n _ i _ _ _ (by rw[Ia];simp;omega) (by simp;omega) (Zu (Zu (F j))) ?_ (by simp;omega);simp
 |st H m u z v=>
  intro s n J i r f g G t j l d;have o:=z.le;rw[Ia]at o;simp only[Fb]at o t;obtain⟨n,rfl⟩:∃ k,n=k+1:=⟨n - 1,by omega⟩
  subst u;have c:=λx y=>GM (B:=B) (x:=x) (y:=y) (S:=S) (Lt:=Lt) (ha:=true) (x6:=f) (x7:=g) j l (.inl (by omega));have w:=λx y=>KU (B:=B) (x:=x) (y:=y) (S:=S) (Lt:=Lt) (ha:=true) (x6:=f) (x7:=g) m j l d (by omega);rw[RO (c _ _)];unfold wB;rw[TL (w _ _),ywy m,gf,lq];exact v s n _ i r _ _ (by rw[Ia];simp;omega) (by simp;omega) (F j) (E l d) d
end
theorem S0(h:Tk f x y (b.map λl=>(1 - q,l)) [] g i c)(p:c.length<=8)(r:b.length<=9)(J:Ta):∃ e,e[J.length]?=some (.la (c.map D.str))/\Dg [LL B.length,.int q,.la b,.bl f] (PS B x y J)=.ok (.ref (B.length+14+J.length)) (PS B g i e):=by
 have l1:=zF B x y J;have l2:=MF B x y J [.la []];have m:=IQ (ix:=[1]) (src:=gi (ba 2)) (s:=.seq b) (fe:=gg (ra (Ba cr (eC (.int 1)) (ba 2)) (ra (ba 0) Ja))) (ρ:=[some (LL B.length),some (.int q),some (.la b),some (.bl f),some (.ref (B.length+14+J.length)),none,none,none]) (σ:=PS B x y (J++[.la []])) (σ':=PS B x y (J++[.la []])) (λd=>d) (λa=>.Ka [.int (1 - q),a]) (by simp) (λn _=>cc some (by cases b[n]?<;>rfl)) (by omega) (λa _ j=>by simp);rw[MF,zF,show b.map (λa=>D.Ka [.int (1 - q),a])=rD (b.map λa=>(1 - q,a)) by unfold rD;rw[dc];rfl,Ia,Ts]at m;obtain⟨e,t,u,v,o,k⟩:=FY (S:=.int q) (Lt:=.la b) h p 100 (J++[.la []]++[.la (rD (b.map λa=>(1 - q,a)))]) J.length (J.length+1) none none (by simp;omega) (by simp;omega) (Zu (by simp)) (by simp) (by omega);refine⟨e,o,?_⟩;have w:∀ ρ σ,UK wC wB ρ σ=Gv wC wB 100 ρ σ:=λ_ _=>rfl;unfold tE at k;unfold Dg iQ LP jQ;generalize PS B x y J=Y,PS B x y (J++[.la []])=Z,PS B x y (J++[.la []]++[.la (rD (b.map λa=>(1 - q,a)))])=U,PS B g i e=V,LL B.length=P at *;simp[l1,l2,m,w,k]
theorem fH(h:∀ b J,Bb [.ref b.length,X] (SA b x.g x.K x.a x.Q false J)=.ok (.la d) (SA b c.g c.K c.a c.Q false J)):yG 0 x y X d c y:=λB J=>h B _
theorem UC(h:∀ b J,Bb [.ref b.length,X] (SA b y.g y.K y.a y.Q false J)=.ok (.la d) (SA b c.g c.K c.a c.Q false J)):yG 1 x y X d x c:=λB J=>by
 have e:(B++kO B.length x).length=B.length+7:=by rw[Ia];rfl
 rw[NB,NB,show rq B.length 1=(B++kO B.length x).length from e.symm];exact h _ J
theorem eU(w:Int)(a:Ta):Oa (BA w) (.int 0) a=.ok (.str "word") a:=by unfold BA;simp
theorem oN(s:Sn)(a:Ta):Oa (Lg s) (.int 0) a=.ok (.str "offer") a:=by unfold Lg;simp
theorem E7(m s:Sn)(a:Ta):Oa (bp m s) (.int 0) a=.ok (.str "accept") a:=by unfold bp;simp
theorem pQ(n:Int)(a:Ta):Oa (Jq n) (.int 0) a=.ok (.str "struck") a:=by unfold Jq;simp
theorem eO(s:Sn)(a:Ta):Oa (Dn s) (.int 0) a=.ok (.str "ask") a:=by unfold Dn;simp
def Wi.kl(K:List Int):Wi->List Int
 | .Ed w=>bu K w
 |_=>K
def Wi.wk:Wi->List Str
 | .Ed _=>["word"]
 |_=>[]
def Wi.mx:Wi->Prop
 | .Ed w=>0<=w/\w<=59
 |_=>True
theorem Wi.jr(a:Wi):a.wd=[]/\a.wk=[]/\(∀ K,a.kl K=K)\/∃ w,a.wd=[BA w]/\a.wk=[("word" : Str)]/\(∀ K,a.kl K=bu K w)/\(a.mx->0<=w/\w<=59):=by
 cases a with
 |Ed w=>exact .inr ⟨w,rfl,rfl,λ_=>rfl,λh=>h⟩
 |_=>exact .inl ⟨rfl,rfl,λ_=>rfl⟩
section
variable{ha:Bool}{ws:Wi}(hw:ws.mx){x y x' y':Hn}{L:D}{ts':List Str}
include hw
theorem vO(f:x.K.length<=60)(h:Tk ha ⟨x.g,ws.kl x.K,x.a,x.Q⟩ y [(0,L)] ws.wk x' y' ts'):Tk ha x y ((ws.wd++[L]).map λl=>(0,l)) [] x' y' ts':=by
 rcases ws.jr with⟨b,c,d⟩|⟨w,b,c,d,e⟩
 ·rw[c,d]at h;rw[b];exact h
 ·rw[c,d]at h;rw[b];exact .go (as:=[]) (.inl rfl) (eU w) (.inr (by decide)) (fH λi J=>RU f (e hw)) (Sg _) h
theorem yO(f:y.K.length<=60)(h:Tk ha x ⟨y.g,ws.kl y.K,y.a,y.Q⟩ [(1,L)] ws.wk x' y' ts'):Tk ha x y ((ws.wd++[L]).map λl=>(1,l)) [] x' y' ts':=by
 rcases ws.jr with⟨b,c,d⟩|⟨w,b,c,d,e⟩
 ·rw[c,d]at h;rw[b];exact h
 ·rw[c,d]at h;rw[b];exact .go (as:=[]) (.inr rfl) (eU w) (.inr (by decide)) (UC λi J=>RU f (e hw)) (Sg _) h
end
theorem YT:∀ (n:Nat) {K:List Int},K.Nodup->(∀ w∈K,0<=w/\w<n)->K.length<=n
 |0,K,_,h=>by
  cases K with
  |nil=>exact ya _
  |cons w K=>have:=h w Ha;omega
 |n+1,K,hd,h=>by
  have e:=YT n (K:=K.erase n) (hd.erase _) λw b=>by
   have a:=hd.mem_erase_iff.mp b;have c:=h w a.2;omega
  rw[List.length_erase]at e;split at e<;>omega
structure Et(K:List Int):Prop where
 d:K.Nodup
 b:∀ w∈K,0<=w/\w<=59
theorem Et.le(h:Et K):K.length<=60:=YT 60 h.d λw a=>by have:=h.b w a;omega
theorem Et.kl(h:Et K){a:Wi}(f:a.mx):Et (a.kl K):=by
 cases a with
 |Ed w=>exact⟨CY h.d w,λv c=>(CJ.mp c).elim (h.b v) λe=>e ▸ f⟩
 |_=>exact h
section
variable{ha:Bool}{ws:Wi}(hw:ws.mx){g0 g1:Int}{K0 K1:List Int}(h0:Et K0)(h1:Et K1){m s:Sn}{T:Int}(hm:m.Ok T)(hs:s.Ok T)(hn:s.n=m.n+1){G0 G1:D}{L:List D}(hg0:cl G0=true)(hg1:cl G1=true)(hl:fg L=true)(hLk:L.length<=100)
include hw h0 h1 hm hs hn hg0 hg1 hl
theorem PU{G:D}(d:cl G=true){Q a:Kv}(c:List Str)(hLk:L.length<=100):Tk ha ⟨g0,K0,Ni 0 m s G0 L,Q⟩ ⟨g1,K1,mi 1 m s G L,a⟩ [(0,bp m s)] c ⟨g0,K0,Da 0 s (Wf 1 s.D) (L++[.int m.n]),Q⟩ (if ha then ⟨g1,K1,mi 1 m s G L,a⟩else ⟨g1,K1,Da 1 s G (L++[.int m.n]),a⟩) (c++[("accept" : Str)]++[("struck" : Str)]):=by
 refine .go (x1:=⟨g0,K0,Da 0 s (Wf 1 s.D) (L++[.int m.n]),Q⟩) (.inl rfl) (E7 m s) (.inr (by decide)) (fH λb J=>Q3 h0.le hm hs hg0 hl hLk (by rw[jD,Oy];split<;>omega)) (by simp) ?_;cases ha with
 |true=>exact .st (.inr rfl) (pQ m.n) rfl (.nil ..)
 |false=>exact .go (as:=[]) (.inr rfl) (pQ m.n) (.inl rfl) (UC λb J=>ž h1.le hm hs d hl hLk (by rw[wD,Oy];split<;>omega)) (Sg _) (.nil ..)
end
section
variable{ha:Bool}{ws:Wi}(hw:ws.mx){g0 g1:Int}{K0 K1:List Int}(h0:Et K0)(h1:Et K1){m s:Sn}{T:Int}(hm:m.Ok T)(hs:s.Ok T)(hn:s.n=m.n+1){G0 G1:D}{L:List D}(hg0:cl G0=true)(hg1:cl G1=true)(hl:fg L=true)(hLk:L.length<=100){Q:Kv}(hQ:QO Q)
include hw h0 h1 hm hs hn hg0 hg1 hl hQ
theorem ú(h:¬ W (ws.kl K1) (Da 1 m G1 L)<=W (ws.kl K1) (mi 1 m s (Wf 0 s.D) L)):Tk ha ⟨g0,K0,Ni 0 m s G0 L,[]⟩ ⟨g1,K1,Da 1 m G1 L,Q⟩ ((ws.wd++[Lg s]).map λl=>(1,l)) [] ⟨g0,K0,Ni 0 m s G0 L,[]⟩ ⟨g1,ws.kl K1,Da 1 m G1 L,Q⟩ (ws.wk++[("offer" : Str)]):=by
 obtain⟨a,_,t⟩:=vV (h1.kl hw).le hm hs hn hg1 hl hQ;simp only[ka h]at t;exact yO hw h1.le (.go (.inr rfl) (oN s) (.inr (by decide)) (UC t) (Sg _) (.nil ..))
theorem Ζ(hLk:L.length<=100)(h:W (ws.kl K1) (Da 1 m G1 L)<=W (ws.kl K1) (mi 1 m s (Wf 0 s.D) L)):∃ a,QO a/\Tk ha ⟨g0,K0,Ni 0 m s G0 L,[]⟩ ⟨g1,K1,Da 1 m G1 L,Q⟩ ((ws.wd++[Lg s]).map λl=>(1,l)) [] ⟨g0,K0,Da 0 s (Wf 1 s.D) (L++[.int m.n]),[]⟩ (if ha then ⟨g1,ws.kl K1,mi 1 m s (Wf 0 s.D) L,a⟩else ⟨g1,ws.kl K1,Da 1 s (Wf 0 s.D) (L++[.int m.n]),a⟩) (ws.wk++[("offer" : Str)]++[("accept" : Str)]++[("struck" : Str)]):=by
 obtain⟨a,q,t⟩:=vV (h1.kl hw).le hm hs hn hg1 hl hQ;simp only[ia h]at t;exact⟨a,q,yO hw h1.le (.go (as:=[bp m s]) (.inr rfl) (oN s) (.inr (by decide)) (UC t) (by simp) (PU hw h0 (h1.kl hw) hm hs hn hg0 hg1 hl (Ct (Aj s)) _ hLk))⟩
omit hQ
theorem j6{d:Int}(h:¬ W (ws.kl K0) (Da 0 m G0 L)<=W (ws.kl K0) (Ni 0 m s G0 L)):Tk ha ⟨g0,K0,Da 0 m G0 L,[]⟩ ⟨g1,K1,Da 1 m G1 L,QV d s⟩ ((ws.wd++[Dn s]).map λl=>(0,l)) [] ⟨g0,ws.kl K0,Da 0 m G0 L,[]⟩ ⟨g1,K1,Da 1 m G1 L,QV d s⟩ (ws.wk++[("ask" : Str)]):=by
 have t:=λa J=>XN (σ0:=a) (g:=g0) (Q:=[]) (F:=false) (J:=J) (h0.kl hw).le hm hs hn hg0 hl;simp only[ka h]at t;exact vO hw h0.le (.go (as:=[]) (.inl rfl) (eO s) (.inr (by decide)) (fH t) (Sg _) (.nil ..))
theorem χ{d:Int}(hLk:L.length<=100)(h:W (ws.kl K0) (Da 0 m G0 L)<=W (ws.kl K0) (Ni 0 m s G0 L))(b:W K1 (Da 1 m G1 L) - d<=W K1 (mi 1 m s (Wf 0 s.D) L)):Tk ha ⟨g0,K0,Da 0 m G0 L,[]⟩ ⟨g1,K1,Da 1 m G1 L,QV d s⟩ ((ws.wd++[Dn s]).map λl=>(0,l)) [] ⟨g0,ws.kl K0,Da 0 s (Wf 1 s.D) (L++[.int m.n]),[]⟩ (if ha then ⟨g1+d,K1,mi 1 m s (Wf 0 s.D) L,[]⟩else ⟨g1+d,K1,Da 1 s (Wf 0 s.D) (L++[.int m.n]),[]⟩) (ws.wk++[("ask" : Str)]++[("offer" : Str)]++[("accept" : Str)]++[("struck" : Str)]):=by
 have t:=λa J=>XN (σ0:=a) (g:=g0) (Q:=[]) (F:=false) (J:=J) (h0.kl hw).le hm hs hn hg0 hl;simp only[ia h]at t;refine vO hw h0.le (.go (x1:=⟨g0,ws.kl K0,Ni 0 m s G0 L,[]⟩) (.inl rfl) (eO s) (.inr (by decide)) (fH t) (by simp) ?_);refine .go (y1:=⟨g1+d,K1,mi 1 m s (Wf 0 s.D) L,[]⟩) (.inr rfl) (oN s) (.inr (by decide)) (UC λa J=>hV h1.le hm hs hn hg1 hl b) (by simp) ?_;exact PU hw (h0.kl hw) h1 hm hs hn hg0 hg1 hl (Ct (Aj s)) _ hLk
end
theorem pw(a:Ta):ux (.int 10) (.int 12) a=.ok (.int 1000000000000) a:=pG (by simp[Yz])
theorem M4(xs:List D)(a:Ta):Gf (.Ka xs) (.Ka []) a=.ok (.bl xs.isEmpty) a:=by
 cases xs with
 |nil=>exact WS (by simp[pl])
 |cons x xs=>exact YC (by simp[li,L4.kd,Io,Al])
section
variable{q:Int}(hq:q=0\/q=1){m:Sn}{T:Int}(hm:m.Ok T)
include hq hm
theorem NZ(C:Int)(a:Ta):∃ b:Wi,b.Ok/\b.k ≠ "pass"/\b.mx/\Cg [m.D,.int q,.int C] a=.ok b.D a:=by
 have j:=s1 m;have r:=s2 m;have g:=FU hq m;have p:=pw;have o:=M4 (m.ts.map Ti.D);have K:∀ a,Fj [.Ka (m.ts.map Ti.D)] a=.ok (.int (m.ts.length:Int)) a:=λa=>by
  have:=YM (σ:=a) (m.ts.map Ti.D);simpa using this
 have l:∀ a,Zt (.int (C / 64)) (.int (max 1 (ow q m))) a=.ok (.int (C / 64 % max 1 (ow q m))) a:=λa=>sV _ _ (by omega);have n:∀ a,DE [.int 1,.int (ow q m)] a=.ok (.int (max 1 (ow q m))) a:=λa=>Ex ..;obtain⟨d,f⟩:∃ d,∀ a,Iz [.int (1+C / 64 % max 1 (ow q m)),.int 1000000000000] a=.ok (.int d) a:=⟨_,λa=>Lw ..⟩
 have O:C / 2 % 4=0\/C / 2 % 4=1\/C / 2 % 4=2\/C / 2 % 4=3:=by omega
 have M:("give" : Str) ≠ "pass":=by decide
 have R:("pay" : Str) ≠ "pass":=by decide
 have S:("settle" : Str) ≠ "pass":=by decide
 have T:("drop" : Str) ≠ "pass":=by decide
 have A:(("settle" : Str) == ("give" : Str))=false:=by decide
 have B:(("settle" : Str) == ("pay" : Str))=false:=by decide
 have E:(("drop" : Str) == ("give" : Str))=false:=by decide
 have F:(("drop" : Str) == ("pay" : Str))=false:=by decide
 have G:(("pay" : Str) == ("give" : Str))=false:=by decide
 obtain⟨k,J,c⟩:∃ k:Str,(k = "give"\/k = "pay"\/k = "settle"\/k = "drop")/\∀ a,Oa (.la [.str "give",.str "pay",.str "settle",.str "drop"]) (.int (C / 2 % 4)) a=.ok (.str k) a:=by
  rcases O with h|h|h|h<;>rw[h]
  ·exact⟨"give",by simp,λa=>lM ..⟩
  ·exact⟨"pay",by simp,λa=>AT ..⟩
  ·exact⟨"settle",by simp,λa=>N6 ..⟩
  ·exact⟨"drop",by simp,λa=>O9 ..⟩
 have z:∀ b,b=Wi.Bl true d (C / 8 % 60) (C / 480 % 40)->b.Ok/\b.k ≠ "pass"/\b.mx:=λb e=>by
  subst e;exact⟨⟨by omega,by omega,by omega⟩,R,trivial⟩
 have Bl:m.ts≠[]->∃ w,(0<=w/\w<=59)/\∃ X:D,(∀ a,Zt (.int (C / 8)) (.int (m.ts.length:Int)) a=.ok (.int (C / 8 % (m.ts.length:Int))) a)/\(∀ a,Oa (.Ka (m.ts.map Ti.D)) (.int (C / 8 % (m.ts.length:Int))) a=.ok X a)/\∀ a,Oa X (.int 2) a=.ok (.int w) a:=λs=>by
  have U:0<m.ts.length:=List.length_pos_iff.mpr s;have A:0<=C / 8 % (m.ts.length:Int):=Int.emod_nonneg _ (by omega);have B:C / 8 % (m.ts.length:Int)<m.ts.length:=Int.emod_lt_of_pos _ (by omega);obtain⟨i,N⟩:∃ i:Nat,C / 8 % (m.ts.length:Int)=i:=⟨(C / 8 % (m.ts.length:Int)).toNat,by omega⟩
  have u:i<m.ts.length:=by omega
  refine⟨m.ts[i].w,(hm.st.t m.ts[i] (fj u)).w,m.ts[i].D,λa=>sV _ _ (by omega),λa=>?_,RC m.ts[i]⟩;rw[N];exact TB (Tr (by rw[jb,Ub u];rfl))
 have Q:(m.ts.map Ti.D).isEmpty=m.ts.isEmpty:=by cases m.ts<;>rfl
 rw[Q]at o;unfold Cg ZN rW pO oX GR yV bX;by_cases s:m.ts=[]
 ·rw[show m.ts.isEmpty=true by rw[s];rfl]at o;obtain⟨v,x,y⟩:=z _ rfl;rcases J with rfl|rfl|rfl|rfl
  ·exact⟨.Ui d,trivial,M,trivial,by simp[j,g,n,l,f,c,-Ex,-Lw,Wi.D]⟩
  ·exact⟨_,v,x,y,by simp[j,g,p,n,l,f,c,-Ex,-Lw,G,Wi.D]⟩
  ·exact⟨_,v,x,y,by simp[j,r,g,p,n,l,f,c,-Ex,-Lw,A,B,o,Wi.D]⟩
  ·exact⟨_,v,x,y,by simp[j,r,g,p,n,l,f,c,-Ex,-Lw,E,F,o,Wi.D]⟩
 ·rw[show m.ts.isEmpty=false by cases h:m.ts with
   |nil=>exact absurd h s
   |cons t V=>rfl]at o
  obtain⟨v,x,y⟩:=z _ rfl;obtain⟨w,P,X,L,H,I⟩:=Bl s;rcases J with rfl|rfl|rfl|rfl
  ·exact⟨.Ui d,trivial,M,trivial,by simp[j,r,g,p,n,l,f,c,-Ex,-Lw,Wi.D]⟩
  ·exact⟨_,v,x,y,by simp[j,r,g,p,n,l,f,c,-Ex,-Lw,G,Wi.D]⟩
  ·exact⟨.Ed w,trivial,S,P,by simp[j,r,g,p,n,l,f,c,-Ex,-Lw,A,B,o,K,L,H,I,Wi.D]⟩
  ·exact⟨.drop w,trivial,T,trivial,by simp[j,r,g,p,n,l,f,c,-Ex,-Lw,E,F,o,K,L,H,I,Wi.D]⟩
end
theorem ET:∀ {d:List Ti} {u t:Ti},(d.map Ti.w).Nodup->u∈d->t∈d->u.w=t.w->u=t
 |[],_,_,_,h,_,_=>by cases h
 |b::d,u,t,hd,g,f,e=>by
  rw[Ra,ge]at hd;rcases Ea.mp g with rfl|c
  ·rcases Ea.mp f with rfl|a
   ·rfl
   ·exact absurd (by rw[e];exact Tc a) hd.1
  ·rcases Ea.mp f with rfl|a
   ·exact absurd (by rw[<-e];exact Tc c) hd.1
   ·exact ET hd.2 c a e
theorem neT{a:List Ti}(f:(a.map Ti.w).Nodup)(i:u∈a)(g:t∈a)(c:Ta):ph u.D t.D c=.ok (.bl (decide (u.w≠t.w))) c:=by
 by_cases h:u.w=t.w
 ·have e:=ET f i g h;rw[e,br (gR 7 t)];simp
 ·have d:(u.w == t.w)=false:=by simp[h]
  have:=my (b:=false) (by rw[eqT u t c 7,d];simp);rw[this];simp[h]
section
variable{q:Int}(hq:q=0\/q=1){m:Sn}{T:Int}(hm:m.Ok T)
include hq hm
theorem ZP{w:Int}{t:Ti}(h:Ks w m.ts=some t)(WD:D)(o:∀ σ,Oa WD (.int 2) σ=.ok (.int w) σ)(N:D)(σ:Ta):nE [some m.D,some (.int q),some WD,some N,some (.ref σ.length),some (.Ka (m.ts.map Ti.D)),none] (σ++[.la [.int m.a,.int m.b]])=.ok (.nx [some m.D,some (.int q),some WD,some N,some (.ref σ.length),some (.Ka ((rm t.w m.ts).map Ti.D)),some t.D]) (σ++[.la [.int (sa q t.a m.a),.int (sb q t.a m.b)]]):=by
 obtain⟨v,z⟩:=eA h;have l1:=dz (src:=gi (ba 5)) (ρ:=[some m.D,some (.int q),some WD,some N,some (.ref σ.length),some (.Ka (m.ts.map Ti.D)),none]) (σ:=σ++[.la [.int m.a,.int m.b]]) (s:=.seq (m.ts.map Ti.D)) (ix:=[2]) (xs:=m.ts) (fi:=eT (Ba Gf (Ba Oa (ba 0) (eC (.int 2))) (Ba Oa (ba 2) (eC (.int 2))))) (fe:=ba 0) Ti.D Ti.D (λu=>decide (u.w=w)) (by simp) (λi _=>cc some (Ht m.ts _ i)) (by have:=hm.st.l;omega) (λu _ j=>by
  have u2:=RC u;refine⟨?_,λ_=>by simp⟩;by_cases f:u.w=w
  ·simp[u2,o,f]
  ·have y:(u.w == w)=false:=by simp[f]
   simp[u2,o,f]) (λu _ _=>VA u)
 have g:(m.ts.filter λu=>decide (u.w=w)).head?=some t:=by rw[List.head?_filter];exact h
 obtain⟨c,k⟩:∃ c,(m.ts.filter λu=>decide (u.w=w))=t::c:=by
  cases e:m.ts.filter λu=>decide (u.w=w)with
  |nil=>rw[e]at g;cases g
  |cons a c=>rw[e]at g;cases g;exact⟨c,rfl⟩
 rw[k,Ra]at l1;have p:∀ σ,Oa (.la (t.D::c.map Ti.D)) (.int 0) σ=.ok t.D σ:=λσ=>lM ..;have l2:=dz (src:=gi (ba 5)) (ρ:=[some m.D,some (.int q),some WD,some N,some (.ref σ.length),some (.Ka (m.ts.map Ti.D)),some t.D]) (σ:=σ++[.la [.int (sa q t.a m.a),.int (sb q t.a m.b)]]) (s:=.seq (m.ts.map Ti.D)) (ix:=[6]) (xs:=m.ts) (fi:=eT (Ba ph (ba 0) (ba 2))) (fe:=ba 0) Ti.D Ti.D (λu=>decide (u.w≠t.w)) (by simp) (λi _=>cc some (Ht m.ts _ i)) (by have:=hm.st.l;omega) (λu f j=>by
  have x:=neT hm.st.d f v;exact⟨by simp[x],λ_=>by simp⟩) (λu _ _=>VA u)
 have r:(m.ts.filter λu=>decide (u.w≠t.w))=rm t.w m.ts:=rfl;rw[r]at l2;have n:=DS t;rcases hq with rfl|rfl
 ·unfold sa sb at *;simp only[xg]at *;simp[l1,p,n,l2,-wq]
 ·unfold sa sb at *;simp only[show ((1:Int)=0)=False from by simp,yi]at *;simp[l1,p,n,l2,-wq]
end
section
variable{q:Int}(hq:q=0\/q=1){K:List Int}{m:Sn}{T:Int}(hm:m.Ok T)
include hq hm
theorem zka{f:Wi}(N:f.k ≠ "pass"){s:Sn}(c:f.st q K m=some s)(σ:Ta):oe [m.D,.int q,f.D] σ=.ok s.D σ:=by
 have C:(("settle" : Str) == ("give" : Str))=false:=by decide
 have E:(("settle" : Str) == ("pay" : Str))=false:=by decide
 have F:(("drop" : Str) == ("give" : Str))=false:=by decide
 have G:(("drop" : Str) == ("pay" : Str))=false:=by decide
 have H:(("pay" : Str) == ("give" : Str))=false:=by decide
 have g:=iA f;have as:∀ (x1 v:Option D) σ,sH [some m.D,x1,v,none,none,none,none] σ=.ok (.nx [some m.D,x1,v,some (.int m.n),some (.Ka [.int m.a,.int m.b]),some (.Ka (m.ts.map Ti.D)),none]) σ:=λx1 v σ=>by
  unfold Sn.D Bm;generalize m.ts.map Ti.D=TT at *;simp
 have L:=Aj s;have P:∀ xs,Cz [.ref σ.length] (σ++[.la xs])=.ok (.Ka xs) (σ++[.la xs]):=λxs=>by simp[Cz,fK]
 have fz:Uh σ (.ok s.D (σ++[.la [.int s.a,.int s.b]]))=.ok s.D σ:=kK L;have e:s.D=.Ka [.int (m.n+1),.Ka [.int s.a,.int s.b],.Ka (s.ts.map Ti.D)]->(Cb sH (Cb ZC (Cb uy AE))) [some m.D,some (.int q),some f.D,none,none,none,none] σ=.ok (.rt s.D) (σ++[.la [.int s.a,.int s.b]])->oe [m.D,.int q,f.D] σ=.ok s.D σ:=λ_ h=>by
  unfold oe UN;generalize (Cb sH (Cb ZC (Cb uy AE)))=S,m.D=j,s.D=T,f.D=o at *;simp[h,fz]
 have r:∀ X,AE [some m.D,some (.int q),some f.D,some (.int m.n),some (.ref σ.length),some (.Ka (s.ts.map Ti.D)),X] (σ++[.la [.int s.a,.int s.b]])=.ok (.rt (.Ka [.int (m.n+1),.Ka [.int s.a,.int s.b],.Ka (s.ts.map Ti.D)])) (σ++[.la [.int s.a,.int s.b]]):=λX=>by
  unfold AE;generalize m.D=j,f.D=o,s.ts.map Ti.D=TT at *;simp[P]
 have M:∀ X Y,ZC [some m.D,some (.int q),some f.D,some (.int m.n),some (.Ka [.int m.a,.int m.b]),X,Y] σ=.ok (.nx [some m.D,some (.int q),some f.D,some (.int m.n),some (.ref σ.length),X,Y]) (σ++[.la [.int m.a,.int m.b]]):=λX Y=>by
  have O:Yq [.Ka [.int m.a,.int m.b]] σ=.ok (.ref σ.length) (σ++[.la [.int m.a,.int m.b]]):=rfl;unfold ZC;generalize m.D=j,f.D=o at *;simp[O]
 have go:s.D=.Ka [.int (m.n+1),.Ka [.int s.a,.int s.b],.Ka (s.ts.map Ti.D)]->∀ X,uy [some m.D,some (.int q),some f.D,some (.int m.n),some (.ref σ.length),some (.Ka (m.ts.map Ti.D)),none] (σ++[.la [.int m.a,.int m.b]])=.ok (.nx [some m.D,some (.int q),some f.D,some (.int m.n),some (.ref σ.length),some (.Ka (s.ts.map Ti.D)),X]) (σ++[.la [.int s.a,.int s.b]])->oe [m.D,.int q,f.D] σ=.ok s.D σ:=λx X h=>by
  refine e x ?_;rw[Ki,as,gf,Ji,Ki,M,gf,Ji,Ki,h,gf,Ji,r,<-x]
 cases f with
 |Ui d=>
  unfold Wi.st at c;dsimp only at c;split at c
  ·cases c;refine go rfl none ?_;have i:∀ σ,Oa (Wi.Ui d).D (.int 2) σ=.ok (.int d) σ:=λσ=>by unfold Wi.D;simp
   unfold Wi.k at g;unfold uy nG So;generalize m.D=j,(Wi.Ui d).D=o,m.ts.map Ti.D=TT at *;rcases hq with rfl|rfl<;>simp[g,i,sa,sb,bw]
  ·cases c
 |Bl p d w y=>
  cases p with
  |false=>exact absurd rfl N
  |true=>
   unfold Wi.st at c;dsimp only at c;split at c
   ·cases c;refine go rfl none ?_;have i:∀ σ,Oa (Wi.Bl true d w y).D (.int 2) σ=.ok (.int d) σ:=λσ=>by unfold Wi.D;simp
    have Q:∀ σ,fw (Wi.Bl true d w y).D (some 2) none σ=.ok (.Ka [.int d,.int w,.int y]) σ:=λσ=>by unfold Wi.D;rw[qC];rfl
    have B:∀ σ,Nh (.Ka [.int q]) (.Ka [.int d,.int w,.int y]) σ=.ok (⟨q,d,w,y⟩:Ti).D σ:=λσ=>by rw[bJ (by unfold ai;simp)];rfl
    have R:∀ σ,Nh (.Ka (m.ts.map Ti.D)) (.Ka [(⟨q,d,w,y⟩:Ti).D]) σ=.ok (.Ka ((oj m ⟨q,d,w,y⟩).ts.map Ti.D)) σ:=λσ=>by
     rw[bJ (by have:=hm.st.l;unfold ai;simp;omega),show (oj m ⟨q,d,w,y⟩).ts=m.ts++[⟨q,d,w,y⟩]from rfl,Ic];rfl
    have I:(oj m ⟨q,d,w,y⟩).a=sa q (-d) m.a:=rfl;have J:(oj m ⟨q,d,w,y⟩).b=sb q (-d) m.b:=rfl;rw[I,J];unfold Wi.k at g;unfold uy nP;generalize m.D=j,(Wi.Bl true d w y).D=o,(oj m ⟨q,d,w,y⟩).ts.map Ti.D=U,m.ts.map Ti.D=TT,(⟨q,d,w,y⟩:Ti).D=V at *;rcases hq with rfl|rfl<;>simp[g,i,H,Q,B,R,sa,sb,bw]
   ·cases c
 |Ed w=>
  unfold Wi.st at c;dsimp only at c;split at c
  ·next t h=>
   split at c
   ·cases c;refine go rfl (some t.D) ?_;have i:∀ σ,Oa (Wi.Ed w).D (.int 2) σ=.ok (.int w) σ:=λσ=>by unfold Wi.D;simp
    have u:=ZP hq hm h (Wi.Ed w).D i (.int m.n) σ;unfold Wi.k at g;unfold uy wh;generalize m.D=j,(Wi.Ed w).D=o,m.ts.map Ti.D=TT,(rm t.w m.ts).map Ti.D=A,nE=z at *;simp[g,C,E,u]
   ·cases c
  ·cases c
 |drop w=>
  unfold Wi.st at c;dsimp only at c;split at c
  ·next t h=>
   split at c
   ·cases c;refine go rfl (some t.D) ?_;have i:∀ σ,Oa (Wi.drop w).D (.int 2) σ=.ok (.int w) σ:=λσ=>by unfold Wi.D;simp
    have u:=ZP hq hm h (Wi.drop w).D i (.int m.n) σ;unfold Wi.k at g;unfold uy wh;generalize m.D=j,(Wi.drop w).D=o,m.ts.map Ti.D=TT,(rm t.w m.ts).map Ti.D=A,nE=z at *;simp[g,F,G,u]
   ·cases c
  ·cases c
end
def gp:Wi->Bool
 | .Ui _=>true
 | .Bl p _ _ _=>p
 |_=>false
theorem ys1(a:Wi)(σ:Ta):To false (.str a.k) (.Ka [.str "give",.str "pay"]) σ=.ok (.bl (gp a)) σ:=by
 cases a with
 |Bl p d w y=>cases p<;>(congr 2)
 |_=>congr 2
theorem F9(h:gp a=true)(σ:Ta):Oa a.D (.int 2) σ=.ok (.int a.al) σ:=by
 cases a with
 |Ui d=>unfold Wi.D Wi.al;simp
 |Bl p d w y=>cases p with
  |true=>unfold Wi.D Wi.al;simp
  |false=>cases h
 |_=>cases h
theorem í(h:gp a=false):a.al=0:=by
 cases a with
 |Ui d=>cases h
 |Bl p d w y=>cases p with
  |true=>cases h
  |false=>rfl
 |_=>rfl
theorem Λ{xs:List D}(h:bi a n=some xs)(c:∀ x∈xs,pl 7 x=true):ph (.ref n) (.la xs) a=.ok (.bl false) a:=my (b:=true) (by
 show Io (li a 7) (L4.kd a (.ref n)) (.l xs)=_;simp only[L4.kd,h];exact gH λx d=>bD 7 x (c x d))
def Nu(q:Int)(a:Wi):List Str:=a.wk++((if q=1 then [("ask" : Str)]else [])++[("offer" : Str), "accept","struck"])
section
variable{B:Ta}{x y:Hn}(hx:x.Ok)(hy:y.Ok){J:Ta}{q:Int}(hq:q=0\/q=1){s:Sn}{G0 G1:D}{L:List D}(hxa:x.a=Da 0 s G0 L)(hya:y.a=Da 1 s G1 L){ws:Wi}{i:Nat}{one:D}{a b:Int}
abbrev cE(B:Ta)(one:D)(s:Sn)(q:Int)(ws:Wi)(i:Nat)(a b:Int)(d e f c:Option D):Ev:=[some (LL B.length),some one,some s.D,some (.int q),some ws.D,some (.ref (B.length+14+i)),some (.la [.int a,.int b]),d,e,f,c]
include hx hy hq
theorem O2(E:∀ w,ws=.Ed w->w∈(if q=0 then y.K else x.K)):(Cb (Cb bA Sz) rC) (cE B one s q ws i a b none none none none) (PS B x y J)=.ok (.nx (cE B one s q ws i a b (some (.la ((Nu q ws).map D.str))) none none none)) (PS B x y J):=by
 have e:=iA ws;have F:=dH (q:=1 - q) (by omega) B.length;have j:∀ (u:D) (c:List D),c.length<=5->∀ σ,Nh (.la [u]) (.la c) σ=.ok (.la (u::c)) σ:=λu c h σ=>uC (xs:=[u]) (ys:=c) (by unfold ai;simp;omega);have n:=j (.str "ask") [.str "offer",.str "accept",.str "struck"] (by simp);have l:Cu (rq B.length (1 - q)) (if q=0 then y else x) (PS B x y J):=by
  rcases hq with rfl|rfl
  ·exact xy ..
  ·exact Xx ..
 have ho:(if q=0 then y else x).Ok:=by rcases hq with rfl|rfl<;>assumption
 have G:=λz=>jw l (m:="words") 1 Xc z (λ_=>rfl);have I:=ZZ l ho;have r:(("give" : Str) == ("settle" : Str))=false:=by decide
 have L:(("pay" : Str) == ("settle" : Str))=false:=by decide
 have M:(("pass" : Str) == ("settle" : Str))=false:=by decide
 have t:(("drop" : Str) == ("settle" : Str))=false:=by decide
 have f:∃ c:List D,c.length<=5/\c=(((if q=1 then [("ask" : Str)]else [])++[("offer" : Str), "accept","struck"]).map D.str)/\(Cb bA Sz) (cE B one s q ws i a b none none none none) (PS B x y J)=.ok (.nx (cE B one s q ws i a b (some (.la c)) none none none)) (PS B x y J):=by
  rcases hq with rfl|rfl
  ·exact⟨[.str "offer",.str "accept",.str "struck"],by simp,rfl,by simp⟩
  ·exact⟨[.str "ask",.str "offer",.str "accept",.str "struck"],by simp,rfl,by simp[n]⟩
 obtain⟨c,C,v,f⟩:=f;have o:=j (.str "word") c C;rw[Ki,f,gf,Ji];unfold Nu;rw[Ic,<-v];cases ws with
 |Ed w=>
  have A:=E w rfl;have H:∀ σ,Oa (Wi.Ed w).D (.int 2) σ=.ok (.int w) σ:=λσ=>by unfold Wi.D;simp
  have g:∀ σ,To true (.int w) (.la ((ks (if q=0 then y else x).K).map D.int)) σ=.ok (.bl false) σ:=λσ=>by
   rw[υ (ws:=ks (if q=0 then y else x).K) rfl];have:(ks (if q=0 then y else x).K).any (·== w)=true:=jg.mpr ⟨w,MK.mpr (by rcases hq with rfl|rfl<;>exact A),by simp⟩;rw[this];rfl
  unfold Wi.k at e;unfold Wi.wk;simp[e,H,o,F,G,I,g]
 |Bl p d w y=>
  unfold Wi.k at e;unfold Wi.wk;cases p<;>simp[e]
 |Ui d=>unfold Wi.k at e;unfold Wi.wk;simp[e,r]
 |drop d=>unfold Wi.k at e;unfold Wi.wk;simp[e,t]
end
section
variable{B:Ta}{x y:Hn}(hx:x.Ok)(hy:y.Ok){J:Ta}{q:Int}(hq:q=0\/q=1){s:Sn}{G0 G1:D}{L:List D}(hxa:x.a=Da 0 s G0 L)(hya:y.a=Da 1 s G1 L){ws:Wi}{i:Nat}{one:D}{a b:Int}
include hx hy hq hxa hya
theorem Õ(hw:∀ w,ws=.Ed w->w∈(if q=0 then y.K else x.K))(hL:L=Fg s.n.toNat)(hn:0<=s.n/\s.n<=99)(ht:J[i]?=some (.la ((Nu q ws).map D.str)))(W:x.g=a+(if q=0 then ws.al else 0))(X:y.g=b+(if q=1 then ws.al else 0)):Qf [LL B.length,one,s.D,.int q,ws.D,.ref (B.length+14+i),.la [.int a,.int b]] (PS B x y J)=.ok (.bl true) (PS B x y J):=by
 have f:=O2 (B:=B) (J:=J) (s:=s) (i:=i) (one:=one) (a:=a) (b:=b) hx hy hq hw;have st:=IT hx hy J (B:=B);have sx:vw x.a=.Ka [s.D,.la [s.D],.str "calm"]:=by rw[hxa];rfl
 have sy:vw y.a=.Ka [s.D,.la [s.D],.str "calm"]:=by rw[hya];rfl
 rw[sx,sy]at st;have n1:=Λ (Gy (B:=B) (x:=x) (y:=y) ht) λd E=>by obtain⟨k,_,rfl⟩:=gb.mp E;simp[pl]
 have n2:∀ σ,ph (.la [.Ka [s.D,.la [s.D],.str "calm"],.Ka [s.D,.la [s.D],.str "calm"]]) (.la [.Ka [s.D,.la [s.D],.str "calm"],.Ka [s.D,.la [s.D],.str "calm"]]) σ=.ok (.bl false) σ:=λσ=>br (by
  have Q:=nD 2 s;have p6:=nD 3 s;simp only[pl,Ye,kC]at Q p6 ⊢;simp[Q,p6])
 have R:=iA ws;have A:=ys1 ws;have s5:∀ c,iE (cE B one s q ws i a b c none none none) (PS B x y J)=.ok (.nx (cE B one s q ws i a b c (some (.int ws.al)) none none)) (PS B x y J):=λc=>by
  unfold cE iE;cases r:gp ws with
  |true=>
   have Z:=F9 r;rw[r]at A;generalize PS B x y J=Y,LL B.length=P,s.D=t,ws.D=WD at *;simp[R,A,Z]
  |false=>
   rw[r]at A;rw[í r];generalize PS B x y J=Y,LL B.length=P,s.D=t,ws.D=WD at *;simp[R,A]
 have j0:=s0 s;have lr:∀ σ,OA (.int s.n) σ=.ok (.la (Fg s.n.toNat)) σ:=λσ=>L0 _ (by omega) (by omega) σ;have pr:∀ d∈Fg s.n.toNat,pl 7 d=true:=λd E=>by obtain⟨k,_,rfl⟩:=gb.mp E;simp[pl]
 have nl:∀ σ,ph (.la (Fg s.n.toNat)) (.la (Fg s.n.toNat)) σ=.ok (.bl false) σ:=λσ=>br (by show List.all _ _=true;exact Vb.mpr pr);have l:∀ (k:Int) (h:Hn) (G:D) (M:Option D) (c:Option D),(k=0\/k=1)->Cu (rq B.length k) h (PS B x y J)->h.Ok->(∃ p,h.a=Da p s G L)->(∀ σ,Oa (.la [.int a,.int b]) (.int k) σ=.ok (.int (if k=0 then a else b)) σ)->h.g=(if k=0 then a else b)+(if q=k then ws.al else 0)->jH (cE B one s q ws i a b c (some (.int ws.al)) (some (.la (Fg s.n.toNat))) (some (.int k))) (PS B x y J)=.ok (.nx (cE B one s q ws i a b c (some (.int ws.al)) (some (.la (Fg s.n.toNat))) (some (.int k)))) (PS B x y J):=λk h G M c hk v O ⟨p,ha⟩ i6 r=>by
  have ix:=dH hk B.length;have m1:=λo=>jw v (m:="account") 2 xb o (λ_=>rfl);have T:=XM v O;have m2:=λo=>jw v (m:="given") 1 Rb o (λ_=>rfl);have gv:=pJ v;have o:=NE O.a (PS B x y J);rw[show h.a.L=Fg s.n.toNat by rw[ha];exact hL]at o;have C:∀ σ,Gf (.int k) (.int q) σ=.ok (.bl (decide (q=k))) σ:=λσ=>by
   by_cases z:q=k
   ·simp[z]
   ·have z2:(k == q)=false:=by simp;omega
    simp[z,z2]
  have i1:∀ σ,SF [.bl (decide (q=k))] σ=.ok (.int (if q=k then 1 else 0)) σ:=λσ=>by
   rw[yc8];by_cases z:q=k<;>simp[z]
  have ml:∀ σ,cG (.int ws.al) (.int (if q=k then 1 else 0)) σ=.ok (.int (if q=k then ws.al else 0)) σ:=λσ=>by
   rw[Ο (by split<;>omega) (by split<;>omega)];by_cases z:q=k<;>simp[z]
  have ng:∀ σ,ph (.int h.g) (.int h.g) σ=.ok (.bl false) σ:=λσ=>br (by simp[pl]);have U:∀ σ,Nh (.int (if k=0 then a else b)) (.int (if q=k then ws.al else 0)) σ=.ok (.int h.g) σ:=λσ=>by rw[r];simp
  unfold cE jH;generalize PS B x y J=Y,LL B.length=P,s.D=t,ws.D=WD,h.a.D=AD,D.la [.int a,.int b]=AB,(if q=k then (1:Int)else 0)=E1,(if q=k then ws.al else 0)=E2,(if k=0 then a else b)=E3,Fg s.n.toNat=S at *;simp[ix,m1,T,m2,gv,o,nl,i6,C,i1,ml,U,ng]
 have F:=λc=>l 0 x G0 none c (.inl rfl) (Xx ..) hx ⟨0,hxa⟩ (λσ=>lM ..) (by simpa using W);have H:=λc=>l 1 y G1 none c (.inr rfl) (xy ..) hy ⟨1,hya⟩ (λσ=>AT ..) (by simpa using X);have s4:HC (cE B one s q ws i a b (some (.la ((Nu q ws).map D.str))) none none none) (PS B x y J)=.ok (.nx (cE B one s q ws i a b (some (.la ((Nu q ws).map D.str))) none none none)) (PS B x y J):=by
  unfold cE HC;generalize PS B x y J=Y,LL B.length=P,s.D=t,ws.D=WD,(Nu q ws).map D.str=DD at *;simp[n1,st,n2]
 have s6:∀ c,HH (cE B one s q ws i a b c (some (.int ws.al)) none none) (PS B x y J)=.ok (.nx (cE B one s q ws i a b c (some (.int ws.al)) (some (.la (Fg s.n.toNat))) none)) (PS B x y J):=λc=>by
  simp[j0,lr]
 have s7:∀ c,oE (cE B one s q ws i a b c (some (.int ws.al)) (some (.la (Fg s.n.toNat))) none) (PS B x y J)=.ok (.nx (cE B one s q ws i a b c (some (.int ws.al)) (some (.la (Fg s.n.toNat))) (some (.int 1)))) (PS B x y J):=λc=>by
  have F:=F c;have H:=H c;unfold oE;generalize PS B x y J=Y,LL B.length=P,s.D=t,ws.D=WD,Fg s.n.toNat=S,jH=CB at *;rw[KG];have sr:∀ ρ,Pu (eC (.int 2)) ρ Y=.ok (.seq [.int 0,.int 1]) Y:=λρ=>by
   rw[MR,KM,gf,iG (by omega) (by omega)];rfl
  rw[sr,Hq,yI,au];simp only[Cc,Dc];rw[F,gf,lq,au];simp only[Cc,Dc];rw[H,gf,lq,fB]
 have u:(Cb bA (Cb Sz (Cb rC (Cb HC (Cb iE (Cb HH (Cb oE AM))))))) (cE B one s q ws i a b none none none none) (PS B x y J)=.ok (.rt (.bl true)) (PS B x y J):=by
  have e:∀ I,(Cb bA (Cb Sz (Cb rC I))) (cE B one s q ws i a b none none none none) (PS B x y J)=I (cE B one s q ws i a b (some (.la ((Nu q ws).map D.str))) none none none) (PS B x y J):=λI=>by
   rw[Ki]at f;cases j:(Cb bA Sz) (cE B one s q ws i a b none none none none) (PS B x y J)with
   |ok V N=>
    rw[j,gf]at f;cases V with
    |nx a0=>rw[TL j,Ki];rw[Ji]at f;rw[f,gf,Ji]
    |_=>cases f
   |ex z N=>rw[j]at f;cases f
   |Pb=>rw[j]at f;cases f
  rw[e,Ki,s4,gf,Ji,Ki,s5,gf,Ji,Ki,s6,gf,Ji,Ki,s7,gf,Ji];rfl
 unfold Qf jO;unfold cE at u;generalize (Cb bA (Cb Sz (Cb rC (Cb HC (Cb iE (Cb HH (Cb oE AM)))))))=AR,PS B x y J=Y,LL B.length=P,s.D=t,ws.D=WD at *;simp[u]
end
theorem wS(K:List Int)(a:Wi)(q:Int)(b:m.Ok T):V K q m<=V (a.kl K) q m:=by
 rcases a.jr with⟨_,_,e⟩|⟨w,_,_,e,_⟩
 ·rw[e];exact eg _
 ·rw[e];exact œ K w q b
theorem MA(n:Nat):fg (Fg n)=true:=Jt λd a=>by obtain⟨k,_,rfl⟩:=gb.mp a;rfl
theorem PB(h:0<=n):Fg n.toNat++[.int n]=Fg (n+1).toNat:=by
 rw[show (n+1).toNat=n.toNat+1 by omega];unfold Fg;rw[List.range_succ,Ic];simp;omega
theorem mQ(n:Nat):(Fg n).length=n:=by unfold Fg;simp
structure Fv(T:Int)(j:Nat)(m:Sn)(x y:Hn):Prop where
 fm:m.Ok T
 fn:m.n<=j
 fx:∃ G g K,x=⟨g,K,Da 0 m G (Fg m.n.toNat),[]⟩/\cl G=true/\Et K
 fy:∃ G g K Q,y=⟨g,K,Da 1 m G (Fg m.n.toNat),Q⟩/\cl G=true/\Et K/\QO Q
structure Uz(ha:Bool)(q:Int)(ws:Wi)(x y:Hn)(done:Bool)(ls:List D)(x' y':Hn)(ts:List Str):Prop where
 w:∃ x1 y1,(∀ B J,Bc [.ref (rq B.length q),ws.D] (PS B x y J)=.ok (.Ka [.bl done,.la ls]) (PS B x1 y1 J))/\Tk ha x1 y1 (ls.map λl=>(1 - q,l)) [] x' y' ts
 l:ls.length<=9
 n:ts.length<=8
 okx:x'.Ok
 oky:y'.Ok
 sx:W x.K x.a+x.g<=W x'.K x'.a+x'.g
 sy:W y.K y.a+y.g<=W y'.K y'.a+y'.g
structure Jz(q:Int)(ws:Wi)(T:Int)(j:Nat)(m s:Sn)(x y x' y':Hn)(ts:List Str):Prop where
 st:∃ K,ws.st q K m=some s
 t:ts=Nu q ws
 f:Fv T (j+1) s x' y'
 w:∀ w,ws=.Ed w->w∈(if q=0 then y'.K else x'.K)
 g0:x'.g=x.g+(if q=0 then ws.al else 0)
 g1:y'.g=y.g+(if q=1 then ws.al else 0)
theorem vQ(a:Wi):a.wk.length<=1/\a.wd.length<=1:=by rcases a.jr with⟨b,e,_⟩|⟨_,b,e,_⟩<;>rw[e,b]<;>simp
theorem wU{a:Wi}(e:a=.Ed w):w∈a.kl K:=by subst e;exact CJ.mpr (.inr rfl)
section
variable{ha:Bool}{q T:Int}(hq:q=0\/q=1)(hT:T<=2000000000000){ws:Wi}(hw:ws.Ok)(np:ws.k ≠ "pass")(hwo:ws.mx){j:Nat}(hj:j<=50){m:Sn}{x y:Hn}(F:Fv T j m x y)
include hT hw np hwo hj F
theorem RY:∃ k ls S y' R,Uz A 0 ws x y k ls S y' R/\((k=false/\ls=[]/\R=[]/\S=x/\y'=y)\/(k=true/\(A=true\/(∃ s,Jz 0 ws T j m s x y S y' R)\/(R=ws.wk++[("offer" : Str)]/\S.a.c=6)))):=by
 obtain⟨d,hn,⟨M,t,i,rfl,b,C⟩,⟨O,l,h,Q,rfl,u,L,hQ⟩⟩:=F;have o:=MA m.n.toNat;have Z:=d.st.n;have U:(Fg m.n.toNat).length<=100:=by rw[mQ];omega
 have v:m.n<=99:=by omega
 obtain⟨kl,dl⟩:=vQ ws;have E:∀ {g K a Q},Et K->Ac.Ok a->(a.c=5\/a.c=6\/a.c=7)->Hn.Ok ⟨g,K,a,Q⟩:=λhK A hc=>⟨hK.le,A,hc⟩
 cases r:ws.st 0 i m with
 |none=>
  exact⟨false,[],_,_,[],⟨⟨⟨t,i,Da 0 m M (Fg m.n.toNat),[]⟩,⟨l,h,Da 1 m O (Fg m.n.toNat),Q⟩,λB J=>vS (.inl rfl) d hT v b o hw r,.nil ..⟩,by simp,by simp,E C (yk (.inl rfl) d b o) (.inl rfl),E L (yk (.inr rfl) d u o) (.inl rfl),eg _,eg _⟩,.inl ⟨rfl,rfl,rfl,rfl,rfl⟩⟩
 |some s=>
  obtain⟨z,q⟩:=mK (.inl rfl) d hT v hw r;have N:=iW (.inl rfl) d hT v b o hw np r;have wi:∀ B J,Bc [.ref (rq B.length 0),ws.D] (PS B ⟨t,i,Da 0 m M (Fg m.n.toNat),[]⟩ ⟨l,h,Da 1 m O (Fg m.n.toNat),Q⟩ J)=.ok (.Ka [.bl true,.la (ws.wd++[Lg s])]) (PS B ⟨t+ws.al,i,Ni 0 m s M (Fg m.n.toNat),[]⟩ ⟨l,h,Da 1 m O (Fg m.n.toNat),Q⟩ J):=λB J=>
   DP (.inl rfl) d hT v b o hw r (xdp d z q b o C.le N)
  have N:W i (Ni 0 m s M (Fg m.n.toNat)) ≥ W i (Da 0 m M (Fg m.n.toNat)) - ws.al:=N;rw[jD,Oy]at N;have vk:=wS h ws 1 d;have Y:(ws.wd++[Lg s]).length<=9:=by simp;omega
  have I:fg (Fg m.n.toNat++[.int m.n])=true:=by rw[PB Z.1];exact MA _
  have f:∀ p,cl (Wf p s.D)=true:=λp=>Ct (Aj s);by_cases H:W (ws.kl h) (Da 1 m O (Fg m.n.toNat))<=W (ws.kl h) (mi 1 m s (Wf 0 s.D) (Fg m.n.toNat))
  ·obtain⟨Q',X,P⟩:=Ζ (ha:=A) hwo C L d z q b u o hQ U H;have G:=H;rw[wD,Oy]at G;have s0:V i 0 m+t<=V i 0 s+(t+ws.al):=by split at N<;>omega
   cases A with
   |false=>
    refine⟨true,_,_,_,_,⟨⟨_,_,wi,P⟩,Y,by simp;omega,E C (yk (.inl rfl) z (f 1) I) (.inl rfl),E (L.kl hwo) (yk (.inr rfl) z (f 0) I) (.inl rfl),s0,?_⟩,.inr ⟨rfl,.inr (.inl ⟨s,⟨i,r⟩,?_,?_,λw e=>wU e,by simp,by simp⟩)⟩⟩
    ·show V h 1 m+l<=V (ws.kl h) 1 s+l;split at G<;>omega
    ·unfold Nu;simp
    ·exact⟨z,by omega,⟨_,_,_,by rw[q,<-PB Z.1],f 1,C⟩,⟨_,_,_,_,by rw[q,<-PB Z.1];rfl,f 0,L.kl hwo,X⟩⟩
   |true=>
    refine⟨true,_,_,_,_,⟨⟨_,_,wi,P⟩,Y,by simp;omega,E C (yk (.inl rfl) z (f 1) I) (.inl rfl),E (L.kl hwo) (xw (.inr rfl) d z (f 0) o) (.inr (.inr rfl)),s0,?_⟩,.inr ⟨rfl,.inl rfl⟩⟩;show V h 1 m+l<=W (ws.kl h) (mi 1 m s (Wf 0 s.D) (Fg m.n.toNat))+l;rw[wD];split at G<;>omega
  ·have P:=ú (ha:=A) (g0:=t+ws.al) (g1:=l) hwo C L d z q b u o hQ H;refine⟨true,_,_,_,_,⟨⟨_,_,wi,P⟩,Y,by simp;omega,E C (Qz (.inl rfl) d z b o) (.inr (.inl rfl)),E (L.kl hwo) (yk (.inr rfl) d u o) (.inl rfl),?_,?_⟩,.inr ⟨rfl,.inr (.inr ⟨rfl,rfl⟩)⟩⟩
   ·show V i 0 m+t<=W i (Ni 0 m s M (Fg m.n.toNat))+(t+ws.al);rw[jD];split at N<;>omega
   ·show V h 1 m+l<=V (ws.kl h) 1 m+l;omega
end
theorem WO(h:∀ b J,Bc [.ref b.length,X] (SA b y.g y.K y.a y.Q false J)=.ok d (SA b c.g c.K c.a c.Q false J)):∀ B J,Bc [.ref (rq B.length 1),X] (PS B x y J)=.ok d (PS B x c J):=λB J=>by
 have e:(B++kO B.length x).length=B.length+7:=by rw[Ia];rfl
 rw[NB,NB,show rq B.length 1=(B++kO B.length x).length from e.symm];exact h _ J
section
variable{ha:Bool}{T:Int}(hT:T<=2000000000000){ws:Wi}(hw:ws.Ok)(np:ws.k ≠ "pass")(hwo:ws.mx){j:Nat}(hj:j<=50){m:Sn}{x y:Hn}(F:Fv T j m x y)
include hT hw np hwo hj F
theorem ģ:∃ r ls x' X ts,Uz H 1 ws x y r ls x' X ts/\((r=false/\ls=[]/\ts=[]/\x'=x/\X=y)\/(r=true/\(H=true\/(∃ s,Jz 1 ws T j m s x y x' X ts)\/(ts=ws.wk++[("ask" : Str)]/\X.a.c=5/\Fv T (j+1) m x' X)))):=by
 obtain⟨f,hn,⟨R,t,i,rfl,u,L⟩,⟨Y,o,q,Q,rfl,b,G,hQ⟩⟩:=F;have v:=MA m.n.toNat;have m0:=f.st.n;have a1:(Fg m.n.toNat).length<=100:=by rw[mQ];omega
 have A:m.n<=99:=by omega
 obtain⟨kl,dl⟩:=vQ ws;have M:∀ {g K a Q},Et K->Ac.Ok a->(a.c=5\/a.c=6\/a.c=7)->Hn.Ok ⟨g,K,a,Q⟩:=λhK H hc=>⟨hK.le,H,hc⟩
 cases l:ws.st 1 q m with
 |none=>
  exact⟨false,[],_,_,[],⟨⟨⟨t,i,Da 0 m R (Fg m.n.toNat),[]⟩,⟨o,q,Da 1 m Y (Fg m.n.toNat),Q⟩,WO λP J=>vS (.inr rfl) f hT A b v hw l,.nil ..⟩,by simp,by simp,M L (yk (.inl rfl) f u v) (.inl rfl),M G (yk (.inr rfl) f b v) (.inl rfl),eg _,eg _⟩,.inl ⟨rfl,rfl,rfl,rfl,rfl⟩⟩
 |some s=>
  obtain⟨I,C⟩:=mK (.inr rfl) f hT A hw l;have N:=iW (.inr rfl) f hT A b v hw np l;have U:Q.length<=9/\Jn Q (.inl 0) (vq ws.al s)=QV ws.al s:=by
   rcases hQ with rfl|⟨s',rfl⟩
   ·exact⟨by simp,rfl⟩
   ·exact⟨by simp,rfl⟩
  have wi:∀ B J,Bc [.ref (rq B.length 1),ws.D] (PS B ⟨t,i,Da 0 m R (Fg m.n.toNat),[]⟩ ⟨o,q,Da 1 m Y (Fg m.n.toNat),Q⟩ J)=.ok (.Ka [.bl true,.la (ws.wd++[Dn s])]) (PS B ⟨t,i,Da 0 m R (Fg m.n.toNat),[]⟩ ⟨o,q,Da 1 m Y (Fg m.n.toNat),QV ws.al s⟩ J):=
   WO λP J=>by
    have:=DP (σ0:=P) (g:=o) (F:=false) (J:=J) (.inr rfl) f hT A b v hw l (Ð f I C b v G.le U.1 N);rw[U.2]at this;exact this
  have N:W q (mi 1 m s (Wf 0 s.D) (Fg m.n.toNat)) ≥ W q (Da 1 m Y (Fg m.n.toNat)) - ws.al:=N;have a0:=N;rw[wD,Oy]at N;have vk:=wS i ws 0 f;have ll:(ws.wd++[Dn s]).length<=9:=by simp;omega
  have O:fg (Fg m.n.toNat++[.int m.n])=true:=by rw[PB m0.1];exact MA _
  have k:∀ p,cl (Wf p s.D)=true:=λp=>Ct (Aj s);by_cases E:W (ws.kl i) (Da 0 m R (Fg m.n.toNat))<=W (ws.kl i) (Ni 0 m s R (Fg m.n.toNat))
  ·have Z:=χ (ha:=H) (g0:=t) (g1:=o) hwo L G f I C u b v a1 E a0;have S:=E;rw[jD,Oy]at S;have s0:V i 0 m+t<=V (ws.kl i) 0 s+t:=by split at S<;>omega
   cases H with
   |false=>
    refine⟨true,_,_,_,_,⟨⟨_,_,wi,Z⟩,ll,by simp;omega,M (L.kl hwo) (yk (.inl rfl) I (k 1) O) (.inl rfl),M G (yk (.inr rfl) I (k 0) O) (.inl rfl),s0,?_⟩,.inr ⟨rfl,.inr (.inl ⟨s,⟨q,l⟩,?_,?_,λw e=>wU e,by simp,by simp⟩)⟩⟩
    ·show V q 1 m+o<=V q 1 s+(o+ws.al);split at N<;>omega
    ·unfold Nu;simp
    ·exact⟨I,by omega,⟨_,_,_,by rw[C,<-PB m0.1],k 1,L.kl hwo⟩,⟨_,_,_,_,by rw[C,<-PB m0.1];rfl,k 0,G,.inl rfl⟩⟩
   |true=>
    refine⟨true,_,_,_,_,⟨⟨_,_,wi,Z⟩,ll,by simp;omega,M (L.kl hwo) (yk (.inl rfl) I (k 1) O) (.inl rfl),M G (xw (.inr rfl) f I (k 0) v) (.inr (.inr rfl)),s0,?_⟩,.inr ⟨rfl,.inl rfl⟩⟩;show V q 1 m+o<=W q (mi 1 m s (Wf 0 s.D) (Fg m.n.toNat))+(o+ws.al);rw[wD];split at N<;>omega
  ·have al:=zaF λz=>E (by
    have h:V (ws.kl i) 0 m<=V (ws.kl i) 0 s:=ą (.inr rfl) f hT A hw np l z (ws.kl i);rw[jD,Oy];split<;>omega)
   have Z:=j6 (ha:=H) (g0:=t) (g1:=o) (d:=ws.al) hwo L G f I C u b v E;refine⟨true,_,_,_,_,⟨⟨_,_,wi,Z⟩,ll,by simp;omega,M (L.kl hwo) (yk (.inl rfl) f u v) (.inl rfl),M G (yk (.inr rfl) f b v) (.inl rfl),?_,eg _⟩,.inr ⟨rfl,.inr (.inr ⟨rfl,rfl,f,by omega,⟨_,_,_,rfl,u,L.kl hwo⟩,⟨_,_,_,_,rfl,b,G,.inr ⟨s,by rw[al]⟩⟩⟩)⟩⟩;show V i 0 m+t<=V (ws.kl i) 0 m+t;omega
end
theorem zuq{b:List Str}(h:yj c x=some (b.map D.str)):To a (.str k) x c=.ok (.bl (if a then !(b.any (·== k))else b.any (·== k))) c:=by
 have d:∀ l:List Str,(l.map D.str).all fu=true:=λl=>by simp[fu,sc]
 have e:∀ l:List Str,((l.map D.str).any λz=>Yu z (.str k))=l.any (·== k):=λl=>by simp[Yu,sc,Mj,Ws]
 unfold To;rw[h];simp only[d,e,show fu (.str k)=true from rfl,vA,xg]
abbrev lE(n:List Int)(i l j:D)(b:Nat)(k:Int)(m:Sn)(o p q a c d e f g h:Option D):Ev:=[some (.Fh n),some i,some l,some (.int k),some j,some (LL b),some m.D,o,p,q,a,c,d,e,f,g,h]
def Yt(a:List Int)(k:Nat):Int:=a.getD k 0
theorem oK(a:List Int)(k:Int)(c:0<=k)(b:Ta):Fc [.Fh a,.int k] b=.ok (.int (Yt a k.toNat)) b:=by
 unfold Fc fT Yt;by_cases h:k<a.length
 ·simp[h,TR c h]
 ·have e:a.length<=k.toNat:=by omega
  simp[h,List.getElem?_eq_none e]
section
variable{ns:List Int}{CC WW PP:D}{B:Ta}{k:Int}{m:Sn}{x y:Hn}{J:Ta}
theorem ybe(q:0<=k):∃ p:Bool,∀ (l:Ta) h i j a b c g d e f,UJ (lE ns CC WW PP B.length k m h i j a b c g d e f) l=.ok (.nx (lE ns CC WW PP B.length k m h i j a b c (some (.bl p)) d e f)) l:=by
 have n:=oK ns 4 (by omega);generalize Yt ns (4:Int).toNat=C at *;refine⟨(k == ns.length - 1) && (C % 4 == 1),λl h i j a b c g d e f=>?_⟩;cases o:(k == ns.length - 1)<;>simp[n,o]
theorem RX(a b c d:Int)(n:a<=c)(o:b<=d)(g:F ρ σ=.ok (.la [.int c,.int d]) σ)(k:ba i ρ σ=.ok (.la [.int a,.int b]) σ):eT (Ba oLt (ah (GC Vw) (ra (Bh (pj (Hy F (ba i)) [] (Wo 2 (Bi (je 0) (Bi (je 1) Jp))) ik (Ba cr (ba 0) (ba 1)))) Ja)) (eC (.int 0))) ρ σ=.ok false σ:=by
 have z:Hy F (ba i) ρ σ=.ok (vH (.la [.int c,.int d]) (.la [.int a,.int b])) σ:=by
  have e:rh σ (.la [.int c,.int d])=some [D.int c,D.int d]:=rfl;have f:rh σ (.la [.int a,.int b])=some [D.int a,D.int b]:=rfl;unfold Hy;rw[tp,g,gf];unfold RM;rw[tp,k,gf];unfold aI;simp only[e,f]
 have l:=VU (xs:=[(c,a),(d,b)]) (ix:=[]) (fe:=Ba cr (ba 0) (ba 1)) (λp=>.int p.1) (λp=>.int p.2) (λp=>.int (p.1 - p.2)) z (λi j h=>by
  match i,h with
  |0,_=>rfl
  |1,_=>rfl
  |2,_=>rfl) (by simp) (λp _ j=>by simp) (λp _=>rfl)
 have l:=l;have m:∀ σ,GC Vw [.la [.int (c - a),.int (d - b)]] σ=.ok (.int (min (c - a) (d - b))) σ:=λσ=>by
  show Hl.ok (D.int (Vw [c - a,d - b])) σ=_;unfold Vw;simp
 have lt:decide (min (c - a) (d - b)<0)=false:=Ua (by omega);simp[l,m,lt,-wq]
end
theorem Fv.ok(F:Fv T j m x y):x.Ok/\y.Ok:=by
 obtain⟨c,_,⟨f,k,h,rfl,a,d⟩,⟨g,l,i,Q,rfl,b,e,_⟩⟩:=F;exact⟨⟨d.le,yk (.inl rfl) c a (MA _),.inl rfl⟩,⟨e.le,yk (.inr rfl) c b (MA _),.inl rfl⟩⟩
theorem BN(a:Wi)(k:Str)(h:(("word" : Str) == k)=false):a.wk.any (·== k)=false:=by
 rcases a.jr with⟨_,e,_⟩|⟨_,_,e,_⟩<;>rw[e]
 ·rfl
 ·simp[h]
theorem PX(q:Int)(a:Wi):(Nu q a).any (·== ("struck" : Str))=true:=by
 unfold Nu;rw[Qh,Qh];have:[("offer" : Str), "accept","struck"].any (·== ("struck"))=true:=by decide
 rw[this];simp
section
variable{ns:List Int}{CC WW PP:D}{B:Ta}{k:Int}(hk:0<=k/\k<ns.length){T:Int}(hT:T<=2000000000000){j:Nat}(hj:j<=50){m:Sn}{x y:Hn}(F:Fv T j m x y){J:Ta}
include hk hT hj F
theorem N9(x7 x8 O o p H A u N v:Option D):∃ r b4,PD (lE ns CC WW PP B.length k m x7 x8 O o p H A u N v) (PS B x y J)=.ok r b4/\(r=.rt (.bl true)\/∃ m' f l t y7 y8 y9 b8 b9 c0 c1 c2 c3 c4,Fv T (j+1) m' f l/\r=.nx (lE ns CC WW PP B.length k m' y7 y8 y9 b8 b9 c0 c1 c2 c3 c4)/\b4=PS B f l t):=by
 have b0:∀ σ,Oa (.Fh ns) (.int k) σ=.ok (.int (ns.getD k.toNat 0)) σ:=λσ=>TR hk.1 hk.2;obtain⟨ha,h6⟩:=ybe (ns:=ns) (CC:=CC) (WW:=WW) (PP:=PP) (B:=B) (m:=m) hk.1;generalize ns.getD k.toNat 0=C at *;have hq:C % 2=0\/C % 2=1:=by omega
 obtain⟨I,hw,np,a8,lw⟩:=NZ hq F.fm C (PS B x y J);have s1:eH (lE ns CC WW PP B.length k m x7 x8 O o p H A u N v) (PS B x y J)=.ok (.nx (lE ns CC WW PP B.length k m (some (.int (C % 2))) x8 O o p H A u N v)) (PS B x y J):=by
  unfold lE eH;generalize LL B.length=P,m.D=MD at *;simp[b0]
 generalize C % 2=q at *;obtain⟨b1,b2⟩:=F.ok;have DD:∃ S V f l X,Uz ha q I x y S V f l X/\((S=false/\V=[]/\X=[]/\f=x/\l=y)\/(S=true/\(ha=true\/(∃ s,Jz q I T j m s x y f l X)\/(q=0/\X=I.wk++[("offer" : Str)]/\f.a.c=6)\/(q=1/\X=I.wk++[("ask" : Str)]/\l.a.c=5/\Fv T (j+1) m f l)))):=by
  rcases hq with rfl|rfl
  ·obtain⟨d,V,f,l,X,D,h⟩:=RY (A:=ha) hT hw np a8 hj F;exact⟨d,V,f,l,X,D,h.imp id λh=>⟨h.1,h.2.imp id λz=>z.imp id λz=>.inl ⟨rfl,z⟩⟩⟩
  ·obtain⟨d,V,f,l,X,D,h⟩:=ģ (H:=ha) hT hw np a8 hj F;exact⟨d,V,f,l,X,D,h.imp id λh=>⟨h.1,h.2.imp id λz=>z.imp id λz=>.inr ⟨rfl,z⟩⟩⟩
 obtain⟨S,V,f,l,X,⟨⟨x1,y1,wi,tk⟩,ll,ln,a5,a6,sx,sy⟩,R⟩:=DD;obtain⟨t,ht,ta⟩:=S0 (B:=B) tk ln ll J;have su:=aS (B:=B) b1 b2 J;have gv:=λρ i=>ŋ (B:=B) (ρ:=ρ) (i:=i) b1 b2 J;have b3:=aS (B:=B) a5 a6 t;have a7:=IT (B:=B) a5 a6 t;have lt:=Gy (B:=B) (x:=f) (y:=l) ht;have a9:∀ a4 w,To a4 (.str w) (.ref (B.length+14+J.length)) (PS B f l t)=.ok (.bl (if a4 then !(X.any (·== w))else X.any (·== w))) (PS B f l t):=λa4 w=>zuq lt;have ix:=dH hq B.length;have hh:Cu (rq B.length q) (if q=0 then x else y) (PS B x y J):=by
  rcases hq with rfl|rfl
  ·exact Xx ..
  ·exact xy ..
 have mw:=λfs=>jw hh (m:="wish") 2 Bc fs (λ_=>rfl);have wi:=wi B J;have a0:∀ tl:Ev->M Fl,(Cb eH (Cb yF (Cb QF (Cb BH (Cb BF (Cb UJ (Cb HI (Cb DF (Cb CH tl))))))))) (lE ns CC WW PP B.length k m x7 x8 O o p H A u N v) (PS B x y J)=tl (lE ns CC WW PP B.length k m (some (.int q)) (some I.D) (some (.la [.int (W x.K x.a+x.g),.int (W y.K y.a+y.g)])) (some (.la [.int x.g,.int y.g])) (some (.bl S)) (some (.la V)) (some (.bl ha)) (some (.ref (B.length+14+J.length))) (some (.la [.Ka [m.D,.la [m.D],.str "calm"],.Ka [m.D,.la [m.D],.str "calm"]])) v) (PS B f l t):=λtl=>by
  have s2:yF (lE ns CC WW PP B.length k m (some (.int q)) x8 O o p H A u N v) (PS B x y J)=.ok (.nx (lE ns CC WW PP B.length k m (some (.int q)) (some I.D) O o p H A u N v)) (PS B x y J):=by
   unfold lE yF;generalize LL B.length=P,m.D=MD,I.D=WD,PS B x y J=Y at *;simp[b0,lw]
  have s3:QF (lE ns CC WW PP B.length k m (some (.int q)) (some I.D) O o p H A u N v) (PS B x y J)=.ok (.nx (lE ns CC WW PP B.length k m (some (.int q)) (some I.D) (some (.la [.int (W x.K x.a+x.g),.int (W y.K y.a+y.g)])) o p H A u N v)) (PS B x y J):=by
   unfold lE QF;generalize LL B.length=P,m.D=MD,I.D=WD,PS B x y J=Y at *;simp[su]
  have s4:∀ O,BH (lE ns CC WW PP B.length k m (some (.int q)) (some I.D) O o p H A u N v) (PS B x y J)=.ok (.nx (lE ns CC WW PP B.length k m (some (.int q)) (some I.D) O (some (.la [.int x.g,.int y.g])) p H A u N v)) (PS B x y J):=λO=>by
   have g:=gv (lE ns CC WW PP B.length k m (some (.int q)) (some I.D) O o p H A u N v) 5 rfl;unfold lE at g ⊢;unfold BH;generalize LL B.length=P,m.D=MD,I.D=WD,PS B x y J=Y at *;simp[g,-wq]
  have s5:∀ O o,BF (lE ns CC WW PP B.length k m (some (.int q)) (some I.D) O o p H A u N v) (PS B x y J)=.ok (.nx (lE ns CC WW PP B.length k m (some (.int q)) (some I.D) O o (some (.bl S)) (some (.la V)) A u N v)) (PS B x1 y1 J):=λO o=>by
   unfold lE BF;generalize LL B.length=P,m.D=MD,I.D=WD,PS B x y J=Y,PS B x1 y1 J=Z at *;simp[ix,mw,wi]
  have s7:∀ O o p,HI (lE ns CC WW PP B.length k m (some (.int q)) (some I.D) O o p (some (.la V)) (some (.bl ha)) u N v) (PS B x1 y1 J)=.ok (.nx (lE ns CC WW PP B.length k m (some (.int q)) (some I.D) O o p (some (.la V)) (some (.bl ha)) (some (.ref (B.length+14+J.length))) N v)) (PS B f l t):=λO o p=>by
   unfold lE HI;generalize LL B.length=P,m.D=MD,I.D=WD,PS B x1 y1 J=Y,PS B f l t=Z at *;simp[ta]
  have s8:∀ o p H A u,DF (lE ns CC WW PP B.length k m (some (.int q)) (some I.D) (some (.la [.int (W x.K x.a+x.g),.int (W y.K y.a+y.g)])) o p H A u N v) (PS B f l t)=.ok (.nx (lE ns CC WW PP B.length k m (some (.int q)) (some I.D) (some (.la [.int (W x.K x.a+x.g),.int (W y.K y.a+y.g)])) o p H A u N v)) (PS B f l t):=λo p H A u=>by
   have c:=RX _ _ _ _ sx sy (F:=yd 1 sf [] (ra (ba 5) Ja)) (i:=9) (ρ:=lE ns CC WW PP B.length k m (some (.int q)) (some I.D) (some (.la [.int (W x.K x.a+x.g),.int (W y.K y.a+y.g)])) o p H A u N v) (σ:=PS B f l t) (by
    unfold lE;generalize LL B.length=P,m.D=MD,I.D=WD,PS B f l t=Z at *;simp[b3]) rfl
   unfold DF;rw[D3,c];simp
  have s9:∀ O o p H A u,CH (lE ns CC WW PP B.length k m (some (.int q)) (some I.D) O o p H A u N v) (PS B f l t)=.ok (.nx (lE ns CC WW PP B.length k m (some (.int q)) (some I.D) O o p H A u (some (.la [.Ka [m.D,.la [m.D],.str "calm"],.Ka [m.D,.la [m.D],.str "calm"]])) v)) (PS B f l t):=λO o p H A u=>by
   unfold lE CH;generalize LL B.length=P,m.D=MD,I.D=WD,PS B f l t=Z at *;simp
  rw[Ki,s1,gf,Ji,Ki,s2,gf,Ji,Ki,s3,gf,Ji,Ki,s4,gf,Ji,Ki,s5,gf,Ji,Ki,h6,gf,Ji,Ki,s7,gf,Ji,Ki,s8,gf,Ji,Ki,s9,gf,Ji]
 unfold PD;rw[a0];clear a0 s1 h6 lw su gv b3 ta wi mw sx sy;have a3:Cu (rq B.length q) (if q=0 then f else l) (PS B f l t):=by
  rcases hq with rfl|rfl
  ·exact Xx ..
  ·exact xy ..
 have oh:(if q=0 then f else l).Ok:=by rcases hq with rfl|rfl<;>assumption
 have m1:=λfs=>jw a3 (m:="account") 2 xb fs (λ_=>rfl);have ac:=XM a3 oh;have w:=λρ=>MV a3 oh ρ (PS B f l t);have U:=a9 false "struck";have i2:=a9 true "accept";have nt:=CQ lt;have nc:∀ σ,ph (.str "calm") (.str "calm") σ=.ok (.bl false) σ:=λσ=>br (by simp[pl]);have no:∀ σ,ph (.str "offered") (.str "calm") σ=.ok (.bl true) σ:=λσ=>my (b:=false) (by simp[li,L4.kd,Io,Mj];decide);rcases R with⟨rfl,rfl,rfl,rfl,rfl⟩|⟨rfl,R⟩
 ·have sX:vw f.a=.Ka [m.D,.la [m.D],.str "calm"]:=by obtain⟨G,g,K,e,_⟩:=F.fx;rw[e];rfl
  have sY:vw l.a=.Ka [m.D,.la [m.D],.str "calm"]:=by obtain⟨G,g,K,Q,e,_⟩:=F.fy;rw[e];rfl
  rw[sX,sY]at a7;have n2:∀ σ,ph (.la [.Ka [m.D,.la [m.D],.str "calm"],.Ka [m.D,.la [m.D],.str "calm"]]) (.la [.Ka [m.D,.la [m.D],.str "calm"],.Ka [m.D,.la [m.D],.str "calm"]]) σ=.ok (.bl false) σ:=λσ=>br (by
   have p5:=nD 2 m;have p6:=nD 3 m;simp only[pl,Ye,kC]at p5 p6 ⊢;simp[p5,p6])
  have n0:∀ σ,ph (.la []) (.la []) σ=.ok (.bl false) σ:=λσ=>br (by simp[pl]);have hc:(if q=0 then f else l).a.c=5:=by
   obtain⟨G,g,K,e,_⟩:=F.fx;obtain⟨G',g',K',Q',e',_⟩:=F.fy;rcases hq with rfl|rfl
   ·show f.a.c=5;rw[e];rfl
   ·show l.a.c=5;rw[e'];rfl
  rw[hc,show cwd 5 = "calm" from rfl]at w;have U:To false (.str "struck") (.ref (B.length+14+J.length)) (PS B f l t)=.ok (.bl false) (PS B f l t):=U;have nt:ph (.ref (B.length+14+J.length)) (.la []) (PS B f l t)=.ok (.bl false) (PS B f l t):=nt;cases ha with
  |true=>
   refine⟨.rt (.bl true),PS B f l t,?_,.inl rfl⟩;unfold lE LA DB;generalize LL B.length=P,m.D=MD,I.D=WD,PS B f l t=Z at *;simp[a7,n2,n0,U]
  |false=>
   refine⟨_,PS B f l t,?_,.inr ⟨m,f,l,t,(some (.int q)),(some I.D),(some (.la [.int (W f.K f.a+f.g),.int (W l.K l.a+l.g)])),(some (.la [.int f.g,.int l.g])),(some (.bl false)),(some (.la [])),(some (.bl false)),(some (.ref (B.length+14+J.length))),(some (.la [.Ka [m.D,.la [m.D],.str "calm"],.Ka [m.D,.la [m.D],.str "calm"]])),v,⟨F.fm,by have:=F.fn;omega,F.fx,F.fy⟩,rfl,rfl⟩⟩;unfold lE LA DB aH;generalize LL B.length=P,m.D=MD,I.D=WD,PS B f l t=Z,(if q=0 then f else l).a.D=AD at *;simp[a7,n2,n0,U,ix,m1,ac,w,nc,nt]
 ·cases ha with
  |true=>
   refine⟨.rt (.bl true),PS B f l t,?_,.inl rfl⟩;unfold lE LA DB;simp only[yi,Kg]at U;generalize LL B.length=P,m.D=MD,I.D=WD,PS B f l t=Z,X.any (·== ("struck" : Str))=E at *;cases E<;>simp[U]
  |false=>
   rcases R with z|⟨s,C⟩|⟨rfl,rfl,hc⟩|⟨rfl,rfl,hc,F'⟩
   ·cases z
   ·obtain⟨⟨K,b6⟩,rfl,F',b7,g0,g1⟩:=C;rw[PX]at U;have U:To false (.str "struck") (.ref (B.length+14+J.length)) (PS B f l t)=.ok (.bl true) (PS B f l t):=U;have wd:=zka hq F.fm np b6 (PS B f l t);have cm:Qf [LL B.length,m.D,s.D,.int q,I.D,.ref (B.length+14+J.length),.la [.int x.g,.int y.g]] (PS B f l t)=.ok (.bl true) (PS B f l t):=by
     obtain⟨b5,c7,⟨G0,c5,K0,e0,_,_⟩,⟨G1,c6,K1,Q,e1,_,_,_⟩⟩:=F';exact Õ a5 a6 hq (G0:=G0) (G1:=G1) (L:=Fg s.n.toNat) (by rw[e0]) (by rw[e1]) b7 rfl ⟨b5.st.n.1,by omega⟩ ht g0 g1
    refine⟨_,PS B f l t,?_,.inr ⟨s,f,l,t,(some (.int q)),(some I.D),(some (.la [.int (W x.K x.a+x.g),.int (W y.K y.a+y.g)])),(some (.la [.int x.g,.int y.g])),(some (.bl true)),(some (.la V)),(some (.bl false)),(some (.ref (B.length+14+J.length))),(some (.la [.Ka [m.D,.la [m.D],.str "calm"],.Ka [m.D,.la [m.D],.str "calm"]])),some s.D,F',rfl,rfl⟩⟩;simp[U,wd,cm]
   ·have a1:(I.wk++[("offer" : Str)]).any (·== ("struck" : Str))=false:=by
     rw[Qh,BN I _ (by decide)];decide
    have a2:(I.wk++[("offer" : Str)]).any (·== ("accept" : Str))=false:=by
     rw[Qh,BN I _ (by decide)];decide
    rw[a1]at U;rw[a2]at i2;have U:To false (.str "struck") (.ref (B.length+14+J.length)) (PS B f l t)=.ok (.bl false) (PS B f l t):=U;have i2:To true (.str "accept") (.ref (B.length+14+J.length)) (PS B f l t)=.ok (.bl true) (PS B f l t):=i2;rw[show (if (0:Int)=0 then f else l).a.c=6 from hc,show cwd 6 = "offered" from rfl]at w;refine⟨.rt (.bl true),PS B f l t,?_,.inl rfl⟩;unfold lE LA DB aH;generalize LL B.length=P,m.D=MD,I.D=WD,PS B f l t=Z,(if (0:Int)=0 then f else l).a.D=AD at *;simp[U,i2,ix,m1,ac,w,no]
   ·have a1:(I.wk++[("ask" : Str)]).any (·== ("struck" : Str))=false:=by
     rw[Qh,BN I _ (by decide)];decide
    rw[a1]at U;have U:To false (.str "struck") (.ref (B.length+14+J.length)) (PS B f l t)=.ok (.bl false) (PS B f l t):=U;rw[show (if (1:Int)=0 then f else l).a.c=5 from hc,show cwd 5 = "calm" from rfl]at w;refine⟨_,PS B f l t,?_,.inr ⟨m,f,l,t,(some (.int 1)),(some I.D),(some (.la [.int (W x.K x.a+x.g),.int (W y.K y.a+y.g)])),(some (.la [.int x.g,.int y.g])),(some (.bl true)),(some (.la V)),(some (.bl false)),(some (.ref (B.length+14+J.length))),(some (.la [.Ka [m.D,.la [m.D],.str "calm"],.Ka [m.D,.la [m.D],.str "calm"]])),v,F',rfl,rfl⟩⟩;unfold lE LA DB aH;generalize LL B.length=P,m.D=MD,I.D=WD,PS B f l t=Z,(if (1:Int)=0 then f else l).a.D=AD at *;simp[U,ix,m1,ac,w,nc]
end
section
variable{ns:List Int}{CC WW PP:D}{B:Ta}{T:Int}(hT:T<=2000000000000)
include hT
theorem lV:∀ (p:List Nat) (j:Nat) (m:Sn) (x y:Hn) (J:Ta) (k:Int) (q s t a b c d f g l:Option D),(∀ i∈p,(5:Int)+i<ns.length)->j+p.length<=50->Fv T j m x y->∃ r o,Cm (je 3) PD (p.map λ(i:Nat)=>.int (5+i)) (lE ns CC WW PP B.length k m q s t a b c d f g l) (PS B x y J)=.ok r o/\(r=.rt (.bl true)\/∃ ρ,r=.nx ρ)
 |[],_,_,_,_,_,_,_,_,_,_,_,_,_,_,_,_,_,_,_=>⟨_,_,rfl,.inr ⟨_,rfl⟩⟩
 |i::p,j,m,x,y,J,k,q,s,t,a,b,c,d,f,g,l,G,L,F=>by
  have K:=G i Ha;simp only[Fb]at L;obtain⟨r,o,e,h⟩:=N9 ⟨by omega,K⟩ hT (by omega) F q s t a b c d f g l;rw[Ra,au];have e:PD ((lE ns CC WW PP B.length k m q s t a b c d f g l).set 3 (some (.int (5+i)))) (PS B x y J)=.ok r o:=e;rw[e,gf];rcases h with rfl|⟨N,O,P,I,Q,R,S,u,v,w,z,A,C,E,H,rfl,rfl⟩
  ·exact⟨_,_,BQ ..,.inl rfl⟩
  ·rw[lq];exact lV p (j+1) N O P I _ Q R S u v w z A C E (λn M=>G n (Na _ M)) (by omega) H
end
noncomputable def FM(C:Int):List Nat:=(List.range 60).filter λi=>Yh (C / 2 ^ (i:Int).toNat) 1 == 1
def KK(C:Int):List Int:=(FM C).map λ(i:Nat)=>(i:Int)
theorem QR(C:Int):Et (KK C):=by
 constructor
 ·unfold KK FM;exact List.pairwise_map.mpr (eF (λa e=>a (by omega)) (fF _ List.nodup_range))
 ·intro w b;obtain⟨i,h,rfl⟩:=gb.mp b;have:=Xp.mp (Jf.mp h).1;omega
def Lq(K:List Int):D:=.la (K.map D.int)
def CD(u v:Int):D:=.Ka [.int u,.int v]
theorem GP(c:List Int)(g:0<=k)(a b:Option D)(r:Ev)(σ:Ta):Bh (pj (Fk (Pu (eC (.int 60)))) [0,3] (je 0) (eT (Ba Gf (Ba uG (Ba fE (yd 2 Fc [] (ra (ba 2) (ra (Ba Nh (eC (.int 2)) (ba 3)) Ja))) (ba 0)) (eC (.int 1))) (eC (.int 1)))) (ba 0)) (some (.Fh c)::a::b::some (.int k)::r) σ=.ok (Lq (KK (Yt c (2+k).toNat))) σ:=by
 have f:Pu (eC (.int 60)) (some (.Fh c)::a::b::some (.int k)::r) σ=.ok (.seq ((List.range 60).map λ(i:Nat)=>.int i)) σ:=by
  have:Fz (.int 60) σ=.ok (.seq ((List.range 60).map λ(i:Nat)=>.int i)) σ:=by rw[iG (by omega) (by omega)];rfl
  simp[this]
 have e:=oK c (2+k) (by omega);generalize Yt c (2+k).toNat=d at *;have l:=dz (ix:=[0,3]) (fi:=eT (Ba Gf (Ba uG (Ba fE (yd 2 Fc [] (ra (ba 2) (ra (Ba Nh (eC (.int 2)) (ba 3)) Ja))) (ba 0)) (eC (.int 1))) (eC (.int 1)))) (fe:=ba 0) (λ(i:Nat)=>.int i) (λi=>.int i) (λi=>Yh (d / 2 ^ (i:Int).toNat) 1 == 1) f (λi _=>cc some (Ht (List.range 60) _ i)) (by simp) (λi _ j=>by
  exact⟨by simp[e],λ_=>by simp⟩) (λ_ _ _=>rfl)
 exact l.trans (by unfold Lq KK FM;rw[dc];rfl)
theorem uv(j:List Int)(a0:j.length<=63):∃ σ,Wp [.Fh j] []=.ok (.bl true) σ:=by
 have c:=λ(k:Nat) (σ:Ta)=>oK j k (by omega) σ;have S:∀ σ,Fc [.Fh j,.int 0] σ=.ok (.int (Yt j 0)) σ:=c 0;have T:∀ σ,Fc [.Fh j,.int 1] σ=.ok (.int (Yt j 1)) σ:=c 1;clear c;have w0:=λa b r σ=>GP j (k:=0) (by omega) a b r σ;have w1:=λa b r σ=>GP j (k:=1) (by omega) a b r σ;have H:=QR (Yt j (2+0:Int).toNat);have I:=QR (Yt j (2+1:Int).toNat);generalize KK (Yt j (2+0:Int).toNat)=m,KK (Yt j (2+1:Int).toNat)=n,Yt j 1=P,Yt j 0=O at *;obtain⟨u,Y⟩:∃ u,u=O % 1000000000001:=⟨_,rfl⟩
 obtain⟨v,C⟩:∃ v,v=P % 1000000000001:=⟨_,rfl⟩
 have E:0<=u/\u<=1000000000000:=by omega
 have G:0<=v/\v<=1000000000000:=by omega
 have Z:u+v<=2000000000000:=by omega
 have pa:=pw;have s1:u1 [some (.Fh j),none,none,none,none,none,none,none,none,none,none,none,none,none,none,none,none] []=.ok (.nx [some (.Fh j),some (CD u v),none,none,none,none,none,none,none,none,none,none,none,none,none,none,none]) []:=by unfold u1 CD;rw[Y,C];simp[S,T,pa]
 have s2:(Ue 2 (Xu Ja)) [some (.Fh j),some (CD u v),none,none,none,none,none,none,none,none,none,none,none,none,none,none,none] []=.ok (.nx [some (.Fh j),some (CD u v),some (.ref 0),none,none,none,none,none,none,none,none,none,none,none,none,none,none]) [.la []]:=by
  generalize CD u v=L at *;simp
 have s3:u3 [some (.Fh j),some (CD u v),some (.ref 0),none,none,none,none,none,none,none,none,none,none,none,none,none,none] [.la []]=.ok (.nx [some (.Fh j),some (CD u v),some (.ref 0),some (.int 1),none,none,none,none,none,none,none,none,none,none,none,none,none]) [.la [Lq m,Lq n]]:=by
  have x:∀ (xs:List D) (d:D),xs.length<1000->Mn (.ref 0) [d] [.la xs]=.ok .wc [.la (xs++[d])]:=λxs d h=>UE (σ:=[]) h;have N:∀ (o:D->List D->M D) (t:M (List D)) (xs:List D),Ew o t (.ref 0) [.la xs]=(t [.la xs]).bind (o (.ref 0)):=λo t xs=>Mz (xs:=xs) rfl;have l0:∀ (a b:Option D) (r:Ev) (xs:List D),xs.length<1000->b=some (.ref 0)->QE (some (.Fh j)::a::b::some (.int 0)::r) [.la xs]=.ok (.nx (some (.Fh j)::a::b::some (.int 0)::r)) [.la (xs++[Lq m])]:=λa b r xs h e=>by
   subst e;have w:=w0 a (some (.ref 0)) r [.la xs];have x:=x xs (Lq m) h;unfold QE;generalize Lq m=KD at *;simp[N,w,x,-wq]
  have l1:∀ (a b:Option D) (r:Ev) (xs:List D),xs.length<1000->b=some (.ref 0)->QE (some (.Fh j)::a::b::some (.int 1)::r) [.la xs]=.ok (.nx (some (.Fh j)::a::b::some (.int 1)::r)) [.la (xs++[Lq n])]:=λa b r xs h e=>by
   subst e;have w:=w1 a (some (.ref 0)) r [.la xs];have x:=x xs (Lq n) h;unfold QE;generalize Lq n=KD at *;simp[N,w,x,-wq]
  have K:∀ ρ σ,Pu (eC (.int 2)) ρ σ=.ok (.seq [.int 0,.int 1]) σ:=λρ σ=>by
   rw[MR,KM,gf,iG (by omega) (by omega)];rfl
  unfold u3;rw[KG,K,Hq,yI,au];simp only[Cc,Dc];rw[l0 _ _ _ _ (by simp) rfl,gf,lq,au];simp only[Cc,Dc];rw[l1 _ _ _ _ (by simp) rfl,gf,lq,fB];rfl
 have s4:∀ σ,u4 [some (.Fh j),some (CD u v),some (.ref 0),some (.int 1),none,none,none,none,none,none,none,none,none,none,none,none,none] σ=.ok (.nx [some (.Fh j),some (CD u v),some (.ref 0),some (.int 1),some (.la [Mg u v]),none,none,none,none,none,none,none,none,none,none,none,none]) σ:=λσ=>by
  have i0:∀ σ,Oa (CD u v) (.int 0) σ=.ok (.int u) σ:=λσ=>by unfold CD;simp
  have i1:∀ σ,Oa (CD u v) (.int 1) σ=.ok (.int v) σ:=λσ=>by unfold CD;simp
  have t5:∀ a b c d e:D,∀ σ,Bw [a,b,c,d,e] σ=.ok (.Ka [a,b,c,d,e]) σ:=λ_ _ _ _ _ σ=>rfl;have X:D.Ka [.int 1,.int 2,.int u,.int v,.int 20]=Mg u v:=rfl;unfold u4;generalize CD u v=L,Mg u v=Q at *;simp[i0,i1,t5,X]
 obtain⟨B,z⟩:∃ B:Ta,B=[.la [Lq m,Lq n]]:=⟨_,rfl⟩
 have hb:B.length=1:=by rw[z];rfl
 have s:=wQ (σ0:=B) (q:=0) (.inl rfl) E G H.d H.le (WD:=Lq m) rfl;have p:=wQ (σ0:=B++kO B.length ⟨0,m,Da 0 (cS u v) .wc [],[]⟩) (q:=1) (.inr rfl) E G I.d I.le (WD:=Lq n) rfl;have U:SA B 0 m (Da 0 (cS u v) .wc []) [] false []=B++kO B.length ⟨0,m,Da 0 (cS u v) .wc [],[]⟩:=rfl;rw[U]at s;have A:(B++kO B.length ⟨0,m,Da 0 (cS u v) .wc [],[]⟩).length=B.length+7:=by rw[Ia];rfl
 have V:=NB B ⟨0,m,Da 0 (cS u v) .wc [],[]⟩ ⟨0,n,Da 1 (cS u v) .wc [],[]⟩ [];rw[A]at p;rw[<-V]at p;have x0:Oa (.ref 0) (.int 0) B=.ok (Lq m) B:=by rw[z];rfl
 have x1:Oa (.ref 0) (.int 1) (B++kO B.length ⟨0,m,Da 0 (cS u v) .wc [],[]⟩)=.ok (Lq n) (B++kO B.length ⟨0,m,Da 0 (cS u v) .wc [],[]⟩):=by rw[z];rfl
 have s5:u5 [some (.Fh j),some (CD u v),some (.ref 0),some (.int 1),some (.la [Mg u v]),none,none,none,none,none,none,none,none,none,none,none,none] B=.ok (.nx [some (.Fh j),some (CD u v),some (.ref 0),some (.int 1),some (.la [Mg u v]),some (LL B.length),none,none,none,none,none,none,none,none,none,none,none]) (PS B ⟨0,m,Da 0 (cS u v) .wc [],[]⟩ ⟨0,n,Da 1 (cS u v) .wc [],[]⟩ []):=by
  have R:∀ (t:Ev->M (List D)) (ρ:Ev) (σ:Ta),rz [] t ρ σ=(t ρ σ).bind (λl=>ret (l++[])):=λt ρ σ=>rfl;have rt:∀ (l:List D) (σ:Ta),(ret (l++[]):M (List D)) σ=.ok l σ:=λl σ=>by rw[Ph];rfl
  have s:Lp 9 5 Vo [.int 1,.int 5,.la [Mg u v],Lq m] B=_:=s;have p:Lp 9 5 Vo [.int 2,.int 6,.la [Mg u v],Lq n] _=_:=p;have W:D.la [.ref B.length,.ref (B.length+7)]=LL B.length:=rfl;unfold u5;simp[R,rt,s,p,x0,x1,W]
 have s6:∀ σ,u6 [some (.Fh j),some (CD u v),some (.ref 0),some (.int 1),some (.la [Mg u v]),some (LL B.length),none,none,none,none,none,none,none,none,none,none,none] σ=.ok (.nx (lE j (CD u v) (.ref 0) (.la [Mg u v]) B.length 1 (cS u v) none none none none none none none none none none)) σ:=λσ=>by
  have e:D.Ka [.int 0,CD u v,.Ka []]=(cS u v).D:=rfl;simp[e]
 have F:Fv (u+v) 0 (cS u v) ⟨0,m,Da 0 (cS u v) .wc [],[]⟩ ⟨0,n,Da 1 (cS u v) .wc [],[]⟩:=⟨dM (.inl rfl) E G,by simp[cS],⟨.wc,0,m,rfl,rfl,H⟩,⟨.wc,0,n,[],rfl,rfl,I,.inl rfl⟩⟩
 obtain⟨r,y,lp,hr⟩:=lV (ns:=j) (CC:=CD u v) (WW:=.ref 0) (PP:=.la [Mg u v]) (B:=B) Z (List.range (min (j.length:Int) 13 - 5).toNat) 0 (cS u v) _ _ [] 1 none none none none none none none none none none (λi hi=>by have:=Xp.mp hi;omega) (by simp;omega) F;have s7:u7 (lE j (CD u v) (.ref 0) (.la [Mg u v]) B.length 1 (cS u v) none none none none none none none none none none) (PS B ⟨0,m,Da 0 (cS u v) .wc [],[]⟩ ⟨0,n,Da 1 (cS u v) .wc [],[]⟩ [])=.ok r y:=by
  have K:KF (eC (.int 5)) (ah Iz (ra (ah Fj (ra (ba 0) Ja)) (ra (eC (.int 13)) Ja))) (lE j (CD u v) (.ref 0) (.la [Mg u v]) B.length 1 (cS u v) none none none none none none none none none none) (PS B ⟨0,m,Da 0 (cS u v) .wc [],[]⟩ ⟨0,n,Da 1 (cS u v) .wc [],[]⟩ [])=.ok (.seq ((List.range (min (j.length:Int) 13 - 5).toNat).map λ(i:Nat)=>.int (5+i))) (PS B ⟨0,m,Da 0 (cS u v) .wc [],[]⟩ ⟨0,n,Da 1 (cS u v) .wc [],[]⟩ []):=by
   have r2:∀ σ,TD (.int 5) (.int (min (j.length:Int) 13)) σ=.ok (.seq ((List.range (min (j.length:Int) 13 - 5).toNat).map λ(i:Nat)=>.int (5+i))) σ:=λσ=>by
    unfold TD;dsimp only;rw[ia (by simp only[gw,Rr,Ca,jc];omega)];rfl
   have e:∀ (f g:Ev->M D) ρ σ,KF f g ρ σ=(f ρ σ).bind (PJ (g ρ)):=λf g ρ σ=>tp ..;have A:∀ (J:M D) a σ,PJ J a σ=(J σ).bind (TD a):=λJ a σ=>tp ..;simp[e,A,r2]
  unfold u7;rw[KG,K,Hq,yI,lp]
 have wh:∃ σ,(Cb u1 (Cb (Ue 2 (Xu Ja)) (Cb u3 (Cb u4 (Cb u5 (Cb u6 (Cb u7 (gd (eC (.bl true))))))))))  [some (.Fh j),none,none,none,none,none,none,none,none,none,none,none,none,none,none,none,none] []=.ok (.rt (.bl true)) σ:=by
  refine⟨y,?_⟩;rw[Ki,s1,gf,Ji,Ki,s2,gf,Ji,Ki,s3,gf,Ji,Ki,s4,gf,Ji,<-z,Ki,s5,gf,Ji,Ki,s6,gf,Ji,Ki,s7,gf];rcases hr with rfl|⟨ρ,rfl⟩
  ·rfl
  ·rw[Ji];rfl
 obtain⟨σ,wh⟩:=wh;refine⟨σ,?_⟩;unfold Wp CS;generalize (Cb u1 (Cb (Ue 2 (Xu Ja)) (Cb u3 (Cb u4 (Cb u5 (Cb u6 (Cb u7 (gd (eC (.bl true))))))))))=AR at *;simp[wh]
end K43
end
open PySem PySem.W PyProof.Rows
set_option maxRecDepth 100000 in
set_option maxHeartbeats 0 in
theorem PySem.Challenge.cw_sidebook_k43_two_hands_agree_holds : PySem.Challenge.rw_sidebook_k43_two_hands_agree.Holds := by
 w_on;refine hd ?_
 k_fill
 refine L4.ĥ (l:=PySem.Challenge.rw_sidebook_k43_two_hands_agree) (k:=15) (x:="_law_script") (fn:=K43.Wp) ["least_fate","paper"] rfl rfl ⟨rfl,by decide,by decide⟩ (λw h Y=>km_in_of Y) ?hK ?hrec ?F K43.uv;case hK=>intro w;kernel_rfl
 case hrec=>kernel_rfl
 case F=>
  intro w mg h KX G TT
  refine' (have q0:nsIn (L2.Li KX) mainGlobals "NoStand" = some (some (.ref ?C1)):=?p0;have q3:nsIn (L2.Li KX) mainGlobals "Account" = some (some (.ref ?C4)):=?p3;have q4:nsIn (L2.Li KX) mainGlobals "Calm" = some (some (.ref ?C5)):=?p4;have q5:nsIn (L2.Li KX) mainGlobals "Offered" = some (some (.ref ?C6)):=?p5;have q6:nsIn (L2.Li KX) mainGlobals "Waiting" = some (some (.ref ?C7)):=?p6;have q7:nsIn (L2.Li KX) mainGlobals "View" = some (some (.ref ?C8)):=?p7;have q8:nsIn (L2.Li KX) mainGlobals "Keeper" = some (some (.ref ?C9)):=?p8;have q9:findIn (L2.Li KX) (.ref ?C9) "learn" = some (some (.ref ?C22)):=?p9;have q11:findIn (L2.Li KX) (.ref ?C9) "hold" = some (some (.ref ?C21)):=?p11;have q13:findIn (L2.Li KX) (.ref ?C4) "__init__" = some (some (.ref ?C10)):=?p13;?_);(case p0|p3|p4|p5|p6|p7|p8|p9|p11|p13=>dsimp only[L2.Li];first|k_is|k_exc|rfl)
  refine' (have q15:findIn (L2.Li KX) (.ref ?C9) "__init__" = some (some (.ref ?C20)):=?p15;have q17:findIn (L2.Li KX) (.ref ?C8) "__init__" = some (some (.ref ?C19)):=?p17;have q19:findIn (L2.Li KX) (.ref ?C9) "words" = some (some (.ref ?C23)):=?p19;have q21:findIn (L2.Li KX) (.ref ?C9) "view_by" = some (some (.ref ?C27)):=?p21;have q23:findIn (L2.Li KX) (.ref ?C9) "view" = some (some (.ref ?C28)):=?p23;have q25:findIn (L2.Li KX) (.ref ?C9) "worth" = some (some (.ref ?C29)):=?p25;have q27:findIn (L2.Li KX) (.ref ?C9) "given" = some (some (.ref ?C25)):=?p27;have q29:findIn (L2.Li KX) (.ref ?C9) "holds" = some (some (.ref ?C32)):=?p29;have q31:findIn (L2.Li KX) (.ref ?C5) "word" = some (some (.ref ?C13)):=?p31;have q33:findIn (L2.Li KX) (.ref ?C6) "word" = some (some (.ref ?C15)):=?p33;?_);(case p15|p17|p19|p21|p23|p25|p27|p29|p31|p33=>dsimp only[L2.Li];first|k_is|k_exc|rfl)
  refine' (have q35:findIn (L2.Li KX) (.ref ?C7) "word" = some (some (.ref ?C17)):=?p35;have q37:findIn (L2.Li KX) (.ref ?C4) "agree_of" = some (some (.ref ?C11)):=?p37;have q39:findIn (L2.Li KX) (.ref ?C4) "strike_of" = some (some (.ref ?C12)):=?p39;have q41:findIn (L2.Li KX) (.ref ?C5) "taken" = some (some (.ref ?C14)):=?p41;have q43:findIn (L2.Li KX) (.ref ?C6) "taken" = some (some (.ref ?C16)):=?p43;have q45:findIn (L2.Li KX) (.ref ?C7) "taken" = some (some (.ref ?C18)):=?p45;have q47:findIn (L2.Li KX) (.ref ?C9) "is_good" = some (some (.ref ?C31)):=?p47;have q49:findIn (L2.Li KX) (.ref ?C9) "wish_for" = some (some (.ref ?C34)):=?p49;have q51:findIn (L2.Li KX) (.ref ?C9) "wish" = some (some (.ref ?C33)):=?p51;have q53:findIn (L2.Li KX) (.ref ?C9) "take_ask" = some (some (.ref ?C36)):=?p53;?_);(case p35|p37|p39|p41|p43|p45|p47|p49|p51|p53=>dsimp only[L2.Li];first|k_is|k_exc|rfl)
  refine' (have q55:findIn (L2.Li KX) (.ref ?C9) "is_as_asked" = some (some (.ref ?C37)):=?p55;have q57:findIn (L2.Li KX) (.ref ?C9) "take_step" = some (some (.ref ?C38)):=?p57;have q59:findIn (L2.Li KX) (.ref ?C9) "take" = some (some (.ref ?C35)):=?p59;have q61:findIn (L2.Li KX) (.ref ?C9) "account" = some (some (.ref ?C26)):=?p61;?_);(case p55|p57|p59|p61=>dsimp only[L2.Li];first|k_is|k_exc|rfl);refine⟨λn=>([0,?C1,0,0,?C4,?C5,?C6,?C7,?C8,?C9,?C10,?C11,?C12,?C13,?C14,?C15,?C16,?C17,?C18,?C19,?C20,?C21,?C22,?C23,0,?C25,?C26,?C27,?C28,?C29,0,?C31,?C32,?C33,?C34,?C35,?C36,?C37,?C38]:List Addr).getD n 0,(K43.tx (L2.Li KX)).nq,K43.ywn _,K43.S6 ?_⟩;constructor;all_goals (try dsimp only[L2.Li,List.getD_cons_succ,List.getD_cons_zero]);all_goals (first
   |(refine' L4.lR KX G (λ_ _ _ _ _ _ us hl=>?z) ?a ?l ?c ?k;(case z=>first|exact bq1 us hl λ_=>rfl|exact bq2 us hl λ_ _=>rfl|exact bq3 us hl λ_ _ _=>rfl|exact bq4 us hl λ_ _ _ _=>rfl|exact bq5 us hl λ_ _ _ _ _=>rfl|exact bq6 us hl λ_ _ _ _ _ _=>rfl|exact bq7 us hl λ_ _ _ _ _ _ _=>rfl);(case a|l|c|k=>k_is))
   |(refine' L4.K5 (λ_ _ _ _ _ _ us hl=>?z) ?l ?c ?k;(case z=>first|exact bq1 us hl λ_=>rfl|exact bq2 us hl λ_ _=>rfl|exact bq3 us hl λ_ _ _=>rfl|exact bq4 us hl λ_ _ _ _=>rfl|exact bq5 us hl λ_ _ _ _ _=>rfl|exact bq6 us hl λ_ _ _ _ _ _=>rfl|exact bq7 us hl λ_ _ _ _ _ _ _=>rfl);(case l|c|k=>k_is))
   |(refine' L4.xaq KX G K43.l8 ?a ?l ?c ?k ?d;(case a|l|c|k|d=>k_is))
   |(refine' L4.j8 K43.D4 ?l ?c ?d;(case l|c|d=>k_is))
   |(refine' L4.ŏ KX G ?a ?b;(case a=>k_is);(case b=>kernel_rfl))
   |(refine' L4.i7 KX G ?a;(case a=>k_is))
   |(refine' mg_of KX G ?a;(case a=>k_is))
   |(refine' mg_none_of KX G ?a;(case a=>k_is))
   |(refine' ⟨⟨?a,?b,?c,?d⟩,?e,?f,?g,?h⟩;(case a|b|c|d|e|f|g|h=>k_is))
   |(refine' ⟨?a,?b,?c,?d⟩;(case a|b|c|d=>k_is))
   |(refine' ⟨?a,?b,?c⟩;(case a|b|c=>k_is))
   |(refine' ⟨?a,?b⟩;(case a|b=>k_is))
   |exact λt h t' h' _=>(oi.mp h').trans (oi.mp h).symm
   |(refine' L4.VY KX G (L4.lR KX G (λ_ _ _ _ _ _ us hl=>?z) ?a ?l ?c ?k) TT ?d;(case z=>first|exact bq1 us hl λ_=>rfl|exact bq2 us hl λ_ _=>rfl|exact bq3 us hl λ_ _ _=>rfl|exact bq4 us hl λ_ _ _ _=>rfl|exact bq5 us hl λ_ _ _ _ _=>rfl|exact bq6 us hl λ_ _ _ _ _ _=>rfl|exact bq7 us hl λ_ _ _ _ _ _ _=>rfl);(case a|l|c|k=>k_is);(case d=>decide))
   |(refine' (mg_of KX G ?a).trans (mg_of KX G ?b).symm;(case a|b=>k_is))
   |exact TT
   |exact mg_of KX G TT.bm
   |(refine' L4.J1 ?a;(case a=>kernel_rfl))
   |decide
   |k_is
   |k_exc
   |rfl)
