import PyProof.Rows.All
import OpenK.KLine
import OpenK.KOwn
import KE.KNestM
import KE.KDictOf
import Wide.FinOn
import Lean
import PyProof.EqAt
import PyProof.EqKinds
import PyProof.TupleCall
import PyProof.NeKinds
import PyProof.NsDelKeeps
import KE.KTryMore
import PyProof.WalksMore
import PyProof.Rows.SetFrom
import KE.KEqDict
import PyProof.ToksMono
import PyProof.StrCalls6
import PyProof.StrBlock2
import PyProof.SliceStr2
import PyProof.StrLawsTight
import PyProof.InstStoreFacts
import PyProof.Rows.FStr
import PyProof.FactsAll.set
import KE.KDictLaws
import KE.KIntText
import PyProof.Rows.StrWeight2
import PyProof.StrWalks
import PyProof.StrBlockH
import PyProof.WalksEnum
import PyProof.ZipIter
import PyProof.EnumMake
import PyProof.FitsReplace
import PyProof.StrLawsIn
import PyProof.Rows.SortWalk
import PyProof.DictUpdate
import KE.KDictList
import KE.KDictSum
import KE.KPairComp
import PyProof.FactsAll.dict
import KE.KMinKey
import KE.KLam
import PyProof.DictWalks
import PyProof.DictValues
import PySem.Challenge.RW_sidebook_k54_words_told
set_option Elab.async false
set_option linter.all false
set_option maxRecDepth 100000
namespace PySem.W.Fast
def te13052408679150730464:=Nat
def tw12870718862890066610:=Nat
def tw18024389773316472385:=Nat
def tw1892690694989095666:=Nat
def tw256341635539772221:=Nat
def tw8583114499334966004:=Nat
def tw236085659262978080:=Nat
def tw1212102639824214643:=Nat
def tw861502493610598483:=Nat
def tw8156932348028877967:=Nat
def tw10656201738612077351:=Nat
def tw6872789842757496876:=Nat
def tw18090264274711557029:=Nat
def tw17826623284341320060:=Nat
def tw13591048310350326776:=Nat
def tw5760117238175538160:=Nat
def tw1090689591775485030:=Nat
def tw7774113678449685934:=Nat
def tw8586721762622732767:=Nat
def tw9434776846096072797:=Nat
def tw12744582225734075806:=Nat
def tw12546471409375691253:=Nat
def tw8169806428440432713:=Nat
def tw280917380089993231:=Nat
def tw12382470007097167742:=Nat
def tw10223898402276761379:=Nat
def tw11509211604773734946:=Nat
def tw495091267313879439:=Nat
def tw5320619654261168702:=Nat
def tw2244891987886370477:=Nat
def tw13578020157988156910:=Nat
def tw17105322094737777421:=Nat
def tw14169547596032710409:=Nat
def tw4139333405863992284:=Nat
def tw12361736095285214711:=Nat
def tw13758190518337804936:=Nat
def tw15359611588545569252:=Nat
def tw1486846090086101256:=Nat
def tw9074020239141712578:=Nat
def tw6344153461787385748:=Nat
def tw8057509151949241040:=Nat
def tw8514659027417952518:=Nat
def tw4779319495676466695:=Nat
def tw17949248998541250905:=Nat
def tw7830361148116998868:=Nat
def tw8997383693586321770:=Nat
def tw1799641797098859658:=Nat
def tw5567260261556248313:=Nat
def tw16209886269506037329:=Nat
def tw14151252239970057569:=Nat
def tw9094225154769264635:=Nat
def tw7970753398140278972:=Nat
def tw13730562907999268711:=Nat
def tw13002473133791111888:=Nat
def tw6784737039638806343:=Nat
def tw938635154573522699:=Nat
def tw10483620692585885732:=Nat
def tw5603578324307137323:=Nat
def tw10374632558016547081:=Nat
def tw14671481471946370582:=Nat
def tw6953138203311097117:=Nat
def tw14344478149125931734:=Nat
end PySem.W.Fast
def PySem.W.Fast.twonly:Nat:=0
namespace PySem.W
open PySem PySem.Spec PySem.Calls PyProof.Rows
def gtO (x : Option Obj) : Option Obj := match x with
  | some ⟨_, _, .freed, _⟩ => none
  | o => o
noncomputable def pk (l : List Obj) : Nat → List Addr → List (Option Obj) := @List.rec Obj (fun _ => Nat → List Addr → List (Option Obj)) (fun _ as => as.map fun _ => none) (fun o _ ih i as => @List.rec Addr (fun _ => List (Option Obj)) [] (fun a r _ => @Bool.rec (fun _ => List (Option Obj)) (ih (Nat.succ i) as) (gtO (some o) :: ih (Nat.succ i) r) (Nat.beq a i)) as) l
def rz : Nat → List Addr → Bool
  | _, [] => true
  | i, a :: r => Nat.ble i a && rz (a + 1) r
theorem rz_le : ∀ (as : List Addr) (i : Nat), rz i as = true → ∀ b ∈ as, i ≤ b
  | [], _, _, b, h => by cases h
  | a :: r, i, h, b, hb => by
    unfold rz at h
    rw [Bool.and_eq_true] at h
    have h1 := Nat.le_of_ble_eq_true h.1
    rcases List.mem_cons.mp hb with rfl | hb
    · exact h1
    · have := rz_le r (a + 1) h.2 b hb; omega
theorem rz_up {a i : Nat} {r : List Addr} (h : rz i (a :: r) = true) (n : a ≠ i) : rz (i + 1) (a :: r) = true := by
  unfold rz at *
  rw [Bool.and_eq_true] at *
  have := Nat.le_of_ble_eq_true h.1
  exact ⟨Nat.ble_eq_true_of_le (by omega), h.2⟩
theorem pk_eq : ∀ (l : List Obj) (i : Nat) (as : List Addr), rz i as = true → pk l i as = as.map fun a => gtO l[a - i]?
  | [], i, as, _ => by
    show as.map _ = _
    exact List.map_congr_left fun a _ => by simp [gtO]
  | o :: l, i, [], _ => rfl
  | o :: l, i, a :: r, h => by
    have step : ∀ as : List Addr, rz (i + 1) as = true → (as.map fun a => gtO l[a - (i + 1)]?) = as.map fun a => gtO (o :: l)[a - i]? := fun as h => List.map_congr_left fun b hb => by
      have := rz_le as _ h b hb
      rw [show b - i = (b - (i + 1)) + 1 by omega, List.getElem?_cons_succ]
    show @Bool.rec (fun _ => List (Option Obj)) (pk l (Nat.succ i) (a :: r)) (gtO (some o) :: pk l (Nat.succ i) r) (Nat.beq a i) = _
    cases e : Nat.beq a i with
    | true =>
      obtain rfl := Nat.eq_of_beq_eq_true e
      have h2 : rz (a + 1) r = true := by unfold rz at h; exact (Bool.and_eq_true_iff.mp h).2
      show gtO (some o) :: pk l (a + 1) r = _
      rw [pk_eq l (a + 1) r h2, step r h2, List.map_cons, Nat.sub_self]; rfl
    | false =>
      have h2 := rz_up h (Nat.ne_of_beq_eq_false e)
      show pk l (i + 1) (a :: r) = _
      rw [pk_eq l (i + 1) _ h2, step _ h2]
noncomputable def kmO (as : List Addr) (h : Heap) : List (Option Obj) := @Bool.rec (fun _ => List (Option Obj)) (as.map h.get?) (pk h.objs.toList 0 as) (rz 0 as)
theorem kmO_eq (as : List Addr) (h : Heap) : kmO as h = as.map h.get? := by
  unfold kmO
  cases e : rz 0 as with
  | false => rfl
  | true =>
    show pk h.objs.toList 0 as = _
    rw [pk_eq _ _ _ e]
    exact List.map_congr_left fun a _ => by
      rw [Nat.sub_zero, Array.getElem?_toList]; rfl
noncomputable def kmH2 (K : Params → Frag) (as : List Addr) (e : ∀ P, as = (K P).map (·.1)) (ts : List Addr) : Hook where
  α := List (Option Obj) × List (Option Obj)
  obs := fun s => (kmO as s.heap, ts.map s.heap.get?)
  val := fun w => ((K w.params).map fun p => some p.2, ts.map fun _ => some (tabObj #[]))
  says := fun w h => InK K w h ∧ ∀ P ∈ ts, h.get? P = some (tabObj #[])
  of := fun w s x => (kmHook K as e ts).of w s (show (as.map s.heap.get?, ts.map s.heap.get?) = _ by rw [← kmO_eq]; exact x)
  keeps := (kmHook K as e ts).keeps
theorem km2_in {K : Params → Frag} {as : List Addr} {e : ∀ P, as = (K P).map (·.1)} {ts : List Addr} {w : World} {h : Heap} (Y : (kmH2 K as e ts).says w h) : (K w.params).In h := (show InK K w h ∧ ∀ P ∈ ts, h.get? P = some (tabObj #[]) from Y).1
end PySem.W
section
open PySem PySem.W PyProof.Rows
set_option maxHeartbeats 0
local macro_rules | `(tactic| o_head ($f $a $b $c $d)) => `(tactic| o_head ((kmH2 $a $b $c) $d))
open_top hd for PySem.Challenge.rw_sidebook_k54_words_told
end
open Option renaming some->BD,none->V6
open Bool renaming true->Ĳ,false->Ε
local macro_rules|`(⋯)=>`(by first|lia|omega|(simp;done)|decide|simp_all|grind)
set_option genSizeOf false
set_option tactic.hygienic false
set_option bootstrap.genMatcherCode false
set_option compiler.extract_closed false
def ce:=@beq_eq_false_iff_ne
def Wh:=@beq_iff_eq
def JZ:=@beq_self_eq_true
def zb:=@congrArg
def gc:=@decide_eq_false
def rc:=@decide_eq_true
def Xb:=@decide_eq_true_eq
def Oo:=@if_false
def qa:=@if_neg
def ka:=@if_pos
def Jf:=@if_true
def Qo:=@or_false
open Array renaming append_assoc->kt,forIn_toList->jt,getElem?_eq_getElem->Fb,getElem?_eq_none->Qp,getElem?_eq_none_iff->Sm,getElem?_eq_some_iff->Wc,getElem?_extract->Pp,getElem?_push->Vr,getElem?_toList->Yd,length_toList->Pb,toArray_toList->Ii
open Bool renaming and_assoc->Uy,and_eq_true->Ga,and_false->Sy,eq_iff_iff->zf,false_eq_true->Tt,false_ne_true->qb,false_or->zA,not_eq_true->Oh,or_eq_true->Hg
open Classical renaming choose_spec->zaB
open Int renaming lt_of_lt_of_le->ev,zero_add->EF,zero_lt_one->Wy
open List renaming all_cons->vf,all_eq_true->Bb,all_map->DC,any_cons->wf,any_eq_false->Kk,any_eq_true->Qc,any_map->JC,append_assoc->Kc,append_nil->Oe,cons_append->gw,drop_eq_getElem_cons->jf,drop_eq_nil_of_le->xq,ext_getElem?->Of,filterMap_cons->pf,filter_cons->Be,filter_eq_self->Mg,filter_sublist->xt,find?_cons->Gd,find?_eq_none->Vg,find?_some->Im,flatMap_cons->av,foldl_append->bv,foldl_cons->oi,getD_eq_getElem?_getD->zt2,getElem?_append_left->Za,getElem?_append_right->Cc,getElem?_eq_getElem->Vb,getElem?_eq_none->xi,getElem?_eq_none_iff->Qb,getElem?_eq_some_iff->ba,getElem?_map->Pa,getElem?_of_mem->Ur,getElem?_replicate->Op,getElem?_set->pe,getElem?_set_ne->zg,getElem?_set_self->Dc,getElem?_take_of_lt->No,getElem?_toArray->yi,getElem_inj->Zv,getElem_mem->Ph,getElem_of_mem->vt,length_append->Ub,length_cons->gb,length_drop->bw,length_eq_zero_iff->Rp,length_eraseIdx_of_lt->En,length_filter_le->Se,length_map->Ea,length_nil->Qe,length_range->lh,length_take->Ae,lookup_cons->Ib,map_append->gd,map_congr_left->ve,map_cons->Ta,map_map->Va,map_nil->oe,mem_append->kc,mem_append_left->eb,mem_append_right->Ya,mem_cons->za,mem_cons_of_mem->ja,mem_cons_self->la,mem_filter->Pe,mem_filterMap->Uj,mem_flatMap->Rl,mem_map->na,mem_map_of_mem->we,mem_of_find?_eq_some->kf,mem_of_getElem?->wa,mem_range->Pi,mem_singleton->Ia,mem_zipIdx_iff_getElem?->Gm,nil_append->Hm,nodup_append->Yc,nodup_cons->Fd,nodup_nil->An,not_mem_nil->df,of_mem_zip->Dm,pairwise_iff_getElem->oo,range_succ_eq_map->wq,set_append_left->Xr,set_append_right->Re,set_cons_succ->Cb,set_cons_zero->Lb,set_set->Lk,size_toArray->Ua,take_length->Ec
open List.Perm renaming cons_inv->zaE
open List.cons renaming inj->um
open Nat renaming add_assoc->Tj,le_of_ble_eq_true->Ma,le_of_eq->DF,le_of_lt->vd,le_refl->ua,le_succ->re,le_trans->ib,lt_irrefl->Vd,lt_of_le_of_lt->Vu,lt_of_lt_of_le->Ja,lt_succ_of_lt->Kb,lt_succ_self->Jb,lt_trans->br,lt_trichotomy->ew,mod_lt->pP,mul_assoc->Tp,ne_of_gt->Sd,ne_of_lt->Aa,not_lt->iP,one_mul->uJ,one_ne_zero->Vy,sub_self->LF,succ_le_succ->qx,zero_add->KF,zero_le->rh
open Ne renaming symm->Jd
open Option renaming bind_eq_some_iff->Bf,bind_some->sh,getD_none->Rt,isSome_iff_exists->ke,isSome_map->Wj,isSome_some->lj,map_eq_some_iff->La,map_some->Th
open Option.some renaming inj->Nb
open Prod renaming ext->tZ
open Prod.mk renaming inj->Up
open PyProof.Rows renaming AllBare->nh,IntsAre->ph,callWith_builtin1->kJ,callWith_type1->De,iadd_int->jJ,slot_tuple_getitem->pc,Subscript_->vA,args_list_sort->mP,args_tuple_getitem->uA,entry_list_iadd'->JF,entry_list_sort->nJ,entry_proto_collect'->ux,entry_tuple_getitem->Ry,envOfC->ug,firstMet->Kf,firstMet_length_le->CA,firstMet_succ->LZ,firstMet_zero->MZ,get?_update_seq->rJ,list_sort_tree->lP,seqObj->wm,size_push'->BA,slicePart_none->gP,slot_list_sort->kP,sortedHeap_at->KZ,sortedHeap_old->nP,step_dedup->GA,subscriptTail->NZ,subscriptTail_builtinR->Su,tupleItemsOf_->uZ
open PyProof.Rows.F renaming entry_set_update_loop->Wr
open PySem renaming Around->Ra,BindsTo->Xe,Builtin->ai,CmpOp->Vo,Drawn->Uo,ElemsOf->QC,Env->Ag,ExceptHandler->bf,Expr->Oa,FuncData->sf,GenState->Gh,IsPair->xP,IsPart->yk,ItemsOf->Ym,Keyword->ej,Model->Ji,NameKind->Ke,Operator->xk,OsState->iv,PassesOwn->qo,PlainAttrs->vm,Pos->Td,Program->Ca,boot_len->sx,mem_of_lookup->ue,Result->ro,Sem->Wm,SetTable->Xd,Slot->vP,World->Wa,argsOk->pr,assign->dj,assignEach->ge,atKey->mr,attributeBase->Dd,backTo->lc,backToKw->Hh,behindInMarks->ee,behindIsImport->wP,binaryOp->Je,bindC->Ut,bindL->wx,bindSpecialIfBound?->Zy,builtinLookup_eq_fast->fw,callSpecialIfBound?->Yy,callWith->lr,call_list_seq->IZ,call_meets->xA,call_meetsIn->bj,callerA->Xm,cellsFrom->RF,checkBuiltinCall->UF,cmpInfo_Eq->DA,codeAny_builtin->Rc,codeAny_call_builtin->sk,codeAny_handlers_suite->Yu,codeAny_handlers_test->Hj,codeAny_mono->Af,codeAny_of_tree->pJ,compareOp->Gb,concat_meets->Qu,entryFor->yP,entryFor_alias->oP,eqIsQuiet_byValue->yC,eval->Mb,fits_of_scanBound->qg,foldedSetIterable->ye,getItem->Yh,getMethod->Ki,holding->qe,inplaceOp->NF,intBits_le_64->sZ,intKind->Qf,isInstance->IA,isSubtype_type->dr,keywordEach->uf,noFill_tuple_add->mo,noteFrame->uh,oneThing_ref->Zu,pickOrder->yo,plainId_quiet->de,rawInt->yc,reduceHash->EA,relayAll->bn,release->NC,richCompare->zk,seqIndex?->Vt,seqIndex_neg->Ru,seqIndex_of->lx,seq_tuple_add->ot,setFlight->xo,setItem->yq,setNext->mv,sizeLine_eq->kx,sliceBounds->Zh,slot_list_getitem->CC,standAt->oh,starEach->va,storeName->MF,subscripted->Wo,swappedStores->Tl,swapsWith->Ng,swapsWithSole->Sl,sysModules->rf,tryCompare->JA,typeLookup_type->qJ,typeOf->uo,valueAt->Nk,wpAny_Call_Name_kw->Ve,wpAny_Call_method_late->Uu,wpAny_Dict_empty->GF,wpAny_Name->sA,wpAny_askSetting->Lg,wpAny_assign_Name->zC,wpAny_attempt->Ql,wpAny_bind->aa,wpAny_cRoomFor->ir,wpAny_call->aj,wpAny_callSpecial?_slot->Ld,wpAny_call_entry->Jc,wpAny_comprehension_free->yt,wpAny_execs_cons->CF,wpAny_execs_nil->kj,wpAny_field->rk,wpAny_fieldsOf->uk,wpAny_forIn_list->BF,wpAny_handleBy_cons->vl,wpAny_holding->Yb,wpAny_isInstance->ko,wpAny_isSame_ref_other->cj,wpAny_isTrue_Compare1->aw,wpAny_ite_split->Pf,wpAny_items_cons->FF,wpAny_letGo->So,wpAny_load->om,wpAny_loadName_cell->Qy,wpAny_loadName_local->jx,wpAny_loadPart_at->Md,wpAny_mono->dc,wpAny_newFunctionEnv->vk,wpAny_newList->wt,wpAny_newObj_type->ic,wpAny_of_eq->vx,wpAny_passesOwn->Zg,wpAny_pure->da,wpAny_pyIter_enum->FC,wpAny_pyIter_list->Xh,wpAny_pyIter_slot->HC,wpAny_pyIter_tuple->yA,wpAny_pyIter_zip->IF,wpAny_rule->mm,wpAny_runValue->cr,wpAny_seqItems->og,wpAny_sequenceKey->AC,wpAny_setEntries_of->Hf,wpAny_setEpoch_of->IC,wpAny_setField->rg,wpAny_setState_of->ff,wpAny_specialOf->Yg,wpAny_standAt->nt,wpAny_storeSet_of->GC,wpAny_truthy_bool->md,wpAny_tryCatch->Ie,wpAny_typeOf->Zi,wpAny_updateSeq->bh,wp_field_iff->Xu,wp_setField_iff->lJ
open PySem.Around renaming frames_deeper->vq
open PySem.Bind renaming checkArgs->Rf
open PySem.BindsTo renaming of_defaults->Uc
open PySem.Builtin.Frozenset renaming newClass->xx,updateFrom->yx
open PySem.Builtin.List renaming listExtendWith->xJ,listLengthHint->Jj,listSameRef->Qk,listTooLong->Ig,listTouch->wJ
open PySem.Builtin.Range renaming rangeSize->OF
open PySem.Builtin.Slice renaming sliceAdjust->Xj,sliceApplied->TF,slicePartIndex->SF,slicePlaces->vg
open PySem.Builtin.Tuple renaming tupleExact->Ye,tupleHashOf->sg,tupleItemsOf->gg
open PySem.Calls renaming Name_function_global->Qm,callWith_builtin->Sh,call_function_entry->Dn,evalArgs_plain->Hi
open PySem.CmpOp renaming In->sP,NotIn->MC
open PySem.DictEntry renaming refKey->zaF
open PySem.EntryCells renaming newEntry->wo
open PySem.F renaming cmpArgs_eq->qP,cmpEntry_eq->sJ,cmpKind_eq->rP,cmpSplit_eq->tJ,cmp_object->qm,slot_tuple_hash->Nh,args_tuple_add_2->ah,called_set->pd,entry_min_loop->Eh,entry_tuple_add->kh,plainAttrs_dict->se,plainAttrs_list->xf,plain_extend_loop->Fm,plain_list_iadd->Bn,plain_min_loop->Ee,slot_dict_delitem->Em,slot_dict_items->mh,slot_dict_pop->Po,slot_dict_setdefault->wl,slot_dict_update->Rm,slot_list_append->Um,slot_set_iter->Ro,slot_tuple_add->Dh,type_dict_items->Fn,type_list_append->Vm
open PySem.Heap renaming ExtBut->xm,FlyingW->OC,HeldW->Hn,SameBut->Zc,get?_eq_some->Wu,get?_push_of_some->ga,get?_push_size->Da,get?_update_other->Ge,get?_update_self->Mc,lt_size->ya,size_push->Xc
open PySem.Heap.DictOf renaming new->jP
open PySem.Heap.IsSliceOf renaming new->BC
open PySem.Heap.IsTuple renaming push->mJ
open PySem.Heap.SameBut renaming refl->oJ,update->Sb
open PySem.Heap.UpToSlots renaming of_keeps->EC
open PySem.IsL renaming update->zaA
open PySem.Manifest renaming signature?->xg
open PySem.NameKind renaming cell->Gc,free->xb
open PySem.Obj renaming cls_mapFields->xl,data_mapFields->jc,isFreed_of_fields->We,mapFields->Vp,mapSeq->Le,putSet->jv
open PySem.PassesOwn renaming leaving->zaC,looking->zaD
open PySem.Sem renaming wp_bind'->ul,wp_mono->ut
open PySem.SeqAt renaming EqAt->Oc,RcAt->Rg,RcNeAt->Og,in_listAt->dw,in_tupleAt->Tu,notIn_listAt->qt,notIn_tupleAt->Tr
open PySem.SeqAt.EqAt renaming bool_bool->zZ,bool_int->AZ,bool_none->yZ,bool_str->BZ,int_bool->DZ,int_int->EZ,int_none->CZ,int_str->Jo,none_bool->vZ,none_int->wZ,none_str->xZ,same->Vj,str_bool->GZ,str_int->Ko,str_none->FZ,str_str->HZ
open PySem.SeqAt.RcAt renaming tuples->rZ
open PySem.SetTable renaming below->Te,fresh->Wt,grown->Df,has->iw,insertAt->mj
open PySem.SetTable.below renaming go->Zm
open PySem.SetTable.probe renaming go->wg
open PySem.Shared renaming TypeIs->Jn
open PySem.Str renaming ofString->jr
open PySem.Value renaming bool->fg,float->LC,int->Fh,isInt->KC,isInt_shape->Qt,isStrOf->Xy,none->Bc,ref->yb,str->To,type->Uh
open PySem.W.WData renaming int->vJ
open PySem.Walks renaming list->Ij
open PySem.WalksT renaming zip2->AA
open PySem.Within renaming cons->iJ
open PySem.pickOrder renaming go->cn
open Sum.inl renaming inj->Py
open Sum.inr renaming inj->Np
open PySem PyProof.Rows
abbrev ad:=List PySem.Str
abbrev dl:=List PySem.Addr
abbrev gV:=List PySem.Value
abbrev h8:=List Int
abbrev i':=List Nat
abbrev lv:=List (PySem.Addr × PySem.Obj)
noncomputable section
namespace L2
open Spec
abbrev Ic:=Sum Int Str
noncomputable def vB:Ic->Value->Bool
 | .inl k,v=>KC k v
 | .inr x,v=>Xy x v
noncomputable def zV6(w:Wa):Ic->Int
 | .inl k=>hashInt k
 | .inr x=>hashStr w x
theorem Pq:∀ {k:Ic} {v:Value},vB k v=Ĳ->(∃ i t,k=Sum.inl i/\v=Fh i t)\/(∃ x t,k=Sum.inr x/\v=To x t)
 | .inl i,v,h=>by
  obtain⟨t,e⟩:=Qt h;exact .inl ⟨i,t,rfl,e⟩
 | .inr x,v,h=>by
  obtain⟨t,e⟩:=Value.isStrOf_shape (v:=v) h;exact .inr ⟨x,t,rfl,e⟩
def ÿ i t:vB (.inl i) (.int i t)=Ĳ:=by simp[vB,KC]
def T1 x t:vB (.inr x) (.str x t)=Ĳ:=by simp[vB,Xy]
def V8 a b:decide ((Sum.inl a:Ic)=Sum.inl b)=(a == b):=by
 by_cases e:a=b;all_goals simp_all
def Ň a b:decide ((Sum.inr a:Ic)=Sum.inr b)=decide (a=b):=by
 simp_all
def ß a b:decide ((Sum.inl a:Ic)=Sum.inr b)=Ε:=gc (λq=>nomatch q)
def T3 a b:decide ((Sum.inr a:Ic)=Sum.inl b)=Ε:=gc (λq=>nomatch q)
def fj(c:Ca)(w:Wa):PySem.KeyKind c w Ic where
 is:=vB
 hash:=zV6 w
 inj:=λv a b g f=>by
  rcases Pq g with⟨i,t,rfl,rfl⟩|⟨x,t,rfl,rfl⟩
  ·rcases Pq f with⟨j,u,rfl,e⟩|⟨y,u,rfl,e⟩
   ·injection e with e1 _;rw[e1]
   ·exact nomatch e
  ·rcases Pq f with⟨j,u,rfl,e⟩|⟨y,u,rfl,e⟩
   ·exact nomatch e
   ·injection e with e1 _;rw[e1]
 byValue:=λk v h=>by
  rcases Pq h with⟨i,t,rfl,rfl⟩|⟨x,t,rfl,rfl⟩<;>rfl
 pyHash:=λd h=>by
  rcases Pq d with⟨i,t,rfl,rfl⟩|⟨x,t,rfl,rfl⟩
  ·exact wpAny_pyHash_int h
  ·exact wpAny_pyHash_str h
 eqBool:=λl d h=>by
  rcases Pq l with⟨i,t,rfl,rfl⟩|⟨x,t,rfl,rfl⟩
  ·rcases Pq d with⟨j,u,rfl,rfl⟩|⟨y,u,rfl,rfl⟩
   ·rw[V8]at h;exact wpAny_eqBool_int h
   ·rw[ß]at h;exact Jo i t y u _ _ _ _ h
  ·rcases Pq d with⟨j,u,rfl,rfl⟩|⟨y,u,rfl,rfl⟩
   ·rw[T3]at h;exact Ko x t j u _ _ _ _ h
   ·rw[Ň]at h;exact wpAny_eqBool_str h
 «strs»:=λk x t v h=>by
  rcases Pq h with⟨i,u,rfl,e⟩|⟨y,u,rfl,e⟩
  ·exact nomatch e
  ·injection e with e1 _;subst e1;cases v<;>rfl
def ý a w i t:(fj a w).is (.inl i) (.int i t)=Ĳ:=ÿ i t
def f9 a w x t:(fj a w).is (.inr x) (.str x t)=Ĳ:=T1 x t
inductive V where
 |Zb|bl (b:Bool)|int (i:Int)|str (x:Str)|QH (b:Array UInt8)|az (b:UInt64)|ref (a:Addr)|ty (n:String)
 deriving DecidableEq
abbrev n':=List V
def jd:V->Value->Prop
 | .Zb,u=>u=Bc
 | .bl b,u=>u=fg b
 | .int i,u=>∃ t,u=Fh i t
 | .str x,u=>∃ t,u=To x t
 | .QH b,u=>∃ t,u=Value.bytes b t
 | .az b,u=>∃ t,u=LC b t
 | .ref a,u=>u=yb a
 | .ty n,u=>u=Uh n
abbrev ie:n'->gV->Prop:=Paired jd
def ie.length(r:ie xs a):xs.length=a.length:=Paired.length r
theorem ie.get:∀ {xs:n'} {us:gV} {i:Nat} {x:V},ie xs us->xs[i]?=BD x->∃ u,us[i]?=BD u/\jd x u
 |_,_,_,_,.nil,e=>by simp at e
 |_,_,0,_,.cons r _,e=>by simp at e;subst e;exact⟨_,rfl,r⟩
 |_,_,i+1,x,.cons _ t,e=>by
  obtain⟨u,a,b⟩:=ie.get (i:=i) (x:=x) t ⋯
  simp_all
theorem ie.set(r:jd x u):∀ {xs:n'} {us:gV} (i:Nat),ie xs us->ie (xs.set i x) (us.set i u)
 |_,_,_,.nil=>.nil
 |_,_,0,.cons _ t=>.cons r t
 |_,_,i+1,.cons q t=>.cons q (ie.set r i t)
theorem ie.append{xs a:n'}{us ws}(h:ie xs us)(s:ie a ws):ie (xs++a) (us++ws):=by
 induction h with
 |nil=>exact s
 |cons r _ i=>exact .cons r i
theorem ie.take:∀ {xs:n'} {us:gV} (n:Nat),ie xs us->ie (xs.take n) (us.take n)
 |_,_,0,_=>.nil
 |_,_,_+1,.nil=>.nil
 |_,_,n+1,.cons r t=>.cons r (ie.take n t)
theorem ie.drop:∀ {xs:n'} {us:gV} (n:Nat),ie xs us->ie (xs.drop n) (us.drop n)
 |_,_,0,r=>r
 |_,_,_+1,.nil=>.nil
 |_,_,n+1,.cons _ t=>ie.drop n t
def Tn:Option V->Option Value->Prop
 |some v,BD u=>jd v u
 |none,V6=>True
 |_,_=>False
def KV{a:Type}:List (a × V)->List (a × Value)->Prop:=Paired λ(p:a × V) (q:a × Value)=>p.1=q.1/\jd p.2 q.2
def kV:Ic->V
 | .inl i=>.int i
 | .inr x=>.str x
def NK:Nat->Type
 |0=>Ic
 |n+1=>Ic ⊕ List (NK n)
noncomputable instance zX (n:Nat):DecidableEq$ NK n:=λa a=>Classical.propDecidable _
abbrev TK:=List$ NK 4
theorem yK{c a:Type}{R:c->a->Prop}:∀ {xs:List c} {b:List a},Paired R xs b->∀ {j:Nat} {y:a},b[j]?=BD y->∃ x,xs[j]?=BD x/\R x y:=by
 intro _ _ h;induction h with
 |nil=>intro _ _ e;simp at e
 |cons r _ i=>
  intro j y e;cases j with
  |zero=>simp at e;subst e;exact⟨_,rfl,r⟩
  |succ j=>obtain⟨x,h⟩:=i (j:=j) (by simpa using e);exact⟨x,by simpa using h⟩
theorem fP{c d:Type}{F G:c->d->Prop}(f:∀ a b,F a b->G a b):∀ {l:List c} {m:List d},Paired F l m->Paired G l m:=by
 intro _ _ h;induction h with
 |nil=>exact .nil
 |cons r _ i=>exact .cons (f _ _ r) i
section
variable(P:Ca)(w:Wa)
def Gq(h:Heap):(n:Nat)->NK n->Value->Prop
 |0,k,v=>(fj P w).is k v=Ĳ
 |_+1,.inl k,v=>(fj P w).is k v=Ĳ
 |n+1,.inr ks,v=>∃ a b,v=.ref a/\IsTup h a b/\Paired (Gq h n) ks b.toList
def oF:(n:Nat)->NK n->Int
 |0,k=>(fj P w).hash k
 |_+1,.inl k=>(fj P w).hash k
 |n+1,.inr ks=>EA (sg$ ks.map$ oF n)
def bE:(n:Nat)->NK n->Nat
 |0,_=>1
 |_+1,.inl _=>1
 |n+1,.inr ks=>(ks.map$ bE n).sum+1
variable{P w}
theorem HP:∀ (n:Nat) {A:Ra} {E:Value->Shared->Prop} {s:Shared} {k:NK n} {v:Value} {Q:Int->Shared->Prop},Gq P w s.heap n k v->A.units+n<cLine->Q (oF P w n k) { s with toks:=s.toks+bE n k }->wpAny (model P w) A (pyHash v) Q E s
 |0,_,_,_,_,_,_,e,_,h=>(fj P w).pyHash e h
 |_+1,_,_,_,.inl _,_,_,e,_,h=>(fj P w).pyHash e h
 |n+1,A,E,s,.inr ks,v,Q,e,D,h=>by
  obtain⟨a,C,rfl,⟨o,r,u,m,y⟩,B⟩:=e;have g:s.TypeIs (.ref a) "tuple":=⟨o,r,u⟩
  refine aa$ wpAny_cRoomFor_or (.inr$ by lia)$ aa$ Yg g Nh.lookup$ aa$ Yg g Nh.lookup$ aa$ wpAny_callSpecialIfBoundUnlessNone?_slot g Nh$ Jc Nh g F.entry_tuple_hash ?_$ F.args_tuple_hash_1 _;show wpAny _ _ (gg _ >>= _) _ _ s;refine aa$ wpAny_tupleItemsOf r y$ aa ?_;rw[<-jt];refine BF _
   (λrest (b:Array Int) q=>∃ c left,ks=c++left/\Paired _ left rest/\b.toList=c.map (oF P w n)/\q={ s with toks:=s.toks+(c.map$ bE n).sum })
   _ ?_ ?_ _ _ ⟨[],ks,rfl,B,rfl,rfl⟩
  ·rintro x rest b q ⟨c,left,rfl,l,i,rfl⟩;cases l with
   |@cons p _ d _ t f=>
    refine aa$ HP n t (show A.units+1+n<cLine by lia) ?_;first
     |exact da ⟨c++[p],d,by simp,f,by simp[i],by simp[Tj]⟩
     |exact aa$ da$ da ⟨c++[p],d,by simp,f,by simp[i],by simp[Tj]⟩
  ·rintro b q ⟨c,left,rfl,l,i,rfl⟩;cases l;rw[Oe]at h;show wpAny _ _ (retInt$ sg b.toList) _ _ _;rw[i];refine wpAny_ret_mkInt ?_;have h:Q (EA _) { s with toks:=s.toks+((c.map$ bE n).sum+1) }:=h;generalize sg (c.map$ oF P w n)=z at *;show wpAny _ _ (if (decide (-(2:Int) ^ 63<=z) && decide (z<2 ^ 63))=Ĳ then _ else _) Q E _;unfold EA at h;by_cases j:(decide (-(2:Int) ^ 63<=z) && decide (z<2 ^ 63))=Ĳ
   ·rw[ka j];rw[ka j]at h;exact da (by simpa [Tj]using h)
   ·rw[qa j];rw[qa j]at h;exact aa$ mm$ da (by simpa [Tj]using h)
theorem LV:∀ (n m:Nat) {A:Ra} {E:Value->Shared->Prop} {s:Shared} {k:NK n} {v:Value} {Q:Bool->Shared->Prop},n<=m->Gq P w s.heap n k v->Q Ĳ s->wpAny (model P w) A (eqIsQuiet m v) Q E s
 |0,_,_,_,_,_,_,_,_,b,h=>by rw[yC _$ (fj P w).byValue _ _ b];exact da h
 |_+1,_,_,_,_,.inl _,_,_,_,b,h=>by rw[yC _$ (fj P w).byValue _ _ b];exact da h
 |n+1,0,_,_,_,.inr _,_,_,hm,_,_=>by lia
 |n+1,m+1,A,E,s,.inr ks,v,Q,hm,b,h=>by
  obtain⟨a,d,rfl,⟨o,g,j,q,l⟩,t⟩:=b;have f:s.TypeIs (.ref a) "tuple":=⟨o,g,j⟩
  unfold eqIsQuiet;refine aa$ Yg f F.slot_tuple_eq.lookup ?_;refine aa$ ko f isSubtype_tuple_tuple$ aa$ og g l$ aa ?_;show wpAny _ _ (forIn d _ _) _ _ s;rw[<-jt];refine BF _ (λrest r e=>r.1=V6/\e=s/\∃ ks,Paired (Gq P w s.heap n) ks rest) _ ?_ ?_ _ _ ⟨rfl,rfl,ks,t⟩
  ·rintro v rest r e ⟨u,rfl,x,p⟩;cases p with
   |cons i c=>
    refine aa$ LV n _ ⋯ i ?_;exact da ⟨rfl,rfl,_,c⟩
  ·rintro ⟨y,z⟩ e ⟨rfl,rfl,_⟩;exact da h
def nT(h:(fj P w).is k (.ref a)=Ĳ):False:=by
 have:=(fj P w).byValue _ _ h;trivial
def IsTup.uniq(p:IsTup h a x)(q:IsTup h a y):x=y:=by
 obtain⟨o,b,_,n,c⟩:=p;obtain⟨g,d,_,f,e⟩:=q
 simp_all
theorem UM{h:Heap}:∀ (n:Nat) {x y:NK n} {v:Value},Gq P w h n x v->Gq P w h n y v->x=y
 |0,_,_,_,c,d=>(fj P w).inj _ _ _ c d
 |_+1,.inl _,.inl _,_,c,d=>zb Sum.inl ((fj P w).inj _ _ _ c d)
 |_+1,.inl _,.inr _,_,c,d=>by obtain⟨a,_,rfl,_⟩:=d;exact(nT c).elim
 |_+1,.inr _,.inl _,_,c,d=>by obtain⟨a,_,rfl,_⟩:=c;exact(nT d).elim
 |n+1,.inr xs,.inr f,_,c,d=>by
  obtain⟨a,u,rfl,s,k⟩:=c;obtain⟨b,z,e,t,l⟩:=d;cases e;obtain rfl:=IsTup.uniq s t;have i:∀ {xs f:List _} {g:gV},Paired (Gq P w h n) xs g->Paired (Gq P w h n) f g->xs=f:=by
   intro xs f g p;induction p generalizing f with
   |nil=>intro q;cases q;rfl
   |cons r _ j=>intro q;cases q with|cons m o=>rw[UM n r m,j o]
  exact zb Sum.inr$ i k l
theorem rT{h f:Heap}(g:∀ b o c m,h.get? b=BD o->o.data=.seq c m->f.get? b=BD o):∀ (n:Nat) {k:NK n} {v:Value},Gq P w h n k v->Gq P w f n k v
 |0,_,_,d=>d
 |_+1,.inl _,_,d=>d
 |n+1,.inr _,_,d=>by
  obtain⟨a,c,rfl,⟨o,i,j,m,e⟩,p⟩:=d;exact⟨a,c,rfl,⟨o,g _ _ _ _ i e,j,m,e⟩,fP (λl l r=>rT g n r) p⟩
def W1:∀ n {A} {s} {x y} {u v} b,(b=Ĳ ↔ x=y)->Gq P w s.heap n x u->Gq P w s.heap n y v->A.units+n<cLine->Oc A s u v b:=by
 have k:∀ {A:Ra} {s:Shared} {x y:Ic} {u v:Value} (b:Bool),(b=Ĳ ↔ x=y)->(fj P w).is x u=Ĳ->(fj P w).is y v=Ĳ->Oc A s u v b:=fun {A s x y u v} b d f g=>by
  rcases Pq f with⟨i,t,rfl,rfl⟩|⟨i,t,rfl,rfl⟩<;>rcases Pq g with⟨j,r,rfl,rfl⟩|⟨j,r,rfl,rfl⟩
  ·rw[show b=(i == j) by rw[zf,d];simp];exact .int_int _ _ _ _
  ·rw[show b=Ε by rw[<-Oh,d];simp];exact .int_str _ _ _ _
  ·rw[show b=Ε by rw[<-Oh,d];simp];exact .str_int _ _ _ _
  ·rw[show b=(i == j) by rw[zf,d];simp];exact .str_str _ _ _ _
 intro n;induction n with
 |zero=>intro A s x y u v b d f g _;exact k b d f g
 |succ n T=>
  intro A s x y u v b d f g X
  match x,y,d,f,g with
  | .inl x,.inl y,d,f,g=>exact k b (d.trans ⟨Py,zb _⟩) f g
  | .inl x,.inr F,d,f,g=>
   obtain⟨a,H,rfl,⟨o,l,B,m,C⟩,p⟩:=g;rw[show b=Ε by rw[<-Oh,d];exact λz=>nomatch z];rcases Pq f with⟨i,t,rfl,rfl⟩|⟨i,t,rfl,rfl⟩
   ·exact .int_tuple _ _ ⟨o,l,B,m,C⟩ ⋯
   ·exact .str_tuple _ _ ⟨o,l,B,m,C⟩ ⋯
  | .inr xs,.inl y,d,f,g=>
   obtain⟨a,H,rfl,⟨o,l,B,m,C⟩,p⟩:=f;rw[show b=Ε by rw[<-Oh,d];exact λz=>nomatch z];rcases Pq g with⟨i,t,rfl,rfl⟩|⟨i,t,rfl,rfl⟩
   ·exact .tuple_int _ _ ⟨o,l,B,m,C⟩ ⋯
   ·exact .tuple_str _ _ ⟨o,l,B,m,C⟩ ⋯
  | .inr xs,.inr F,d,f,g=>
   have q:=f;obtain⟨a,D,rfl,J,ό⟩:=f;obtain⟨c,E,rfl,Q,I⟩:=g;by_cases e:a=c
   ·subst e;obtain rfl:=IsTup.uniq J Q;rw[d.mpr$ UM _ q ⟨a,D,rfl,J,I⟩];exact .same _
   ·have l1:xs.length=D.size:=by rw[Paired.length ό,Pb]
    have l2:F.length=E.size:=by rw[Paired.length I,Pb]
    have r:=rZ (A:=A) (e:=λj=>decide$ xs[j]?=F[j]?) (let ⟨o,K,L,m,M⟩:=J;⟨o,K,L,m,M⟩) (let ⟨o,K,L,m,M⟩:=Q;⟨o,K,L,m,M⟩) ⋯ λj G N=>by
     obtain⟨x,ex,ϋ⟩:=yK ό (j:=j) (y:=D[j]) (by simp[G]);obtain⟨y,S,V⟩:=yK I (j:=j) (y:=E[j]) (by simp[N]);exact T _ (by rw[Xb,ex,S];exact⟨Nb,zb _⟩) ϋ V (show A.units+1+n<cLine by lia)
    have R:((List.range$ min D.size E.size).all (λj=>decide$ xs[j]?=F[j]?) && D.size == E.size)=b:=by
     rw[zf,d,Ga,Bb,Wh,<-l1,<-l2];constructor
     ·rintro ⟨G,N⟩;refine zb Sum.inr (Of λj=>?_);by_cases W:j<xs.length
      ·exact of_decide_eq_true$ G j$ Pi.mpr ⋯
      ·rw[xi ⋯,xi ⋯]
     ·intro h;cases (Np h);exact⟨λj O=>by simp,rfl⟩
    rw[R]at r;exact .of_refs e r
def iF(P:Ca)(w:Wa):HeapKind P w TK where
 is:=λh ks a=>Gq P w h 5 (.inr ks)$ .ref a
 hash:=λks=>oF P w 5$ .inr ks
 draws:=λks=>bE 5$ .inr ks
 room:=λA=>A.units+5<cLine
 inj:=λf g=>Np$ UM 5 f g
 keeps:=λx k j l=>rT (λb o n m e i=>(l.2 b$ λz=>by subst z;rw[k]at e;cases e;rw[j]at i;exact nomatch i).trans e) 5 x
 pyHash:=λd c h=>HP 5 c d h
 eqBool:=λd f g h=>W1 5 _ (by rw[Xb];exact⟨zb _,Np⟩) f g d _ _ _ _ h
 quiet:=λc h=>LV 5 8 ⋯ c h
end
inductive HO where
 |ra (xs:n')
 |Qa (xs:n')
 |dK (kvs:List (Ic × V))|dT (kvs:List (TK × V))
 |set (S:Int->Bool) (n:Nat)
 |ub (C dx:Addr) (fs:List (Str × V))
 |own (x:Addr)
 |xd (fs:List (Str × V))
 |met (f x:Addr)
 |wG (lo hi:Int)
 |Ud (o:Obj) (u:HO)
 |Zk (ps:Array Value)
 |ext (φ:Heap->Prop)
abbrev Hp:=Addr->Option HO
def NR(H:Hp):(n:Nat)->NK n->V->Prop
 |0,k,v=>v=kV k
 |_+1,.inl k,v=>v=kV k
 |n+1,.inr ks,v=>∃ a b,v=.ref a/\H a=BD (.Qa b)/\Paired (NR H n) ks b
theorem NR.keeps(d:∀ b xs,H b=BD (.Qa xs)->c b=BD (.Qa xs)):∀ (n:Nat) {k:NK n} {v:V},NR H n k v->NR c n k v
 |0,_,_,h=>h
 |_+1,.inl _,_,h=>h
 |n+1,.inr _,_,h=>by obtain⟨a,f,rfl,e,p⟩:=h;exact⟨a,f,rfl,d _ _ e,fP (λg g r=>NR.keeps d n r) p⟩
noncomputable def Wb(H:Hp)(a:Addr)(o:HO):Hp:=λb=>if b=a then BD o else H b
def Mf:Wb H a o a=BD o:=by unfold Wb;rw[ka rfl]
def Ad(h:b≠a):Wb H a o b=H b:=by unfold Wb;rw[qa h]
def oN{H:Hp}(h:H a=BD o)(c:H b=BD u)(d:o≠u):a≠b:=by
 intro e;subst e;rw[h]at c;exact d$ Nb c
def Pn{H:Hp}(h:H a=BD o)(c:H b=V6):a≠b:=by
 intro e;subst e;rw[h]at c;cases c
section
variable(P:Ca)(w:Wa)
inductive Xx(h:Heap)(a:Addr)(xs:n'):Prop
 |mk (f1:xs.length<=sizeLine) (its:gV) (n:Nat) (f2:ie xs its) (f3:h.get? a=BD { cls:=.type "list",data:=.seq its.toArray n }):Xx h a xs
inductive Jx(h:Heap)(a:Addr)(xs:n'):Prop
 |mk (f1:xs.length<=sizeLine) (its:gV) (f2:ie xs its) (f3:IsTup h a its.toArray):Jx h a xs
inductive Yx(H:Hp)(h:Heap)(a C dx:Addr)(fs:List (Str × V)):Prop
 |mk (f1:H dx=BD (.own a)) (f2:fs.length<=1000) (f3:dx≠a) (f4:h.get? a=BD (W.instObj C dx)) (mA:Str->Option Value) (f5:h.Ns1 dx mA) (f6:(∀ f,Tn (fs.lookup f) (mA f))) (f7:PySem.Within mA (fs.map (·.1))):Yx H h a C dx fs
def Cj(H:Hp)(h:Heap)(a:Addr):HO->Prop
 | .ra xs=>Xx h a xs
 | .Qa xs=>Jx h a xs
 | .dK b=>b.length<=sizeLine/\(a == rf)=Ε/\∃ vs,KV b vs/\h.DictOf (fj P w) a vs
 | .dT b=>b.length<=sizeLine/\(a == rf)=Ε/\∃ xs:List (TK × Addr × Value),
   Paired (λ(p:TK × V) (q:TK × Addr × Value)=>p.1=q.1/\NR H 5 (.inr p.1) (.ref q.2.1)/\jd p.2 q.2.2) b xs/\
   ∃ o d k,h.get? a=BD o/\o.ExactDict/\o.data=.dict d k/\d.toList=xs.map (entryOfKey$ iF P w)/\(xs.map (·.1)).Nodup
 | .set S n=>h.SetOf (Qf P w) a S n
 | .ub C j c=>Yx H h a C j c
 | .own _=>∃ o,h.get? a=BD o
 | .xd c=>∃ i,h.Ns1 a i/\∀ f,Tn (c.lookup f) (i f)
 | .wG lo l=>∃ t u v,h.get? a=BD { cls:=.type "range",data:=.fields #[.int lo t,.int l u,.int 1 v] }
 | .Ud o u=>h.get? a=BD o/\Cj H h a u
 | .Zk ps=>h.get? a=BD { cls:=.none,data:=.fields ps }
 | .met f x=>h.get? a=BD (W.methodObj (.ref f)$ .ref x)
 | .ext φ=>φ h/\(∃ o,h.get? a=BD o)/\∀ e g:Heap,φ e->(∀ o,e.get? a=BD o->g.get? a=BD o)->φ g
def Jh(H:Hp)(h:Heap):Prop:=∀ a o,H a=BD o->Cj P w H h a o
end
section
variable{P:Ca}{w:Wa}{H H':Hp}{h h':Heap}{a:Addr}{o:HO}
def Cj.lt(x:Cj P w H h a o):a<h.objs.size:=by
 cases o with
 |ra xs=>obtain⟨_,_,_,_,e⟩:=x;exact ya e
 |Qa xs=>obtain⟨_,_,_,p⟩:=x;exact p.lt
 |dK b=>obtain⟨_,_,_,_,o,_,_,e,_⟩:=x;exact ya e
 |dT b=>obtain⟨_,_,_,_,o,_,_,e,_⟩:=x;exact ya e
 |set S n=>obtain⟨o,_,_,_,e,_⟩:=x;exact ya e
 |ub C d c=>obtain⟨_,_,_,e,_⟩:=x;exact ya e
 |own y=>obtain⟨_,e⟩:=x;exact ya e
 |xd c=>obtain⟨_,⟨_,_,_,e,_⟩,_⟩:=x;exact ya e
 |wG lo g=>obtain⟨_,_,_,e⟩:=x;exact ya e
 |Ud i u=>obtain⟨e,_⟩:=x;exact ya e
 |Zk ps=>exact ya$ x
 |met f y=>exact ya$ x
 |ext j=>obtain⟨_,⟨_,e⟩,_⟩:=x;exact ya e
theorem Paired.Jp:∀ {c:List e} {d:List g},Paired F c d->(∀ a b,F a b->G a b)->Paired G c d:=by
 intro _ _ h f;induction h with
 |nil=>exact .nil
 |cons r _ i=>exact .cons (f _ _ r) i
def Cj.yj(x:Cj P w H h a o)(k:∀ b u,(b=a\/H b=BD (.own a))->h.get? b=BD u->h'.get? b=BD u)
  (D:∀ b,H b=BD (.own a)->H' b=BD (.own a)) (E:∀ b xs,H b=BD (.Qa xs)->H' b=BD (.Qa xs)):Cj P w H' h' a o:=by
 induction o with
 |ra xs=>obtain⟨z,j,n,r,e⟩:=x;exact⟨z,j,n,r,k _ _ (.inl rfl) e⟩
 |Qa xs=>obtain⟨z,j,r,ob,e,c⟩:=x;exact⟨z,j,r,ob,k _ _ (.inl rfl) e,c⟩
 |dK l=>obtain⟨z,y,I,r,ob,i,g,e,c⟩:=x;exact⟨z,y,I,r,ob,i,g,k _ _ (.inl rfl) e,c⟩
 |dT l=>
  obtain⟨z,y,xs,r,ob,i,g,e,c⟩:=x;exact⟨z,y,xs,Paired.Jp r λp q z=>⟨z.1,NR.keeps E 5 z.2.1,z.2.2⟩,ob,i,g,k _ _ (.inl rfl) e,c⟩
 |set S n=>obtain⟨ob,i,g,t,e,c⟩:=x;exact⟨ob,i,g,t,k _ _ (.inl rfl) e,c⟩
 |ub C J B=>
  obtain⟨d,z,G,e,m,⟨s,i,g,A,c⟩,r,w⟩:=x;exact⟨D _ d,z,G,k _ _ (.inl rfl) e,m,⟨s,i,g,k _ _ (.inr d) A,c⟩,r,w⟩
 |own y=>obtain⟨ob,e⟩:=x;exact⟨ob,k _ _ (.inl rfl) e⟩
 |xd B=>obtain⟨m,⟨s,i,g,e,c⟩,r⟩:=x;exact⟨m,⟨s,i,g,k _ _ (.inl rfl) e,c⟩,r⟩
 |wG lo K=>obtain⟨t,u,v,e⟩:=x;exact⟨t,u,v,k _ _ (.inl rfl) e⟩
 |Ud ob u F=>obtain⟨e,q⟩:=x;exact⟨k _ _ (.inl rfl) e,F q⟩
 |Zk ps=>
  have e:=x;exact k a _ (.inl rfl) e
 |met f y=>
  have e:=x;exact k a _ (.inl rfl) e
 |ext L=>obtain⟨p,⟨o,e⟩,st⟩:=x;exact⟨st _ _ p λo q=>k _ _ (.inl rfl) q,⟨o,k _ _ (.inl rfl) e⟩,st⟩
def Jh.lt(x:Jh P w H h)(e:H a=BD o):a<h.objs.size:=(x a o e).lt
def Jh.fresh(x:Jh P w H h)(e:h.objs.size<=a):H a=V6:=by
 cases q:H a with
 |none=>rfl
 |some u=>exact absurd (Ja (x.lt q) e)$ Vd _
def Jh.kept(x:Jh P w H h)(k:∀ b u,h.get? b=BD u->h'.get? b=BD u):Jh P w H h':=λa o e=>
 (x a o e).yj (λb u c q=>k b u q) (λc q=>q) λc c q=>q
def Jh.laid(x:Jh P w H h)(k:∀ b u,h.get? b=BD u->h'.get? b=BD u)(i:h.objs.size<=a)(d:Cj P w (Wb H a o) h' a o):Jh P w (Wb H a o) h':=λb u e=>by
 have g:=x.fresh i;by_cases f:b=a
 ·subst f;rw[Mf]at e;cases e;exact d
 ·rw[Ad f]at e;exact(x b u e).yj (λc v j q=>k c v q) (λc q=>by rw[Ad$ Pn q g];exact q) λc xs q=>by rw[Ad$ Pn q g];exact q
end
def Rd(H:Hp)(a:Addr)(u:HO):Prop:=H a=BD u\/∃ o,H a=BD (.Ud o u)
def Rd.ok(r:Rd H a u)(x:Jh P w H h):Cj P w H h a u:=by
 rcases r with r|⟨o,r⟩
 ·exact x a u r
 ·obtain⟨_,q⟩:=x a _ r;exact q
def uF:Option HO->Prop
 |some (.ra _)=>True
 |some (.dK _)=>True
 |some (.dT _)=>True
 |some (.set _ _)=>True
 |some (.ub _ _ _)=>True
 |some (.ext _)=>True
 |_=>False
section
variable{P:Ca}{w:Wa}{H:Hp}{h h':Heap}{x e:Addr}{o':HO}
def Jh.write(ok:Jh P w H h)(g:uF$ H x)(p:e=x\/H e=BD (.own x))(k:∀ b u,b≠e->h.get? b=BD u->h'.get? b=BD u)(i:∃ u,h'.get? e=BD u)
  (j:Cj P w (Wb H x o') h' x o'):Jh P w (Wb H x o') h':=λb u q=>by
 have d:∀ c y,H c=BD (.own y)->c≠x:=λc y r z=>by subst z;rw[r]at g;exact g
 have f:∀ c xs,H c=BD (.Qa xs)->c≠x:=λc xs r z=>by subst z;rw[r]at g;exact g
 by_cases l:b=x
 ·subst l;rw[Mf]at q;cases q;exact j
 ·rw[Ad l]at q;by_cases a:b=e
  ·have n:H b=BD (.own x):=by
    simp_all
   rw[q]at n;cases n;obtain⟨v,o⟩:=i;exact⟨v,by rw[a];exact o⟩
  ·refine(ok b u q).yj (λc v m r=>k c v ?_ r) (λc r=>by rw[Ad$ d c b r];exact r) λc xs r=>by rw[Ad$ f c xs r];exact r
   rcases m with rfl|m
   ·exact a
   ·rintro rfl
    simp_all
end
structure Un(fs ex:dl)(H H':Hp)(h h':Heap):Prop where
 keep:∀ b o,h.get? b=BD o->H b=V6->b ∉ fs->b ∉ ex->h'.get? b=BD o
 slot:∀ b o,h.get? b=BD o->H b=V6->b∈fs->b ∉ ex->∃ sl,h'.get? b=BD { o with slots:=sl }
 free:∀ b o,h.get? b=BD o->H b=V6->b ∉ ex->H' b=V6
 there:∀ b o,h.get? b=BD o->b ∉ ex->∃ o',h'.get? b=BD o'
 Yj:∀ b xs,H b=BD (.Qa xs)->H' b=BD (.Qa xs)
 zi:∀ b o u,H b=BD (.Ud o u)->H' b=BD (.Ud o u)
 Bj:∀ b ps,H b=BD (.Zk ps)->∃ more,H' b=BD (.Zk (ps++more))
section
variable{fs fs' ex ex':dl}{H H1 H2:Hp}{h h1 h2 h':Heap}{a x e:Addr}{o:HO}
def Un.any(u:Un fs ex H H1 h h1){a}(q:h.get? b=BD a)(n:H b=V6)(d:b ∉ ex):∃ e,h1.get? b=BD { a with slots:=e }:=by
 by_cases c:b∈fs
 ·exact u.slot b a q n c d
 ·exact⟨a.slots,u.keep b a q n c d⟩
def Un.kept(k:∀ b u,h.get? b=BD u->h'.get? b=BD u):Un fs ex H H h h':=
 ⟨λb a q c c c=>k b a q,λb a q c c c=>⟨a.slots,k b a q⟩,λc c c n c=>n,λb a q c=>⟨a,k b a q⟩,λc c q=>q,λc c c q=>q,λc ps q=>⟨#[],by rw[q];simp⟩⟩
def Un.refl:Un fs ex H H h h:=Un.kept λa a q=>q
def Un.laid(k:∀ b u,h.get? b=BD u->h'.get? b=BD u)(d:h.objs.size<=a)(c:H a=V6):Un fs ex H (Wb H a o) h h' where
 keep:=λb u q e e e=>k b u q
 slot:=λb u q e e e=>⟨u.slots,k b u q⟩
 free:=λb u q n e=>by rw[Ad$ Aa$ Ja (ya q) d];exact n
 there:=λb u q e=>⟨u,k b u q⟩
 Yj:=λb xs q=>by rw[Ad$ Pn q c];exact q
 zi:=λb u xs q=>by rw[Ad$ Pn q c];exact q
 Bj:=λb ps q=>⟨#[],by rw[Ad$ Pn q c,q];simp⟩
def Un.write(a:uF$ H x)(l:e=x\/H e=BD (.own x))(k:∀ b u,b≠e->h.get? b=BD u->h'.get? b=BD u)(g:∃ u,h'.get? e=BD u):Un fs ex H (Wb H x o) h h':=by
 have i:∀ b,H b=V6->b≠x:=λb n z=>by subst z;rw[n]at a;exact a
 have d:∀ b,H b=V6->b≠e:=λb n z=>by
  simp_all
 have c:∀ b u,H b=BD u->¬ uF (BD u)->b≠x:=λb u q j z=>by subst z;rw[q]at a;exact j a
 refine⟨λb u q n m m=>k b u (d b n) q,λb u q n m m=>⟨u.slots,k b u (d b n) q⟩,λb u q n m=>by rw[Ad$ i b n];exact n,λb u q m=>?_,
  λb xs q=>by rw[Ad (c b _ q λz=>z)];exact q,λb u xs q=>by rw[Ad (c b _ q λz=>z)];exact q,λb ps q=>⟨#[],by rw[Ad (c b _ q λz=>z),q];simp⟩⟩
 by_cases f:b=e;all_goals simp_all
end
noncomputable def nS(h:Heap)(H:Hp):dl:=(List.range h.objs.size).filter λa=>(H a).isSome
def Wx(h:Heap)(H:Hp):Heap:=W.hideAll h$ nS h H
def Ġ h H:(Wx h H).objs.size=h.objs.size:=W.hideAll_size _ _
def Ĳz(e:h.get? b=BD o)(n:H b=V6):(Wx h H).get? b=BD o:=
 W.hideAll_get _ e λa=>by
  have q:=(Pe.mp a).2
  simp_all
def Εz(e:(Wx h H).get? b=BD o):h.get? b=BD o/\H b=V6:=by
 have a:=W.of_hideAll _ e;refine⟨a,?_⟩;cases q:H b with
 |none=>rfl
 |some x=>
  have c:b∈nS h H:=Pe.mpr ⟨Pi.mpr$ ya a,by simp[q]⟩;have z:(Wx h H).get? b=V6:=W.hideAll_none _ c
  simp_all
noncomputable def Ρ(g h:Heap)(L:Addr):List$ Addr × Obj:=(List.range h.objs.size).filterMap λa=>if a=L\/(g.get? a).isSome=Ĳ then V6 else (h.get? a).map λo=>(a,o)
def rest(g h:Heap)(L d:Addr):List$ Addr × Obj:=(Ρ g h L).filter λp=>decide$ p.1≠d
structure Mod(K:W.Frag)(mg:Str->Option Value)(base:Heap):Prop where
 Rw:K.In base
 glob:base.Ns mainGlobals mg
 blt:∃ mb,base.Ns builtinsNs mb/\∀ x:Str,x ≠ "__name__"->mb x=bootBuiltins x
 nolimit:base.NoLimit
structure Cx where
 prog:Ca
 w:Wa
 K:W.Frag
 mg:Str->Option Value
 base:Heap
 A:Ra
 N:ad
 s₀:Shared
 H₀:Hp
 env:Ag
 outer:List Ag
 stack:List Ag
 ex:dl
 fn:Str->Bool
 qc:Bool
 pn:lv
 xe:Value->Shared->Prop
noncomputable def Sj(l:List Ag):dl:=l.filterMap (·.frame)
abbrev Cx.fs(X:Cx):dl:=Sj X.outer
def fD(sc:Scope)(x:Str):Prop:=sc.names.lookup x=BD .local\/sc.names.lookup x=BD .cell\/sc.names.lookup x=BD .free
def Loc(sc:Scope)(x:Str):Prop:=sc.names.lookup x=BD .local\/sc.names.lookup x=BD .cell
def ä(a:Ag)(h:Heap)(m:Str->Option Value)(x:Str)(u:Value):Prop:=
 (a.kindOf x=BD .local/\m x=BD u)\/((a.kindOf x=BD .cell\/a.kindOf x=BD .free)/\∃ c,a.cells.lookup x=BD c/\h.IsCell c (BD u))
structure Cx.Ok(X:Cx):Prop where
 mod:Mod X.K X.mg X.base
 kind:X.env.scope.kind=.function
 glob:X.env.globals=mainGlobals
 blt:X.env.builtins=builtinsNs
 above:X.s₀.heap.objs.size<=X.env.locals
 inj:∀ x y c,X.env.cells.lookup x=BD c->X.env.cells.lookup y=BD c->x=y
 has:∀ x,(X.env.kindOf x=BD .cell\/X.env.kindOf x=BD .free)->∃ c,X.env.cells.lookup x=BD c
 nB:∀ x c,X.fn x=Ĳ->X.env.cells.lookup x=BD c->X.s₀.heap.objs.size<=c
 hd:X.qc=Ĳ->X.A.handled=V6
 frames:X.A.frames=BD X.stack
 yp:X.stack=X.outer\/(X.stack=X.env::X.outer/\X.env.frame=BD X.env.locals)
 sD:∀ b∈X.ex,b≠X.env.locals/\∀ x c,X.env.cells.lookup x=BD c->c≠b
 bs:∀ b o,X.base.get? b=BD o->X.s₀.heap.get? b=BD o/\X.H₀ b=V6
 ku:X.base.objs.size<=X.s₀.heap.objs.size
 Ds:∀ b o,X.base.get? b=BD o->b ∉ X.ex
 Fs:∀ b∈X.ex,b ∉ X.fs
 ck:X.s₀.heap.FunFrames X.base X.outer
 wy:∀ b∈X.fs,X.H₀ b=V6
structure db(X:Cx)(pins:lv)(σ:List (Option V))(H:Hp)(s:Shared):Prop where
 ok:X.Ok
 os:s.os=X.s₀.os
 bare:nh s.gens
 base:Un X.fs X.ex X.H₀ H X.s₀.heap s.heap
 loc:∃ m,s.heap.Ns X.env.locals m/\∀ (i:Nat) (x:Str) (v:V),X.N[i]?=BD x->σ[i]?=BD (BD v)->fD X.env.scope x->∃ u,jd v u/\ä X.env s.heap m x u
 cell:∀ x c,X.env.cells.lookup x=BD c->∃ v,s.heap.IsCell c v
 free:H X.env.locals=V6
 dg:∀ x c,X.env.cells.lookup x=BD c->H c=V6
 pin:∀ p∈X.pn++pins,s.heap.get? p.1=BD p.2/\H p.1=V6/\p.1≠X.env.locals/\p.1 ∉ X.fs/\∀ v,p.2.data≠.cell v
 Fc:Jh X.prog X.w H s.heap
 len:σ.length=X.N.length
section
variable{X:Cx}{pins:List$ Addr × Obj}{σ:List$ Option V}{H H':Hp}{s:Shared}{h':Heap}
def Cx.Ok.YJ(ok:X.Ok)(e:X.base.get? b=BD o):b ∉ X.fs:=λa=>by
 have:=(ok.ck.mem a).1
 simp_all
def db.bs(I:db X pins σ H s):∀ b o,X.base.get? b=BD o->s.heap.get? b=BD o/\H b=V6:=λb o e=>
 ⟨I.base.keep b o (I.ok.bs b o e).1 (I.ok.bs b o e).2 (I.ok.YJ e)$ I.ok.Ds b o e,I.base.free b o (I.ok.bs b o e).1 (I.ok.bs b o e).2$ I.ok.Ds b o e⟩
def db.bk(I:db X pins σ H s):∀ b o,X.base.get? b=BD o->s.heap.get? b=BD o:=λb o e=>(I.bs b o e).1
def db.mod(I:db X pins σ H s):Mod X.K X.mg X.base:=I.ok.mod
def db.Ai(I:db X pins σ H s):X.K.In s.heap:=I.ok.mod.Rw.keeps I.bk
def db.nolimit(I:db X pins σ H s):s.heap.NoLimit:=I.ok.mod.nolimit.keeps I.bk
def db.lt(I:db X pins σ H s):X.env.locals<s.heap.objs.size:=let ⟨_,a,_⟩:=I.loc;a.lt
def db.sz(I:db X pins σ H s):X.s₀.heap.objs.size<=s.heap.objs.size:=ib I.ok.above$ vd I.lt
def db.vF(I:db X pins σ H s)(h:s.heap.objs.size<=a):a ∉ X.fs:=λb=>by
 obtain⟨_,o,c,_⟩:=I.ok.ck.mem b;exact absurd (Ja (ya c)$ ib I.sz h)$ Vd _
def db.TC(I:db X pins σ H s):∀ x c,X.env.cells.lookup x=BD c->c≠X.env.locals:=λx c e z=>by
 obtain⟨v,o,h,g⟩:=I.cell x c e;obtain⟨m,⟨i,f,d,b,a,_⟩,_⟩:=I.loc
 simp_all
def db.ck(I:db X pins σ H s):s.heap.FunFrames X.base X.outer:=by
 have a:∀ l,(∀ b∈Sj l,b∈X.fs)->X.s₀.heap.FunFrames X.base l->s.heap.FunFrames X.base l:=by
  intro l;induction l with
  |nil=>intro _ _;trivial
  |cons env r n=>
   rintro g ⟨i,⟨L,o,f,j,k,h⟩,m⟩;have c:=g L (by unfold Sj;rw[pf,f];exact la);obtain⟨p,e⟩:=I.base.slot L o k (I.ok.wy L c) c λz=>I.ok.Fs L z c;exact⟨i,⟨L,_,f,j,e,h⟩,n (λb d=>g b (by unfold Sj;rw[pf,f];exact ja _ d)) m⟩
 exact a X.outer (λq d=>d) I.ok.ck
def db.stack(I:db X pins σ H s):s.heap.FunFrames X.base X.stack:=by
 rcases I.ok.yp with e|⟨e,a⟩
 ·rw[e];exact I.ck
 ·rw[e];obtain⟨m,b,_⟩:=I.loc;exact .cons (by rw[I.ok.kind];decide) a b (Heap.get?_none_of_le$ ib I.ok.ku I.ok.above) I.ck
def db.Vq(I:db X pins σ H s):∀ b∈Sj X.stack,b∈X.env.locals::X.fs:=λb a=>by
 rcases I.ok.yp with e|⟨e,c⟩
 ·rw[e]at a;exact ja _ a
 ·rw[e]at a;unfold Sj at a
  rwa [pf,c]at a
def db.nj(I:db X pins σ H s):∀ b∈Sj X.stack,H b=V6:=λb a=>by
 rcases za.mp (I.Vq b a)with e|a
 ·rw[e];exact I.free
 ·obtain⟨_,o,c,_⟩:=I.ok.ck.mem a;exact I.base.free b o c (I.ok.wy b a) λz=>I.ok.Fs b z a
def db.step{g'}{t'}{d'}{ch:dl}(I:db X pins σ H s)
  (h:∀ b∈ch,(b∈X.ex\/X.s₀.heap.objs.size<=b)/\b≠X.env.locals/\(∀ x c,X.env.cells.lookup x=BD c->c≠b)/\∀ p∈X.pn++pins,p.1≠b)
  (j:∀ b o,b≠X.env.locals->b ∉ X.fs->b ∉ ch->s.heap.get? b=BD o->H b=V6->h'.get? b=BD o)
  (B:∀ b o,b≠X.env.locals->b∈X.fs->b ∉ ch->s.heap.get? b=BD o->H b=V6->∃ Q,h'.get? b=BD { o with slots:=Q }) (f:∀ b o,b ∉ ch->s.heap.get? b=BD o->H b=V6->H' b=V6)
  (D:∀ b o,b ∉ ch->s.heap.get? b=BD o->∃ L,h'.get? b=BD L)
  (N:∀ b xs,H b=BD (.Qa xs)->H' b=BD (.Qa xs)) (G:∀ b o u,H b=BD (.Ud o u)->H' b=BD (.Ud o u)) (M:∀ b ps,H b=BD (.Zk ps)->∃ J,H' b=BD (.Zk$ ps++J))
  (ns:∀ m,s.heap.Ns X.env.locals m->h'.Ns X.env.locals m) (P:Jh X.prog X.w H' h') (Y:nh g') :
  db X pins σ H' { s with heap:=h',gens:=g',drawn:=d',toks:=t' }:=by
 have K:∀ b o,X.s₀.heap.get? b=BD o->b≠X.env.locals:=λb o e=>Aa$ Ja (ya e) I.ok.above;have A:∀ b o,X.s₀.heap.get? b=BD o->b ∉ X.ex->b ∉ ch:=λb o e a C=>by
  rcases(h b C).1 with z|z
  ·exact a z
  ·exact absurd (Ja (ya e) z)$ Vd _
 have g:∀ x c,X.env.cells.lookup x=BD c->∀ v,s.heap.IsCell c v->h'.IsCell c v:=λx c e v ⟨o,E,ό⟩=>by
  have t:c ∉ ch:=λz=>(h c z).2.2.1 x c e rfl;by_cases S:c∈X.fs
  ·obtain⟨Q,q⟩:=B c o (I.TC x c e) S t E (I.dg x c e);exact⟨_,q,ό⟩
  ·exact⟨o,j c o (I.TC x c e) S t E$ I.dg x c e,ό⟩
 refine⟨I.ok,I.os,Y,⟨λb o e n C a=>?_,λb o e n C a=>?_,λb o e n a=>?_,λb o e a=>?_,λb xs e=>N b xs$ I.base.Yj b xs e,λb o xs e=>G b o xs$ I.base.zi b o xs e,λb ps e=>?_⟩,?_,λx c e=>?_,?_,λx c e=>?_,λp T=>?_,P,I.len⟩
 ·exact j b o (K b o e) C (A b o e a) (I.base.keep b o e n C a)$ I.base.free b o e n a
 ·obtain⟨Q,y⟩:=I.base.slot b o e n C a;obtain⟨R,F⟩:=B b _ (K b o e) C (A b o e a) y (I.base.free b o e n a);exact⟨R,F⟩
 ·obtain⟨L,y⟩:=I.base.there b o e a;exact f b L (A b o e a) y$ I.base.free b o e n a
 ·obtain⟨L,y⟩:=I.base.there b o e a;exact D b L (A b o e a) y
 ·obtain⟨m1,y⟩:=I.base.Bj b ps e;obtain⟨m2,F⟩:=M b _ y;exact⟨m1++m2,by rw[F,kt]⟩
 ·obtain⟨m,hn,ϊ⟩:=I.loc;refine⟨m,ns m hn,λi x v y F W=>?_⟩;obtain⟨u,r,l⟩:=ϊ i x v y F W;refine⟨u,r,?_⟩;rcases l with l|⟨k,c,e,z⟩
  ·exact .inl l
  ·exact .inr ⟨k,c,e,g x c e _ z⟩
 ·obtain⟨v,z⟩:=I.cell x c e;exact⟨v,g x c e v z⟩
 ·obtain⟨m,⟨o,_,_,E,_⟩,_⟩:=I.loc;exact f _ o (λz=>(h _ z).2.1 rfl) E I.free
 ·obtain⟨v,o,E,ό⟩:=I.cell x c e;exact f c o (λz=>(h c z).2.2.1 x c e rfl) E$ I.dg x c e
 ·obtain⟨e,n,ϋ,V,d⟩:=I.pin p T;have t:p.1 ∉ ch:=λz=>(h p.1 z).2.2.2 p T rfl;exact⟨j p.1 p.2 ϋ V t e n,f p.1 p.2 t e n,ϋ,V,d⟩
def db.un(I:db X pins σ H s)(u:Un X.fs [] H H' s.heap h')(g:Jh X.prog X.w H' h'):db X pins σ H' { s with heap:=h',toks:=t' }:=by
 obtain⟨m,⟨o,p,l,h,r⟩,_⟩:=id I.loc;obtain⟨v,i⟩:=u.any h I.free ⋯;exact I.step (g':=s.gens) (d':=s.drawn) (ch:=[]) (λq z=>nomatch z) (λb o q f q e n=>u.keep b o e n f ⋯) (λb o q f q e n=>u.slot b o e n f ⋯) (λb o q e n=>u.free b o e n ⋯) (λb o q e=>u.there b o e ⋯) u.Yj u.zi u.Bj (λq j=>by
  obtain⟨t,d,c,a,k⟩:=j;rw[h]at a;cases a;exact⟨_,d,c,i,k⟩) g I.bare
def db.call(I:db X pins σ H s)(u:Un (Sj X.stack) ch H H' s.heap h')(j:Jh X.prog X.w H' h')(q:nh g')
  (d:∀ b∈ch,(b∈X.ex\/X.s₀.heap.objs.size<=b)/\b≠X.env.locals/\(∀ x c,X.env.cells.lookup x=BD c->c≠b)/\∀ p∈X.pn++pins,p.1≠b) :
  db X pins σ H' { s with heap:=h',gens:=g',drawn:=d',toks:=t' }:=by
 obtain⟨m,⟨o,A,y,k,r⟩,_⟩:=id I.loc;obtain⟨D,i⟩:=u.any k I.free λz=>(d _ z).2.1 rfl;exact I.step d (λb o i l a e n=>u.keep b o e n (λz=>(za.mp$ I.Vq b z).elim i l) a) (λb o B B a e n=>u.any e n a) (λb o a e n=>u.free b o e n a) (λb o a e=>u.there b o e a) u.Yj u.zi u.Bj (λB t=>by
  obtain⟨C,h,g,f,v⟩:=t;rw[k]at f;cases f;exact⟨_,h,g,i,v⟩) j q
def db.turned(I:db X pins σ H s)(k:∀ b o,b≠it->s.heap.get? b=BD o->h'.get? b=BD o)(y:H it=V6)(f:it≠X.env.locals)
  (i:it∈X.ex\/X.s₀.heap.objs.size<=it) (j:∀ x c,X.env.cells.lookup x=BD c->c≠it) (l:∀ p∈X.pn++pins,p.1≠it):db X pins σ H { s with heap:=h',toks:=t' }:=by
 have d:∀ b u,H b=BD u->b≠it:=λb u e z=>by rw[z,y]at e;cases e
 refine I.step (ch:=[it]) (λb t=>?_) (λb o m m a e m=>k b o (λz=>a (by simp[z])) e) (λb o m m a e m=>⟨o.slots,k b o (λz=>a (by simp[z])) e⟩) (λm m m m n=>n)
  (λb o a e=>⟨o,k b o (λz=>a (by simp[z])) e⟩) (λm m e=>e) (λm m m e=>e) (λb ps e=>⟨#[],by rw[e];simp⟩) (λm w=>?_) (λb u e=>?_) I.bare
 ·have e:b=it:=by simpa using t
  subst e;exact⟨i,f,j,l⟩
 ·obtain⟨o,h,g,A,r⟩:=w;exact⟨o,h,g,k _ o (Jd f) A,r⟩
 ·refine(I.Fc b u e).yj (λc v a q=>k c v ?_ q) (λm q=>q) λm m q=>q;rcases a with z|z
  ·rw[z];exact d b u e
  ·exact d c _ z
def db.tok(I:db X pins σ H s) t:db X pins σ H { s with toks:=t }:=I.un Un.refl I.Fc
def db.kept(I:db X pins σ H s)(k:∀ b u,s.heap.get? b=BD u->h'.get? b=BD u):db X pins σ H { s with heap:=h',toks:=t' }:=I.un (Un.kept k)$ I.Fc.kept k
def db.laid(I:db X pins σ H s)(k:∀ b u,s.heap.get? b=BD u->h'.get? b=BD u)(c:s.heap.objs.size<=a)(d:Cj X.prog X.w (Wb H a o) h' a o) :
  db X pins σ (Wb H a o) { s with heap:=h',toks:=t' }:=I.un (Un.laid k c$ I.Fc.fresh c)$ I.Fc.laid k c d
def db.write(I:db X pins σ H s)(f:uF$ H x)(d:e=x\/H e=BD (.own x))(k:∀ b u,b≠e->s.heap.get? b=BD u->h'.get? b=BD u)(a:∃ u,h'.get? e=BD u)
  (c:Cj X.prog X.w (Wb H x o) h' x o):db X pins σ (Wb H x o) { s with heap:=h',toks:=t' }:=I.un (Un.write f d k a)$ I.Fc.write f d k a c
def db.qi(I:db X pins σ H s)(h:∀ p∈a,s.heap.get? p.1=BD p.2/\H p.1=V6/\p.1≠X.env.locals/\p.1 ∉ X.fs/\∀ v,p.2.data≠.cell v):db X a σ H s:=
 ⟨I.ok,I.os,I.bare,I.base,I.loc,I.cell,I.free,I.dg,λp b=>(kc.mp b).elim (λz=>I.pin p$ eb _ z)$ h p,I.Fc,I.len⟩
def FM{N:ad}(e:N.Nodup){i j:Nat}(a:N[i]?=BD x)(b:N[j]?=BD x):i=j:=by
 obtain⟨f,c⟩:=ba.mp a;obtain⟨g,d⟩:=ba.mp b;exact(Zv e).mp$ c.trans d.symm
def NQ(I:db X pins σ H s)(hN:X.N.Nodup)(T:X.N[i]?=BD x)(B:Loc X.env.scope x)(r:jd v u)
  (h:∀ s',db X pins (σ.set i$ BD v) H s'->(∃ a,Zc a s.heap s'.heap/\(a=X.env.locals\/X.env.cells.lookup x=BD a))->Q () s') (hf:X.fn x=Ĳ\/X.env.scope.names.lookup x=BD .local:=by first|exact .inl rfl|exact .inr rfl|assumption):wpAny M A (MF X.env x u) Q E s:=by
 obtain⟨m,hn,hl⟩:=id I.loc;have S:(X.env.scope.kind == .class || (X.env.scope.kind == .module && X.env.locals != X.env.globals))=Ε:=by rw[I.ok.kind];rfl
 have F:i<σ.length:=by rw[I.len];exact(ba.mp T).1
 have J:=I.TC;have l:∀ {a:Addr} {h':Heap},(∃ o,s.heap.get? a=BD o/\H a=V6)->Zc a s.heap h'->Jh X.prog X.w H h':=fun {a h'} ha f b ob e=>by
  obtain⟨_,_,C⟩:=ha;refine(I.Fc b ob e).yj (λc w' t q=>(f.2 c ?_).trans q) (λO q=>q) λO O q=>q;rintro rfl;rcases t with rfl|t
  ·rw[C]at e;cases e
  ·rw[C]at t;cases t
 rcases B with G|G
 ·refine wpAny_storeName_local G hn (λh' a0 f=>?_) S;obtain⟨oL,_,_,a1,_⟩:=id hn;refine h _ ⟨I.ok,I.os,I.bare,⟨λb o e n K B=>?_,λb o e n K B=>?_,I.base.free,λb o e B=>?_,I.base.Yj,I.base.zi,I.base.Bj⟩,⟨_,a0,λj y v' g D e3=>?_⟩,λy c e=>?_,I.free,I.dg,λp hp=>?_,l ⟨oL,a1,I.free⟩ f,by simpa using I.len⟩ ⟨_,f,.inl rfl⟩
  ·exact(f.2 b$ Aa$ Ja (ya e) I.ok.above).trans$ I.base.keep b o e n K B
  ·obtain⟨sl,g⟩:=I.base.slot b o e n K B;exact⟨sl,(f.2 b$ Aa$ Ja (ya e) I.ok.above).trans g⟩
  ·obtain⟨o',g⟩:=I.base.there b o e B;exact⟨o',(f.2 b$ Aa$ Ja (ya e) I.ok.above).trans g⟩
  ·by_cases ό:j=i
   ·subst ό;rw[T]at g;cases g;rw[Dc F]at D;cases D;exact⟨u,r,.inl ⟨G,by simp⟩⟩
   ·rw[zg$ Jd ό]at D;obtain⟨u',r',q⟩:=hl j y v' g D e3;refine⟨u',r',?_⟩;rcases q with⟨k,e⟩|⟨k,c,e,z⟩
    ·refine .inl ⟨k,?_⟩;have:y≠x:=λe=>ό$ FM hN g$ e ▸ T;simp[this,e]
    ·exact .inr ⟨k,c,e,z.sameBut f$ J y c e⟩
  ·obtain⟨w',z⟩:=I.cell y c e;exact⟨w',z.sameBut f$ J y c e⟩
  ·obtain⟨e,n,ϊ,nf,d⟩:=I.pin p hp;exact⟨(f.2 p.1 ϊ).trans e,n,ϊ,nf,d⟩
 ·have L:X.fn x=Ĳ:=by
   rcases hf with z|z
   ·exact z
   ·rw[z]at G;cases G
  obtain⟨c,t⟩:=I.ok.has x (.inl G);obtain⟨w',z⟩:=I.cell x c t;refine wpAny_storeName_cell I.ok.kind G t z (λh' P f=>?_);obtain⟨oc,ϋ,W⟩:=id z;refine h { s with heap:=h' } ⟨I.ok,I.os,I.bare,⟨λb o e n K B=>?_,λb o e n K B=>?_,I.base.free,λb o e B=>?_,I.base.Yj,I.base.zi,I.base.Bj⟩,⟨m,hn.sameBut f$ Jd$ J x c t,λj y v' g D e3=>?_⟩,λy Y e=>?_,I.free,I.dg,λp hp=>?_,l ⟨oc,ϋ,I.dg x c t⟩ f,by simpa using I.len⟩ ⟨c,f,.inr t⟩
  ·exact(f.2 b$ Aa$ Ja (ya e)$ I.ok.nB x c L t).trans$ I.base.keep b o e n K B
  ·obtain⟨sl,g⟩:=I.base.slot b o e n K B;exact⟨sl,(f.2 b$ Aa$ Ja (ya e)$ I.ok.nB x c L t).trans g⟩
  ·obtain⟨o',g⟩:=I.base.there b o e B;exact⟨o',(f.2 b$ Aa$ Ja (ya e)$ I.ok.nB x c L t).trans g⟩
  ·by_cases ό:j=i
   ·subst ό;rw[T]at g;cases g;rw[Dc F]at D;cases D;exact⟨u,r,.inr ⟨.inl G,c,t,P⟩⟩
   ·rw[zg$ Jd ό]at D;obtain⟨u',r',q⟩:=hl j y v' g D e3;refine⟨u',r',?_⟩;rcases q with q|⟨k,Y,e,z'⟩
    ·exact .inl q
    ·refine .inr ⟨k,Y,e,z'.sameBut f ?_⟩;rintro rfl;exact ό$ FM hN g$ I.ok.inj _ _ _ e t ▸ T
  ·by_cases R:Y=c
   ·subst R;exact⟨_,P⟩
   ·obtain⟨w2,z2⟩:=I.cell y Y e;exact⟨w2,z2.sameBut f R⟩
  ·obtain⟨e,n,ϊ,nf,d⟩:=I.pin p hp;refine⟨(f.2 p.1 ?_).trans e,n,ϊ,nf,d⟩;intro q;rw[q,ϋ]at e;have q':oc=p.2:=Nb e;exact d w' (by rw[<-q'];exact W)
def mG(I:db X pins σ H s)(c:X.N.Nodup)(e:X.N[i]?=BD x)(f:Loc X.env.scope x)(r:jd v u)
  (h:∀ a,db X pins (σ.set i$ BD v) H a->Q () a) (d:X.fn x=Ĳ\/X.env.scope.names.lookup x=BD .local:=by first|exact .inl rfl|exact .inr rfl|assumption):wpAny M A (MF X.env x u) Q E s:=
 NQ I c e f r (λa b g=>h a b) d
def db.Ou(I:db X pins σ H s)(g:s'.os=s.os)(u:Un (Sj X.stack) ch H H' s.heap s'.heap)(d:Jh X.prog X.w H' s'.heap)(f:nh s'.gens)
  (a:∀ b∈ch,(b∈X.ex\/X.s₀.heap.objs.size<=b)/\b≠X.env.locals/\(∀ x c,X.env.cells.lookup x=BD c->c≠b)/\∀ p∈X.pn++pins,p.1≠b):db X pins σ H' s':=by
 obtain⟨h',g',d',t',h⟩:=s';have e:=g;subst e;exact I.call u d f a
end
abbrev XK:=Value->Option Addr->Hp->Prop
abbrev St:=List$ Option V
abbrev VK:=V->Hp->Prop
abbrev TE:=St->Hp->VK->Prop
abbrev TT:=St->Hp->(Bool->Hp->Prop)->Prop
abbrev TA:=St->Hp->(n'->Hp->Prop)->Prop
structure jk where
 nx:St->Hp->Prop
 rt:VK
 bk:St->Hp->Prop:=λa a=>False
 ct:St->Hp->Prop:=λa a=>False
abbrev TS:=jk->St->Hp->Prop
inductive EP(X:Cx)(pins:lv)(σ:St)(Q:VK)(u:Value)(s':Shared):Prop
 |mk (v:V) (H':Hp) (f1:db X pins σ H' s') (f2:jd v u) (f3:Q v H'):EP X pins σ Q u s'
inductive TP(X:Cx)(pins:lv)(σ:St)(Q:Bool->Hp->Prop)(b:Bool)(s':Shared):Prop
 |mk (H':Hp) (f1:db X pins σ H' s') (f2:Q b H'):TP X pins σ Q b s'
inductive AP(X:Cx)(pins:lv)(σ:St)(Q:n'->Hp->Prop)(us:gV)(s':Shared):Prop
 |mk (vs:n') (H':Hp) (f1:db X pins σ H' s') (f2:ie vs us) (f3:Q vs H'):AP X pins σ Q us s'
inductive NP(X:Cx)(pins:lv)(Q:St->Hp->Prop)(s':Shared):Prop
 |mk (σ':St) (H':Hp) (f1:db X pins σ' H' s') (f2:Q σ' H'):NP X pins Q s'
inductive RP(X:Cx)(pins:lv)(Q:VK)(u:Value)(s':Shared):Prop
 |mk (v:V) (σ':St) (H':Hp) (f1:db X pins σ' H' s') (f2:jd v u) (f3:Q v H'):RP X pins Q u s'
def SP(X:Cx)(a:List$ Addr × Obj)(D:jk)(f:Flow)(b:Shared):Prop:=
 match f with
 | .next=>NP X a D.nx b
 | .brk=>NP X a D.bk b
 | .cont=>NP X a D.ct b
 | .ret u=>RP X a D.rt u b
def PE(X:Cx)(e:Oa)(t:TE):Prop:=
 ∀ (a:List$ Addr × Obj) (s:Shared) (σ:St) (H:Hp) (Q:VK),db X a σ H s->t σ H Q->wpAny (model X.prog X.w) X.A (Mb e X.env) (EP X a σ Q) X.xe s
def PT(X:Cx)(e:Oa)(t:TT):Prop:=
 ∀ (a:List$ Addr × Obj) (s:Shared) (σ:St) (H:Hp) (Q:Bool->Hp->Prop),db X a σ H s->t σ H Q->wpAny (model X.prog X.w) X.A (isTrue e X.env$ Mb e X.env) (TP X a σ Q) X.xe s
def PW(X:Cx)(e:Oa)(t:TT):Prop:=
 ∀ (a:Wm Value) (pins:List$ Addr × Obj) (s:Shared) (σ:St) (H:Hp) (Q:Bool->Hp->Prop),db X pins σ H s->t σ H Q->wpAny (model X.prog X.w) X.A (isTrue e X.env a) (TP X pins σ Q) X.xe s
def PW.pt(h:PW X e t):PT X e t:=h _
def PA(X:Cx)(b:List Oa)(t:TA):Prop:=
 ∀ (a:Td) (pins:List$ Addr × Obj) (s:Shared) (σ:St) (H:Hp) (Q:n'->Hp->Prop),db X pins σ H s->t σ H Q->wpAny (model X.prog X.w) X.A (spliced$ lc a$ va b X.env) (AP X pins σ Q) X.xe s
def PS(X:Cx)(st:Stmt)(t:TS):Prop:=
 ∀ (a:List$ Addr × Obj) (s:Shared) (σ:St) (H:Hp) (D:jk),db X a σ H s->t D σ H->wpAny (model X.prog X.w) X.A (exec st X.env) (SP X a D) X.xe s
def Ov(X:Cx)(st:List Stmt)(t:TS):Prop:=
 ∀ (a:List$ Addr × Obj) (s:Shared) (σ:St) (H:Hp) (D:jk),db X a σ H s->t D σ H->wpAny (model X.prog X.w) X.A (execs st X.env) (SP X a D) X.xe s
def Ed{t:Wm c}{Q b}(h:wpAny M A t Q E s)(d:∀ a s,Q a s->b a s):wpAny M A t b E s:=dc h d λe e x=>x
section
variable{X:Cx}
def bin(p:PE X a k)(q:PE X b l){R:V->V->Hp->Prop}(I:db X c e H s)(h:k e H λx j=>l e j λy d=>R x y d) {Q} {f:Value->Value->Wm m}
  (r:∀ v u s2 x y d,db X c e d s2->jd x v->jd y u->R x y d->wpAny (model X.prog X.w) X.A (f v u) Q X.xe s2) :
  wpAny (model X.prog X.w) X.A (Mb a X.env) (λv g=>wpAny (model X.prog X.w) X.A (Mb b X.env) (λu i=>wpAny (model X.prog X.w) X.A (f v u) Q X.xe i) X.xe g) X.xe s:=by
 exact Ed (p c s e H _ I h) λv s1 ⟨x,j,n,B,t⟩=>(Ed (q c s1 e j _ n t) λu s2 ⟨y,d,o,C,z⟩=>(r v u s2 x y d o B C z))
noncomputable def TW(i:Nat):TE:=λa H Q=>∃ v,a[i]?=BD (BD v)/\Q v H
noncomputable def tC(v:V):TE:=λa H Q=>Q v H
def tU(n:X.N[i]?=BD x)(t:fD X.env.scope x)(g:(x == ("__debug__" : Str))=Ε:=by decide)(f:(x == ("__classdict__" : Str))=Ε:=by decide):PE X (.Name x j)$ TW i:=by
 intro d s σ H Q I h;obtain⟨v,e,h⟩:=h;obtain⟨m,q,o⟩:=I.loc;obtain⟨u,r,l⟩:=o i x v n e t;have jg:EP X d σ Q u s:=⟨v,H,I,r,h⟩
 rcases l with⟨b,p⟩|⟨b,c,k,a⟩
 ·exact sA (jx I.ok.kind b q p jg) g
 ·rcases b with b|b
  ·exact sA (Qy I.ok.kind b k a jg) g
  ·exact sA (wpAny_loadName_free I.ok.kind b k a jg f) g
def D5{i j pos}:PE X (.Constant (.int i) j pos)$ tC$ .int i:=λa a a H a I h=>wpAny_Constant_int ⟨.int i,H,I.tok _,⟨_,rfl⟩,h⟩
def F9{b j pos}:PE X (.Constant (.bool b) j pos)$ tC$ .bl b:=λa a a H a I h=>Constant_bool ⟨.bl b,H,I,rfl,h⟩
def g5{j pos}:PE X (.Constant .none j pos)$ tC .Zb:=λa a a H a I h=>Constant_none ⟨.Zb,H,I,rfl,h⟩
def t4{x j pos}:PE X (.Constant (.str x) j pos)$ tC$ .str x:=λa a a H a I h=>Calls.Constant_str ⟨.str x,H,I.tok _,⟨_,rfl⟩,h⟩
def Gl(X:Cx)(x:Str):Prop:=X.env.kindOf x=BD .globalImplicit
def RB(I:db X a f H s)(d:Gl X x)(e:X.mg x=BD u)(h:Q u s)
  (c:(x == ("__debug__" : Str))=Ε:=by decide):wpAny (model X.prog X.w) X.A (Mb (.Name x b) X.env) Q E s:=
 Qm I.ok.kind d (Calls.loadGlobal_global (by rw[I.ok.glob];exact I.mod.glob.keeps I.bk) e h) c
def gy(I:db X a k H s)(f:Gl X x)(g:X.mg x=V6)(j:bootBuiltins x=BD u)(h:Q u s)
  (i:x ≠ "__name__":=by decide) (e:(x == ("__debug__" : Str))=Ε:=by decide):wpAny (model X.prog X.w) X.A (Mb (.Name x b) X.env) Q E s:=by
 obtain⟨l,c,d⟩:=I.mod.blt;exact Qm I.ok.kind f (Calls.loadGlobal_builtin (by rw[I.ok.glob];exact I.mod.glob.keeps I.bk) g (by rw[I.ok.blt];exact c.keeps I.bk) ((d x i).trans j) h) e
def eK(c:Gl X x)(d:X.mg x=BD u)(r:jd v u)(b:(x == ("__debug__" : Str))=Ε:=by decide):PE X (.Name x a)$ tC v:=
 λe e e H e I h=>RB I c d ⟨v,H,I,r,h⟩ b
def I0(c:Gl X x)(d:X.mg x=V6)(f:bootBuiltins x=BD u)(r:jd v u)(e:x ≠ "__name__":=by decide)(b:(x == ("__debug__" : Str))=Ε:=by decide):PE X (.Name x a)$ tC v:=
 λg g g H g I h=>gy I c d f ⟨v,H,I,r,h⟩ e b
variable{a b:Oa}{ta tb:TE}{pos:Td}
def PC(X:Cx)(f:Vo)(a b:Oa)(t:TE):Prop:=
 ∀ (c:List$ Addr × Obj) (s:Shared) (σ:St) (H:Hp) (Q:VK),db X c σ H s->t σ H Q->
  wpAny (model X.prog X.w) X.A (Mb a X.env) (λv d=>wpAny (model X.prog X.w) X.A (Mb b X.env) (λu e=>wpAny (model X.prog X.w) X.A (Gb f v u) (EP X c σ Q) X.xe e) X.xe d) X.xe s
def Q0 b{a}(h:a≠.In)(e:a≠.NotIn):ee a b=Ε:=by
 have c:(a == sP)=Ε:=by cases a<;>first|rfl|exact absurd rfl h
 have d:(a == MC)=Ε:=by cases a<;>first|rfl|exact absurd rfl e
 cases b<;>simp[ee,c,d]
noncomputable def tB(t:TE):TT:=λb H Q=>t b H λx a=>∃ c,x=.bl c/\Q c a
def yh2(h:PC X g a b t)(f:ee g b=Ε:=by first|exact Q0 _ ⋯ ⋯|rfl):PT X (.Compare a [g] [b] pos)$ tB t:=by
 intro e s n H Q I k;refine aw (Ed (h e s n H _ I k) λv s1 f=>Ed f λu s2 j=>Ed j λc s3 ſ=>?_) f;obtain⟨x,H1,i,m,l⟩:=ſ;obtain⟨d,rfl,q⟩:=l;cases m;exact md ⟨H1,i,q⟩
def S4(h:PE X e t)(f:∀ a,isTrue e X.env a=(do let v <-a;oh e.pos;qe [v] (truthy v)):=by intro _;rfl):PT X e$ tB t:=by
 intro b s k H Q I g;refine isTrue_plain (Ed (h b s k H _ I g) λv s1 ⟨x,H1,c,j,i⟩=>?_)$ f _;obtain⟨d,rfl,q⟩:=i;cases j;exact md ⟨H1,c,q⟩
variable{tA tB':TT}{rest:List Oa}
noncomputable def ø(t u:TT):TT:=λb H Q=>t b H λc a=>if c=Ĳ then u b a Q else Q Ε a
noncomputable def é(t u:TT):TT:=λb H Q=>t b H λc a=>if c=Ĳ then Q Ĳ a else u b a Q
noncomputable def ğ(t:TT):TT:=λb H Q=>t b H λc a=>Q (!c) a
def zx2(d:PT X a tA):PW X (.BoolOp .And [a] pos) tA:=by
 intro g b s f H Q I h;refine isTrue_and (Ed (d b s f H Q I h) λc s1 e=>?_);cases c with
 |true=>exact isTrue_and_nil e
 |false=>exact e
def yh7(d:PT X a tA):PW X (.BoolOp .Or [a] pos) tA:=by
 intro g b s f H Q I h;refine isTrue_or (Ed (d b s f H Q I h) λc s1 e=>?_);cases c with
 |false=>exact isTrue_or_nil e
 |true=>exact e
def yh6(i:PT X a tA)(j:PW X (.BoolOp .And (b::rest) pos) tB'):PW X (.BoolOp .And (a::b::rest) pos)$ ø tA tB':=by
 intro k d s g H Q I h;refine isTrue_and (Ed (i d s g H _ I h) λc s1 ſ=>?_);obtain⟨H1,e,f⟩:=ſ;cases c with
 |true=>exact j k d s1 g H1 Q e f
 |false=>exact⟨H1,e,f⟩
def Α(i:PT X a tA)(j:PW X (.BoolOp .Or (b::rest) pos) tB'):PW X (.BoolOp .Or (a::b::rest) pos)$ é tA tB':=by
 intro k d s g H Q I h;refine isTrue_or (Ed (i d s g H _ I h) λc s1 ſ=>?_);obtain⟨H1,e,f⟩:=ſ;cases c with
 |true=>exact⟨H1,e,f⟩
 |false=>exact j k d s1 g H1 Q e f
def yh3(c:PT X a tA):PT X (.UnaryOp .Not a pos)$ ğ tA:=by
 intro b s d H Q I h;exact isTrue_not (Ed (c b s d H _ I h) λ_ _ ⟨H1,i,q⟩=>⟨H1,i,q⟩)
noncomputable def N9(ta tb:TE):TE:=λb H Q=>ta b H λx a=>∃ c,x=.bl c/\if c=Ĳ then tb b a Q else Q (.bl Ε) a
noncomputable def Ģ(ta tb:TE):TE:=λb H Q=>ta b H λx a=>∃ c,x=.bl c/\if c=Ĳ then Q (.bl Ĳ) a else tb b a Q
noncomputable def ysg(ta:TE):TE:=λb H Q=>ta b H λx a=>∃ c,x=.bl c/\Q (.bl$ !c) a
def å{op}(h:PE X a t):PE X (.BoolOp op [a] pos) t:=λb s d H Q I c=>BoolOp_one$ h b s d H Q I c
def yha(i:PE X a ta)(j:PE X (.BoolOp .And (b::rest) pos) tb):PE X (.BoolOp .And (a::b::rest) pos)$ N9 ta tb:=by
 intro d s g H Q I h;refine BoolOp_and (Ed (i d s g H _ I h) λv s1 ſ=>?_);obtain⟨x,H1,f,k,e⟩:=ſ;obtain⟨c,rfl,e⟩:=e;cases k;refine md ?_;cases c with
 |true=>exact j d s1 g H1 Q f e
 |false=>exact⟨.bl Ε,H1,f,rfl,e⟩
def x9(i:PE X a ta)(j:PE X (.BoolOp .Or (b::rest) pos) tb):PE X (.BoolOp .Or (a::b::rest) pos)$ Ģ ta tb:=by
 intro d s g H Q I h;refine BoolOp_or (Ed (i d s g H _ I h) λv s1 ſ=>?_);obtain⟨x,H1,f,k,e⟩:=ſ;obtain⟨c,rfl,e⟩:=e;cases k;refine md ?_;cases c with
 |false=>exact j d s1 g H1 Q f e
 |true=>exact⟨.bl Ĳ,H1,f,rfl,e⟩
def yhg(f:PE X a ta):PE X (.UnaryOp .Not a pos)$ ysg ta:=by
 intro b s i H Q I h;refine UnaryOp_ (Ed (f b s i H _ I h) λv s1 ſ=>?_);obtain⟨x,H1,e,g,d⟩:=ſ;obtain⟨c,rfl,d⟩:=d;cases g;exact not_of$ md ⟨.bl _,H1,e,rfl,d⟩
noncomputable def S6(t:TT)(ta tb:TE):TE:=λa H Q=>t a H λc b=>if c=Ĳ then ta a b Q else tb a b Q
def P8(k:PT X c tA)(i:PE X a ta)(j:PE X b tb):PE X (.IfExp c a b pos)$ S6 tA ta tb:=by
 intro e s σ H Q I h;refine wpAny_IfExp (Ed (k e s σ H _ I h) λd s1 ſ=>?_);obtain⟨H1,f,g⟩:=ſ;cases d with
 |true=>exact i e s1 σ H1 Q f g
 |false=>exact j e s1 σ H1 Q f g
end
def Ue(K:W.Frag)(H:Hp)(a:Addr)(xs:n'):Prop:=
 Rd H a (.ra xs)\/
  ∃ (o:Obj) (b:Array Value) (n:Nat),K.lookup a=BD o/\o.cls=.type "list"/\o.dict=V6/\o.data=.seq b n/\b.size<=sizeLine/\ie xs b.toList
def Tg(K:W.Frag)(H:Hp)(a:Addr)(xs:n'):Prop:=
 Rd H a (.Qa xs)\/
  ∃ (o:Obj) (b:Array Value) (n:Nat),K.lookup a=BD o/\o.cls=.type "tuple"/\o.data=.seq b n/\b.size<=sizeLine/\ie xs b.toList
noncomputable def Q8:Value->Option V
 | .none=>BD .Zb
 | .bool b=>BD (.bl b)
 | .int i _=>BD (.int i)
 | .str x _=>BD (.str x)
 | .bytes b _=>BD (.QH b)
 | .float b _=>BD (.az b)
 | .ref a=>BD (.ref a)
 | .type n=>BD (.ty n)
 |_=>V6
theorem jd.abs(r:jd x u):Q8 u=BD x:=by
 cases x with
 |Zb=>cases r;rfl
 |bl _=>cases r;rfl
 |int _=>obtain⟨t,rfl⟩:=r;rfl
 |str _=>obtain⟨t,rfl⟩:=r;rfl
 |QH _=>obtain⟨t,rfl⟩:=r;rfl
 |az _=>obtain⟨t,rfl⟩:=r;rfl
 |ref _=>cases r;rfl
 |ty _=>cases r;rfl
def jd.inj(r:jd x u)(q:jd y u):x=y:=Nb$ r.abs.symm.trans q.abs
theorem ie.inj{xs a:n'}{us}(h:ie xs us)(g:ie a us):xs=a:=by
 induction h generalizing a with
 |nil=>cases g;rfl
 |cons r t i=>cases g with|cons b c=>rw[r.inj b,i c]
section
variable{X:Cx}{pins:List$ Addr × Obj}{σ:St}{H:Hp}{s:Shared}{a:Addr}{xs ys:n'}
def Ue.of{K}(h:H a=BD (.ra xs)):Ue K H a xs:=.inl$ .inl h
def Tg.of{K}(h:H a=BD (.Qa xs)):Tg K H a xs:=.inl$ .inl h
def db.list(I:db X pins σ H s)(h:Ue X.K H a xs):∃ b:gV,ie xs b/\PlainL s.heap a b.toArray/\xs.length<=sizeLine:=by
 rcases h with h|⟨o,b,n,f,c,d,g,i,r⟩
 ·obtain⟨z,b,n,r,e⟩:=h.ok I.Fc;exact⟨b,r,⟨_,n,e,rfl,rfl,rfl⟩,z⟩
 ·refine⟨b.toList,r,⟨o,n,I.Ai a o f,c,d,by simpa using g⟩,?_⟩;have e:=r.length
  simp_all
def db.tuple(I:db X pins σ H s)(h:Tg X.K H a xs):∃ b:gV,ie xs b/\IsTup s.heap a b.toArray/\xs.length<=sizeLine:=by
 rcases h with h|⟨o,b,n,d,c,f,g,r⟩
 ·obtain⟨z,b,r,p⟩:=h.ok I.Fc;exact⟨b,r,p,z⟩
 ·refine⟨b.toList,r,⟨o,I.Ai a o d,c,n,by simpa using f⟩,?_⟩;have e:=r.length
  simp_all
def db.xj(I:db X pins σ H s)(h:Ue X.K H a xs)(h':Ue X.K H a ys):xs=ys:=by
 obtain⟨b,r,⟨o,n,e,_,_,d⟩,_⟩:=I.list h;obtain⟨its',f,⟨i,g,c,_,_,d'⟩,_⟩:=I.list h';rw[e]at c;cases c;rw[d]at d';injection d' with d1 _;have:b=its':=by simpa using zb Array.toList d1
 subst this;exact r.inj f
def db.dt(I:db X pins σ H s)(h:Tg X.K H a xs)(h':Tg X.K H a ys):xs=ys:=by
 obtain⟨b,r,⟨o,e,_,n,d⟩,_⟩:=I.tuple h;obtain⟨its',f,⟨i,c,_,g,d'⟩,_⟩:=I.tuple h';rw[e]at c;cases c;rw[d]at d';injection d' with d1 _;have:b=its':=by simpa using zb Array.toList d1
 subst this;exact r.inj f
end
section
variable{X:Cx}{st:Stmt}{rest:List Stmt}{t u:TS}{e:Oa}{te:TE}{pos:Td}
noncomputable def G9:TS:=λD a H=>D.nx a H
noncomputable def O8(t u:TS):TS:=λD a H=>t { D with nx:=u D } a H
def IV:Ov X [] G9:=λb b a H b I h=>kj ⟨a,H,I,h⟩
def iV(e:PS X st t)(g:Ov X rest u):Ov X (st::rest)$ O8 t u:=by
 intro a s i H D I h;refine CF (Ed (e a s i H { D with nx:=u D } I h) λf s1 q=>?_);cases f with
 |next=>
  obtain⟨b,c,d,q⟩:=q;exact g a s1 b c D d q
 |ret v=>exact q
 |brk=>exact q
 |cont=>exact q
def ê(b:PS X st t):Ov X [st] t:=by
 intro a s c H D I h;refine CF (Ed (b a s c H D I h) λf s1 q=>?_);cases f with
 |next=>exact kj q
 |ret v=>exact q
 |brk=>exact q
 |cont=>exact q
def db.quiet(I:db X a b H s):interactive X.env=Ε:=by simp[interactive,I.ok.kind]
noncomputable def X2(te:TE):TS:=λD a H=>te a H λc b=>D.nx a b
def G6(d:PE X e te)(f:Ng e V6 pos.line X.env=pure Ε:=by rfl):PS X (.Expr e pos)$ X2 te:=by
 intro a s b H D I h;exact wpAny_Expr_any (Ed (d a s b H _ I h) λv s1 ⟨x,H1,c,i,g⟩=>⟨b,H1,c,g⟩) I.quiet f
noncomputable def Ŷ(te:TE):TS:=λD a H=>te a H D.rt
def yhz(d:PE X e te):PS X (.Return (BD e) pos)$ Ŷ te:=by
 intro a s b H D I h;exact wpAny_Return_some (Ed (d a s b H _ I h) λv s1 ⟨x,H1,c,g,f⟩=>⟨x,b,H1,c,g,f⟩)
noncomputable def ű(c:TT)(t u:TS):TS:=λD a H=>c a H λb d=>if b=Ĳ then t D a d else u D a d
def SQ(l:PT X c i)(j:Ov X a t)(k:Ov X b u):PS X (.If c a b pos)$ ű i t u:=by
 intro e s σ H D I h;refine wpAny_If (Ed (l e s σ H _ I h) λd s1 ſ=>?_);obtain⟨H1,f,g⟩:=ſ;cases d with
 |true=>exact j e s1 σ H1 D f g
 |false=>exact k e s1 σ H1 D f g
end
abbrev TG:=V->St->Hp->(St->Hp->Prop)->Prop
abbrev Iy:=n'->St->Hp->(St->Hp->Prop)->Prop
def PG(X:Cx)(a:Oa)(t:TG):Prop:=
 ∀ (b:List$ Addr × Obj) (s:Shared) (σ:St) (H:Hp) (v:V) (u:Value) (Q:St->Hp->Prop),db X b σ H s->jd v u->t v σ H Q->
  wpAny (model X.prog X.w) X.A (dj a X.env u) (λd c=>NP X b Q c) X.xe s
def cE(X:Cx)(d:List Oa)(t:Iy):Prop:=
 ∀ (a:List$ Addr × Obj) (s:Shared) (σ:St) (H:Hp) (b:n') (us:gV) (Q:St->Hp->Prop),db X a σ H s->ie b us->t b σ H Q->
  wpAny (model X.prog X.w) X.A (assignInOrder ((ge d X.env).map (·.2)) us) (λe c=>NP X a Q c) X.xe s
abbrev eG:=V->V->V->Hp->(Hp->Prop)->Prop
def GJ(X:Cx)(t:eG):Prop:=
 ∀ (a:List$ Addr × Obj) (s:Shared) (σ:St) (H:Hp) (o i v:V) (d c u:Value) (Q:Hp->Prop),db X a σ H s->jd o d->jd i c->jd v u->t o i v H Q->
  wpAny (model X.prog X.w) X.A (yq d c u) (λf e=>∃ b,db X a σ b e/\Q b) X.xe s
abbrev BI:=V->V->Hp->VK->Prop
def mM(X:Cx)(b:xk)(t:BI):Prop:=
 ∀ (a:List$ Addr × Obj) (s:Shared) (σ:St) (H:Hp) (x y:V) (v u:Value) (Q:VK),db X a σ H s->jd x v->jd y u->t x y H Q->
  wpAny (model X.prog X.w) X.A (NF b v u) (EP X a σ Q) X.xe s
section
variable{X:Cx}{pos:Td}
noncomputable def YU(i:Nat):TG:=λv a H Q=>Q (a.set i$ BD v) H
def Ô(c:X.N.Nodup)(e:X.N[i]?=BD x)(f:Loc X.env.scope x)(d:X.fn x=Ĳ\/X.env.scope.names.lookup x=BD .local:=by first|exact .inl rfl|exact .inr rfl|assumption):PG X (.Name x pos)$ YU i:=by
 intro a s j H v u Q I r h;exact zC$ mG I c e f r (λg b=>⟨_,H,b,h⟩) d
noncomputable def yvz:Iy:=λa b H Q=>a=[]/\Q b H
noncomputable def ynn(t:TG)(u:Iy):Iy:=λc d H Q=>∃ v r,c=v::r/\t v d H λa b=>u r a b Q
def zxp:cE X [] yvz:=by
 intro a s b H d c Q I r h;obtain⟨rfl,h⟩:=h;cases r;exact assignInOrder_nil ⟨b,H,I,h⟩
def J6(g:PG X e t)(i:cE X b u)
  (j:(ge (e::b) X.env).map (·.2)=dj e X.env::(ge b X.env).map (·.2):=by rfl):cE X (e::b)$ ynn t u:=by
 intro a s m H vs n Q I r h;obtain⟨v,o,f,h⟩:=h;subst f;cases r with
 |cons r l=>
  rw[j];refine assignInOrder_cons (Ed (g a s m H _ _ _ I r h) λp s1 ſ=>?_);obtain⟨c,H1,d,k⟩:=ſ;exact i a s1 c H1 _ _ Q d l k
noncomputable def F7(K:W.Frag)(n:Nat)(t:Iy):TG:=λv b H Q=>∃ a xs,v=.ref a/\Tg K H a xs/\xs.length=n/\t xs b H Q
def QZ(j:X.qc=Ĳ)(h:cE X d t)
  (m:(ge d X.env).length=n:=by rfl) (f:(ge d X.env).findIdx? (·.1)=V6:=by rfl):PG X (.Tuple d k pos)$ F7 X.K n t:=by
 intro c s σ H v u Q I r g;obtain⟨a,xs,rfl,p,l,g⟩:=g;cases r;obtain⟨x,y,q,z⟩:=I.tuple p;refine assign_Tuple_tuple (I.ok.hd j) q (by simp[m,<-l,y.length]) f λh' w=>?_;have i:db X c σ H { s with heap:=h' }:=I.kept λb o e=>w b o (Aa$ ya e) e;exact h c _ σ H xs _ Q i ⋯ g
noncomputable def Ű(f e:TE)(t:eG):TG:=λv a H Q=>f a H λo b=>e a b λi c=>t o i v c λd=>Q a d
def oM(p:PE X o f)(n:PE X i e)(q:GJ X t)
  (D:∀ v,dj (.Subscript o i pos) X.env v=(do
   let b <-qe [v] (Mb o X.env);let c <-qe [v,b] (Mb i X.env)
   oh pos
   qe [v,b,c] (yq b c v)
   NC [v,b,c] []):=by intro _;rfl):PG X (.Subscript o i pos)$ Ű f e t:=by
 intro a s d H v u Q I r h;refine aa$ Yb (Ed (p a s d H _ I h) λb s1 ſ=>?_);obtain⟨x,H1,k,B,w⟩:=ſ;refine aa$ Yb (Ed (n a s1 d H1 _ k w) λc s2 ſ=>?_);obtain⟨y,g,l,C,z⟩:=ſ;exact aa$ nt$ aa$ Yb (Ed (q a s2 d g x y v b c u _ l B C r z) λ_ s3 ⟨j,m,A⟩=>(wpAny_release ⟨d,j,m,A⟩))
noncomputable def xY(c:TE)(g:TG):TS:=λD a H=>c a H λx b=>g x a b D.nx
def cP(j:PE X e c)(k:PG X b g)(l:Sl [b] e pos.line X.env=pure Ε:=by rfl)(m:Tl [b] e X.env=pure V6:=by rfl)
  (i:(ge [b] X.env).map (·.2)=[dj b X.env]:=by rfl):PS X (.Assign [b] e pos)$ xY c g:=by
 intro a s d H D I h;refine wpAny_Assign_stores (Ed (j a s d H _ I h) λv s1 ſ=>?_) l m;obtain⟨x,H1,f,o,n⟩:=ſ;rw[i];exact Ed (k a s1 d H1 x v _ f o n) λp s2 q=>q
def yh0(g:X.N.Nodup)(l:X.N[i]?=BD x)(n:Loc X.env.scope x)(j:PE X e c)(m:Ng e (BD$ .Name x a) pos.line X.env=pure Ε:=by rfl)(k:X.fn x=Ĳ\/X.env.scope.names.lookup x=BD .local:=by first|exact .inl rfl|exact .inr rfl|assumption) :
  PS X (.Assign [.Name x a] e pos)$ xY c$ YU i:=by
 intro b s q H D I h;exact wpAny_Assign_Name (Ed (j b s q H _ I h) λv s1 ⟨y,H1,d,p,o⟩=>(mG d g l n p (λs2 f=>⟨_,H1,f,o⟩) k)) m
noncomputable def m5(i:Nat)(d:TE)(e:BI):TS:=λD a H=>∃ x,a[i]?=BD (BD x)/\d a H λy b=>e x y b λz c=>D.nx (a.set i$ BD z) c
def ľ(L:X.N.Nodup)(t:X.N[i]?=BD x)(n:Loc X.env.scope x)(ό:PE X e B)(T:mM X o C)(P:X.fn x=Ĳ\/X.env.scope.names.lookup x=BD .local:=by first|exact .inl rfl|exact .inr rfl|assumption) :
  PS X (.AugAssign (.Name x f) o e pos)$ m5 i B C:=by
 intro a s σ H D I h;obtain⟨v,K,h⟩:=h;obtain⟨m,S,Q⟩:=I.loc;have p:fD X.env.scope x:=by rcases n with k|k;exact .inl k;exact .inr$ .inl k
 obtain⟨u,r,l⟩:=Q i x v t K p;refine wpAny_AugAssign_Name ?_;have q:wpAny (model X.prog X.w) X.A (Mb e X.env) (λw g=>wpAny (model X.prog X.w) X.A (NF o u w) (λr j=>wpAny (model X.prog X.w) X.A (MF X.env x r) (λz=>SP X a D .next) X.xe j) X.xe g) X.xe s:=by
  exact Ed (ό a s σ H _ I h) λw s1 ⟨y,H1,F,W,ϋ⟩=>(Ed (T a s1 σ H1 v y u w _ F r W ϋ) λz s2 ⟨zv,E,G,Y,V⟩=>(mG G L t n Y (λϊ J=>⟨_,E,J,V⟩) P))
 rcases l with⟨b,R⟩|⟨b,c,M,d⟩
 ·exact jx I.ok.kind b S R q
 ·rcases b with b|b
  ·exact Qy I.ok.kind b M d q
  ·rcases n with k|k
   ·have:X.env.scope.names.lookup x=BD .free:=b;rw[k]at this;cases this
   ·have:X.env.scope.names.lookup x=BD .free:=b;rw[k]at this;cases this
noncomputable def YS(f:Int->Int->Int):BI:=λx y H Q=>∃ i j,x=.int i/\y=.int j/\Q (.int$ f i j) H
def lT:mM X .Add (YS λi j=>i+j):=by
 rintro a s f H x y v u Q I d e ⟨i,j,b,c,q⟩;subst b;subst c;obtain⟨t,rfl⟩:=d;obtain⟨t',rfl⟩:=e;exact iadd_int ⟨.int _,H,I.tok _,⟨_,rfl⟩,q⟩
end
structure It where
 go:Nat->Hp->Prop
 SA:Nat->Hp->V->Hp->Prop
 stop:Nat->Hp->Prop
def Sk(X:Cx)(a:List$ Addr × Obj)(H:Hp)(b:Addr):Prop:=
 H b=V6/\b≠X.env.locals/\b ∉ X.fs/\(b∈X.ex\/X.s₀.heap.objs.size<=b)/\(∀ x c,X.env.cells.lookup x=BD c->c≠b)/\∀ p∈X.pn++a,p.1≠b
def db.Bp(I:db X a i H s)(d:s.heap.objs.size<=b)(g:f b=V6):Sk X a f b:=by
 refine⟨g,Sd$ Ja I.lt d,I.vF d,.inr$ ib I.sz d,λx c e z=>?_,λp h z=>?_⟩
 ·obtain⟨v,q⟩:=I.cell x c e;exact absurd (Ja q.lt$ by simp_all)$ Vd _
 ·exact absurd (Ja (ya (I.pin p h).1)$ by simp_all)$ Vd _
structure lp(P:Ca)(w:Wa)(K:W.Frag)(tg:Oa)(J:It)(fp:dl)(it:Addr)(tn:Nat->Heap->Prop):Prop where
 mem:it∈fp
 obj:∀ i h,tn i h->∀ b∈fp,∃ o,h.get? b=BD o/\∀ v,o.data≠.cell v
 keep:∀ i h h',tn i h->(∀ b∈fp,∀ o,h.get? b=BD o->h'.get? b=BD o)->tn i h'
 item:∀ (X:Cx),X.prog=P->X.w=w->X.K=K->X.qc=Ĳ->∀ (i:Nat) (pins:lv) (s:Shared) (σ:St) (H:Hp) (E:Value->Shared->Prop),db X pins σ H s->(∀ b∈fp,Sk X pins H b)->tn i s.heap->J.go i H->
  wpAny (model P w) X.A (pyNext (.ref it)) (λr s1=>∃ u,r=BD u/\
   wpAny (model P w) X.A (letOwnedTupleGo tg (.ref it) u) (λa s2=>∃ x H',db X pins σ H' s2/\jd x u/\J.SA i H x H'/\tn (i+1) s2.heap/\∀ b∈fp,H' b=V6) E s1) E s
 done:∀ (X:Cx),X.prog=P->X.w=w->X.K=K->X.qc=Ĳ->∀ (i:Nat) (pins:lv) (s:Shared) (σ:St) (H:Hp) (E:Value->Shared->Prop),db X pins σ H s->(∀ b∈fp,Sk X pins H b)->tn i s.heap->J.stop i H->
  wpAny (model P w) X.A (pyNext (.ref it)) (λr s1=>r=V6/\db X pins σ H s1) E s
 self:∀ (A:Ra) (i:Nat) (s:Shared) (Q:Value->Shared->Prop) (E:Value->Shared->Prop),tn i s.heap->Q (.ref it) s->wpAny (model P w) A (pyIter (.ref it)) Q E s
abbrev TI:=St->Hp->(It->Hp->Prop)->Prop
def zY(X:Cx)(a:List$ Addr × Obj)(i:St)(h:Oa)(R:It->Hp->Prop)(d:Value)(s2:Shared):Prop:=
 ∃ (f:Addr) (e:dl) (g:Nat->Heap->Prop) (J:It) (c:Hp),d=.ref f/\db X a i c s2/\lp X.prog X.w X.K h J e f g/\g 0 s2.heap/\(∀ b∈e,Sk X a c b)/\R J c
def PI(X:Cx)(c b:Oa)(d:TI):Prop:=
 ∀ (a:List$ Addr × Obj) (s:Shared) (σ:St) (H:Hp) (R:It->Hp->Prop),db X a σ H s->d σ H R->
  wpAny (model X.prog X.w) X.A (Mb b X.env) (λv s1=>wpAny (model X.prog X.w) X.A (pyIter v) (zY X a σ c R) X.xe s1) X.xe s
def qN (f : s.heap.get? b = BD o) (d : o.cls = .type n) (e : o.data = .fields vs)
    (g : ["enumerate","zip","dict_itemiterator","dict_reverseitemiterator","odict_iterator","itertools.zip_longest","itertools.pairwise"].contains n = Ε) (a : Q () s) : wpAny M A (letOwnedTupleGo c (.ref b) u) Q E s := by
  cases c <;> first
    | exact da a
    | (cases u <;> first
        | exact da a
        | (refine aa$ om f ?_
           rw [d, e];show wpAny M A (if (["enumerate","zip","dict_itemiterator","dict_reverseitemiterator","odict_iterator","itertools.zip_longest","itertools.pairwise"].contains n && vs[0]? == BD _) = Ĳ then _ else _) Q E s;rw [qa ⋯];exact da a))
noncomputable def AN(K:W.Frag)(a:Addr):It:=
 ⟨λi H=>∃ xs x,Ue K H a xs/\xs[i]?=BD x,λi H x b=>b=H/\∀ xs,Ue K H a xs->xs[i]?=BD x,λi H=>∃ xs,Ue K H a xs/\xs.length<=i⟩
noncomputable def pL(K:W.Frag)(a:Addr):It:=
 ⟨λi H=>∃ xs x,Tg K H a xs/\xs[i]?=BD x,λi H x b=>b=H/\∀ xs,Tg K H a xs->xs[i]?=BD x,λi H=>∃ xs,Tg K H a xs/\xs.length<=i⟩
noncomputable def LM(lo:Int)(n:Nat):It:=⟨λi b=>i<n,λi H x a=>a=H/\x=.int (lo+i),λi b=>n<=i⟩
def R1{P:Ca}{w:Wa}{K:W.Frag}{S:Oa}(a j:Addr):lp P w K S (AN K a) [j] j (λi h=>h.IsListIter j a i) where
 mem:=by simp
 obj:=λi h st b g=>by
  have e:b=j:=by simpa using g
  subst e;obtain⟨o,e,c,d⟩:=st
  simp_all
 keep:=λi h h' st k=>st.at λo e=>k j ⋯ o e
 item:=by
  intro X A C z J i f s σ H E I m st B;subst A C z;obtain⟨xs,x,n,D⟩:=B;obtain⟨F,G,p,Q⟩:=I.list n;obtain⟨u,ϋ,R⟩:=G.get D;obtain⟨q,r,N,t,v,y⟩:=m j ⋯;refine wpAny_pyNext_list_item st p.isList (x:=u) ⋯ λh' l sb=>?_;have L:db X f σ H { s with heap:=h' }:=I.turned (λb o g e=>(sb.2 b g).trans e) q r t v y;obtain⟨o,e,c,d⟩:=id l;exact⟨u,rfl,qN e c d ⋯ ⟨x,H,L,R,⟨rfl,λV ό=>by rw[I.xj ό n];exact D⟩,l,λb g=>(m b g).1⟩⟩
 done:=by
  intro X A C z J i f s σ H E I m st B;subst A C z;obtain⟨xs,n,D⟩:=B;obtain⟨F,G,p,Q⟩:=I.list n;obtain⟨q,r,N,t,v,y⟩:=m j ⋯;have T:=G.length;exact wpAny_pyNext_list_end (I.ok.hd J) st p.isList (by simp;lia) λh' M=>⟨rfl,I.turned (t':=s.toks) (λb o g e=>M b o g e) q r t v y⟩
 self:=λO O O O O st h=>wpAny_pyIter_listiter st h
def zf1{P:Ca}{w:Wa}{K:W.Frag}{S:Oa}(a j:Addr):lp P w K S (pL K a) [j] j (λi h=>h.IsTupleIter j a i) where
 mem:=by simp
 obj:=λi h st b g=>by
  have e:b=j:=by simpa using g
  subst e;obtain⟨o,e,c,d⟩:=st
  simp_all
 keep:=λi h h' st k=>st.at λo e=>k j ⋯ o e
 item:=by
  intro X B D A J i f s σ H E I n st C;subst B D A;obtain⟨xs,x,q,F⟩:=C;obtain⟨l,G,p,Q⟩:=I.tuple q;obtain⟨u,ϋ,R⟩:=G.get F;obtain⟨r,t,N,v,y,z⟩:=n j ⋯;refine wpAny_pyNext_tuple_item st (show s.heap.IsTuple a l.toArray from p) (x:=u) ⋯ λh' m sb=>?_;have L:db X f σ H { s with heap:=h' }:=I.turned (λb o g e=>(sb.2 b g).trans e) r t v y z;obtain⟨o,e,c,d⟩:=id m;exact⟨u,rfl,qN e c d ⋯ ⟨x,H,L,R,⟨rfl,λV ό=>by rw[I.dt ό q];exact F⟩,m,λb g=>(n b g).1⟩⟩
 done:=by
  intro X B D A J i f s σ H E I n st C;subst B D A;obtain⟨xs,q,F⟩:=C;obtain⟨l,G,p,Q⟩:=I.tuple q;obtain⟨r,t,N,v,y,z⟩:=n j ⋯;have T:=G.length;exact wpAny_pyNext_tuple_end (I.ok.hd J) st (show s.heap.IsTuple a l.toArray from p) (by simp;lia) λh' M=>⟨rfl,I.turned (t':=s.toks) (λb o g e=>M b o g e) r t v y z⟩
 self:=λO O O O O st h=>wpAny_pyIter_tupleiter st h
def Q2{P:Ca}{w:Wa}{K:W.Frag}{J:Oa}(c:Addr)(lo:Int)(n:Nat):lp P w K J (LM lo n) [c] c (λi h=>IsRangeIter h c (lo+(i:Nat) * 1) ((n:Int) - (i:Nat)) 1) where
 mem:=by simp
 obj:=λi h st b d=>by
  simp_all
 keep:=λi h h' st k=>k c ⋯ _ st
 item:=by
  intro X u z r x i a s σ H E I g st y;subst u z r;obtain⟨j,l,D,m,p,q⟩:=g c ⋯;refine(Walks.range (I.ok.hd x) c lo 1 n).item i s _ _ y st λv h' A F f G=>?_;obtain⟨t,rfl⟩:=F;have B:db X a σ H { s with heap:=h',toks:=A }:=I.turned (λb o d e=>G b o ⋯ e) j l m p q;refine⟨_,rfl,qN (s:={ s with heap:=h',toks:=A }) (n:="range_iterator") f rfl rfl ⋯ ⟨.int _,H,B,⟨t,?_⟩,⟨rfl,rfl⟩,f,λb d=>(g b d).1⟩⟩;simp
 done:=by
  intro X u z r x i a s σ H E I g st y;subst u z r;obtain⟨j,l,D,m,p,q⟩:=g c ⋯;exact wpAny_pyNext_range_end (I.ok.hd x) st (by have:n<=i:=y;lia) λh' C=>⟨rfl,I.turned (t':=s.toks) (λb o d e=>C b o d e) j l m p q⟩
 self:=λv v v v v st h=>wpAny_pyIter_rangeiter st h
section
variable{X:Cx}{tg:Oa}
def Ŝ{lo a}(I:db X c f H s)(j:-(2 ^ 62)<=lo)(k:lo<2 ^ 62)(l:-(2 ^ 62)<=a)(m:a<2 ^ 62)
  (q:R (LM lo (a - lo).toNat) H):wpAny (model X.prog X.w) X.A (pyIter$ .ref s.heap.objs.size) (zY X c f tg R) E { s with heap:=s.heap.push { cls:=.type "range",data:=.fields #[.int lo t,.int a u,.int 1 v] },toks:=g }:=by
 refine wpAny_pyIter_range (IsRange.new ..) (small_one j k l m) ?_;have d:db X c f H { s with heap:=s.heap.push { cls:=.type "range",data:=.fields #[.int lo t,.int a u,.int 1 v] },toks:=g }:=I.kept λb o e=>ga _ e;refine⟨(s.heap.push { cls:=.type "range",data:=.fields #[.int lo t,.int a u,.int 1 v] }).objs.size,[(s.heap.push { cls:=.type "range",data:=.fields #[.int lo t,.int a u,.int 1 v] }).objs.size],_,_,H,rfl,
  d.kept λb o e=>ga _ e,Q2 _ lo (a - lo).toNat,?_,λb n=>?_,q⟩
 ·have h:lo+(0:Nat) * 1=lo:=by simp
  have i:((a - lo).toNat) - (0:Nat)=OF lo a 1:=by rw[rangeSize_one];split<;>lia
  rw[h,i];exact Da _ rfl
 ·have e:b=(s.heap.push { cls:=.type "range",data:=.fields #[.int lo t,.int a u,.int 1 v] }).objs.size:=by simpa using n
  subst e;exact d.Bp (ua _)$ d.Fc.fresh$ ua _
def o6(b:TA):TI:=λd H R=>b d H λc a=>∃ j:Int,c=[.int j]/\-(2 ^ 62)<=j/\j<2 ^ 62/\R (LM 0 j.toNat) a
def SZ(i:Gl X "range")(k:X.mg "range" = V6)(g:PA X [a] e)(l:va [a] X.env=[(Ε,Mb a X.env)]:=by rfl):PI X tg (.Call (.Name "range" p) [a] [] c)$ o6 e:=by
 intro b s u H R I h;refine Call_$ gy I i k boot_range$ De (Ed (g c b s u H _ I h) λus s1 ſ=>?_) l rfl;obtain⟨v,H1,f,n,d⟩:=ſ;obtain⟨j,rfl,d,m,q⟩:=d;cases n with
 |cons r o=>
  cases o;obtain⟨t,rfl⟩:=r;exact call_range_1$ Ŝ f ⋯ ⋯ d m ⋯
noncomputable def Ũ(k:TI)(g:TG)(j:TS):TS:=λD a H=>k a H λJ f=>∃ W:Nat->Nat->St->Hp->Prop,(∃ m,W 0 m a f)/\∀ i m a H,W i m a H->
 (J.stop i H/\D.nx a H)\/(J.go i H/\∃ N:St->Hp->Prop,(∀ c b,N c b->∃ e,e<m/\W (i+1) e c b)/\∀ x b,J.SA i H x b->g x a b λd h=>j { D with nx:=N,ct:=N,bk:=D.nx } d h)
noncomputable def YC(a:dl)(h:Heap):List$ Addr × Obj:=a.filterMap λb=>(h.get? b).map λo=>(b,o)
def SG(c:b∈a)(e:h.get? b=BD o):(b,o)∈YC a h:=Uj.mpr ⟨b,c,by rw[e];rfl⟩
def h9(d:p∈YC a h):p.1∈a/\h.get? p.1=BD p.2:=by
 obtain⟨b,f,e⟩:=Uj.mp d;cases q:h.get? b with
 |none=>simp_all
 |some o=>
  rw[q]at e;have c:=Nb e;subst c
  simp_all
def db.pinned(I:db X a g H s)(h:∀ b∈c,Sk X a H b)(i:∀ b∈c,∃ o,s.heap.get? b=BD o/\∀ v,o.data≠.cell v):db X (a++YC c s.heap) g H s:=
 I.qi λp j=>(kc.mp j).elim (λz=>I.pin p$ Ya _ z) λz=>by
  obtain⟨f,e⟩:=h9 z;obtain⟨l,m,n,_⟩:=h p.1 f;obtain⟨o,k,d⟩:=i p.1 f
  simp_all
def db.oj(I:db X (a++pl) b H s):db X a b H s:=I.qi λp c=>I.pin p$ Ya _$ eb _ c
def UR{V}(L:qo (model X.prog X.w) X.A X.env X.xe)(hc:X.qc=Ĳ)(hi:PI X tg q wi)(hg:PG X tg g)(p:Ov X C tb)
  (hs:∀ x,ye q X.env x=pure x:=by intro _;rfl):PS X (.For tg q C [] V)$ Ũ wi g tb:=by
 intro a s σ H D I h;refine wpAny_For (Ed (hi a s σ H _ I h) λv s1 h1=>Ed h1 λa1 s2 h2=>?_) hs;obtain⟨it,G,tn,J,H2,e,I2,T,ϊ,f2,W,⟨m0,w0⟩,Q⟩:=h2;subst e;have t:∀ {B:Hp},(∀ b∈G,B b=V6)->∀ b∈G,Sk X a B b:=λhn b p=>⟨hn b p,(f2 b p).2⟩
 refine codeAny_forLoop_any (λn s'=>∃ i y B,db X a y B s'/\tn i s'.heap/\(∀ b∈G,B b=V6)/\W i n y B) ?_ m0 ⟨0,σ,H2,I2,ϊ,λb p=>(f2 b p).1,w0⟩;rintro n s3 ⟨i,z,R,I3,ό,K,w3⟩;rcases Q i n z R w3 with⟨P,qn⟩|⟨go,N,hN,step⟩
 ·refine Zg L (Ed (T.done X rfl rfl rfl hc i a s3 z R X.xe I3 (t K) ό P) λr s4 ⟨ϋ,I4⟩=>?_);subst ϋ;exact kj ⟨z,R,I4,qn⟩
 ·refine Zg L (Ed (T.item X rfl rfl rfl hc i a s3 z R X.xe I3 (t K) ό go) λr s4 ſ=>?_);obtain⟨u,ϋ,h4⟩:=ſ;subst ϋ;refine Zg L (Ed h4 λr s5 ſ=>?_);obtain⟨x,H5,I5,r5,y5,F,S⟩:=ſ;refine Zg L (Ed (hg _ s5 z H5 x u _ (I5.pinned (t S)$ T.obj _ _ F) r5$ step x H5 y5) λ_ s6 ⟨a0,H6,I6,q6⟩=>(Zg L$ Ed (p _ s6 a0 H6 _ I6 q6) λf Y E=>?_));have l:∀ {c:St} {j:Hp},db X (a++YC G s5.heap) c j Y->N c j->∃ m,m<n/\∃ i y B,db X a y B Y/\tn i Y.heap/\(∀ b∈G,B b=V6)/\W i m y B:=fun {c j} k M=>by
   obtain⟨m',hm,w7⟩:=hN c j M;refine⟨m',hm,i+1,c,j,k.oj,T.keep _ _ _ F λb p o e=>(k.pin (b,o)$ Ya _$ Ya _$ SG p e).1,λb p=>?_,w7⟩;obtain⟨o,e,d⟩:=T.obj _ _ F b p;exact(k.pin _$ Ya _$ Ya _$ SG p e).2.1
  cases f with
  |next=>obtain⟨c,j,k,M⟩:=E;exact l k M
  |cont=>obtain⟨c,j,k,M⟩:=E;exact l k M
  |brk=>obtain⟨c,j,k,E⟩:=E;exact⟨c,j,k.oj,E⟩
  |ret v=>obtain⟨x7,c,j,k,r7,E⟩:=E;exact⟨x7,c,j,k.oj,r7,E⟩
end
abbrev R2:=V->V->Hp->VK->Prop
def zh(X:Cx)(f:Value->Value->Wm Value)(r:R2):Prop:=
 ∀ (a:List$ Addr × Obj) (s:Shared) (σ:St) (H:Hp) (x y:V) (v u:Value) (Q:VK),db X a σ H s->jd x v->jd y u->r x y H Q->
  wpAny (model X.prog X.w) X.A (f v u) (EP X a σ Q) X.xe s
def WH(X:Cx)(f:Value->Wm Value)(r:V->Hp->VK->Prop):Prop:=
 ∀ (a:List$ Addr × Obj) (s:Shared) (σ:St) (H:Hp) (x:V) (v:Value) (Q:VK),db X a σ H s->jd x v->r x H Q->
  wpAny (model X.prog X.w) X.A (f v) (EP X a σ Q) X.xe s
def Ao(X:Cx)(f:Value)(r:n'->Hp->VK->Prop):Prop:=
 ∀ (a:List$ Addr × Obj) (s:Shared) (σ:St) (H:Hp) (xs:n') (us:gV) (Q:VK),db X a σ H s->ie xs us->r xs H Q->
  wpAny (model X.prog X.w) X.A (call f us) (EP X a σ Q) X.xe s
noncomputable def mB(r:R2)(d e:TE):TE:=λa H Q=>d a H λx b=>e a b λy c=>r x y c Q
def tUn(r:V->Hp->VK->Prop)(b:TE):TE:=λc H Q=>b c H λx a=>r x a Q
def rI(C:Int->Int->Prop)(g:Int->Int->V):R2:=λx y H Q=>∃ i j,x=.int i/\y=.int j/\C i j/\Q (g i j) H
noncomputable def Tq(g:Int->Int->V):R2:=λx y H Q=>∃ i j,x=.int i/\y=.int j/\Q (g i j) H
def rU(g:Int->V):V->Hp->VK->Prop:=λx H Q=>∃ i,x=.int i/\Q (g i) H
section
variable{X:Cx}{a b c:Oa}{ta tb tc:TE}{pos:Td}
def VO(m:PE X a ta)(n:PE X b tb){c}{R:V->V->Hp->Prop}(I:db X c e H s)
  (h:ta e H λx j=>tb e j λy d=>R x y d) {f:Value->Value->Wm Value}
  (o:∀ v u s2 x y d,db X c e d s2->jd x v->jd y u->R x y d->wpAny (model X.prog X.w) X.A (f v u) Q X.xe s2) :
  wpAny (model X.prog X.w) X.A (Mb a X.env) (λv g=>wpAny (model X.prog X.w) X.A (Mb b X.env) (λu i=>wpAny (model X.prog X.w) X.A (f v u) Q X.xe i) X.xe g) X.xe s:=by
 exact Ed (m c s e H _ I h) λv s1 ⟨x,j,k,r,p⟩=>(Ed (n c s1 e j _ k p) λu s2 ⟨y,d,l,t,q⟩=>(o v u s2 x y d l r t q))
def B5(j:zh X (Je d) r)(g:PE X a ta)(i:PE X b tb):PE X (.BinOp a d b pos)$ mB r ta tb:=by
 intro c s m H Q I h;exact wpAny_BinOp (VO g i I h λv u s2 x y e f k l q=>j c s2 m e x y v u Q f k l q)
def Ü{c}(g:WH X (unaryOp c) r)(f:PE X a ta):PE X (.UnaryOp c a pos)$ tUn r ta:=by
 intro b s d H Q I h;exact UnaryOp_ (Ed (f b s d H _ I h) λv s1 ⟨x,H1,e,j,i⟩=>g b s1 d H1 x v Q e j i)
def XG{g:Int->Int->Int}
  (a:∀ i j t u s Q E,C i j->Q (.int (g i j) s.toks) { s with toks:=s.toks+1 }->wpAny (model X.prog X.w) X.A (f (.int i t)$ .int j u) Q E s) :
  zh X f (rI C λi j=>.int$ g i j):=by
 rintro b s σ H x y v u Q I d e ⟨i,j,rfl,rfl,c,q⟩;obtain⟨t,rfl⟩:=d;obtain⟨t',rfl⟩:=e;exact a i j t t' s _ _ c ⟨.int _,H,I.tok _,⟨_,rfl⟩,q⟩
def CQ{g:Int->Int->Int}
  (a:∀ i j t u s Q E,Q (.int (g i j) s.toks) { s with toks:=s.toks+1 }->wpAny (model X.prog X.w) X.A (f (.int i t)$ .int j u) Q E s) :
  zh X f (Tq λi j=>.int$ g i j):=by
 rintro b s e H x y v u Q I c d ⟨i,j,rfl,rfl,q⟩;obtain⟨t,rfl⟩:=c;obtain⟨t',rfl⟩:=d;exact a i j t t' s _ _ ⟨.int _,H,I.tok _,⟨_,rfl⟩,q⟩
def uI{g:Int->Int->Bool}
  (a:∀ i j t u s Q E,Q (.bool$ g i j) s->wpAny (model X.prog X.w) X.A (f (.int i t)$ .int j u) Q E s) :
  zh X f (Tq λi j=>.bl$ g i j):=by
 rintro b s e H x y v u Q I c d ⟨i,j,rfl,rfl,q⟩;obtain⟨t,rfl⟩:=c;obtain⟨t',rfl⟩:=d;exact a i j t t' s _ _ ⟨.bl _,H,I,rfl,q⟩
def MR(i j:Int):Prop:=0<j/\j<1073741824
def xR(i j:Int):Prop:=0<=j/\j<=1000000/\i.natAbs<2 ^ 64
def zG(i j:Int):Prop:=(-(2 ^ 64)<i/\i<2 ^ 64)\/(-(2 ^ 64)<j/\j<2 ^ 64)
def zG.ok(h:zG i j):IntMulOk i j:=by
 rcases h with⟨a,b⟩|⟨a,b⟩
 ·exact .of_left$ sZ a b
 ·exact .of_right$ sZ a b
def ygt:zh X (Je .Add) (Tq λi j=>.int$ i+j):=CQ λa a a a a a a q=>add_int q
def yg6:zh X (Je .Sub) (Tq λi j=>.int$ i - j):=CQ λa a a a a a a q=>sub_int q
def ă:zh X (Je .Mult) (rI zG λi j=>.int$ i * j):=XG λb b b b b b b a q=>mul_int q a.ok
def zxc:zh X (Je .FloorDiv) (rI MR λi j=>.int$ i / j):=XG λi j d d d d d a q=>by
 have b:(0:Int)<j:=a.1;have c:j<1073741824:=a.2;exact floordiv_int ⋯ (by rw[Int.fdiv_eq_ediv_of_nonneg i ⋯];exact q)$ .inl$ PyProof.noPylong_small ⋯
def ũ:zh X (Je .Mod) (rI (λb j=>0<j) λi j=>.int$ i % j):=XG λi j b b b b b a q=>by
 exact mod_int' ⋯ (by rw[Int.fmod_eq_emod_of_nonneg i ⋯];exact q)
def yg5:zh X (Je .Pow) (rI xR λi j=>.int$ i ^ j.toNat):=XG λb b b b b b b a q=>pow_int_small a.1 a.2.1 a.2.2 q
def Ξ{g:Int->Int}
  (a:∀ i t s Q E,Q (.int (g i) s.toks) { s with toks:=s.toks+1 }->wpAny (model X.prog X.w) X.A (f$ .int i t) Q E s) :
  WH X f (rU λi=>.int$ g i):=by
 rintro b s d H x v Q I c ⟨i,rfl,q⟩;obtain⟨t,rfl⟩:=c;exact a i t s _ _ ⟨.int _,H,I.tok _,⟨_,rfl⟩,q⟩
def R4:WH X (unaryOp .USub) (rU λi=>.int$ -i):=Ξ λd d d d d q=>neg_int q
end
section
variable{X:Cx}{a b c:Oa}{ta tb tc:TE}{pos:Td}
def aY{a}{c}{k b}(I:db X a c H s)(q:Q (.bl k) H)(e:k=b):EP X a c Q (.bool b) s:=by
 subst e;exact⟨.bl k,H,I,rfl,q⟩
def BN:zh X (Gb .Lt) (Tq λi j=>.bl$ decide$ i<j):=uI λa a a a a a a q=>lt_int q
def hH:zh X (Gb .LtE) (Tq λi j=>.bl$ decide$ i<=j):=uI λa a a a a a a q=>le_int q
def DT:zh X (Gb .Gt) (Tq λi j=>.bl$ decide$ j<i):=uI λa a a a a a a q=>gt_int q
def ZN:zh X (Gb .GtE) (Tq λi j=>.bl$ decide$ j<=i):=uI λa a a a a a a q=>ge_int q
theorem UV:zh X (Gb .Is) (λx y H Q=>y=.Zb/\Q (.bl$ decide$ x=.Zb) H):=by
 rintro a s d H x y v u Q I b c ⟨rfl,q⟩;cases c;refine is_none_gen$ aY I q ?_;cases x<;>first
  |(cases b;rfl)
  |(obtain⟨t,rfl⟩:=b;rfl)
theorem GQ:zh X (Gb .IsNot) (λx y H Q=>y=.Zb/\Q (.bl$ !decide (x=.Zb)) H):=by
 rintro a s d H x y v u Q I b c ⟨rfl,q⟩;cases c;refine isnot_none_gen$ aY I q ?_;cases x<;>first
  |(cases b;rfl)
  |(obtain⟨t,rfl⟩:=b;rfl)
def Wn b{a}(h:a≠.In:=by decide)(e:a≠.NotIn:=by decide):ee a b=Ε:=by
 have c:(a == sP)=Ε:=by cases a<;>first|rfl|exact absurd rfl h
 have d:(a == MC)=Ε:=by cases a<;>first|rfl|exact absurd rfl e
 cases b<;>simp[ee,c,d]
def ï(k:zh X (Gb d) r)(g:PE X a ta)(i:PE X b tb)(j:ee d b=Ε):PE X (.Compare a [d] [b] pos)$ mB r ta tb:=by
 intro c s n H Q I h;exact wpAny_Compare1 (VO g i I h λv u s2 x y e f l m q=>k c s2 n e x y v u Q f l m q) j
noncomputable def F5(t:TE):TT:=λb H Q=>t b H λx a=>∃ k,x=.bl k/\Q k a
def YO(t:zh X (Gb f) r)(o:PE X a ta)(p:PE X b tb)(q:ee f b=Ε):PT X (.Compare a [f] [b] pos)$ F5$ mB r ta tb:=by
 intro d s g H Q I h;refine aw (Ed (o d s g H _ I h) λv s1 ⟨x,H1,l,C,w⟩=>Ed (p d s1 g H1 _ l w) λu s2 ⟨y,i,m,D,A⟩=>
  Ed (t d s2 g i x y v u _ m C D A) λc s3 ⟨z,j,n,E,k,e,B⟩=>?_) q
 subst e;cases E;exact md ⟨j,n,B⟩
noncomputable def yji(r f:R2)(ta tb tc:TE):TE:=λa H Q=>ta a H λx c=>tb a c λy d=>r x y d λz b=>∃ k,z=.bl k/\
 (if k=Ĳ then tc a b λg e=>f y g e Q else Q (.bl Ε) b)
def ş(G:zh X (Gb j) r)(i:zh X (Gb g) o)(C:PE X a ta)(D:PE X b tb)(E:PE X c tc)
  (F:lastMarks [j,g] [b,c]=Ε:=by with_unfolding_all rfl):PE X (.Compare a [j,g] [b,c] pos)$ yji r o ta tb tc:=by
 intro f s σ H Q I h;refine Compare_chain (Ed (C f s σ H _ I h) λv s1 ⟨x,H1,w,M,J⟩=>chain_link (Ed (D f s1 σ H1 _ w J) λu s2 ⟨y,q,A,p,K⟩=>
  Ed (G f s2 σ q x y v u _ A M p K) λd s3 ⟨z,l,m,N,k,e,n⟩=>?_)) F
 subst e;cases N;refine md ?_;cases k with
 |false=>exact ite_ff ⟨.bl Ε,l,m,rfl,n⟩
 |true=>exact ite_tt$ chain_last (Ed (E f s3 σ l _ m n) λP s4 ⟨R,t,B,ό,L⟩=>i f s4 σ t y R u P Q B p ό L)
def EG: sizeLine <2 ^ 63:=by rw[kx];decide
def U6:zh X (Je .Add) (λx y H Q=>∃ i j,x=.str i/\y=.str j/\i.length+j.length<=sizeLine/\Q (.str$ i++j) H):=by
 rintro a s f H x y v u Q I c d ⟨i,j,rfl,rfl,b,q⟩;obtain⟨t,rfl⟩:=c;obtain⟨t',rfl⟩:=d;exact add_str (λt' e=>⟨.str _,H,I.tok _,⟨_,rfl⟩,q⟩) b
def Cs{a}(r:ie [x] a):∃ u,a=[u]/\jd x u:=by
 cases r with
 |cons b c=>cases c;exact⟨_,rfl,b⟩
def P9{a}(r:ie [x,y] a):∃ u b,a=[u,b]/\jd x u/\jd y b:=by
 cases r with
 |cons c d=>
  cases d with
  |cons e f=>cases f;exact⟨_,_,rfl,c,e⟩
end
structure zq(h:Heap)(x dx C:Addr)(mA:Str->Option Value):Prop where
 obj:h.get? x=BD (W.instObj C dx)
 ns:h.Ns1 dx mA
 ne:dx≠x
set_option tactic.hygienic true in
def Ĝ{h:Heap}(n:h.Ns1 d f):∃ g,h.get? d=BD g/\∀ b,W.lookIn b g=BD (f b):=by
 obtain⟨o,i,r,m,j,k,_,l⟩:=n;refine⟨o,m,λb=>?_⟩;have e:=l b;unfold nsFind findBy at e;rw[<-Array.find?_toList]at e;unfold W.lookIn;rw[j];dsimp only;split
 ·rename_i y q
  simp_all
 ·rename_i q
  rw[q]at e;have a:i.toList.any (·.refKey)=Ε:=by
   rw[Kk];intro y p;obtain⟨z,t,c⟩:=k y (Array.mem_toList_iff.mp p);simp[zaF,c]
  simp_all
def zq.look(I:zq h x c C d):∃ b,W.InstAt h x (W.instObj C c) C (BD b)/\∀ a,W.lookIn a b=BD (d a):=
 let ⟨b,f,e⟩:=Ĝ I.ns
 ⟨b,⟨I.obj,rfl,rfl,f⟩,e⟩
section
variable{prog:Ca}{w:Wa}{A:Ra}{E:Value->Shared->Prop}{s:Shared}{K:W.Frag}{x dx C f:Addr}{mA:Str->Option Value}{name:Str}{v:Value}
def ú(X:K.In s.heap)(I:zq s.heap x dx C mA)(d:W.plainGet K C name=Ĳ)(e:W.hasDictIn K C=Ĳ)
  (c:W.findIn K (.ref C) name=BD V6) (g:mA name=BD v) (b:W.handedIn v=Ĳ) (h:Q v { s with toks:=s.toks+1 }) :
  wpAny (model prog w) A (getAttr (.ref x) name a) Q E s:=by
 obtain⟨i,J,f⟩:=I.look;exact W.get_value X J (W.plainGet_of d).1 (W.findObj_own e c rfl$ by simp_all) b h
def zmm(X:K.In s.heap)(I:zq s.heap x dx C mA)(a:W.plainGet K C name=Ĳ)
  (b:W.findIn K (.ref C) name=BD (BD$ .ref f)) (d:W.isFn K (.ref f)=Ĳ) (e:mA name=V6) (h:Q (.ref f,[.ref x]) s) :
  wpAny (model prog w) A (Ki (.ref x) name pl) Q E s:=by
 obtain⟨g,J,c⟩:=I.look;exact W.method_fn X J (W.plainGet_of a).1 (W.plainGet_of a).2 b (Wh.mp d) (by show (W.lookIn name g).map (·.isSome)=BD Ε;rw[c,e];rfl) h
def A5(X:K.In s.heap)(I:zq s.heap x dx C mA)
  (p:W.findIn K (.ref C) "__setattr__" = BD (BD$ .builtin "object.__setattr__")) (o:W.plainOver K C=Ĳ) (t:W.takerIn K C name=BD V6) (n:W.hasDictIn K C=Ĳ)
  (u:PySem.Within mA j) (q:j.length<=sizeLine)
  (h:∀ h',zq h' x dx C (λy=>if y=name then BD v else mA y)->Zc dx s.heap h'->Q () { s with heap:=h',toks:=s.toks+2 }) :
  wpAny (model prog w) A (setAttr (.ref x) name v) Q E s:=by
 obtain⟨F,J,D⟩:=I.look;refine W.set_plain X J p (W.osa_open (s:={ s with toks:=s.toks+1 }) (r:=V6) X J o t λb=>?_);obtain⟨B,m,f⟩:=W.any_some n;have z:s.heap.get? x=BD ⟨.ref C,BD dx,.plain,#[]⟩:=I.obj;refine aa$ da$ aa$ aa$ wpAny_loadPart z$ aa$ W.Looks.here (s:={ s with toks:=s.toks+1 }) (W.looks_clsIn X m) ?_;rw[f];refine da (a:=BD dx)$ aa$ da$ aa (wpAny_nsSet1 (s:={ s with toks:=s.toks+1 }) I.ns λh' c d=>?_);obtain⟨oD,l,k,i,g,e⟩:=c.count (iJ name v u);refine aa$ wpAny_lookBehind i (by rw[g];exact pastItsLine_dict$ ib e (by rw[gb];lia)) ?_;exact da$ h _ ⟨(d.2 _$ Jd I.ne).trans I.obj,c,I.ne⟩ d
def U8(X:K.In s.heap)(j:W.makesIn K C=Ĳ)
  (i:W.findIn K (.ref C) "__init__" = BD (BD$ .ref f)) (e:W.typeIn K (.ref f)=BD (.type "function"))
  (h:codeAny (model prog w) (A.under$ .builtin "type.__call__" ⟨.ref C::c,b⟩) (.call (.ref f) ⟨.ref (s.heap.objs.size+1)::c,b⟩) (W.InitBack (s.heap.objs.size+1) R)
   { s with heap:=(s.heap.push W.emptyDict).push (W.instObj C s.heap.objs.size) }) :
  codeAny (model prog w) A (.call (.ref C) ⟨c,b⟩) R s:=by
 obtain⟨k,g,d,t,l⟩:=s;exact W.make_core (W.makes_of X j) (W.looks_findIn X i) (λa=>W.bind_fn X a e) (.inl rfl) h
end
noncomputable def dn(f:Str)(v:V):List (Str × V)->List (Str × V)
 |[]=>[(f,v)]
 |(g,x)::r=>if g=f then (g,v)::r else (g,x)::dn f v r
theorem ZP(f g:Str)(v:V):∀ c:List$ Str × V,(dn f v c).lookup g=if g=f then BD v else c.lookup g
 |[]=>by
  show List.lookup g [(f,v)]=_;by_cases h:g=f;all_goals simp_all
 |(k,x)::r=>by
  rw[show dn f v _=(if k=f then (k,v)::r else (k,x)::dn f v r)from rfl];by_cases b:k=f
  ·rw[ka b];by_cases h:g=k
   ·have a:=Wh.mpr h
    simp_all
   ·have a:(g == k)=Ε:=ce.mpr h;simp[List.lookup,a,qa (λe:g=f=>h$ e.trans b.symm)]
  ·rw[qa b];by_cases h:g=k
   ·have a:=Wh.mpr h
    simp_all
   ·have a:(g == k)=Ε:=ce.mpr h;simp[List.lookup,a];exact(ZP f g v r)
theorem LJ(f:Str)(v:V):∀ a:List$ Str × V,f∈(dn f v a).map (·.1)/\∀ g,g∈a.map (·.1)->g∈(dn f v a).map (·.1)
 |[]=>⟨by simp[dn],λg h=>by simp at h⟩
 |(k,x)::r=>by
  obtain⟨c,d⟩:=LJ f v r;rw[show dn f v ((k,x)::r)=(if k=f then (k,v)::r else (k,x)::dn f v r)from rfl];by_cases b:k=f
  ·rw[ka b];subst b;simp
  ·rw[qa b];refine⟨?_,λg h=>?_⟩
   ·rw[Ta];exact ja _ c
   ·rw[Ta]at h ⊢;rcases za.mp h with e|e
    ·exact za.mpr$ .inl e
    ·exact ja _$ d g e
theorem JP(f:Str)(v:V):∀ a:List$ Str × V,(dn f v a).length<=a.length+1
 |[]=>by simp[dn]
 |(k,x)::r=>by
  have c:=JP f v r;rw[show dn f v _=(if k=f then (k,v)::r else (k,x)::dn f v r)from rfl];by_cases b:k=f;all_goals simp_all
def Tn.some_of(r:Tn (BD v) o):∃ u,o=BD u/\jd v u:=by
 cases o with
 |none=>exact(r).elim
 |some u=>exact⟨u,rfl,r⟩
def Tn.none_of(r:Tn V6 o):o=V6:=by
 cases o with
 |none=>rfl
 |some u=>exact(r).elim
theorem Z0(r:jd v u):W.handedIn u=Ĳ:=by
 cases v with
 |Zb=>cases (r);rfl
 |bl b=>cases (r);rfl
 |int i=>obtain⟨t,e⟩:=(r);cases e;rfl
 |str x=>obtain⟨t,e⟩:=(r);cases e;rfl
 |QH b=>obtain⟨t,e⟩:=(r);cases e;rfl
 |az b=>obtain⟨t,e⟩:=(r);cases e;rfl
 |ref a=>cases (r);rfl
 |ty n=>cases (r);rfl
section
variable{P:Ca}{w:Wa}{H H':Hp}{h h':Heap}{a C dx:Addr}{fs fs':List$ Str × V}
def jI(c:Jh P w H h)(e:H a=BD (.ub C dx fs)):∃ b,zq h a dx C b/\(∀ f,Tn (fs.lookup f) (b f))/\PySem.Within b (fs.map (·.1))/\fs.length<=1000/\H dx=BD (.own a):=by
 obtain⟨d,z,g,ob,b,n,r,q⟩:=(c a _ e)
 exact⟨b,⟨ob,n,g⟩,r,q,z,d⟩
end
structure Qr(K:W.Frag)(C:Addr):Prop where
 pg:W.plainGet K C Str.empty=Ĳ
 hd:W.hasDictIn K C=Ĳ
 po:W.plainOver K C=Ĳ
 sa:W.findIn K (.ref C) "__setattr__" = BD (BD (.builtin "object.__setattr__"))
def Qr.get{K}(c:Qr K C) f:W.plainGet K C f=Ĳ:=c.pg
def Bw(K:W.Frag)(C:Addr)(f:Str):Prop:=W.findIn K (.ref C) f=BD V6
theorem Bw.VC{K}(n:Bw K C f):W.takerIn K C f=BD V6:=by
 unfold W.takerIn;rw[n];rfl
structure ju(K:W.Frag)(C:Addr)(m:Str)(f:Addr):Prop where
 at_:W.findIn K (.ref C) m=BD (BD (.ref f))
 fn:W.isFn K (.ref f)=Ĳ
 kp:W.keepIn K (.ref f)=Ĳ
section
variable{X:Cx}{pins:List$ Addr × Obj}{σ:St}{H:Hp}{s:Shared}{a C dx:Addr}{fs:List$ Str × V}{f:Str}{v:V}{A:Ra}{E:Value->Shared->Prop}
def rQ(I:db X pins σ H s)(e:H a=BD (.ub C dx fs))(c:Qr X.K C)(n:Bw X.K C f)(l:fs.lookup f=BD v)
  (h:∀ u g,db X pins σ H g->jd v u->Q u g):wpAny (model X.prog X.w) A (getAttr (.ref a) f b) Q E s:=by
 obtain⟨j,ό,r,_,_,_⟩:=jI I.Fc e;obtain⟨u,i,d⟩:=Tn.some_of (by rw[<-l];exact r f);exact ú I.Ai ό (c.get f) c.hd n i (Z0 d)$ h u _ (I.tok _) d
def bP(I:db X pins σ H s)(e:H a=BD (.ub C dx fs))(c:Qr X.K C)(k:ju X.K C m g)(l:fs.lookup m=V6)
  (h:Q (.ref g,[.ref a]) s):wpAny (model X.prog X.w) A (Ki (.ref a) m pl) Q E s:=by
 obtain⟨d,ό,r,_,_,_⟩:=jI I.Fc e;have b:=Tn.none_of (by rw[<-l];exact r m);exact zmm I.Ai ό (c.get m) k.at_ k.fn b h
def OY(I:db X pins σ H s)(e:H a=BD (.ub C dx fs))(c:Qr X.K C)(n:Bw X.K C f)(F:fs.length<1000)(D:jd y u)
  (h:∀ j,db X pins σ (Wb H a$ .ub C dx$ dn f y fs) j->Q () j):wpAny (model X.prog X.w) A (setAttr (.ref a) f u) Q E s:=by
 obtain⟨B,ό,r,k,_,i⟩:=jI I.Fc e;have v:(fs.map (·.1)).length<=sizeLine:=by rw[Ea,kx];lia
 refine A5 I.Ai ό c.sa c.po n.VC c.hd k v λh' d sb=>h _ ?_;have p:∃ o,h'.get? dx=BD o:=let ⟨o,_,_,l,_⟩:=d.ns;⟨o,l⟩;refine I.write (x:=a) (e:=dx) (by rw[e];exact True.intro) (.inr i) (λb q m z=>(sb.2 b m).trans z) p ⟨by rw[Ad ό.ne];exact i,?_,ό.ne,d.obj,_,d.ns,λg=>?_,λg t=>?_⟩
 ·have:=JP f y fs;lia
 ·show Tn _ _;rw[ZP];by_cases q:g=f
  ·rw[ka q,ka q];exact D
  ·rw[qa q,qa q];exact r g
 ·by_cases q:g=f
  ·rw[q];exact(LJ f y fs).1
  ·refine(LJ f y fs).2 g (k g λz=>t ?_);show (if g=f then BD u else B g)=V6;rw[qa q];exact z
def db.made(I:db X pins σ H s):db X pins σ (Wb (Wb H s.heap.objs.size$ .own$ s.heap.objs.size+1) (s.heap.objs.size+1)$ .ub C s.heap.objs.size [])
  { s with heap:=(s.heap.push W.emptyDict).push (W.instObj C s.heap.objs.size) }:=by
 have a:(s.heap.push W.emptyDict).get? s.heap.objs.size=BD W.emptyDict:=Da s.heap rfl;have d:((s.heap.push W.emptyDict).push$ W.instObj C s.heap.objs.size).get? (s.heap.objs.size+1)=BD (W.instObj C s.heap.objs.size):=by
  have:=Da (s.heap.push W.emptyDict) (o:=W.instObj C s.heap.objs.size) rfl
  simp_all
 have f:(s.heap.push W.emptyDict).Ns s.heap.objs.size _:=⟨W.emptyDict,#[],_,a,rfl,(λe g=>absurd g ⋯),λb=>rfl⟩
 refine(I.laid (o:=.own _) (t':=s.toks) (λb u q=>ga _ q) (ua _) ⟨_,a⟩).laid (λb u q=>ga _ q) (DF$ Xc _ _) ?_;have c:s.heap.objs.size≠s.heap.objs.size+1:=Aa$ Jb _;refine⟨by rw[Ad c,Mf],rh _,c,d,λb=>V6,(Heap.Ns1.of_empty f).at λo q=>ga _ q,λb=>True.intro,λy h=>absurd rfl h⟩
def Q6{a}(g:Dd e f a (Mb e a)=Mb e a)
  (h:wpAny (model b w) A (Mb e a) (λo c=>wpAny (model b w) A (getAttr o f Ĳ) Q E c) E s):wpAny (model b w) A (Mb (.Attribute e f d) a) Q E s:=
 Attribute_any_ h (by rw[arm_eval_Attribute,g])
end
def t0(K:W.Frag)(e:TE)(f:Str):TE:=λg H Q=>e g H λx b=>∃ a C d c v,x=.ref a/\b a=BD (.ub C d c)/\Qr K C/\Bw K C f/\c.lookup f=BD v/\Q v b
def O4(K:W.Frag)(h i:TE)(f:Str):TS:=λD c H=>i c H λy g=>h c g λx d=>∃ a C e b,x=.ref a/\d a=BD (.ub C e b)/\Qr K C/\Bw K C f/\b.length<1000/\
 D.nx c (Wb d a$ .ub C e$ dn f y b)
def mX(X:Cx)(b:xk)(rd:V->V->Hp->VK->Prop):Prop:=
 ∀ (a:List$ Addr × Obj) (s:Shared) (σ:St) (H:Hp) (x y:V) (u v:Value) (Q:VK),db X a σ H s->jd x u->jd y v->rd x y H Q->wpAny (model X.prog X.w) X.A (NF b u v) (EP X a σ Q) X.xe s
def Ŋ(K:W.Frag)(k l:TE)(rd:V->V->Hp->VK->Prop)(f:Str):TS:=λD d H=>k d H λx e=>∃ a C j h v,x=.ref a/\e a=BD (.ub C j h)/\Qr K C/\Bw K C f/\h.lookup f=BD v/\
 l d e λy i=>rd v y i λz g=>∃ c b,g a=BD (.ub C c b)/\b.length<1000/\D.nx d (Wb g a$ .ub C c$ dn f z b)
section
variable{X:Cx}{o e value:Oa}{f:Str}{pos pos' tpos:Td}{ta tv:TE}
def Ī(k:PE X e ta)(j:Dd e f X.env (Mb e X.env)=Mb e X.env):PE X (.Attribute e f pos)$ t0 X.K ta f:=by
 intro b s p H Q I h;refine Q6 j (Ed (k b s p H _ I h) λu s1 ſ=>?_);obtain⟨x,H1,d,o,a,C,r,t,v,ex,i,c,n,l,q⟩:=ſ;subst ex;obtain rfl:u=yb a:=o;exact rQ d i c n l λw s2 g m=>⟨v,H1,g,m,q⟩
def X4(k:PE X o ta)(p:PE X value tv)(m:Ng value (BD$ .Attribute o f pos') pos.line X.env=pure Ε):PS X (.Assign [.Attribute o f pos'] value pos)$ O4 X.K ta tv f:=by
 intro b s d H D I h;refine plainObj_wpAny_Assign_Attribute (Ed (p b s d H _ I h) λu s1 ⟨y,H1,e,w,q⟩=>Ed (k b s1 d H1 _ e q) λr s2 ⟨x,z,g,v,a,C,A,B,ex,j,c,n,l,t⟩=>?_) m;subst ex;obtain rfl:r=yb a:=v;exact OY g j c n l w λE i=>⟨d,_,i,t⟩
def R7(E:PE X o ta)(F:PE X value tv)(g:mX X i rd):PS X (.AugAssign (.Attribute o f tpos) i value pos)$ Ŋ X.K ta tv rd f:=by
 intro b s d H D I h;refine wpAny_AugAssign_AttributeAny (Ed (E b s d H _ I h) λJ s1 ſ=>?_);obtain⟨x,H1,k,ό,a,C,T,ϋ,v,ex,A,c,n,l,q⟩:=ſ;subst ex;obtain rfl:J=yb a:=ό;refine rQ k A c n l λu s2 m N=>Ed (F b s2 d H1 _ m q) λR s3 ⟨y,j,p,P,L⟩=>Ed (g b s3 d j v y u R _ p N P L) λY s4 ⟨z,S,r,Q,w,B,e,G,M⟩=>?_;exact OY r e c n G Q λW t=>⟨d,_,t,M⟩
def yyb:V->V->Hp->VK->Prop:=λx y H Q=>∃ i j,x=.int i/\y=.int j/\Q (.int$ i+j) H
def à:mX X .Add yyb:=by
 rintro a s d H x y u v Q I b c ⟨i,j,rfl,rfl,q⟩;obtain⟨t,rfl⟩:=(b)
 obtain⟨t',rfl⟩:=(c)
 exact jJ ⟨.int _,H,I.tok _,⟨_,rfl⟩,q⟩
end
section
variable{X:Cx}{pins:List$ Addr × Obj}{σ:St}{H:Hp}{s:Shared}{A:Ra}{E:Value->Shared->Prop}{Q:Value->Shared->Prop}{c:Value}{b:Bool}
inductive nk(K:W.Frag)(H:Hp):V->Value->Prop where
 |Zb:nk K H .Zb (.type "NoneType")
 |bl (x:Bool):nk K H (.bl x) (.type "bool")
 |int (i:Int):nk K H (.int i) (.type "int")
 |str (x:Str):nk K H (.str x) (.type "str")
 |az (x:UInt64):nk K H (.az x) (.type "float")
 |ra {a:Addr} {xs:n'} (e:H a=BD (.ra xs)):nk K H (.ref a) (.type "list")
 |Ud {a:Addr} {o:Obj} {xs:n'} (e:H a=BD (.Ud o (.ra xs))):nk K H (.ref a) (.type "list")
 |Qa {a:Addr} {xs:n'} (e:H a=BD (.Qa xs)):nk K H (.ref a) (.type "tuple")
 |dK {a:Addr} {kvs:List (Ic × V)} (e:H a=BD (.dK kvs)):nk K H (.ref a) (.type "dict")
 |dT {a:Addr} {kvs:List (TK × V)} (e:H a=BD (.dT kvs)):nk K H (.ref a) (.type "dict")
 |ub {a C dx:Addr} {fs:List (Str × V)} (e:H a=BD (.ub C dx fs)) (cl:Qr K C) (ha:W.findIn K (.ref C) "__class__" = BD (BD (.builtin "object.__class__")))
   (hn:W.specialIn K (.builtin "object.__class__") "__get__" = BD (BD (.builtin "getset_descriptor.__get__"))) (htk:W.takesIn K (.builtin "object.__class__")=BD Ĳ)
   (hm:W.mroIn K C (.type "object")=BD Ĳ):nk K H (.ref a) (.ref C)
def zhp(I:db X pins σ H s)(f:jd x u)(ty:nk X.K H x t)(e:W.kitOne X.K t c=BD b)(h:∀ D,Q (.bool b) { s with toks:=D }) :
  wpAny (model X.prog X.w) A (call (.builtin "isinstance") [u,c]) Q E s:=by
 cases ty with
 |Zb=>cases (f);exact W.kia_one W.kitx_none I.Ai True.intro e (λz=>nomatch z) h
 |bl y=>cases (show u=fg y from f);exact W.kia_one W.kitx_bool I.Ai True.intro e (λz=>nomatch z) h
 |int i=>obtain⟨t,q⟩:=(show ∃ t,u=Fh i t from f);cases q;exact W.kia_one W.kitx_int I.Ai True.intro e (λz=>nomatch z) h
 |str y=>obtain⟨t,q⟩:=(f);cases q;exact W.kia_one W.kitx_str I.Ai True.intro e (λz=>nomatch z) h
 |az y=>obtain⟨t,q⟩:=(show ∃ t,u=LC y t from f);cases q;exact W.kia_one W.kitx_float I.Ai True.intro e (λz=>nomatch z) h
 |@ra a xs d=>
  cases (f);obtain⟨_,_,n,_,g⟩:=(I.Fc a _ d)
  exact W.kia_one W.kitx_list I.Ai ⟨_,g,rfl⟩ e (λz=>nomatch z) h
 |@Ud a M xs d=>
  cases (f);obtain⟨_,_,_,n,_,g⟩:=(I.Fc a _ d)
  exact W.kia_one W.kitx_list I.Ai ⟨_,g,rfl⟩ e (λz=>nomatch z) h
 |@Qa a xs d=>
  cases (show u=yb a from f);obtain⟨_,_,_,p⟩:=(show Cj X.prog X.w H s.heap a (.Qa xs)from I.Fc a _ d)
  obtain⟨o,g,j,_⟩:=p;exact W.kia_one W.kitx_tuple I.Ai ⟨o,g,j⟩ e (λz=>nomatch z) h
 |@dK a l d=>
  cases (show u=yb a from f);obtain⟨_,_,vs,_,p⟩:=(I.Fc a _ d)
  obtain⟨o,r,m,g,j,_⟩:=p;exact W.kia_one W.kitx_dict I.Ai ⟨o,g,j.1⟩ e (λz=>nomatch z) h
 |@dT a l d=>
  cases (show u=yb a from f);obtain⟨_,_,xs,_,o,r,m,g,j,_⟩:=(I.Fc a _ d)
  exact W.kia_one W.kitx_dict I.Ai ⟨o,g,j.1⟩ e (λz=>nomatch z) h
 |@ub a C F G d cl v B k hm=>
  cases (show u=yb a from f);obtain⟨L,ό,_⟩:=jI I.Fc d;obtain⟨N,J,_⟩:=ό.look;exact W.kia_one (W.kitx_own (cl.get _) cl.hd v B k hm) I.Ai J e (λz=>nomatch z) h
end
structure Qd(k:Nat)(A:Ra):Prop where
 hd:A.handled=V6
 dp:A.depth+3 * k+5<recursionLimit
 un:A.units+16 * k+200<cLine
def Qd.mono(r:Qd k A)(h:j<=k):Qd j A:=⟨r.hd,by have:=r.dp;lia,by have:=r.un;lia⟩
def Qd.deeper(r:Qd (k+1) A) a:Qd k$ A.deeper a:=
 ⟨r.hd,by have:=r.dp;show A.depth+1+3 * k+5<_;lia,by have:=r.un;show A.units+3+16 * k+200<_;lia⟩
def Qd.in1(r:Qd (k+1) A):Qd k A.in1:=
 ⟨r.hd,by have:=r.dp;show A.depth+3 * k+5<_;lia,by have:=r.un;show A.units+1+16 * k+200<_;lia⟩
theorem y6{A:Ra}:(A.under$ .builtin "type.__call__" ⟨.ref C::b,a⟩).depth=A.depth+1:=by
 rfl
theorem o0{A:Ra}:(A.under$ .builtin "type.__call__" ⟨.ref C::b,a⟩).units=A.units+1:=by
 rfl
def Qd.make(r:Qd (k+1) A) C b a:Qd k$ A.under$ .builtin "type.__call__" ⟨.ref C::b,a⟩:=
 ⟨r.hd,by have:=r.dp;rw[y6];lia,by have:=r.un;rw[o0];lia⟩
def Qd.depth(r:Qd k A):A.depth<recursionLimit:=by have:=r.dp;lia
noncomputable def Ŭ:TA:=λa H Q=>Q [] H
noncomputable def ysb(d:TE)(e:TA):TA:=λa H Q=>d a H λx b=>e a b λxs c=>Q (x::xs) c
section
variable{X:Cx}{e:Oa}{es:List Oa}{te:TE}{t:TA}{pos:Td}
def fx:PA X [] Ŭ:=λa a a a H Q I h=>Calls.spliced_nil ⟨[],H,I,.nil,h⟩
def Zt(g:PE X e te)(i:PA X es t)(j:va (e::es) X.env=(Ε,Mb e X.env)::va es X.env:=by rfl):PA X (e::es)$ ysb te t:=by
 intro pos a s b H Q I h;rw[j];show wpAny _ _ _ _ _ s;exact Calls.spliced_cons (Ed (g a s b H _ I h) λu s1 ⟨x,H1,d,m,k⟩=>(Ed (i pos a s1 b H1 _ d k) λus s2 ⟨xs,c,f,n,l⟩=>⟨x::xs,c,f,.cons m n,l⟩))
def ο(t:TA):TE:=λb H Q=>t b H λxs a=>xs.length<=sizeLine/\∀ p,a p=V6->Q (.ref p) (Wb a p$ .Qa xs)
def yzu(t:TA):TE:=λb H Q=>t b H λxs a=>xs.length<=sizeLine/\∀ p,a p=V6->Q (.ref p) (Wb a p$ .ra xs)
def Ž{x1}(h:PA X es t):PE X (.Tuple es x1 pos)$ ο t:=by
 intro a s g H Q I f;refine wpAny_Tuple_spliced (Ed (h pos a s g H _ I f) λus s1 ⟨xs,H1,c,r,z,q⟩=>⟨by rw[<-r.length];exact z,?_⟩);have d:=c.Fc.fresh$ ua _;refine⟨.ref s1.heap.objs.size,Wb H1 s1.heap.objs.size _,c.laid (t':=s1.toks) (λb u e=>ga _ e) (ua _) ?_,rfl,q _ d⟩;exact⟨z,us,r,⟨_,Da _ rfl,rfl,_,rfl⟩⟩
def iR(h:PA X es t):PE X (.List es pos)$ yzu t:=by
 intro a s g H Q I f;refine wpAny_List_spliced (Ed (h pos a s g H _ I f) λus s1 ⟨xs,H1,c,r,z,q⟩=>⟨by rw[<-r.length];exact z,?_⟩);have d:H1 s1.heap.objs.size=V6:=c.Fc.fresh$ ua _;refine⟨.ref s1.heap.objs.size,Wb H1 s1.heap.objs.size _,c.laid (λb u e=>ga _ e) (ua _) ?_,rfl,q _ d⟩;exact⟨z,us,0,r,Da _ rfl⟩
end
abbrev Sp:=n'->Hp->VK->XK->Prop
abbrev Tv:=List Ag->Hp->Shared->XK->Value->Shared->Prop
structure Wq(P:Ca)(w:Wa)(K:W.Frag)(mg:Str->Option Value)(base:Heap)(A:Ra)(outer:List Ag)(s:Shared)(H:Hp):Prop where
 frames:A.frames=BD outer
 mod:Mod K mg base
 bs:∀ b o,base.get? b=BD o->s.heap.get? b=BD o/\H b=V6
 ku:base.objs.size<=s.heap.objs.size
 ck:s.heap.FunFrames base outer
 wy:∀ b∈Sj outer,H b=V6
 Fc:Jh P w H s.heap
 bare:nh s.gens
def CE(a:List Ag)(P:Ca)(w:Wa)(H:Hp)(s:Shared)(Q:VK)(u:Value)(b:Shared):Prop:=
 ∃ v c,b.os=s.os/\nh b.gens/\Un (Sj a) [] H c s.heap b.heap/\Jh P w c b.heap/\jd v u/\Q v c
def CR(c:Tv)(a:List Ag)(P:Ca)(w:Wa)(H:Hp)(s:Shared)(Q:VK)(E:XK)(r:ro)(b:Shared):Prop:=
 match r with
 | .ok (.ret u)=>CE a P w H s Q u b
 | .ok _=>False
 | .error e=>c a H s E e b
structure jh(P:Ca)(w:Wa)(K:W.Frag)(mg:Str->Option Value)(base:Heap)(CX:Tv)(k:Nat)(f:Addr)(fd:sf)(ps:ad)(sp:Sp):Prop where
 len:∀ vs H Q E,sp vs H Q E->vs.length=ps.length
 dh:∀ (A:Ra) (outer:List Ag) (s:Shared) (H:Hp) (args:Args) (us:gV) (vs:n') (Q:VK) (E:XK),Qd k A->Wq P w K mg base A outer s H->Xe s fd args (ps.zip us)->ie vs us->sp vs H Q E->
  codeAny (model P w) A (.call (.ref f) args) (CR CX outer P w H s Q E) s
def jh.mono{K}(F:jh P w K g a d j f e ps i)(h:j<=k) :
  jh P w K g a d k f e ps i:=⟨F.len,λA b s H c m n Q E l=>F.dh A b s H c m n Q E$ l.mono h⟩
def jh.imp{K}(F:jh P w K g base d k f e ps i)
  (h:∀ vs H Q E,c vs H Q E->i vs H Q E):jh P w K g base d k f e ps c:=
 ⟨λvs H Q E q=>F.len vs H Q E$ h _ _ _ _ q,λA a s H b p vs Q E m l j o n=>F.dh A a s H b p vs Q E m l j o$ h _ _ _ _ n⟩
def Wq.make{K}(e:Wq P w K c b A a s H) C f d :
  Wq P w K c b (A.under$ .builtin "type.__call__" ⟨.ref C::f,d⟩) a s H:=⟨by first|exact e.frames|(simpa using e.frames),e.mod,e.bs,e.ku,e.ck,e.wy,e.Fc,e.bare⟩
section
variable{X:Cx}{pins:List$ Addr × Obj}{σ:St}{H:Hp}{s s':Shared}
def db.lD(I:db X pins σ H s):Wq X.prog X.w X.K X.mg X.base X.A X.stack s H:=
 ⟨I.ok.frames,I.ok.mod,I.bs,ib I.ok.ku I.sz,I.stack,I.nj,I.Fc,I.bare⟩
def db.after(I:db X pins σ H s)(h:CE X.stack X.prog X.w H s Q u s'):EP X pins σ Q u s':=by
 obtain⟨v,f,i,a,j,c,r,q⟩:=h;obtain⟨k,g,d,t,e⟩:=s';obtain rfl:e=s.os:=i;exact⟨v,f,I.call j c a (λb z=>absurd z ⋯),r,q⟩
end
def Er(K:W.Frag)(c:sf)(b:ad)(a:gV):Prop:=
 ∀ (s:Shared) (us:gV),K.In s.heap->(us++a).length=b.length->Xe s c ⟨us,[]⟩ (b.zip$ us++a)
def Er.all{K}(h:∀ a:gV,a.length=ps.length->bindArgs b ⟨a,[]⟩=pure (ps.zip a)):Er K b ps []:=λs a d c=>by
 rw[Oe]at c ⊢;exact .of_eq$ h a c
section
variable{X:Cx}{CX:Tv}{k:Nat}{f C:Addr}{fd:sf}{ps:ad}{sp:Sp}{dvs:n'}{ds:gV}{E:XK}{x m:Str}{p pos apos:Td}{e o:Oa}{es:List Oa}{ta:TE}{t:TA}
structure Mk(K:W.Frag)(C f:Addr):Prop where
 makes:W.makesIn K C=Ĳ
 init:W.findIn K (.ref C) "__init__" = BD (BD (.ref f))
 fn:W.isFn K (.ref f)=Ĳ
 kp:W.keepIn K (.ref C)=Ĳ
end
structure nc(N P:ad)(sc:Scope):Prop where
 kind:sc.kind=.function
 co:sc.isCoroutine=Ε
 gen:sc.isGenerator=Ε
 nd:N.Nodup
 pre:N.take P.length=P
 par:∀ x∈P,sc.names.lookup x=BD .local\/sc.names.lookup x=BD .cell
 uz:∀ y∈sc.names,y.2≠.free
theorem HR{b:Str->Option Ke}{x:Str}:∀ {a:List$ Str × Value} {m:Str->Option Value},(∀ v,(x,v) ∉ a)->wx b a m x=m x
 |[],_,_=>rfl
 |(n,v)::r,m,h=>by
  unfold wx;rw[HR λw c=>h w$ ja _ c];split
  ·have:x≠n:=by rintro rfl;exact h v la
   simp_all
  ·rfl
theorem VS{b:Str->Option Ke}{x:Str}:∀ {a:List$ Str × Value} {m:Str->Option Value},(∀ v,(x,v) ∉ a)->Ut b a m x=m x
 |[],_,_=>rfl
 |(n,v)::r,m,h=>by
  unfold Ut;rw[VS λw c=>h w$ ja _ c];split
  ·rfl
  ·have:x≠n:=by rintro rfl;exact h v la
   simp_all
theorem pV{a:Str->Option Ke}{x:Str}{v:Value}:∀ {P:ad} {vs:gV} {i:Nat} {m:Str->Option Value},P.Nodup->P[i]?=BD x->vs[i]?=BD v->a x=BD .local->
  wx a (P.zip vs) m x=BD v
 |[],_,_,_,_,h,_,_=>by simp at h
 |_::_,[],_,_,_,_,h,_=>by simp at h
 |p::P,w::vs,0,m,e,b,c,d=>by
  simp at b c;subst b;subst c;show wx a ((p,w)::P.zip vs) m p=_;unfold wx;rw[HR λv f=>(Fd.mp e).1 (Dm f).1,ka d];simp
 |p::P,w::vs,i+1,m,e,b,c,d=>by
  unfold wx;exact pV (i:=i) (Fd.mp e).2 ⋯ ⋯ d
theorem nX{a:Str->Option Ke}{x:Str}{v:Value}:∀ {P:ad} {vs:gV} {i:Nat} {m:Str->Option Value},P.Nodup->P[i]?=BD x->vs[i]?=BD v->a x≠BD .local->
  Ut a (P.zip vs) m x=BD v
 |[],_,_,_,_,h,_,_=>by simp at h
 |_::_,[],_,_,_,_,h,_=>by simp at h
 |p::P,w::vs,0,m,e,b,c,d=>by
  simp at b c;subst b;subst c;show Ut a ((p,w)::P.zip vs) m p=_;unfold Ut;rw[VS λv f=>(Fd.mp e).1 (Dm f).1,qa d];simp
 |p::P,w::vs,i+1,m,e,b,c,d=>by
  show Ut a _ m x=_;unfold Ut;exact nX (i:=i) (Fd.mp e).2 (by assumption) ⋯ d
noncomputable def start(N:ad)(a:n'):St:=a.map BD++List.replicate (N.length - a.length) V6
noncomputable def xp(g:Tv)(P:Ca)(w:Wa)(K:W.Frag)(mg:Str->Option Value)(base:Heap)(N:ad)(b:Str)(a:Scope)(f:Addr)(d:Value)(A:Ra)(outer:List Ag)(s:Shared)(H:Hp)(E:XK):Cx where
 prog:=P
 w:=w
 K:=K
 mg:=mg
 base:=base
 A:=A.deeper (ug b a s.heap.objs.size f d)
 N:=N
 s₀:=s
 H₀:=H
 env:=ug b a s.heap.objs.size f d
 outer:=outer
 stack:=ug b a s.heap.objs.size f d::outer
 ex:=[]
 qc:=Ĳ
 fn:=λj=>Ĳ
 pn:=[]
 xe:=λe i=>wpAny (model P w) (A.deeper$ ug b a s.heap.objs.size f d) (leaving (ug b a s.heap.objs.size f d) e) (λj c=>g outer H s E e c) (λh c=>g outer H s E h c) i
def wU{sc:Scope}(h:sc.names.lookup x=BD .cell):∃ c,(RF n sc.names []).lookup x=BD c:=by
 exact ke.mp$ W.cellsFrom_some sc.names n []$ .inl h
def V3{K}
  (S:nc N ps a) (Q:A.handled=V6) (j:Wq P w K G base A d s H) (X:vs.length=ps.length) (r:ie vs I)
  (x:InCallC s s.heap.objs.size (wx (ug g a s.heap.objs.size f C).kindOf (ps.zip I) λO=>V6) (RF (s.heap.objs.size+1) a.names []) (Ut (ug g a s.heap.objs.size f C).kindOf (ps.zip I) λO=>V6) s1) :
  db (xp J P w K G base N g a f C A d s H E) [] (start N vs) H s1:=by
 have R:ps.length<=N.length:=by have:=zb List.length S.pre;rw[Ae]at this;lia
 obtain⟨D,Y,rfl,L⟩:=x.done;have o:∀ b:Addr,b ∉ (xp J P w K G base N g a f C A d s H E).ex:=λb z=>absurd (show b∈([]:dl)from z) ⋯;refine⟨⟨j.mod,S.kind,rfl,rfl,ua _,λy z c D l=>?_,λy m=>?_,λy c O h=>?_,λO=>Q,vq j.frames,.inr ⟨rfl,rfl⟩,λb z=>absurd z$ o b,j.bs,j.ku,λb O O=>o b,λb z=>absurd z$ o b,j.ck,j.wy⟩,
  rfl,j.bare,Un.kept L,⟨_,x.toInCall.ns,λi y v D l ϋ=>?_⟩,λy c h=>⟨_,x.cell y c h⟩,j.Fc.fresh$ ua _,λy c h=>?_,λp t=>absurd (show p∈([]:lv)from t) ⋯,j.Fc.kept L,?_⟩
 ·exact name_of_addr x.apart (ue D)$ ue l
 ·have m:a.names.lookup y=BD .cell\/a.names.lookup y=BD .free:=m;rcases m with m|m
  ·exact wU m
  ·exact absurd rfl$ S.uz _$ ue m
 ·exact vd$ x.above y c$ ue h
 ·have F:i<vs.length:=by
   unfold start at l;by_cases F:i<vs.length
   ·exact F
   ·rw[Cc (by simpa using F)]at l;rw[Op]at l;split at l<;>cases l
  have ό:vs[i]?=BD v:=by
   unfold start at l;rw[Za (by simpa using F),Pa]at l
   simp_all
  obtain⟨u,M,T⟩:=r.get ό;have t:ps[i]?=BD y:=by
   rw[<-S.pre,No ⋯];exact D
  have B:ps.Nodup:=by rw[<-S.pre];exact S.nd.sublist$ List.take_sublist _ _
  refine⟨u,T,?_⟩;rcases S.par y (wa t)with k|k
  ·exact .inl ⟨k,pV B t M k⟩
  ·obtain⟨c,e⟩:=wU (n:=s.heap.objs.size+1) k;refine .inr ⟨.inl k,c,e,?_⟩;have q:=x.cell y c e
   rwa [nX B t M (by show a.names.lookup y≠_;rw[k];decide)]at q
 ·exact j.Fc.fresh$ vd$ x.above y c$ ue h
 ·unfold start;show _=N.length
  simp_all
def S8{K:W.Frag}{dV kV C pm g ct oc}{an od} (lk:K.lookup f=BD ⟨oc,od,.func$ W.fnOf m d h i a dV kV C pm an g ct,ϋ⟩) (ό:W.codeIn K g d=Ĳ) (S:nc N ps a)
  (G:∀ vs H Q E,ϊ vs H Q E->vs.length=ps.length)
  (p:∀ A c s H vs Q E,Qd k (A.deeper$ ug d a s.heap.objs.size f g)->ϊ vs H Q E->
   ∃ t,Ov (xp L P w K M base N d a f g A c s H E) i t/\t { nx:=λO l=>Q .Zb l,rt:=Q } (start N vs) H) :
  jh P w K M base L (k+1) f (W.fnOf m d h i a dV kV C pm an g ct) ps ϊ:=by
 refine⟨G,λA c s H a0 us vs Q E R D hb r F=>?_⟩;have KX:K.In s.heap:=D.mod.Rw.keeps λb o e=>(D.bs b o e).1;have T:s.heap.NoLimit:=D.mod.nolimit.keeps λb o e=>(D.bs b o e).1;have z:∀ y∈ps.zip us,a.names.lookup y.1=BD .local\/(a.names.lookup y.1=BD .cell/\((RF (s.heap.objs.size+1) a.names []).lookup y.1).isSome=Ĳ):=λ⟨n,v⟩ hy=>by
  rcases S.par n (Dm hy).1 with q|q
  ·exact .inl q
  ·exact .inr ⟨q,W.cellsFrom_some _ _ _$ .inl q⟩
 refine codeAny_call_function R.depth (KX _ _ lk) rfl S.co S.gen rfl (W.codeRec_of KX ό)$ hb _ _ _ _ (wpAny_newFunctionEnv_cells S.kind z λa1 he s1 x=>?_);subst he;refine⟨T.keeps x.toInCall.keep,codeAny_func ?_⟩;obtain⟨t,ht,hq⟩:=p A c s H vs Q E (R.deeper _) F;have I:db (xp L P w K M base N d a f g A c s H E) [] (start N vs) H s1:=V3 S R.hd D (G _ _ _ _ F) r x;refine dc (ht [] s1 (start N vs) H _ I hq) (λfl Y B=>?_) λe Y B=>B;have jg:∀ {j:St} {l:Hp} {v:V} {u:Value},db (xp L P w K M base N d a f g A c s H E) [] j l Y->jd v u->Q v l->CE c P w H s Q u Y:=
  fun {j l v u} J X q=>⟨v,l,J.os,J.bare,J.base,J.Fc,X,q⟩
 cases fl with
 |ret u=>
  obtain⟨v,j,l,J,X,q⟩:=B;exact jg J X q
 |next=>
  obtain⟨j,l,J,q⟩:=B;exact jg (v:=V.Zb) (u:=Bc) J rfl q
 |brk=>
  obtain⟨_,_,_,q⟩:=B
  simp_all
 |cont=>
  obtain⟨_,_,_,q⟩:=B;exact False.elim q
section
variable{X:Cx}{x:Str}{p pos:Td}{e:Oa}{es:List Oa}{t:TA}{id T:String}{r:n'->Hp->VK->Prop}
def lN(r:n'->Hp->VK->Prop)(t:TA):TE:=λc H Q=>t c H λb a=>r b a Q
def GG(g:Ao X (.builtin id) r)(j:Gl X x)(k:X.mg x=V6)(m:bootBuiltins x=BD (.builtin id))(f:PA X (e::es) t)(l:x ≠ "__name__":=by decide)(b:(x == ("__debug__" : Str))=Ε:=by decide)
  (i:va (e::es) X.env=(Ε,Mb e X.env)::va es X.env:=by rfl) (c:(lc pos$ va es X.env).any (·.1)=Ε:=by rfl):PE X (.Call (.Name x p) (e::es) [] pos)$ lN r t:=by
 intro a s σ H Q I h;refine Ve$ gy I j k m ?_ l b;exact kJ (Ed (f pos a s σ H _ I h) λus s1 ⟨vs,H1,d,o,n⟩=>g a s1 σ H1 vs us Q d o n) i c
def BM(g:Ao X (.type T) r)(j:Gl X x)(k:X.mg x=V6)(m:bootBuiltins x=BD (.type T))(f:PA X (e::es) t)(l:x ≠ "__name__":=by decide)(b:(x == ("__debug__" : Str))=Ε:=by decide)
  (i:va (e::es) X.env=(Ε,Mb e X.env)::va es X.env:=by rfl) (c:(lc pos$ va es X.env).any (·.1)=Ε:=by rfl):PE X (.Call (.Name x p) (e::es) [] pos)$ lN r t:=by
 intro a s σ H Q I h;exact Ve$ gy I j k m (De (Ed (f pos a s σ H _ I h) λus s1 ⟨vs,H1,d,o,n⟩=>g a s1 σ H1 vs us Q d o n) i c) l b
end
end L2
namespace HT
section
open PySem.SeqAt
open PySem.AutoSeq1 (wpAny_loadPart')
open PySem.MeetsSeq PySem.MeetsSeq2 PySem.MeetsSeq3
end
section
variable{prog:Ca}{w:Wa}{A:Ra}{E:Value->Shared->Prop}{s:Shared}
def Mw(x:IsTup s.heap t vs.toArray)(u:IsTup s.heap b ws.toArray)(o:vs≠[])
  (r:ws=[]->Q (.ref t) s) (y:ws≠[]->Q (.ref s.heap.objs.size) { s with heap:=s.heap.push { cls:=.type "tuple",data:=.seq (vs++ws).toArray } })
  (v:vs.length+ws.length<=sizeLine):wpAny (model prog w) A (Je .Add (.ref t)$ .ref b) Q E s:=by
 obtain⟨⟨cls,k,data,q⟩,g,l,n,m⟩:=id x;obtain⟨⟨j,c,h,f⟩,a,d,p,e⟩:=id u;simp only at l m d e;subst l m d e;by_cases i:ws=[]
 ·exact Qu ⟨_,g,rfl⟩ ⟨_,a,rfl⟩ mo ot Dh kh (ah _ _)
   (tuple_addW1 t b vs.toArray ws.toArray n p k c q f (by simpa using o)$ by simp[i]) ⟨g,a,r i⟩
 ·refine Qu ⟨_,g,rfl⟩ ⟨_,a,rfl⟩ mo ot Dh kh (ah _ _)
   (tuple_addW2 t b vs.toArray ws.toArray n p k c q f (by simpa using o) (by simpa using i)$ by simp_all) ⟨g,a,?_⟩
  grind
noncomputable def Sf(n d:Nat):Option Int->Nat
 |none=>d
 |some v=>if v<0 then (v+(n:Int)).toNat else min v.toNat n
def K2 n d(a:d<=n) o:Sf n d o<=n:=by
 cases o with
 |none=>exact a
 |some v=>
  show (if v<0 then (v+(n:Int)).toNat else min v.toNat n)<=n;all_goals grind
def ET v(n d:Nat):(if v<0 then max (v+(n:Int)) 0 else min v n)=((Sf n d (BD v):Nat):Int):=by
 show (if v<0 then max _ 0 else min v n)=(if v<0 then (v+n).toNat else min v.toNat n)
 grind
def ŧ lo a(n:Nat):Xj lo a 1 n =(((Sf n 0 lo:Nat):Int),(Sf n n a:Int)):=by
 refine tZ ?_ ?_
 ·cases lo with
  |none=>rfl
  |some v=>exact ET v n 0
 ·cases a with
  |none=>rfl
  |some v=>exact ET v n n
def E6(i j:Nat):vg i j 1=j - i:=by
 unfold vg;have a:(1:Int) > 0:=by lia
 simp only[Jf,Int.ediv_one];split<;>lia
def gT(p:yk v o)(h:Q o s):wpAny (model prog w) A (SF v) Q E s:=by
 cases p with
 |none=>exact gP h
 |int i t=>exact slicePart_int h
def qQ{lo c}{n:Nat}(i:s.heap.IsSliceOf d e f .none)(pl:yk e lo)(j:yk f c)
  (h:Q (((Sf n 0 lo:Nat):Int),1,Sf n n c - Sf n 0 lo) s):wpAny (model prog w) A (TF (.ref d)$ pure n) Q E s:=by
 obtain⟨k,b,g,a⟩:=id i;refine aa$ aa$ rk b a rfl$ aa$ rk b a rfl$ aa$ rk b a rfl$ da$ aa$ gP ?_;refine aa$ gT pl$ aa$ gT j$ aa$ da ?_;show wpAny _ _ (match Xj lo c 1 n with|(lo,c)=>pure (lo,_,vg lo c 1)) _ _ s;rw[ŧ lo c n];show wpAny _ _ (pure _) _ _ s;rw[E6];exact da h
def U0(xs:Array Value)(i k:Nat):((List.range k).filterMap λ(m:Nat)=>xs[(i +(m:Int) * 1).toNat]?).toArray=((xs.toList.drop i).take k).toArray:=by
 have e:(λ(m:Nat)=>xs[(i+(m:Int) * 1).toNat]?)=λm=>xs[i+m]?:=by
  funext m;have:(i+(m:Int) * 1).toNat=i+m:=by lia
  rw[this]
 have:=pick_run xs i k;have a:((λx=>xs[x]?) ∘ λx=>i+x)=λm=>xs[i+m]?:=rfl
 simp_all
def sj{lo c}(d:IsTup s.heap t a)(k:s.heap.IsSliceOf j l n .none)(pl:yk l lo)(v:yk n c)
  (r:¬ (Sf a.size 0 lo=0/\Sf a.size a.size c=a.size))
  (h:Q (.ref s.heap.objs.size) { s with heap:=s.heap.push { cls:=.type "tuple",data:=.seq ((a.toList.drop$ Sf a.size 0 lo).take$ Sf a.size a.size c - Sf a.size 0 lo).toArray } })
  (p:a.size<=sizeLine):wpAny (model prog w) A (Yh (.ref t)$ .ref j) Q E s:=by
 have b:sizeOk$ .seq ((a.toList.drop$ Sf a.size 0 lo).take$ Sf a.size a.size c - Sf a.size 0 lo).toArray:=by
  show ((a.toList.drop _).take _).toArray.size<=sizeLine;rw[Ua,Ae,bw,Pb]
  lia
 have x:Sf a.size a.size c<=a.size:=K2 _ _ (ua _) c;obtain⟨u,i,f,o⟩:=id k;have e:s.TypeIs (.ref j) "slice":=⟨u,i,f⟩
 unfold Yh;try with_reducible refine Yb ?_
 first|refine aa$ da ?_|skip
 refine aa$ AC d.typeIs ⋯ ?_;refine aa$ Ld (name:=jr "__getitem__") d.typeIs pc
  (Jc pc d.typeIs Ry ?_$ uA _ _)
 show wpAny _ _ (gg (.ref t) >>= _) _ _ s;refine aa$ uZ d$ aa$ Zi e ?_;rw[ka ⋯];refine aa$ qQ k pl v ?_;have g:¬ ((((Sf a.size 0 lo:Nat):Int) == 0 && (1:Int) == 1 && (Sf a.size a.size c - Sf a.size 0 lo) == a.size)=Ĳ):=by
  intro q;rw[Ga,Ga]at q;have y:((Sf a.size 0 lo:Nat):Int)=0:=eq_of_beq q.1.1;have z:Sf a.size a.size c - Sf a.size 0 lo=a.size:=eq_of_beq q.2;exact r ⟨by lia,by lia⟩
 show wpAny _ _ (if (((Sf a.size 0 lo:Nat):Int) == 0 && (1:Int) == 1 && (Sf a.size a.size c - Sf a.size 0 lo) == a.size)=Ĳ then _ else _) _ _ s;rw[qa g,U0];first
  |exact aa (m:=Ye _)$ ic _ b
  |exact aa (m:=Ye _)$ ic (aa$ da$ da ⟨_,rfl,da h⟩) b
  |exact aa$ aa (m:=Ye _)$ ic (da$ da ⟨_,rfl,da h⟩) b
  |exact aa$ aa (m:=Ye _)$ ic (da ⟨_,rfl,da h⟩) b
end
end HT
namespace L2
open Spec
abbrev TO:=St->Hp->(Option Int->Hp->Prop)->Prop
def PO(X:Cx)(e:Option Oa)(t:TO):Prop:=
 ∀ (a:List$ Addr × Obj) (s:Shared) (σ:St) (H:Hp) (Q:Option Int->Hp->Prop),db X a σ H s->t σ H Q->
  wpAny (model X.prog X.w) X.A (evalPart e X.env) (λu c=>∃ o b,db X a σ b c/\yk u o/\Q o b) X.xe s
noncomputable def A7:TO:=λa H Q=>Q V6 H
noncomputable def ĳ(t:TE):TO:=λb H Q=>t b H λx a=>∃ i,x=.int i/\Q (BD i) a
def zev:∀ {b},ie (a.map V.int) b->ph b a:=by
 induction a with
 |nil=>intro b r;rw[oe]at r;cases r;exact .nil
 |cons n a c=>
  intro b r;cases r with
  |cons d e=>
   obtain⟨t,rfl⟩:=d;exact .cons n t$ c e
section
variable{X:Cx}{e:Oa}{te:TE}{lo hi:Option Oa}{tl th:TO}{pos p2:Td}
def v8:PO X V6 A7:=by
 intro a s b H Q I h;exact da ⟨V6,H,I,.none,h⟩
def Y3(h:PE X e te):PO X (BD e)$ ĳ te:=by
 intro a s g H Q I c;refine Ed (h a s g H _ I c) λu s1 ſ=>?_;obtain⟨x,H1,b,f,d⟩:=ſ;obtain⟨i,rfl,q⟩:=d;obtain⟨t,rfl⟩:=f;exact⟨BD i,H1,b,.int i t,q⟩
def Hv(X:Cx)(r:V->Option Int->Option Int->Hp->VK->Prop):Prop:=
 ∀ (a:List$ Addr × Obj) (s:Shared) (σ:St) (H:Hp) (x:V) (v c d:Value) (lo hi:Option Int) (b:Addr) (Q:VK),db X a σ H s->jd x v->s.heap.IsSliceOf b c d .none->yk c lo->yk d hi->r x lo hi H Q->
  ∃ T e,typeLookup (.type T) "__getitem__" = pure (BD$ .builtin e)/\s.TypeIs v T/\wpAny (model X.prog X.w) X.A (Yh v$ .ref b) (EP X a σ Q) X.xe s
def Hv.or(h:Hv X r)(h':Hv X d):Hv X (λx lo hi H Q=>r x lo hi H Q\/d x lo hi H Q):=by
 intro a s j H x v g i lo hi f Q I e b pl c q;rcases q with q|q
 ·exact h a s j H x v g i lo hi f Q I e b pl c q
 ·exact h' a s j H x v g i lo hi f Q I e b pl c q
def tSl(r:V->Option Int->Option Int->Hp->VK->Prop)(te:TE)(tl th:TO):TE:=λa H Q=>te a H λx b=>tl a b λl c=>th a c λu d=>r x l u d Q
theorem ŀ(y:Hv X r)(p:PE X e te)(w:PO X lo tl)(A:PO X hi th):PE X (.Subscript e (.Slice lo hi V6 p2) pos)$ tSl r te tl th:=by
 intro a s c H Q I h;refine vA (Ed (p a s c H _ I h) λv s1 ſ=>?_);obtain⟨x,H1,j,E,B⟩:=ſ;refine wpAny_Slice (Ed (w a s1 c H1 _ j B) λd s2 ⟨l,i,k,pl,C⟩=>Ed (A a s2 c i _ k C) λf s3 ⟨u,g,m,pu,D⟩=>?_);refine da ?_;have n:db X a c g { s3 with heap:=s3.heap.push { cls:=.type "slice",data:=.fields #[d,f,.none] } }:=m.kept λb ob q=>ga _ q;obtain⟨T,F,o,z,t⟩:=y a { s3 with heap:=s3.heap.push { cls:=.type "slice",data:=.fields #[d,f,.none] } } c g x v d f l u s3.heap.objs.size Q n E (BC ..) pl pu D;exact tail_any (ops:=[.ref s3.heap.objs.size,v]) z o t (by with_unfolding_all rfl)
def HB(xs:n')(lo hi:Option Int):n':=(xs.drop$ HT.Sf xs.length 0 lo).take$ HT.Sf xs.length xs.length hi - HT.Sf xs.length 0 lo
def FY xs lo hi:(HB xs lo hi).length<=xs.length:=by
 unfold HB;rw[Ae,bw]
 lia
def oR(K:W.Frag):V->Option Int->Option Int->Hp->VK->Prop:=λx lo hi H Q=>∃ a xs,x=.ref a/\Tg K H a xs/\
 ¬ (HT.Sf xs.length 0 lo=0/\HT.Sf xs.length xs.length hi=xs.length)/\∀ p,H p=V6->Q (.ref p) (Wb H p$ .Qa$ HB xs lo hi)
def q7:Hv X$ oR X.K:=by
 rintro f s p H x v n o lo hi m Q I l g pl k ⟨a,xs,rfl,i,h,q⟩;cases l;obtain⟨d,r,e,j⟩:=I.tuple i;have c:d.toArray.size=xs.length:=by rw[Ua];exact r.length.symm
 refine⟨"tuple",_,pc.lookup,e.typeIs,(HT.sj e g pl k (by rw[c];exact h) ?_$ by simp_all)⟩;rw[c];refine⟨.ref s.heap.objs.size,_,I.laid (λb ob q=>ga _ q) (ua _) ?_,rfl,q _$ I.Fc.fresh$ ua _⟩;exact⟨ib (FY xs lo hi) j,_,(r.drop _).take _,IsTup.new _ _⟩
def ŏ(K:W.Frag):R2:=λx y H Q=>∃ a b xs c,x=.ref a/\y=.ref b/\Tg K H a xs/\Tg K H b c/\xs≠[]/\xs.length+c.length<=sizeLine/\
 (c=[]->Q (.ref a) H)/\(c≠[]->∀ p,H p=V6->Q (.ref p) (Wb H p$ .Qa$ xs++c))
def ie.Vn(r:ie xs a):a=[] ↔ xs=[]:=by
 cases r with
 |nil=>simp
 |cons _ _=>simp
def ě:zh X (Je .Add)$ ŏ X.K:=by
 rintro g s t H x y v u Q I o p ⟨a,b,xs,r,rfl,rfl,h,i,j,e,m,n⟩;cases o;cases p;obtain⟨k,d,l,_⟩:=I.tuple h;obtain⟨f,c,p2,_⟩:=I.tuple i;refine HT.Mw l p2 (λz=>j$ d.Vn.mp z) (λz=>⟨.ref a,H,I,rfl,m$ c.Vn.mp z⟩) (λz=>⟨.ref s.heap.objs.size,_,I.laid (λb ob q=>ga _ q) (ua _) ?_,rfl,n (λw=>z$ c.Vn.mpr w) _$ I.Fc.fresh$ ua _⟩) (by rw[<-d.length,<-c.length];exact e);exact⟨by rw[Ub];exact e,_,d.append c,IsTup.new _ _⟩
end
noncomputable def Hr(n:Nat)(i:Int):Option Nat:=if 0<=i then (if i<n then BD i.toNat else V6)else if -(n:Int)<=i then BD (i+n).toNat else V6
def km{a:Type}(xs:List a)(i:Int):Option a:=(Hr xs.length i).bind λj=>xs[j]?
def MW(h:Hr n i=BD j):Vt i n=BD j/\j<n/\- n <=i/\i<n:=by
 unfold Hr at h;by_cases b:0<=i
 ·rw[ka b]at h;by_cases a:i<n
  ·rw[ka a]at h;have e:i.toNat=j:=Nb h;exact⟨by rw[lx b a,e],by lia,by lia,a⟩
  ·rw[qa a]at h;cases h
 ·rw[qa b]at h;by_cases a:-(n:Int)<=i
  ·rw[ka a]at h;have e:(i+n).toNat=j:=Nb h;exact⟨by rw[Ru ⋯ a,e],by lia,a,by lia⟩
  ·rw[qa a]at h;cases h
def pW{xs}{v:a}(h:km xs i=BD v):∃ j,Vt i xs.length=BD j/\xs[j]?=BD v/\j<xs.length/\-(xs.length:Int)<=i/\i<xs.length:=by
 unfold km at h;cases e:Hr xs.length i with
 |none=>simp_all
 |some j=>
  rw[e]at h;obtain⟨b,c,d,f⟩:=MW e;exact⟨j,b,h,c,d,f⟩
def iq{xs}{j:Nat}{v:a}(h:xs[j]?=BD v):km xs j =BD v:=by
 have b:=(ba.mp h).1;have e:Hr xs.length j=BD j:=by
  unfold Hr
  simp_all
 unfold km;rw[e];exact h
def OR(b:Oa):Prop:=∀ o i,Wo b Ε o i=operate [o,i] (Yh o i)
def Lw(X:Cx)(r:R2):Prop:=
 ∀ (b a:Oa) (pins:List$ Addr × Obj) (s:Shared) (σ:St) (H:Hp) (x y:V) (v u:Value) (Q:VK),db X pins σ H s->jd x v->jd y u->r x y H Q->
  Wo a Ε v u=operate [v,u] (Yh v u)->wpAny (model X.prog X.w) X.A (NZ b a v u) (EP X pins σ Q) X.xe s
def Uw(X:Cx)(b:String)(r:V->n'->Hp->VK->Prop):Prop:=
 ∀ (a:List$ Addr × Obj) (s:Shared) (σ:St) (H:Hp) (x:V) (xs:n') (v:Value) (us:gV) (Q:VK),db X a σ H s->jd x v->ie xs us->r x xs H Q->
  wpAny (model X.prog X.w) X.A (call (.builtin b)$ v::us) (EP X a σ Q) X.xe s
section
variable{X:Cx}{a b:Oa}{ta tb:TE}{pos:Td}
def Lw.or(h:Lw X r)(h':Lw X e):Lw X (λx y H Q=>r x y H Q\/e x y H Q):=by
 intro b a c s i H x y v u Q I f g q d;rcases q with q|q
 ·exact h b a c s i H x y v u Q I f g q d
 ·exact h' b a c s i H x y v u Q I f g q d
def í(i:Lw X r)(f:PE X a ta)(g:PE X b tb)(j:OR b):PE X (.Subscript a b pos)$ mB r ta tb:=by
 intro c s m H Q I h;exact vA (VO f g I h λv u s2 x y d e k l q=>i a b c s2 m d x y v u Q e k l q$ j _ _)
noncomputable def ML(K:W.Frag):R2:=λx y H Q=>∃ p xs i v,x=.ref p/\y=.int i/\Ue K H p xs/\km xs i=BD v/\Q v H
noncomputable def UO(K:W.Frag):R2:=λx y H Q=>∃ p xs i v,x=.ref p/\y=.int i/\Tg K H p xs/\km xs i=BD v/\Q v H
def y9:Lw X$ ML X.K:=by
 intro f e a s G H x y v u Q I E F h l;obtain⟨p,xs,i,z,rfl,rfl,D,B,q⟩:=h;cases E;obtain⟨t,rfl⟩:=F;obtain⟨c,r,pl,M⟩:=I.list D;obtain⟨j,b,n,J,o,A⟩:=pW B;obtain⟨w,m,d⟩:=r.get n;have C:=r.length;have L:=EG;have jg:EP X a G Q w s:=⟨z,H,I,d,q⟩
 by_cases g:0<=i
 ·have k:i.toNat=j:=by
   rw[lx g A]at b;exact Nb b
  exact item_listR pl.isList g ⋯ ⋯ jg l
 ·have k:(i+(c.toArray.size:Int)).toNat=j:=by
   rw[Ru ⋯ o]at b;rw[Ua,<-C];exact Nb b
  exact Su (x:=w) pl.isList.typeIs CC.lookup
   (wpAny_getItem_list_neg pl.isList ⋯ (by rw[Ua]<;>lia) ⋯ (by rw[k];simpa using m) ⟨rfl,jg⟩) l
def ye1:Lw X$ UO X.K:=by
 intro d c a s A H x y v u Q I n o h l;obtain⟨p,xs,i,z,rfl,rfl,k,g,q⟩:=h;cases n;obtain⟨t,rfl⟩:=o;obtain⟨m,r,pl,G⟩:=I.tuple k;obtain⟨j,e,f,C,D,E⟩:=pW g;obtain⟨w,B,b⟩:=r.get f;have F:=EG;have jg:EP X a A Q w s:=⟨z,H,I,b,q⟩
 exact Su pl.typeIs slot_tuple_getitem.lookup
  (getItem_tuple pl ⋯ ⋯ (by rw[Ua,<-r.length];exact e) ⋯ ⟨rfl,jg⟩) l
def m7(a:gV) n j u:Le (·.setIfInBounds j u) { cls:=.type "list",data:=.seq a.toArray n }={ cls:=.type "list",data:=.seq (a.set j u).toArray n }:=by
 simp[Le]
def db.ra{b}{c}{H}{s}{p}{xs}(I:db X b c H s)(h:H p=BD (.ra xs)) :
  ∃ (a:gV) (n:Nat),ie xs a/\s.heap.get? p=BD { cls:=.type "list",data:=.seq a.toArray n }/\xs.length<=sizeLine:=by
 obtain⟨z,a,n,r,e⟩:=I.Fc p _ h;exact⟨a,n,r,e,z⟩
def db.Pz{a}{c its':gV}(I:db X a j H s)(h:H p=BD (.ra xs))
  (l:s.heap.get? p=BD { cls:=.type "list",data:=.seq c.toArray n }) (i:f { cls:=.type "list",data:=.seq c.toArray n }={ cls:=.type "list",data:=.seq its'.toArray d }) (r:ie g its') (m:g.length<=sizeLine) t :
  db X a j (Wb H p$ .ra g) { s with heap:=s.heap.update p f,toks:=t }:=by
 have e:(s.heap.update p f).get? p=BD { cls:=.type "list",data:=.seq its'.toArray d }:=by
  rw[Mc f l (by rw[i]<;>rfl),i]
 refine I.write (by rw[h];trivial) (.inl rfl) (λb u k q=>(Ge _ _$ Jd k).trans q) ⟨_,e⟩ ?_;exact⟨m,its',d,r,e⟩
def yq6:V->V->V->Hp->(Hp->Prop)->Prop:=λo i v H Q=>∃ p xs k j,o=.ref p/\i=.int k/\H p=BD (.ra xs)/\Hr xs.length k=BD j/\Q (Wb H p$ .ra$ xs.set j v)
def t6:GJ X yq6:=by
 rintro h s G H o i v F E u Q I y x z ⟨p,xs,k,j,rfl,rfl,g,w,q⟩;cases y;obtain⟨t,rfl⟩:=x;obtain⟨a,n,r,c,D⟩:=I.ra g;obtain⟨f,A,l,m⟩:=MW w;have B:=r.length;have C:=EG;have d:=
  I.Pz g c (m7 a n j u) (r.set z j) ⋯ s.toks
 by_cases e:0<=k
 ·have b:k.toNat=j:=by
   rw[lx e m]at f
   simp_all
  exact W.ki_setAt c e ⋯ ⋯ (by rw[b];exact⟨_,d,q⟩)
 ·have b:(k+a.toArray.size).toNat=j:=by
   rw[Ru ⋯ l]at f
   simp_all
  exact W.ki_setBack c ⋯ ⋯ ⋯ (by rw[b];exact⟨_,d,q⟩)
def Ĺ lo a n:(Zh lo a V6 n).1=((HT.Sf n 0 lo:Nat):Int)/\(Zh lo a V6 n).2.1=((HT.Sf n n a:Nat):Int)/\(Zh lo a V6 n).2.2=1:=by
 refine⟨?_,?_,rfl⟩
 ·cases lo with
  |none=>simp[Zh,HT.Sf]
  |some i=>
   simp only[Zh,HT.Sf,Rt,show (1:Int) > 0 by decide,Jf];by_cases h:i<0
   ·simp only[h,Jf]<;>lia
   ·simp only[h,Oo]<;>lia
 ·cases a with
  |none=>trivial
  |some i=>
   simp only[Zh,HT.Sf,Rt,show (1:Int) > 0 by decide,Jf];by_cases h:i<0
   ·simp only[h,Jf]<;>lia
   ·simp only[h,Oo]<;>lia
theorem zcx(a:gV) lo b:slicePick a.toArray lo b V6=((a.drop$ HT.Sf a.length 0 lo).take$ HT.Sf a.length a.length b - HT.Sf a.length 0 lo).toArray:=by
 obtain⟨c,d,e⟩:=Ĺ lo b a.toArray.size;unfold slicePick;rw[c,d,e];simp only[sliceRange_one,pick_run]<;>rfl
def XT(K:W.Frag):V->Option Int->Option Int->Hp->VK->Prop:=λx lo b H Q=>∃ a xs,x=.ref a/\Ue K H a xs/\∀ p,H p=V6->Q (.ref p) (Wb H p$ .ra$ HB xs lo b)
def OZ:Hv X$ XT X.K:=by
 rintro e s p H x v n o lo f m Q I l g pl k ⟨a,xs,rfl,h,q⟩;cases l;obtain⟨j,r,d,i⟩:=I.list h;have c:=r.length;refine⟨"list",_,CC.lookup,d.isList.typeIs,(wpAny_getItem_list_slice d.isList g pl k .none ⋯ ?_$ by simp_all)⟩;rw[zcx,<-c];refine⟨.ref s.heap.objs.size,_,I.laid (λb ob q=>ga _ q) (ua _) ?_,rfl,q _$ I.Fc.fresh$ ua _⟩;exact⟨ib (FY xs lo f) i,_,0,(r.drop _).take _,Da _ rfl⟩
noncomputable def ri:V->Bool
 | .Zb=>Ĳ
 | .bl _=>Ĳ
 | .int _=>Ĳ
 | .str _=>Ĳ
 |_=>Ε
noncomputable def Jl:V->V->Bool
 | .Zb,.Zb=>Ĳ
 | .bl a,.bl b=>a == b
 | .bl a,.int b=>(if a then 1 else 0) == b
 | .int a,.bl b=>a == (if b then 1 else 0)
 | .int a,.int b=>a == b
 | .str a,.str b=>a == b
 |_,_=>Ε
def SK(f:jd y u)(c:jd x v)(g:ri y=Ĳ)(e:ri x=Ĳ):Oc A s u v$ Jl y x:=by
 cases y with
 |Zb=>
  cases f;cases x with
  |Zb=>cases c;exact Vj _
  |bl b=>cases c;exact vZ b
  |int b=>obtain⟨t,rfl⟩:=c;exact wZ b t
  |str b=>obtain⟨t,rfl⟩:=c;exact xZ b t
  |_=>exact absurd (show Ε=Ĳ from e) qb
 |bl a=>
  cases f;cases x with
  |Zb=>cases c;exact yZ a
  |bl b=>cases c;exact zZ a b
  |int b=>obtain⟨t,rfl⟩:=c;exact AZ a b t
  |str b=>obtain⟨t,rfl⟩:=c;exact BZ a b t
  |_=>exact absurd (show Ε=Ĳ from e) qb
 |int a=>
  obtain⟨d,rfl⟩:=f;cases x with
  |Zb=>cases c;exact CZ a d
  |bl b=>cases c;exact DZ a d b
  |int b=>obtain⟨t,rfl⟩:=c;exact EZ a d b t
  |str b=>obtain⟨t,rfl⟩:=c;exact Jo a d b t
  |_=>exact absurd (show Ε=Ĳ from e) qb
 |str a=>
  obtain⟨d,rfl⟩:=f;cases x with
  |Zb=>cases c;exact FZ a d
  |bl b=>cases c;exact GZ a d b
  |int b=>obtain⟨t,rfl⟩:=c;exact Ko a d b t
  |str b=>obtain⟨t,rfl⟩:=c;exact HZ a d b t
  |_=>exact absurd (show Ε=Ĳ from e) qb
 |_=>exact absurd (show Ε=Ĳ from g) qb
def iA(x:V)(u:Value):Bool:=match u with
 | .none=>Jl .Zb x
 | .bool b=>Jl (.bl b) x
 | .int i _=>Jl (.int i) x
 | .str z _=>Jl (.str z) x
 |_=>Ε
def mV(r:jd y u)(f:ri y=Ĳ):iA x u=Jl y x:=by
 cases y with
 |Zb=>cases r;rfl
 |bl b=>cases r;rfl
 |int i=>obtain⟨t,rfl⟩:=r;rfl
 |str z=>obtain⟨t,rfl⟩:=r;rfl
 |_=>trivial
theorem jE{x:V}:∀ {xs:n'} {us:gV},ie xs us->xs.all ri=Ĳ->us.any (iA x)=xs.any λy=>Jl y x
 |_,_,.nil,_=>rfl
 |y::xs,u::us,.cons r t,f=>by
  rw[vf,Ga]at f;rw[wf,wf,mV r f.1,jE t f.2]
theorem DE{A:Ra}{s:Shared}{x:V}{v:Value}(c:jd x v)(b:ri x=Ĳ):∀ {xs:n'} {us:gV},ie xs us->xs.all ri=Ĳ->∀ u∈us,Oc A s u v (iA x u)
 |_,_,.nil,_=>λu a=>by cases a
 |y::xs,u::us,.cons r t,f=>λd a=>by
  rw[vf,Ga]at f;rcases za.mp a with rfl|a
  ·rw[mV r f.1];exact SK r c f.1 b
  ·exact DE c b t f.2 d a
def rC(x:V)(xs:n'):Bool:=xs.any λy=>Jl y x
def kH(K:W.Frag)(a:Bool):R2:=λx y H Q=>∃ p xs,y=.ref p/\(Ue K H p xs\/Tg K H p xs)/\ri x=Ĳ/\xs.all ri=Ĳ/\Q (.bl$ if a then !rC x xs else rC x xs) H
def lK:zh X (Gb .In)$ kH X.K Ε:=by
 rintro f s j H x y v u Q I g i ⟨p,xs,rfl,b,d,c,q⟩;cases i;rcases b with b|b
 ·obtain⟨a,r,pl,h⟩:=I.list b;refine dw _ pl.isList (λw e=>DE g d r c w (by simpa using e)) ⟨.bl _,H,I,rfl,?_⟩;rw[show a.toArray.any _=a.any (iA x) by simp,jE r c];exact q
 ·obtain⟨a,r,pl,h⟩:=I.tuple b;refine Tu _ pl (λw e=>DE g d r c w ⋯) ⟨.bl _,H,I,rfl,?_⟩;rw[show a.toArray.any _=a.any (iA x) by simp,jE r c];exact q
def gW:zh X (Gb .NotIn)$ kH X.K Ĳ:=by
 rintro f s j H x y v u Q I g i ⟨p,xs,rfl,b,d,c,q⟩;cases i;rcases b with b|b
 ·obtain⟨a,r,pl,h⟩:=I.list b;refine qt _ pl.isList (λw e=>DE g d r c w (by simpa using e)) ⟨.bl _,H,I,rfl,?_⟩;rw[show a.toArray.any _=a.any (iA x) by simp,jE r c];exact q
 ·obtain⟨a,r,pl,h⟩:=I.tuple b;refine Tr _ pl (λw e=>DE g d r c w ⋯) ⟨.bl _,H,I,rfl,?_⟩;rw[show a.toArray.any _=a.any (iA x) by simp,jE r c];exact q
def m3:Ao X (.builtin "len") (λxs H Q=>∃ p b,xs=[.ref p]/\(Ue X.K H p b\/Tg X.K H p b)/\Q (.int b.length) H):=by
 intro f s l H xs k Q I r h;obtain⟨p,b,rfl,c,q⟩:=h;obtain⟨u,rfl,i⟩:=Cs r;cases i;have j:=EG;rcases c with c|c
 ·obtain⟨d,e,pl,g⟩:=I.list c;have a:=e.length;exact Calls.call_len_list pl.isList (by simp only[Ua]<;>lia) ⟨.int b.length,H,I.tok _,⟨s.toks+1,by rw[Ua,a]⟩,q⟩
 ·obtain⟨d,e,pl,g⟩:=I.tuple c;have a:=e.length;exact len_tuple pl (by simp only[Ua]<;>lia) ⟨.int b.length,H,I.tok _,⟨s.toks+1,by rw[Ua,a]⟩,q⟩
def i6:Ao X (.type "list") (λxs H Q=>∃ p f,xs=[.ref p]/\(Ue X.K H p f\/Tg X.K H p f)/\∀ l,H l=V6->Q (.ref l) (Wb H l$ .ra f)):=by
 rintro k s σ H xs y Q I r ⟨p,f,rfl,h,q⟩;obtain⟨u,rfl,rfl⟩:=Cs r;have jg:∀ (a:gV),ie f a->f.length<=sizeLine->∀ (h':Heap) (c:Nat),(∀ b x,s.heap.get? b=BD x->h'.get? b=BD x)->
   h'.get? s.heap.objs.size=BD { cls:=.type "list",dict:=V6,data:=.seq a.toArray c,slots:=#[] }->EP X k σ Q (.ref s.heap.objs.size) { s with heap:=h' }:=λa d i h' c j e=>
  ⟨.ref s.heap.objs.size,_,I.laid (t':=s.toks) j (ua _) (show Cj X.prog X.w _ h' _ (.ra f)from⟨i,a,c,d,e⟩),rfl,q _$ I.Fc.fresh$ ua _⟩
 rcases h with h|h
 ·obtain⟨a,d,pl,i⟩:=I.list h;have g:=d.length;obtain⟨o,v,m,n,t⟩:=pl.isList;exact IZ p (.inl rfl) v m t (λh' c j e=>jg a d i h' c j e) (by simp only[Ua]<;>lia)
 ·obtain⟨a,d,pl,i⟩:=I.tuple h;have g:=d.length;obtain⟨o,v,m,n,t⟩:=pl;exact IZ p (.inr rfl) v m t (λh' c j e=>jg a d i h' c j e) (by simp only[Ua]<;>lia)
def X8:Ao X (.type "tuple") (λxs H Q=>∃ p d,xs=[.ref p]/\((Ue X.K H p d/\∀ l,H l=V6->Q (.ref l) (Wb H l$ .Qa d))\/(Tg X.K H p d/\Q (.ref p) H))):=by
 intro a s m H xs v Q I r h;obtain⟨p,d,rfl,h⟩:=h;obtain⟨u,rfl,rfl⟩:=Cs r;rcases h with⟨f,q⟩|⟨f,q⟩
 ·obtain⟨c,g,pl,k⟩:=I.list f;have j:=g.length;refine call_tuple_list pl.isList (λh' t=>?_) ⋯;have i:db X a m H { s with heap:=h' }:=I.kept t;have n:db X a m _ { s with heap:=h'.push { cls:=.type "tuple",data:=.seq c.toArray } }:=
   i.laid (λb o e=>ga _ e) (ua _) (show Cj X.prog X.w _ _ _ (.Qa d)from⟨k,c,g,IsTup.new _ _⟩)
  exact⟨.ref h'.objs.size,_,n,rfl,q _$ i.Fc.fresh$ ua _⟩
 ·obtain⟨c,g,pl,k⟩:=I.tuple f;exact call_tuple_same pl ⟨.ref p,H,I,rfl,q⟩
def cQ(K:W.Frag)(T:String)(x:V)(H:Hp):Prop:=match x with
 | .str _=>T = "str"
 | .int _=>T = "int"
 | .ref p=>(T = "list"/\∃ xs,Ue K H p xs)\/(T = "tuple"/\∃ o,K.lookup p=BD o/\o.cls=.type "tuple"/\o.dict=V6)\/
   (T = "dict"/\((∃ a,H p=BD (.dK a))\/∃ a,H p=BD (.dT a)))\/(T = "set"/\∃ S n,H p=BD (.set S n))
 |_=>False
def υ(I:db X d σ H s)(r:jd x v)(ty:cQ X.K T x H) :
  s.TypeIs v T/\∀ a,v=.ref a->∃ ob,s.heap.get? a=BD ob/\ob.dict=V6:=by
 cases x with
 |str z=>
  obtain⟨t,rfl⟩:=r;cases (show T = "str" from ty);exact⟨typeIs_str s z t,λm e=>nomatch e⟩
 |int i=>
  obtain⟨t,rfl⟩:=r;cases (show T = "int" from ty);exact⟨typeIs_int s i t,λm e=>nomatch e⟩
 |ref p=>
  cases r;rcases ty with⟨rfl,xs,k⟩|⟨rfl,o,b,j,g⟩|⟨rfl,b⟩|⟨rfl,S,n,b⟩
  ·obtain⟨l,_,pl,_⟩:=I.list k;refine⟨pl.isList.typeIs,λa e=>?_⟩;cases e;obtain⟨o,n,e,c,g,_⟩:=pl;exact⟨o,e,g⟩
  ·refine⟨⟨o,I.Ai p o b,j⟩,λa e=>?_⟩;cases e;exact⟨o,I.Ai _ o b,g⟩
  ·have z:∃ o,s.heap.get? p=BD o/\o.ExactDict:=by
    rcases b with⟨h,b⟩|⟨h,b⟩
    ·obtain⟨_,_,_,_,o,_,_,e,ex,_⟩:=I.Fc p _ b;exact⟨o,e,ex⟩
    ·obtain⟨_,_,_,_,o,_,_,e,ex,_⟩:=I.Fc p _ b
     simp_all
   obtain⟨o,e,ex⟩:=z;refine⟨⟨o,e,ex.1⟩,λa f=>?_⟩;cases f;exact⟨o,e,ex.2.1⟩
  ·obtain⟨o,_,_,_,e,ex,_⟩:=I.Fc p _ b;refine⟨⟨o,e,ex.1⟩,λa f=>?_⟩;cases f;exact⟨o,e,ex.2.1⟩
 |_=>exact False.elim ty
def Z5(K:W.Frag)(T:String)(r:V->n'->Hp->VK->Prop)(d:TE)(t:TA):TE:=λb H Q=>d b H λx a=>cQ K T x a/\t b a λxs c=>r x xs c Q
variable{o e:Oa}{es:List Oa}{to:TE}{t:TA}{name:Str}{apos cpos:Td}{T id:String}{r:V->n'->Hp->VK->Prop}
def Μ(B:vm T)(f:vP T name id)(i:uo (.builtin id)=pure (.type "method_descriptor"))(y:Uw X id r)(z:PE X o to)(w:PA X (e::es) t)
  (b:Dd o name X.env (Mb o X.env)=Mb o X.env:=by rfl)
  (d:((lc cpos$ va (e::es) X.env).all (λx=>!x.1) && (Hh cpos$ uf [] X.env).all (λx=>x.1.isSome)
   && decide ((e::es).length+([]:List ej).length+(if ([]:List ej).isEmpty then 0 else 1)<30))=Ĳ:=by rfl)
  (c:(apos.endLine == cpos.line)=Ĳ:=by rfl) (A:va (e::es) X.env=(Ε,Mb e X.env)::va es X.env:=by rfl) (g:(lc cpos$ va es X.env).any (·.1)=Ε:=by rfl) :
  PE X (.Call (.Attribute o name apos) (e::es) [] cpos)$ Z5 X.K T r to t:=by
 intro a s j H Q I h;refine Uu b d c rfl (Ed (z a s j H _ I h) λv s1 ſ=>?_);obtain⟨x,H1,k,m,ty,C⟩:=ſ;obtain⟨q,u⟩:=υ k m ty;refine⟨T,id,B,f,i,q,u,?_⟩;have l:=w cpos a s1 j H1 _ k C;rw[A]at l ⊢;exact Sh (by assumption)$ Hi (Ed l λus s2 ⟨vs,n,p,E,D⟩=>y a s2 j n x vs v us Q p m E D)
end
def SM(X:Cx)(b:String)(r:V->n'->Hp->VK->Prop):Prop:=
 ∀ (a:List$ Addr × Obj) (s:Shared) (σ:St) (H:Hp) (x:V) (xs:n') (v:Value) (us:gV) (Q:VK),db X a σ H s->jd x v->ie xs us->r x xs H Q->
  wpAny (model X.prog X.w) X.A (call (.builtin b)$ v::us) (EP X a σ Q) X.xe s
theorem ie.one{x:V}{us}(h:ie [x] us):∃ u,us=[u]/\jd x u:=by
 cases h with|cons r h=>cases h;exact⟨_,rfl,r⟩
theorem ie.two{x y:V}{us}(h:ie [x,y] us):∃ u v,us=[u,v]/\jd x u/\jd y v:=by
 cases h with|cons r h=>cases h with|cons q h=>cases h;exact⟨_,_,rfl,r,q⟩
theorem ie.eraseIdx:∀ {xs:n'} {us:gV} (i:Nat),ie xs us->ie (xs.eraseIdx i) (us.eraseIdx i)
 |_,_,_,.nil=>.nil
 |_,_,0,.cons _ t=>t
 |_,_,i+1,.cons r t=>.cons r (ie.eraseIdx i t)
theorem GR{a:Type}:∀ (l:List a) (i:Nat),(l.eraseIdx i).length<=l.length
 |[],_=>ua _
 |_::_,0=>re _
 |_::r,i+1=>qx (GR r i)
section
variable{X:Cx}{pins:List$ Addr × Obj}{σ:St}{H:Hp}{s:Shared}{l b:Addr}{xs ys zs:n'}
def db.kz{a its':gV}(I:db X pins σ H s)(b:H l=BD (.ra xs))
  (e:s.heap.get? l=BD { cls:=.type "list",data:=.seq a.toArray n }) (d:f a.toArray=its'.toArray) (h:ie ys its') (i:ys.length<=sizeLine) :
  db X pins σ (Wb H l$ .ra ys) { s with heap:=s.heap.update l (Le f),toks:=t' }:=by
 have q:=zaA e f;rw[d]at q;refine I.write (by rw[b];exact trivial) (.inl rfl) (λj u c g=>(Ge s.heap _$ Jd c).trans g) ⟨_,q⟩ ?_;exact⟨i,its',_,h,q⟩
def db.gA(I:db X pins σ H s)(b:ie ys a)(c:ys.length<=sizeLine) :
  db X pins σ (Wb H s.heap.objs.size$ .ra ys) { s with heap:=s.heap.push { cls:=.type "list",data:=.seq a.toArray },toks:=t' }:=
 I.laid (λd d q=>ga _ q) (ua _) ⟨c,a,0,b,Da _ rfl⟩
def db.fresh(I:db X pins σ H s):H s.heap.objs.size=V6:=I.Fc.fresh$ ua _
def db.Os(I:db X pins σ H s)(b:H l=BD (.ra xs)):xs.length<=sizeLine/\∃ (a:gV) (n:Nat),ie xs a/\xs.length=a.length/\s.heap.get? l=BD { cls:=.type "list",data:=.seq a.toArray n }:=by
 obtain⟨z,a,n,r,e⟩:=I.Fc l _ b;exact⟨z,a,n,r,r.length,e⟩
def i7(h:n<=sizeLine):Ig n=Ε:=by
 unfold Ig
 simp_all
end
section
variable{X:Cx}
def fM:V->n'->Hp->VK->Prop:=λx a H Q=>∃ l xs y,x=.ref l/\a=[y]/\H l=BD (.ra xs)/\xs.length<sizeLine/\Q .Zb (Wb H l$ .ra$ xs++[y])
def uK:SM X "list.append" fM:=by
 rintro c s k H x vs v j Q I g f ⟨l,xs,y,rfl,rfl,b,i,q⟩;cases g;obtain⟨u,rfl,d⟩:=f.one;obtain⟨z,a,n,r,h,e⟩:=I.Os b;refine xA F.slot_list_append ⟨_,e,rfl⟩ F.entry_list_append (F.args_list_append_2 _ _) (PySem.list_append l a.toArray n u$ by simp_all) ⟨e,⟨.Zb,_,I.kz (its':=a++[u]) b e ⋯ (r.append$ .cons d .nil) ?_,rfl,q⟩⟩;rw[Ub,List.length_singleton]
 lia
def JY:V->n'->Hp->VK->Prop:=λx c H Q=>∃ l b xs a,x=.ref l/\c=[.ref b]/\H l=BD (.ra xs)/\H b=BD (.ra a)/\xs.length+a.length<=sizeLine/\Q .Zb (Wb H l$ .ra$ xs++a)
def zig:SM X "list.extend" JY:=by
 intro i s E H x vs v B Q I w t h;obtain⟨l,b,xs,D,rfl,rfl,g,k,A,q⟩:=h;cases w;obtain⟨u,rfl,rfl⟩:=t.one;obtain⟨z,c,n,r,y,e⟩:=I.Os g;obtain⟨C,a,o,p,m,j⟩:=I.Os k;have f:c.toArray.size+a.toArray.size<=sizeLine:=by rw[Ua,Ua];lia
 have d:¬ (!c.toArray.isEmpty && Ig (c.toArray.size+a.toArray.size))=Ĳ:=by
  rw[i7 f,Sy];exact qb
 refine xA F.slot_list_extend ⟨_,e,rfl⟩ F.entry_list_extend (F.args_list_extend_2 _ _)
  (AutoSeq1.list_extend_list_list_0 l c.toArray n b a.toArray o d ⋯$ by lia) ⟨e,j,?_⟩
 refine⟨.Zb,_,I.kz (its':=c++a) g e ⋯ (r.append p) ?_,rfl,q⟩;rw[Ub]
 lia
def mS:V->n'->Hp->VK->Prop:=λx a H Q=>∃ l xs i k y,x=.ref l/\a=[.int i]/\H l=BD (.ra xs)/\-(2 ^ 63)<=i/\i<2 ^ 63/\Vt i xs.length=BD k/\xs[k]?=BD y/\Q y (Wb H l$ .ra$ xs.eraseIdx k)
def Ż:SM X "list.pop" mS:=by
 rintro d s D H x vs v C Q I o m ⟨l,xs,i,k,y,rfl,rfl,c,f,g,p,h,q⟩;cases o;obtain⟨u,rfl,j⟩:=m.one;obtain⟨t,rfl⟩:=j;obtain⟨z,a,n,r,A,e⟩:=I.Os c;obtain⟨w,B,b⟩:=r.get h;refine xA F.slot_list_pop ⟨_,e,rfl⟩ F.entry_list_pop (F.args_list_pop_2 _ _)
  (MeetsSeq.list_pop_at l a.toArray n i t k w (fitsIndex_both f g) ⋯ ⋯$ by simp_all) ⟨e,?_⟩
 refine⟨y,_,I.kz c e ?_ (r.eraseIdx k) ?_,b,q⟩
 ·show a.toArray.eraseIdxIfInBounds k=(a.eraseIdx k).toArray
  simp_all
 ·have:=GR xs k
  lia
def Ğ:R2:=λx y H Q=>∃ l b xs a,x=.ref l/\y=.ref b/\H l=BD (.ra xs)/\H b=BD (.ra a)/\xs.length+a.length<=sizeLine/\∀ p,H p=V6->Q (.ref p) (Wb H p$ .ra$ xs++a)
def i5:zh X (Je .Add) Ğ:=by
 rintro d s C H x y v u Q I m o ⟨l,b,xs,B,rfl,rfl,i,h,t,q⟩;cases m;cases o;obtain⟨z,c,n,r,p,e⟩:=I.Os i;obtain⟨A,a,w,k,j,f⟩:=I.Os h;refine PySem.P.add_list e f ?_ ⋯;have g:c.toArray++a.toArray=(c++a).toArray:=by simp
 rw[g];exact⟨.ref _,_,I.gA (r.append k) ⋯,rfl,q _ I.fresh⟩
end
section
variable{prog:Ca}{w:Wa}{A:Ra}{E:Value->Shared->Prop}{s:Shared}
set_option maxRecDepth 100000 in
end
end L2
namespace Att
open W Calls
def z8:∀ c d,WellAll P h d (c.map vJ)->ph d c:=by
 intro c;induction c with
 |nil=>
  intro d w;cases w;exact .nil
 |cons n c e=>
  intro d w;cases w with
  |cons a b=>
   cases a;exact .cons _ _$ e _ b
def zja{l:OpenLaw}(s:l.most=BD n)
  (b:l.row.toRowW.claim.pre args=Ĳ) (k:WellAll P h e args) :
  ∃ a vs c,e=[yb a]/\args=[WData.list$ c.map vJ]/\h.get? a=BD { cls:=.type "list",data:=.seq vs.toArray }/\ph vs c/\c.length<=n:=by
 have j:=(pre_splitW b).1;have m:l.pre.holds [] { args:=args }=Ĳ:=(pre_splitW b).2;obtain⟨d,r,rfl,o,p⟩:=hasAllW_cons j;obtain rfl:=hasAllW_nil p;obtain⟨xs,rfl,q⟩:=hasW_list o;obtain⟨c,rfl⟩:=items_int q;have g:c.length<=n:=by
  unfold OpenLaw.pre at m;have i:(WTm.not$ .lt (.lit$ .int (n:Int))$ .len$ .arg 0).holds [] { args:=[.list$ c.map .int] }=Ĳ:=by
   have i:=(holds_andW m).1;rw[s]at i;exact i
  have w:=condW_of i$ w_not$ w_lt w_lit$ w_len_list$ w_arg rfl
  simp_all
 cases k with
 |cons u v=>
  cases v;cases u with
  |list t f=>exact⟨_,_,c,rfl,rfl,t,z8 c _ f,g⟩
theorem zix(l:OpenLaw) a:l.row.toRowW.claim.post a (.bool Ĳ) a=Ĳ:=
 postW_of
  (show WShape.has [] (.bool Ĳ) .bool=Ĳ by first|rfl|decide|simp)
  (w_eq_bool (w_res rfl) w_lit) rfl
def vp{l:OpenLaw}
  (R:l.most=BD n) (x:d.params.defaults=[])
  (i:∀ w e b s A fa o B p g a vs t,
   Ground q c [] C w e s A b.heap->D w b.heap->
   b.heap.get? fa=BD o->o.data=.func (docDef d.name d.params d.body d.scope B p g)->b.heap.CodeRec p d.name->s d.name=BD (.ref fa)->
   b.heap.get? a=BD { cls:=.type "list",data:=.seq vs.toArray }->ph vs t->t.length<=n->b.gens=#[]->
   codeAny (model l.prog w) Xm (.call (.ref fa) ⟨[.ref a],[]⟩) (λr u=>r=.ok (.ret$ .bool Ĳ)/\OldK b.heap u.heap/\u.os=b.os/\nh u.gens) b) :
  WalkO q c C D l.row.toRowW d [] (λf vs=>PySem.call f vs):=by
 intro w e b s A G Y fa o B p g J kV S N v F y ό E I V m H ϋ z P;obtain rfl:J=.none:=Dflts.none F x;obtain rfl:kV=.none:=Dflts.noKw F;obtain⟨a,vs,t,rfl,rfl,k,h,j⟩:=zja R m z;refine enter_call (Af (i w e b s A fa o B p g a vs t G Y S (fd_plain N) v y k h j ό) λr u T=>?_);obtain⟨rfl,K,L,M⟩:=T;exact⟨.inl ⟨.bool Ĳ,.bool Ĳ,[],rfl,λO=>rfl,.bool Ĳ,zix l _,λO=>⟨List.Pairwise.nil,λO Q=>(nomatch Q)⟩⟩,K,L,M⟩
end Att
namespace L2
open Spec
theorem qE:∀ {a:gV} {ns:h8},ph a ns->ie (ns.map V.int) a
 |_,_,.nil=>.nil
 |_,_,.cons n t h=>.cons ⟨t,rfl⟩ (qE h)
noncomputable abbrev SR{K:W.Frag}{h:Heap}(_:K.In h):W.Frag:=K
noncomputable def yl(s:Stmt):Arguments:=match s with
 | .FunctionDef _ a _ _ _ _ _ _ _ _=>a
 |_=>{ posonlyargs:=[],args:=[],vararg:=V6,kwonlyargs:=[],kw_defaults:=[],kwarg:=V6,defaults:=[] }
noncomputable def Pj(s:Stmt):List Stmt:=match s with
 | .FunctionDef _ _ b _ _ _ _ _ _ _=>b
 |_=>[]
noncomputable def yf(s:Stmt):Scope:=match s with
 | .FunctionDef _ _ _ _ _ _ sc _ _ _=>sc
 |_=>{ kind:=.function,names:=[],isGenerator:=Ε,isCoroutine:=Ε }
noncomputable abbrev E0:XK:=λa a a=>False
inductive WC(K:W.Frag)(x qual:Str)(st:Stmt)(f:Addr)(fd:sf):Prop
 |mk (oc:Value) (od:Option Addr) (kV doc pm:Value) (an:Option Addr) (cdv ct:Value) (osl:Array (Option Value)) (f1:fd=W.fnOf x qual (yl st) (Pj st) (yf st) .none kV doc pm an cdv ct) (f2:K.lookup f=BD ⟨oc,od,.func fd,osl⟩) (f3:W.codeIn K cdv qual=Ĳ):WC K x qual st f fd
structure bI(K:W.Frag)(x qual:Str)(st:Stmt)(f:Addr)(fd:sf):Prop where
 ex:WC K x qual st f fd
 kp:W.keepIn K (.ref f)=Ĳ
section
variable{P:Ca}{w:Wa}{K:W.Frag}{mg:Str->Option Value}{base:Heap}
def WS{st}{kV d h b ct}(l:K.lookup f=BD ⟨i,j,.func$ W.fnOf x a (yl st) (Pj st) (yf st) .none kV d h g b ct,e⟩)
  (c:W.codeIn K b a=Ĳ) (k:W.keepIn K (.ref f)=Ĳ):bI K x a st f$ W.fnOf x a (yl st) (Pj st) (yf st) .none kV d h g b ct:=⟨⟨i,j,kV,d,h,g,b,ct,e,rfl,l,c⟩,k⟩
end
def rS(h:n<=1000):n<sizeLine:=Vu h ⋯
section
variable{X:Cx}
def pv i(c:X.N[i]?=BD x:=by rfl)(e:fD X.env.scope x:=by first|exact Or.inl rfl|exact Or.inr$ Or.inl rfl|exact Or.inr$ Or.inr rfl)(d:(x == ("__debug__" : Str))=Ε:=by decide)
  (a:(x == ("__classdict__" : Str))=Ε:=by decide):PE X (.Name x b)$ TW i:=tU c e d a
end
end L2
namespace L4
open Spec L2
def pZ(a:c):∃ b,b=a:=⟨a,rfl⟩
def zd{b:Type}(a:b):b:=Classical.choose$ pZ a
@[simp] theorem Rs(a:b):zd a=a:=zaB$ pZ a
inductive D where
 |Zb|bl (b:Bool)|int (i:Int)|str (x:Str)|Qa (xs:List D)|Ff (ns:h8)|ref (n:Nat)
 |ra (xs:List D)|Xa (ks:List Ic) (xs:List D)|obj (c:Nat) (ns:ad) (xs:List D)|Us (c:Nat)|gt (ss:ad)
abbrev B':=List D
inductive Ob where
 |ra (xs:B')
 |Xa (kvs:List (Ic × D))
 |ub (c:Nat) (fs:List (Str × D))
 |He (kvs:List (Ic × D))
 |Vc (ks:List TK)
abbrev Fa:=List Ob
abbrev St:=L2.St
abbrev Ev:=List$ Option D
structure Xn where
 cls:Nat
inductive Vi(α:Type) where
 |ok (a:α) (σ:Fa)
 |ex (x:Xn) (σ:Fa)
 |Eb
abbrev M(a:Type):=Fa->Vi a
def ret{b:Type}(a:b):M b:=λc=>.ok a c
def Eb{a:Type}:M a:=λb=>.Eb
def Vi.bind{c d:Type}(o:Vi c)(k:c->M d):Vi d:=match o with
 | .ok a b=>k a b
 | .ex x b=>.ex x b
 | .Eb=>.Eb
def Tc{a b:Type}(m:M a)(k:a->M b):M b:=λc=>(m c).bind k
inductive Fl where
 |nx (ρ:Ev)|rt (d:D)|bk (ρ:Ev)|ct (ρ:Ev)|xc (ρ:Ev) (x:Xn)
structure Tab where
 P:Addr
 line:Int
 col:Int
 qual:Str
structure Tx where
 Ln:List Tab
 bm:Addr
structure Tb where
 K:W.Frag
 ca:Nat->Addr
 tx:Tx
def Iu(q:Str)(c:Addr):Heap->Prop:=λh=>∃ o a t,h.get? c=BD o/\o.data=.fields a/\a[1]?=BD (.str q t)
def HV(a:Addr):Heap->Prop:=λh=>∃ o,h.get? a=BD o/\o.cls=.type "module"/\o.dict=BD builtinsNs/\o.data=.plain
def ur(T:Tb)(a:dl)(H:Hp):Prop:=∀ t∈T.tx.Ln,(T.tx.bm ∉ a/\∃ b,H T.tx.bm=BD (.Ud b$ .ext$ HV T.tx.bm))/\t.P ∉ a/\∃ ps,H t.P=BD (.Zk ps)/\(ps=#[]\/∃ c,ps=#[yc t.line,yc t.col,.ref c]/\c ∉ a/\H c=BD (.ext$ Iu t.qual c))
def ur.grow(h:ur T d H)(k:∀ b u,H b=BD u->a b=BD u):ur T d a:=λt m=>by
 obtain⟨⟨f,o,g⟩,i,ps,j,l⟩:=h t m;exact⟨⟨f,o,k _ _ g⟩,i,ps,k _ _ j,l.imp id λ⟨c,e,n,z⟩=>⟨c,e,n,k _ _ z⟩⟩
def ur.sub(h:ur T a H)(k:∀ b∈d,b∈a):ur T d H:=λt m=>by
 obtain⟨⟨f,g⟩,i,ps,j,l⟩:=h t m;exact⟨⟨λz=>f$ k _ z,g⟩,λz=>i$ k _ z,ps,j,l.imp id λ⟨c,e,n,z⟩=>⟨c,e,λy=>n$ k _ y,z⟩⟩
def ur.more(h:ur T a H)(o:H p=V6):ur T (a++[p]) H:=λt l=>by
 obtain⟨⟨i,m,f⟩,j,ps,g,k⟩:=h t l;have d:∀ {b:Addr} {u:HO},H b=BD u->b ∉ a->b ∉ a++[p]:=fun {b u} e n z=>(kc.mp z).elim n λy=>by
  simp_all
 exact⟨⟨d f i,m,f⟩,d g j,ps,g,k.imp id λ⟨c,e,n,z⟩=>⟨c,e,d z n,z⟩⟩
def ur.out(h:ur T g H)(r:∀ b,b≠a->i b=H b)(q:a∈g\/∃ f,H a=BD (.dK f)):ur T g i:=λt s=>by
 obtain⟨⟨k,v,m⟩,l,ps,o,p⟩:=h t s;have j:∀ {b:Addr} {u:HO},H b=BD u->b ∉ g->(∀ f,u≠.dK f)->i b=BD u:=fun {b u} e n d=>by
  rw[r b (λz=>by
   subst z;rcases q with y|⟨f,y⟩
   ·exact n y
   ·rw[e]at y;cases y;exact d f rfl)]
  exact e
 exact⟨⟨k,v,j m k (λw z=>by cases z)⟩,l,ps,j o l (λw z=>by cases z),p.imp id λ⟨c,e,n,z⟩=>⟨c,e,n,j z n (λw y=>by cases y)⟩⟩
noncomputable def Tb.cv(T:Tb)(x:Xn):Value:=.ref$ T.ca x.cls
noncomputable def fE(c:Nat):Option Nat:=if c<100 then V6 else BD (c / 100 - 1)
def oG(C:Addr)(c:Option Addr)(a:Addr):Heap->Prop:=λh=>∃ o,h.get? a=BD o/\o.cls=.ref C/\∀ b,c=BD b->o.dict=BD b/\∃ d,o.data=.fields d
def VH(b:Addr)(n:Nat):Heap->Prop:=λh=>∃ o,h.get? b=BD o/\∃ a c t,o.data=.dict a c/\StrKeys a/\nsFind a "pot" = BD (.int n t)
def gJ(K:W.Frag)(H:Hp)(a:Addr)(c:h8):Prop:=
 (∃ o,H a=BD (.Ud o$ .ra$ c.map V.int))\/
  ∃ (o:Obj) (b:Array Value) (n:Nat),K.lookup a=BD o/\o.cls=.type "list"/\o.dict=V6/\o.data=.seq b n/\b.size<=sizeLine/\ie (c.map V.int) b.toList
def gJ.seq{K}(h:gJ K H a b):Ue K H a$ b.map V.int:=by
 rcases h with⟨o,h⟩|h
 ·exact .inl$ .inr ⟨o,h⟩
 ·exact .inr h
def CB(K:W.Frag)(a:Addr)(c:ad):Prop:=∃ (o:Obj) (b:Array Value) (n:Nat),K.lookup a=BD o/\o.cls=.type "tuple"/\o.data=.seq b n/\b.size<=sizeLine/\ie (c.map V.str) b.toList
mutual
def Sa(T:Tb)(d:dl)(H:Hp):D->V->Prop
 | .Zb,v=>v=.Zb
 | .bl b,v=>v=.bl b
 | .int i,v=>v=.int i
 | .str x,v=>v=.str x
 | .Qa ds,v=>∃ p f,v=.ref p/\H p=BD (.Qa f)/\lb T d H ds f
 | .Ff ns,v=>∃ a,v=.ref a/\gJ T.K H a ns
 | .ref n,v=>∃ a,v=.ref a/\d[n]?=BD a
 | .ra ds,v=>∃ a f,v=.ref a/\a ∉ d/\H a=BD (.ra f)/\lb T d H ds f
 | .Xa ks ds,v=>∃ a e,v=.ref a/\a ∉ d/\Rd H a (.dK e)/\e.map (·.1)=ks/\lb T d H ds (e.map (·.2))
 | .obj c ns ds,v=>∃ a k h,v=.ref a/\a ∉ d/\H a=BD (.ub (T.ca c) k h)/\h.map (·.1)=ns/\lb T d H ds (h.map (·.2))
 | .Us c,v=>∃ a j,v=.ref a/\a ∉ d/\H a=BD (.ext$ oG (T.ca c) j a)/\∀ n,fE c=BD n->∃ g,j=BD g/\g ∉ d/\H g=BD (.ext$ VH g n)
 | .gt ss,v=>∃ a,v=.ref a/\CB T.K a ss
def lb(T:Tb)(b:dl)(H:Hp):B'->n'->Prop
 |[],a=>a=[]
 |d::ds,a=>∃ v r,a=v::r/\Sa T b H d v/\lb T b H ds r
end
def Kp(o b:HO):Prop:=b=o\/(∃ d a,o=.dK a/\b=.Ud d (.dK a))\/∃ e c,o=.Zk e/\b=.Zk c
def Kp.trans(x:Kp a b)(y:Kp b c):Kp a c:=by
 rcases x with rfl|⟨g,d,rfl,rfl⟩|⟨ps,e,rfl,rfl⟩
 ·exact y
 ·rcases y with rfl|⟨_,_,z,_⟩|⟨_,_,z,_⟩
  ·exact .inr$ .inl ⟨g,d,rfl,rfl⟩
  all_goals simp_all
 ·rcases y with rfl|⟨_,_,z,_⟩|⟨_,f,_,rfl⟩
  ·exact .inr$ .inr ⟨ps,e,rfl,rfl⟩
  ·cases z
  ·exact .inr$ .inr ⟨ps,f,rfl,rfl⟩
structure Cd(μ:dl)(H:Hp)(μ':dl)(H':Hp):Prop where
 pre:∃ r,μ'=μ++r
 Qa:∀ p xs,H p=BD (.Qa xs)->H' p=BD (.Qa xs)
 Ud:∀ p o u,H p=BD (.Ud o u)->H' p=BD (.Ud o u)
 keep:∀ p o,H p=BD o->p ∉ μ->(∃ o',H' p=BD o'/\Kp o o')/\p ∉ μ'
def Cd.refl a H:Cd a H a H:=⟨⟨[],by simp⟩,λb b h=>h,λb b b h=>h,λb b h n=>⟨⟨_,h,.inl rfl⟩,n⟩⟩
def Cd.trans(a:Cd g H c e)(b:Cd c e d f):Cd g H d f:=by
 obtain⟨⟨r,rfl⟩,z,k,k1⟩:=a;obtain⟨⟨y,rfl⟩,A,l,s⟩:=b;exact⟨⟨r++y,by simp⟩,λp xs h=>A p xs$ z p xs h,λp o u h=>l p o u$ k p o u h,λp o h n=>let ⟨⟨w,m,i⟩,t⟩:=k1 p o h n;let ⟨⟨x,q,j⟩,v⟩:=s p w m t;⟨⟨x,q,i.trans j⟩,v⟩⟩
def Cd.Mh(e:Cd f H b d) p o(h:H p=BD o)(n:p ∉ f)(i:(∀ a,o≠.dK a)/\∀ ps,o≠.Zk ps:=by exact⟨(λl z=>by cases z),(λl z=>by cases z)⟩):d p=BD o/\p ∉ b:=by
 obtain⟨⟨k,g,c⟩,j⟩:=e.keep p o h n;rcases c with rfl|⟨_,a,z,_⟩|⟨ps,_,z,_⟩;all_goals simp_all
def Cd.rd(e:Cd k H b f) p a(h:Rd H p$ .dK a)(n:p ∉ k):Rd f p (.dK a)/\p ∉ b:=by
 rcases h with h|⟨d,h⟩
 ·obtain⟨⟨l,g,c⟩,j⟩:=e.keep p _ h n;rcases c with rfl|⟨d,i,z,rfl⟩|⟨_,_,z,_⟩
  ·exact⟨.inl g,j⟩
  ·cases z;exact⟨.inr ⟨d,g⟩,j⟩
  ·cases z
 ·exact⟨.inr ⟨d,e.Ud _ _ _ h⟩,(e.keep p _ h n).2⟩
def Cd.get(e:Cd c H b d){n:Nat}(h:c[n]?=BD a):b[n]?=BD a:=by
 obtain⟨⟨r,rfl⟩,_,_⟩:=e;rw[Za (ba.mp h).1];exact h
mutual
theorem Sa.mono{T:Tb}{u l:dl}{H r:Hp}(e:Cd u H l r):∀ (d:D) (v:V),Sa T u H d v->Sa T l r d v
 | .Zb,v,h=>by simpa [Sa]using h
 | .bl b,v,h=>by simpa [Sa]using h
 | .int i,v,h=>by simpa [Sa]using h
 | .str x,v,h=>by simpa [Sa]using h
 | .Qa ds,v,h=>by
  rw[Sa]at h ⊢;obtain⟨p,vs,g,f,j⟩:=h;exact⟨p,vs,g,e.Qa _ _ f,lb.mono e ds vs j⟩
 | .Ff ns,v,h=>by
  rw[Sa]at h ⊢;obtain⟨a,g,f⟩:=h;refine⟨a,g,?_⟩;rcases f with⟨o,f⟩|f
  ·exact .inl ⟨o,e.Ud _ _ _ f⟩
  ·exact .inr f
 | .ref n,v,h=>by
  rw[Sa]at h ⊢;obtain⟨a,g,f⟩:=h;exact⟨a,g,e.get f⟩
 | .ra ds,v,h=>by
  rw[Sa]at h ⊢;obtain⟨a,vs,g,f,j,k⟩:=h;exact⟨a,vs,g,(e.Mh _ _ j f).2,(e.Mh _ _ j f).1,lb.mono e ds vs k⟩
 | .Xa ks ds,v,h=>by
  rw[Sa]at h ⊢;obtain⟨a,vs,g,f,j,m,k⟩:=h;exact⟨a,vs,g,(e.rd _ _ j f).2,(e.rd _ _ j f).1,m,lb.mono e ds _ k⟩
 | .obj c ns ds,v,h=>by
  rw[Sa]at h ⊢;obtain⟨a,z,vs,g,f,j,m,k⟩:=h;exact⟨a,z,vs,g,(e.Mh _ _ j f).2,(e.Mh _ _ j f).1,m,lb.mono e ds _ k⟩
 | .Us c,v,h=>by
  rw[Sa]at h ⊢;obtain⟨a,y,g,f,j,k⟩:=h;exact⟨a,y,g,(e.Mh _ _ j f).2,(e.Mh _ _ j f).1,λn q=>let ⟨w,A,s,t⟩:=k n q;⟨w,A,(e.Mh _ _ t s).2,(e.Mh _ _ t s).1⟩⟩
 | .gt ss,v,h=>by rw[Sa]at h ⊢;exact h
theorem lb.mono{T:Tb}{f a:dl}{H c:Hp}(e:Cd f H a c):∀ (b:B') (vs:n'),lb T f H b vs->lb T a c b vs
 |[],vs,h=>by simpa [lb]using h
 |d::b,vs,h=>by
  rw[lb]at h ⊢;obtain⟨v,r,g,i,j⟩:=h;exact⟨v,r,g,Sa.mono e d v i,lb.mono e b r j⟩
end
def lb.nil:lb T a H [] []:=by rw[lb]
def lb.cons{T}{a}{H}{d}{v}{b}{vs}(c:Sa T a H d v)(e:lb T a H b vs):lb T a H (d::b)$ v::vs:=by
 rw[lb];exact⟨v,vs,rfl,c,e⟩
theorem lb.length:∀ {b:B'} {a:n'},lb T e H b a->b.length=a.length
 |[],a,h=>by rw[lb]at h;subst h;rfl
 |d::b,a,h=>by
  obtain⟨v,r,rfl,_,c⟩:=h;simp[lb.length c]
theorem lb.get:∀ {a:B'} {vs:n'} {i:Nat} {d:D},lb T c H a vs->a[i]?=BD d->∃ v,vs[i]?=BD v/\Sa T c H d v
 |[],vs,i,d,h,e=>by simp at e
 |d::a,vs,0,x,h,e=>by
  obtain⟨v,r,rfl,f,b⟩:=h
  simp_all
 |d::a,vs,i+1,x,h,e=>by
  obtain⟨v,r,rfl,f,b⟩:=h;simpa using lb.get b ⋯
theorem lb.append:∀ {c a:B'} {vs b:n'},lb T f H c vs->lb T f H a b->lb T f H (c++a) (vs++b)
 |[],a,vs,b,h,e=>by rw[lb]at h;subst h;simpa using e
 |d::c,a,vs,b,h,e=>by
  obtain⟨v,r,rfl,g,i⟩:=h;exact lb.cons g$ lb.append i e
theorem lb.set(f:Sa T c H d v):∀ {a:B'} {vs:n'} (i:Nat),lb T c H a vs->lb T c H (a.set i d) (vs.set i v)
 |[],vs,i,h=>by rw[lb]at h;subst h;simpa using lb.nil
 |x::a,vs,0,h=>by
  obtain⟨w,r,rfl,e,b⟩:=h;exact lb.cons f b
 |x::a,vs,i+1,h=>by
  obtain⟨w,r,rfl,e,b⟩:=h;exact lb.cons e$ lb.set f i b
theorem lb.drop:∀ {a:B'} {vs:n'} (n:Nat),lb T b H a vs->lb T b H (a.drop n) (vs.drop n)
 |a,vs,0,h=>by simpa using h
 |[],vs,n+1,h=>by rw[lb]at h;subst h;simpa using lb.nil
 |x::a,vs,n+1,h=>by
  obtain⟨w,r,rfl,d,c⟩:=h;simpa using lb.drop n c
theorem lb.take:∀ {a:B'} {vs:n'} (n:Nat),lb T b H a vs->lb T b H (a.take n) (vs.take n)
 |a,vs,0,h=>by simpa using lb.nil
 |[],vs,n+1,h=>by rw[lb]at h;subst h;simpa using lb.nil
 |x::a,vs,n+1,h=>by
  obtain⟨w,r,rfl,c,d⟩:=h;exact lb.cons c$ lb.take n d
def js(T:Tb)(a:dl)(H:Hp):List (Str × D)->List (Str × V)->Prop:=Paired λp q=>p.1=q.1/\Sa T a H p.2 q.2
def eh(T:Tb)(a:dl)(H:Hp):List (Ic × D)->List (Ic × V)->Prop:=Paired λp q=>p.1=q.1/\Sa T a H p.2 q.2
def Rn(T:Tb)(e:dl)(H:Hp)(a:Addr):Ob->Prop
 | .ra ds=>∃ b,H a=BD (.ra b)/\lb T e H ds b
 | .Xa d=>∃ b,H a=BD (.dK b)/\eh T e H d b
 | .ub c g=>∃ f b,H a=BD (.ub (T.ca c) f b)/\js T e H g b
 | .He d=>∃ h b,H a=BD (.Ud h$ .dK b)/\eh T e H d b
 | .Vc ks=>∃ b,H a=BD (.dT b)/\b.map (·.1)=ks
structure ud(T:Tb)(μ:dl)(H:Hp)(σ:Fa):Prop where
 len:μ.length=σ.length
 nd:μ.Nodup
 obs:∀ (n:Nat) (o:Ob),σ[n]?=BD o->∃ a,μ[n]?=BD a/\Rn T μ H a o
 tb:ur T μ H
def fh(T:Tb)(b:dl)(H:Hp)(a:Ev)(st:St):Prop:=a.length=st.length/\∀ (i:Nat) (d:D),a[i]?=BD (BD d)->∃ v,st[i]?=BD (BD v)/\Sa T b H d v
def fh.mono{st}(e:Cd c H a b)(h:fh T c H f st):fh T a b f st:=
 ⟨h.1,λi d q=>let ⟨v,g,j⟩:=h.2 i d q;⟨v,g,Sa.mono e d v j⟩⟩
set_option tactic.hygienic true in
def fh.set{st}(h:fh T a H c st) i(r:Sa T a H d v):fh T a H (c.set i$ BD d)$ st.set i$ BD v:=by
 refine⟨by simpa using h.1,λj x q=>?_⟩;rw[pe]at q;by_cases b:i=j
 ·subst b;rw[ka rfl]at q;split at q
  ·rename_i e
   cases q;exact⟨v,by rw[pe,ka rfl,ka (by rw[<-h.1];exact e)],r⟩
  ·cases q
 ·rw[qa b]at q;obtain⟨w,f,g⟩:=h.2 j x q
  simp_all
def L3(e:Addr)(b d:Value)(h:Heap):Prop:=∃ c a,h.get? e=BD c/\c.cls=b/\c.data=.fields a/\1<a.size/\a[0]?=BD d/\a[1]?=BD .none
def wn(B:Heap)(l:List Ag)(e:Addr)(a b:Value)(h:Heap):Prop:=B.StaysIn h/\B.get? e=V6/\h.FunFrames B l/\((∃ c,h.TracedAtW B e a b c)\/L3 e a b h)
def yto(o:Obj)(n:Nat):Prop:=∃ a b t,o.data=.dict a b/\StrKeys a/\nsFind a "pot" = BD (.int n t)
def IE(d:Option Nat)(e:Addr)(B h f:Heap)(c:Hp):Prop:=∀ n,d=BD n->∃ a oD b,h.get? e=BD b/\b.dict=BD a/\B.get? a=BD oD/\yto oD n/\c a=V6/\f.get? a=V6
inductive eD(outer:List Ag)(H:Hp)(s:Shared)(cls:Value)(fd:Option Nat)(H':Hp)(e:Value)(s':Shared):Prop
 |mk (ea:Addr) (a0:Value) (B:Heap) (f1:e=.ref ea) (f2:wn B outer ea cls a0 s'.heap) (f3:H' ea=V6) (f4:s.heap.get? ea=V6) (f5:(∀ b o,H' b=BD o->∃ ob,B.get? b=BD ob)) (f6:(∀ b o,s.heap.get? b=BD o->H b=V6->b ∉ Sj outer->B.get? b=BD o)) (f7:(∀ b o,s.heap.get? b=BD o->b ∉ Sj outer->∃ o',B.get? b=BD o')) (f8:IE fd ea B s'.heap s.heap H'):eD outer H s cls fd H' e s'
structure Sz(P:Ca)(w:Wa)(outer:List Ag)(H:Hp)(s:Shared)(cls:Value)(fd:Option Nat)(H':Hp)(e:Value)(s':Shared):Prop where
 ex:eD outer H s cls fd H' e s'
 os:s'.os=s.os
 bare:nh s'.gens
 un:Un (Sj outer) [] H H' s.heap s'.heap
 Fc:Jh P w H' s'.heap
noncomputable def jl(P:Ca)(w:Wa):Tv:=λa H s E e f=>∃ b d c,Sz P w a H s b d c e f/\E b d c
structure OB(X:Cx)(st:St)(cls:Value)(fd:Option Nat)(H':Hp):Prop where
 iI:∀ (pins:lv) (H:Hp) (s:Shared) (e:Value) (s':Shared),db X pins st H s->Sz X.prog X.w X.stack H s cls fd H' e s'->X.xe e s'
noncomputable abbrev XE(X:Cx)(d:St):XK:=λa c b=>OB X d a c b
def Rb{d e:Type}(T:Tb)(E:XK)(R:dl->Hp->d->e->Prop)(f:dl)(H:Hp)(o:Vi d)(Q:e->Hp->Prop):Prop:=match o with
 | .ok a σ=>∀ b g c,Cd f H b c->ud T b c σ->R b c a g->Q g c
 | .ex x σ=>∀ b c,Cd f H b c->ud T b c σ->E (T.cv x) (fE x.cls) c
 | .Eb=>False
def Rb.mono{R}{o:Vi j}{Q:k->Hp->Prop}(e:Cd l H c i)(h:Rb T E R l H o Q):Rb T E R c i o Q:=by
 cases o with
 |ok a σ=>exact λb g d f r q=>h b g d (e.trans f) r q
 |ex x σ=>exact λb d f r=>h b d (e.trans f) r
 |Eb=>exact h
def Rb.imp{R}{o:Vi e}{Q d:f->Hp->Prop}(h:Rb T E R i H o Q)(k:∀ g b,Q g b->d g b):Rb T E R i H o d:=by
 cases o with
 |ok a σ=>exact λc g b j r q=>k _ _$ h c g b j r q
 |ex x σ=>exact h
 |Eb=>exact h
def Rb.bind{R:dl->Hp->j->u->Prop}{p}{m}{k:j->M t}{Q:v->Hp->Prop}{o}
  (h:Rb T E p l H (Tc m k i) Q) (f:∀ a b c g d,m i=.ok a b->Cd l H c d->ud T c d b->R c d a g->Rb T E p c d (k a b) Q->o g d):Rb T E R l H (m i) o:=by
 unfold Tc at h;cases e:m i with
 |ok a b=>
  rw[e]at h;exact λn g w s r q=>f a b n g w e s r q$ h.mono s
 |ex x b=>rw[e]at h;exact h
 |Eb=>rw[e]at h;exact h
def Rb.here{R}{d:c}{g:b}{Q}(h:Rb T E R a H (.ok d e) Q)(r:ud T a H e)(p:R a H d g):Q g H:=h a g H (Cd.refl _ _) r p
inductive YA(T:Tb)(st:St)(H:Hp)(P:dl->Ev->Fa->Prop):Prop
 |mk (μ:dl) (ρ:Ev) (σ:Fa) (e:fh T μ H ρ st) (r:ud T μ H σ) (p:P μ ρ σ):YA T st H P
section
variable(T:Tb)(X:Cx)
def tF(f:Ev->M D):TE:=λa H Q=>YA T a H λb c d=>Rb T (XE X a) (Sa T) b H (f c d) Q
def DO:dl->Hp->Bool->Bool->Prop:=λc c a b=>b=a
def tT(f:Ev->M Bool):TT:=λa H Q=>YA T a H λb c d=>Rb T (XE X a) DO b H (f c d) Q
def tL(f:Ev->M (B')):TA:=λa H Q=>YA T a H λb c d=>Rb T (XE X a) (lb T) b H (f c d) Q
inductive Nq where
 |nx (st:St)|rt (v:V)|bk (st:St)|ct (st:St)|xc (st:St) (cls:Value) (fd:Option Nat)
def zo(T:Tb)(b:dl)(H:Hp):Fl->Nq->Prop
 | .nx a,.nx st=>fh T b H a st
 | .rt d,.rt v=>Sa T b H d v
 | .bk a,.bk st=>fh T b H a st
 | .ct a,.ct st=>fh T b H a st
 | .xc a x,.xc st cls fd=>fh T b H a st/\cls=T.cv x/\fd=fE x.cls
 |_,_=>False
def zp(X:Cx)(D:jk):Nq->Hp->Prop
 | .nx st,H=>D.nx st H
 | .rt v,H=>D.rt v H
 | .bk st,H=>D.bk st H
 | .ct st,H=>D.ct st H
 | .xc st cls fd,H=>OB X st cls fd H
noncomputable abbrev EN:XK:=λa a a=>False
def tS(g:Ev->M Fl):TS:=λD a H=>YA T a H λb c d=>Rb T EN (zo T) b H (g c d)$ zp X D
end
def xs{c:Type}(d:Ev)(m:M c)(k:c->M Fl):M Fl:=λe=>match m e with
 | .ok a b=>k a b
 | .ex x b=>.ok (.xc d x) b
 | .Eb=>.Eb
def Rb.xs{D}{R}{st}{m:M p}{k}{s:t->Hp->Prop}(v:fh T l H u st)
  (h:Rb T EN (zo T) l H (L4.xs u m k n)$ zp X D) (f:∀ a b c g i,m n=.ok a b->Cd l H c i->ud T c i b->R c i a g->Rb T EN (zo T) c i (k a b) (zp X D)->s g i):Rb T (XE X st) R l H (m n) s:=by
 unfold L4.xs at h;cases e:m n with
 |ok a b=>
  rw[e]at h;exact λd g o j r q=>f a b d g o e j r q$ h.mono j
 |ex x b=>
  rw[e]at h;intro d o j r;exact h d (.xc st _ _) o j r ⟨v.mono j,rfl,rfl⟩
 |Eb=>rw[e]at h;exact h
abbrev FE(T:Tb)(X:Cx)(e:Oa)(f:Ev->M D):Prop:=PE X e$ tF T X f
abbrev FT(T:Tb)(X:Cx)(e:Oa)(f:Ev->M Bool):Prop:=PT X e$ tT T X f
abbrev FW(T:Tb)(X:Cx)(e:Oa)(f:Ev->M Bool):Prop:=PW X e$ tT T X f
abbrev FA(T:Tb)(X:Cx)(a:List Oa)(f:Ev->M (B')):Prop:=PA X a$ tL T X f
abbrev FS(T:Tb)(X:Cx)(a:Stmt)(g:Ev->M Fl):Prop:=PS X a$ tS T X g
abbrev Dk(T:Tb)(X:Cx)(a:List Stmt)(g:Ev->M Fl):Prop:=Ov X a$ tS T X g
noncomputable def Dg:Nat:=1000
def wz(h:n<=Dg):n<=sizeLine:=vd$ rS h
def vV(h:n<Dg):n<sizeLine:=rS$ vd h
def QG{l:List g}(h:l.Nodup){i j:Nat}{a:g}(k:l[i]?=BD a)(m:l[j]?=BD a):i=j:=by
 obtain⟨c,d⟩:=ba.mp k;obtain⟨e,f⟩:=ba.mp m;have b:=oo.mp h;rcases ew i j with z|z|z
 ·exact absurd (d.trans f.symm)$ b i j c e z
 ·exact z
 ·exact absurd (f.trans d.symm)$ b j i e c z
section
variable{T:Tb}{μ μ':dl}{H H':Hp}{σ:Fa}
def xO(e:Cd μ H μ' H'){xs}{b}(h:Paired (λ p q =>p.1=q.1/\Sa T μ H p.2 q.2) xs b) :
  Paired (λ(p:a × D) (q:a × V)=>p.1=q.1/\Sa T μ' H' p.2 q.2) xs b:=L2.Paired.Jp h λp q z=>⟨z.1,Sa.mono e _ _ z.2⟩
theorem Rn.mono(e:Cd μ H μ' H')(d:H' a=H a):∀ {o:Ob},Rn T μ H a o->Rn T μ' H' a o
 | .ra ds,⟨b,h,r⟩=>⟨b,d.trans h,lb.mono e _ _ r⟩
 | .Xa f,⟨b,h,r⟩=>⟨b,d.trans h,xO e r⟩
 | .ub c j,⟨g,b,h,r⟩=>⟨g,b,d.trans h,xO e r⟩
 | .He f,⟨i,b,h,r⟩=>⟨i,b,d.trans h,xO e r⟩
 | .Vc ks,⟨b,h,r⟩=>⟨b,d.trans h,r⟩
theorem Rn.some:∀ {o:Ob},Rn T μ H a o->∃ u,H a=Option.some u/\(∀ xs,u≠.Qa xs)
 | .ra ds,⟨b,h,r⟩=>⟨_,h,(λi z=>by cases z)⟩
 | .Xa d,⟨b,h,r⟩=>⟨_,h,(λi z=>by cases z)⟩
 | .ub c f,⟨e,b,h,r⟩=>⟨_,h,(λi z=>by cases z)⟩
 | .He d,⟨g,b,h,r⟩=>⟨_,h,(λi z=>by cases z)⟩
 | .Vc ks,⟨b,h,r⟩=>⟨_,h,(λi z=>by cases z)⟩
theorem Rn.ZC:∀ {o:Ob},(∀ b,o≠.He b)->Rn T μ H a o->∃ u,H a=Option.some u/\(∀ xs,u≠.Qa xs)/\(∀ e w,u≠.Ud e w)
 | .ra ds,_,⟨d,h,r⟩=>⟨_,h,(λi z=>by cases z),(λi i z=>by cases z)⟩
 | .Xa b,_,⟨d,h,r⟩=>⟨_,h,(λi z=>by cases z),(λi i z=>by cases z)⟩
 | .ub c g,_,⟨f,d,h,r⟩=>⟨_,h,(λi z=>by cases z),(λi i z=>by cases z)⟩
 | .He b,n,_=>absurd rfl (n b)
 | .Vc ks,_,⟨d,h,r⟩=>⟨_,h,(λi z=>by cases z),(λi i z=>by cases z)⟩
def ud.keep(r:ud T μ H σ)(e:Cd μ H μ H')(k:∀ a∈μ,H' a=H a)(t:ur T μ H'):ud T μ H' σ:=
 ⟨r.len,r.nd,λn o h=>let ⟨a,b,c⟩:=r.obs n o h;⟨a,b,c.mono e$ k a$ wa b⟩,t⟩
def ud.mem(r:ud T μ H σ)(h:a∈μ):∃ u,H a=BD u/\(∀ xs,u≠.Qa xs):=by
 obtain⟨n,c⟩:=Ur h;have e:n<σ.length:=by rw[<-r.len];exact(ba.mp c).1
 obtain⟨a',b,d⟩:=r.obs n σ[n] ⋯;rw[c]at b;cases b;exact d.some
def ek(a:H p=V6):Cd μ H μ$ Wb H p o:=
 ⟨⟨[],by simp⟩,λq xs h=>by rw[Ad$ Pn h a];exact h,λq b u h=>by rw[Ad$ Pn h a];exact h,λq b h n=>⟨⟨b,by rw[Ad$ Pn h a];exact h,.inl rfl⟩,n⟩⟩
def ud.fresh(r:ud T μ H σ)(c:H p=V6):ud T μ (Wb H p o) σ:=
 r.keep (ek c) (λa d=>by obtain⟨u,h,_⟩:=r.mem d;rw[Ad$ Pn h c]) (r.tb.grow λb u h=>by rw[Ad$ Pn h c];exact h)
def wu(a:H p=V6):Cd μ H (μ++[p])$ Wb H p o:=
 ⟨⟨[p],rfl⟩,(ek (μ:=μ) a).Qa,(ek (μ:=μ) a).Ud,λq b h n=>⟨((ek a).keep q b h n).1,λz=>(kc.mp z).elim n λz=>Pn h a ⋯⟩⟩
def ud.push(r:ud T μ H σ)(c:H p=V6)(s:Rn T (μ++[p]) (Wb H p o) p ob):ud T (μ++[p]) (Wb H p o)$ σ++[ob]:=by
 refine⟨by simp[r.len],?_,λn x h=>?_,(r.tb.more c).grow λb u h=>by rw[Ad$ Pn h c];exact h⟩
 ·rw[Yc];refine⟨r.nd,by simp,λa l b m e=>?_⟩;have i:b=p:=by simpa using m
  subst i;subst e;obtain⟨u,h,_⟩:=r.mem l
  simp_all
 ·by_cases f:n<σ.length
  ·rw[Za f]at h;obtain⟨a,k,d⟩:=r.obs n x h;obtain⟨u,q,_⟩:=d.some;exact⟨a,by rw[Za (by rw[r.len];exact f)];exact k,d.mono (wu c)$ Ad$ Pn q c⟩
  ·rw[Cc ⋯]at h;have g:n - σ.length=0:=by
    have:=(ba.mp h).1;simp at this;lia
   rw[g]at h;simp at h;subst h;have j:n=μ.length:=by rw[r.len];lia
   subst j
   grind
def GB(r:ud T μ H σ):Sa T (μ++[p]) (Wb H p o) (.ref σ.length)$ .ref p:=by
 rw[Sa];exact⟨p,rfl,by rw[<-r.len];simp⟩
def Ss(f:a∈μ)(c:H a=BD u)(d:∀ xs,u≠.Qa xs)(e:∀ b w,u≠.Ud b w):Cd μ H μ$ Wb H a o:=
 ⟨⟨[],by simp⟩,λq xs h=>by rw[Ad$ oN h c (λz=>d xs z.symm)];exact h,λq b w h=>by rw[Ad$ oN h c (λz=>e b w z.symm)];exact h,λq b h n=>⟨⟨b,by rw[Ad (λz=>n ⋯)];exact h,.inl rfl⟩,n⟩⟩
def ud.write(r:ud T μ H σ)(d:μ[n]?=BD a)(t:Rn T μ (Wb H a o) a ob)(q:∀ c,σ[n]?≠BD (.He c):=by intro c z;simp_all [Cf]):Cd μ H μ (Wb H a o)/\ud T μ (Wb H a o) (σ.set n ob):=by
 obtain⟨u,p,f,g⟩:∃ u,H a=BD u/\(∀ xs,u≠.Qa xs)/\(∀ ob w,u≠.Ud ob w):=by
  have s:n<σ.length:=by rw[<-r.len];exact(ba.mp d).1
  obtain⟨a',f,g⟩:=r.obs n σ[n] ⋯;rw[d]at f;cases f;exact g.ZC λc z=>q c ⋯
 have e:Cd μ H μ$ Wb H a o:=Ss (wa d) p f g;refine⟨e,by simp[r.len],r.nd,λm x h=>?_,r.tb.out (λb l=>Ad l)$ .inl$ wa d⟩;rw[pe]at h;by_cases i:n=m
 ·subst i
  simp_all
 ·rw[qa i]at h;obtain⟨b,j,k⟩:=r.obs m x h;refine⟨b,j,k.mono e (Ad λz=>i ?_)⟩;subst z;exact QG r.nd d j
def ud.at(r:ud T μ H σ)(h:Sa T μ H (.ref n) v)(e:σ[n]?=BD o):∃ a,v=.ref a/\μ[n]?=BD a/\Rn T μ H a o:=by
 obtain⟨a,rfl,d⟩:=h;obtain⟨a',b,c⟩:=r.obs n o e
 simp_all
end
noncomputable def Ba(i:Nat):Ev->M D:=λa b=>match a[i]? with
 |some (BD d)=>.ok d b
 |_=>.Eb
noncomputable def eC(d:D):Ev->M D:=λa=>ret d
noncomputable def KL(o:D->D->M D)(m:M D)(x:D):M D:=Tc m$ o x
def Ab(o:D->D->M D)(a b:Ev->M D):Ev->M D:=λc=>Tc (a c)$ KL o$ b c
noncomputable def gf(o:D->M D)(a:Ev->M D):Ev->M D:=λb=>Tc (a b) o
noncomputable def gB(d:D):M Bool:=match d with
 | .bl b=>ret b
 |_=>Eb
def Fj{a:Type}(p q:M a)(c:Bool):M a:=if c=Ĳ then p else q
noncomputable def jO(c:Bool):M Bool:=ret$ !c
def zx{a:Type}(k:Bool->M a)(d:D):M a:=Tc (gB d) k
def eT(f:Ev->M D):Ev->M Bool:=λa=>Tc (f a) gB
noncomputable def yJ(a b:Ev->M Bool):Ev->M Bool:=λc=>Tc (a c)$ Fj (b c)$ ret Ε
noncomputable def sv(a b:Ev->M Bool):Ev->M Bool:=λc=>Tc (a c)$ Fj (ret Ĳ)$ b c
def kn(a:Ev->M Bool):Ev->M Bool:=λb=>Tc (a b) jO
noncomputable def bF(a b:Ev->M D):Ev->M D:=λc=>Tc (a c)$ zx$ Fj (b c)$ ret$ .bl Ε
noncomputable def XW(a b:Ev->M D):Ev->M D:=λc=>Tc (a c)$ zx$ Fj (ret$ .bl Ĳ)$ b c
noncomputable def cL(c:Bool):M D:=ret$ .bl$ !c
def tV(a:Ev->M D):Ev->M D:=λb=>Tc (a b)$ zx cL
noncomputable def nv(t:Ev->M Bool)(a b:Ev->M D):Ev->M D:=λc=>Tc (t c)$ Fj (a c)$ b c
noncomputable def Db:Ev->M (B'):=λa=>ret []
noncomputable def TN(x:D)(xs:B'):M$ B':=ret$ x::xs
def sM(m:M$ B')(x:D):M$ B':=Tc m$ TN x
def Na(e:Ev->M D)(r:Ev->M (B')):Ev->M (B'):=λa=>Tc (e a)$ sM$ r a
def Iw(a:B'):M D:=if a.length<=Dg then ret (.Qa a)else Eb
def Pg(a:Ev->M (B')):Ev->M D:=λb=>Tc (a b) Iw
noncomputable def PB(b:B'):M D:=λa=>.ok (.ref a.length)$ a++[.ra b]
def uD(a:B'):M D:=if a.length<=Dg then PB a else Eb
def Fv(a:Ev->M (B')):Ev->M D:=λb=>Tc (a b) uD
def Bv(a:B'):M D:=if a.length<=Dg then ret (.ra a)else Eb
def kl(a:Ev->M (B')):Ev->M D:=λb=>Tc (a b) Bv
def pk(T:Tb)(r:R2)(o:D->D->M D):Prop:=∀ (E:XK) a H b x y v u Q,ud T a H b->Sa T a H x v->Sa T a H y u->Rb T E (Sa T) a H (o x y b) Q->r v u H Q
def IP(T:Tb)(r:V->Hp->VK->Prop)(o:D->M D):Prop:=∀ (E:XK) a H b x v Q,ud T a H b->Sa T a H x v->Rb T E (Sa T) a H (o x b) Q->r v H Q
def Bs(T:Tb)(r:n'->Hp->VK->Prop)(o:B'->M D):Prop:=∀ (E:XK) a H c xs b Q,ud T a H c->lb T a H xs b->Rb T E (Sa T) a H (o xs c) Q->r b H Q
end L4
open L4.D renaming int->Z,ref->U,ra->ύ,Qa->ώ,bl->ϐ,str->ϓ,Zb->Ϛ,Ff->ϥ,Xa->Ϩ,obj->ϸ
open L4.Vi renaming ok->O,Eb->Ϙ
open L4.Ob renaming Xa->Ϗ,ra->ϒ,ub->ϔ,Vc->ϧ
open Or renaming inl->ϑ,inr->ϕ
open L2.V renaming ref->ϖ,int->Ϥ,bl->ϫ
open PySem.W renaming Frag->ϗ,fnOf->ϭ,kla_obj->ϳ,callWith_K->Ϲ,keepIn->ϻ
open L4.Fl renaming nx->ϙ
open L2.HO renaming dK->ϛ,ext->Ϫ,Ud->Ϭ,ra->ϯ
open PySem.Expr renaming Name->Ϝ,Subscript->Ϟ,Attribute->ϟ,Call->ϡ,Tuple->ϱ,ListComp->ϴ,BoolOp->ϵ
open PySem.Paired renaming cons->ϝ,nil->Ϡ
open PySem.Value renaming builtin->Ϣ
open PySem.ScopeKind renaming function->ϣ
open PySem.Data renaming seq->Ϧ,fields->ϩ
open True renaming intro->Ϯ
open L4.Cd renaming refl->ϰ
open False renaming elim->ϲ
open L4.Nq renaming nx->Ϸ
open PySem.Stmt renaming Assign->Ϻ
variable{T:L4.Tb}{X:L2.Cx}
namespace L4
open Spec L2
section
variable{a b c:Oa}{fa fb:Ev->M D}{ta tb:Ev->M Bool}{pos:Td}
def si i(h:X.N[i]?=BD x:=by rfl)(m:fD X.env.scope x:=by first|exact Or.inl rfl|exact Or.inr$ Or.inl rfl|exact Or.inr$ Or.inr rfl)(j:(x == ("__debug__" : Str))=Ε:=by decide)
  (c:(x == ("__classdict__" : Str))=Ε:=by decide):FE T X (Ϝ x pos)$ Ba i:=by
 rintro b s st H Q I ⟨n,ρ,p,k,l,a⟩;refine tU h m j c b s st H Q I ?_;unfold Ba at a;cases e:ρ[i]? with
 |none=>rw[e]at a;exact a.elim
 |some o=>
  cases o with
  |none=>rw[e]at a;exact a.elim
  |some d=>
   rw[e]at a;obtain⟨v,f,g⟩:=k.2 i d e;exact⟨v,f,a.here l g⟩
def gC(h:PE X e$ tC v)(r:∀ b H,Sa T b H d v):FE T X e$ eC d:=by
 rintro a s g H Q I ⟨b,j,k,i,f,c⟩;exact h a s g H Q I$ Rb.here c f$ r _ _
def xD{j}:FE T X (.Constant (.int i) j pos)$ eC$ Z i:=gC D5 λa a=>by rw[Sa]
def J5{j}:FE T X (.Constant (.bool i) j pos)$ eC$ ϐ i:=gC F9 λa a=>by rw[Sa]
def ŗ{j}:FE T X (.Constant .none j pos)$ eC Ϛ:=gC g5 λa a=>by rw[Sa]
def cK{j}:FE T X (.Constant (.str i) j pos)$ eC$ ϓ i:=gC t4 λa a=>by rw[Sa]
def E1(b:Gl X x)(c:X.mg x=BD u)(r:jd (Ϥ i) u)(a:(x == ("__debug__" : Str))=Ε:=by decide):FE T X (Ϝ x pos)$ eC$ Z i:=gC (eK b c r a) λd d=>by rw[Sa]
def two(n:pk T r o)(h:tF T X (Ab o fa fb) f H Q):mB r (tF T X fa) (tF T X fb) f H Q:=by
 obtain⟨A,g,B,e,m,l⟩:=h;exact⟨A,g,B,e,m,l.bind λx c a v C D j w p s=>⟨a,g,c,e.mono j,w,s.bind λy d b u i D k z q t=>n _ b i d x y v u Q z (Sa.mono k _ _ p) q t⟩⟩
def mC(g:zh X (Je d) r)(i:pk T r o)(e:FE T X a fa)(f:FE T X b fb):FE T X (.BinOp a d b pos)$ Ab o fa fb:=
 λc s j H Q I h=>B5 g e f c s j H Q I$ two i h
def pp(i:zh X (Gb d) r)(j:pk T r o)(e:FE T X a fa)(f:FE T X b fb)(g:ee d b=Ε):FE T X (.Compare a [d] [b] pos)$ Ab o fa fb:=
 λc s k H Q I h=>ï i e f g c s k H Q I$ two j h
def MO(f:Lw X r)(i:pk T r o)(d:FE T X a fa)(e:FE T X b fb)(g:OR b):FE T X (Ϟ a b pos)$ Ab o fa fb:=
 λc s j H Q I h=>í f d e g c s j H Q I$ two i h
def yna(j:WH X (unaryOp e) r)(m:IP T r o)(g:FE T X a fa):FE T X (.UnaryOp e a pos)$ gf o fa:=by
 intro b s t H Q I h;refine Ü j g b s t H Q I ?_;obtain⟨u,w,y,i,l,k⟩:=h;exact⟨u,w,y,i,l,k.bind λx d c v f A z q n p=>m _ c f d x v Q q n p⟩
def YF{a}{b}{k:Bool->M e}{Q:f->Hp->Prop}(r:Sa T a H d v)(h:Rb T E b a H (Tc (gB d) k g) Q):∃ c,d=ϐ c/\v=ϫ c/\Rb T E b a H (k c g) Q:=by
 cases d with
 |bl c=>rw[Sa]at r;exact⟨c,rfl,r,h⟩
 |_=>exact h.elim
def NO{b}{a}(r:Sa T a H d v)(h:Rb T E DO a H (gB d b) Q):∃ c,v=ϫ c/\Rb T E DO a H (O c b) Q:=by
 cases d with
 |bl c=>rw[Sa]at r;exact⟨c,r,h⟩
 |_=>exact h.elim
def Jr(m:zh X (Gb e) r)(t:pk T r o)(g:FE T X a fa)(i:FE T X b fb)(l:ee e b=Ε):FT T X (.Compare a [e] [b] pos)$ eT$ Ab o fa fb:=by
 intro c s st H Q I h;refine YO m g i l c s st H Q I$ two t ?_;obtain⟨y,A,B,j,p,n⟩:=h;refine⟨y,A,B,j,p,n.bind λd C z v E d F x u w=>?_⟩;obtain⟨k,f,q⟩:=NO u w;exact⟨k,f,q.here x rfl⟩
def cx(h:FE T X e f)(i:∀ a,isTrue e X.env a=(do let v <-a;oh e.pos;qe [v] (truthy v)):=by intro _;rfl):FT T X e$ eT f:=by
 intro b s st H Q I m;refine S4 h i b s st H Q I ?_;obtain⟨r,u,w,g,l,j⟩:=m;refine⟨r,u,w,g,l,j.bind λd x t v y d z p n o=>?_⟩;obtain⟨k,c,q⟩:=NO n o;exact⟨k,c,q.here p rfl⟩
def cy(h:FT T X a ta):FT T X (.UnaryOp .Not a pos)$ kn ta:=by
 intro b s l H Q I g;refine yh3 h b s l H Q I ?_;obtain⟨m,o,p,d,f,e⟩:=g;exact⟨m,o,p,d,f,e.bind λc q n v r c t k i j=>by cases i;exact j.here k rfl⟩
variable{rest:List Oa}
def ι(h:FT T X a ta):FW T X (ϵ .And [a] pos) ta:=zx2 h
def MH(h:FT T X a ta):FW T X (ϵ .Or [a] pos) ta:=yh7 h
theorem B3(h:FT T X a ta)(m:FW T X (ϵ .And (b::rest) pos) tb):FW T X (ϵ .And (a::b::rest) pos)$ yJ ta tb:=by
 intro t e s r H Q I p;refine yh6 h m t e s r H Q I ?_;obtain⟨u,k,w,i,o,n⟩:=p;refine⟨u,k,w,i,o,n.bind λc g f v x y l j q d=>?_⟩;cases q;cases c with
 |true=>unfold Fj at d;rw[ka rfl]at d ⊢;exact⟨f,k,g,i.mono l,j,d⟩
 |false=>unfold Fj at d;rw[qa qb]at d ⊢;exact d.here j rfl
def wF(h:FT T X a ta)(m:FW T X (ϵ .Or (b::rest) pos) tb):FW T X (ϵ .Or (a::b::rest) pos)$ sv ta tb:=by
 intro t e s r H Q I p;refine Α h m t e s r H Q I ?_;obtain⟨u,k,w,i,o,n⟩:=p;refine⟨u,k,w,i,o,n.bind λc g f v x y l j q d=>?_⟩;cases q;cases c with
 |true=>unfold Fj at d;rw[ka rfl]at d ⊢;exact d.here j rfl
 |false=>unfold Fj at d;rw[qa qb]at d ⊢;exact⟨f,k,g,i.mono l,j,d⟩
def sF{op}(h:FE T X a fa):FE T X (ϵ op [a] pos) fa:=å h
def SB(h:FE T X a fa)(n:FE T X (ϵ .And (b::rest) pos) fb):FE T X (ϵ .And (a::b::rest) pos)$ bF fa fb:=by
 intro e s w H Q I r;refine yha h n e s w H Q I ?_;obtain⟨x,k,y,i,p,o⟩:=r;refine⟨x,k,y,i,p,o.bind λd g f v z d l j t u=>?_⟩;obtain⟨c,rfl,m,q⟩:=YF t u;refine⟨c,m,?_⟩;cases c with
 |true=>unfold Fj at q;rw[ka rfl]at q ⊢;exact⟨f,k,g,i.mono l,j,q⟩
 |false=>unfold Fj at q;rw[qa qb]at q ⊢;exact Rb.here q j (by rw[Sa])
def ť(h:FE T X a fa)(n:FE T X (ϵ .Or (b::rest) pos) fb):FE T X (ϵ .Or (a::b::rest) pos)$ XW fa fb:=by
 intro e s w H Q I r;refine x9 h n e s w H Q I ?_;obtain⟨x,k,y,i,p,o⟩:=r;refine⟨x,k,y,i,p,o.bind λd g f v z d l j t u=>?_⟩;obtain⟨c,rfl,m,q⟩:=YF t u;refine⟨c,m,?_⟩;cases c with
 |true=>unfold Fj at q;rw[ka rfl]at q ⊢;exact Rb.here q j (by rw[Sa])
 |false=>unfold Fj at q;rw[qa qb]at q ⊢;exact⟨f,k,g,i.mono l,j,q⟩
def Z2(h:FE T X a fa):FE T X (.UnaryOp .Not a pos)$ tV fa:=by
 intro b s n H Q I j;refine yhg h b s n H Q I ?_;obtain⟨o,r,t,f,i,g⟩:=j;refine⟨o,r,t,f,i,g.bind λd u p v w d x m k l=>?_⟩;obtain⟨c,rfl,e,q⟩:=YF k l;exact⟨c,e,Rb.here q m (by rw[Sa])⟩
def g9(o:FT T X c ta)(m:FE T X a fa)(n:FE T X b fb):FE T X (.IfExp c a b pos)$ nv ta fa fb:=by
 intro f s u H Q I r;refine P8 o m n f s u H Q I ?_;obtain⟨w,j,σ,i,q,p⟩:=r;refine⟨w,j,σ,i,q,p.bind λd h g v x y k l t e=>?_⟩;cases t;cases d with
 |true=>unfold Fj at e;rw[ka rfl]at e ⊢;exact⟨g,j,h,i.mono k,l,e⟩
 |false=>unfold Fj at e;rw[qa qb]at e ⊢;exact⟨g,j,h,i.mono k,l,e⟩
variable{e:Oa}{es:List Oa}{fe:Ev->M D}{fs:Ev->M (B')}
def Rr:FA T X [] Db:=by
 intro pos a s e H Q I d;refine fx pos a s e H Q I ?_;obtain⟨g,h,i,f,c,b⟩:=d;exact Rb.here b c lb.nil
def lm(k:FE T X e fe)(b:FA T X es fs)(m:va (e::es) X.env=(Ε,Mb e X.env)::va es X.env:=by rfl):FA T X (e::es)$ Na fe fs:=by
 intro pos a s w H Q I n;refine Zt k b m pos a s w H Q I ?_;obtain⟨x,h,z,g,b,l⟩:=n;exact⟨x,h,z,g,b,l.bind λd f c v B d i t o q=>⟨c,h,f,g.mono i,t,q.bind λD A y E C d j u p r=>Rb.here r u$ lb.cons (Sa.mono j _ _ o) p⟩⟩
def xC{a}{e}{c}(h:Rb T E (Sa T) a H (O (ώ d) e) Q)(r:ud T a H e)(q:lb T a H d c)(b:H p=V6):Q (ϖ p)$ Wb H p$ .Qa c:=
 h a _ _ (ek b) (r.fresh b) (by rw[Sa];exact⟨p,c,rfl,Mf,lb.mono (ek b) _ _ q⟩)
def jF{c}{e}{b}(h:Rb T E (Sa T) c H (PB d e) Q)(r:ud T c H e)(q:lb T c H d b)(a:H p=V6):Q (ϖ p)$ Wb H p$ ϯ b:=
 h _ _ _ (wu a) (r.push a ⟨b,Mf,lb.mono (wu a) _ _ q⟩)$ GB r
def ZW{x1}(h:FA T X es fs):FE T X (ϱ es x1 pos)$ Pg fs:=by
 intro a s l H Q I j;refine Ž h a s l H Q I ?_;obtain⟨m,o,q,g,i,d⟩:=j;refine⟨m,o,q,g,i,d.bind λf r n vs t p u k e b=>?_⟩;unfold Iw at b;by_cases c:f.length<=Dg
 ·rw[ka c]at b;exact⟨by rw[<-e.length];exact wz c,λp d=>xC b k e d⟩
 ·rw[qa c]at b;exact b.elim
def æ(h:FA T X es fs):FE T X (.List es pos)$ Fv fs:=by
 intro a s l H Q I j;refine iR h a s l H Q I ?_;obtain⟨m,o,q,g,i,d⟩:=j;refine⟨m,o,q,g,i,d.bind λf r n vs t p u k e b=>?_⟩;unfold uD at b;by_cases c:f.length<=Dg
 ·rw[ka c]at b;exact⟨by rw[<-e.length];exact wz c,λp d=>jF b k e d⟩
 ·rw[qa c]at b;exact b.elim
def vI{b}{e}{c}(h:Rb T E (Sa T) b H (O (ύ c) e) Q)(r:ud T b H e)(q:lb T b H c vs)(a:H p=V6):Q (ϖ p)$ Wb H p$ ϯ vs:=
 h b _ _ (ek a) (r.fresh a) (by rw[Sa];exact⟨p,vs,rfl,λf=>(by obtain⟨u,d,_⟩:=r.mem f;rw[a]at d;cases d),Mf,lb.mono (ek a) _ _ q⟩)
def ym7(h:FA T X es fs):FE T X (.List es pos)$ kl fs:=by
 intro a s l H Q I j;refine iR h a s l H Q I ?_;obtain⟨m,o,q,g,i,d⟩:=j;refine⟨m,o,q,g,i,d.bind λf r n vs t p u k e b=>?_⟩;unfold Bv at b;by_cases c:f.length<=Dg
 ·rw[ka c]at b;exact⟨by rw[<-e.length];exact wz c,λp d=>vI b k e d⟩
 ·rw[qa c]at b;exact b.elim
end
noncomputable def oI(g:Int->Int->Int):D->D->M D
 | Z i,Z j=>ret (Z$ g i j)
 |_,_=>Eb
noncomputable def oB(g:Int->Int->Bool):D->D->M D
 | Z i,Z j=>ret (ϐ$ g i j)
 |_,_=>Eb
noncomputable def Kx(C:Int->Int->Bool)(g:Int->Int->Int):D->D->M D
 | Z i,Z j=>if C i j=Ĳ then ret (Z$ g i j)else Eb
 |_,_=>Eb
def UK(i j:Int):Bool:=zd$ (decide (-(2 ^ 64)<i) && decide (i<2 ^ 64)) || (decide (-(2 ^ 64)<j) && decide (j<2 ^ 64))
def fN(_ j:Int):Bool:=zd$ decide (0<j) && decide (j<1073741824)
def yN(_ j:Int):Bool:=zd$ decide$ 0<j
def iz(i j:Int):Bool:=zd$ decide (0<=j) && decide (j<=1000000) && decide (i.natAbs<2 ^ 64)
abbrev Hz:=oI (λi j=>i - j)
abbrev cG:=Kx UK (λi j=>i * j)
abbrev XB:=Kx fN (λi j=>i / j)
abbrev Ap:=Kx yN (λi j=>i % j)
abbrev Lx:=Kx iz (λi j=>i ^ j.toNat)
abbrev oLt:=oB (λi j=>decide$ i<j)
abbrev oLe:=oB (λi j=>decide$ i<=j)
abbrev GY:=oB (λi j=>decide$ j<i)
abbrev w4:=oB (λi j=>decide$ j<=i)
noncomputable def WT:D->M D
 | Z i=>ret (Z$ -i)
 |_=>Eb
noncomputable def rD(T:Tb)(o:D->D->M D):R2:=λv u H Q=>∃ (E:XK) (a:dl) (σ:Fa) (x y:D),ud T a H σ/\Sa T a H x v/\Sa T a H y u/\Rb T E (Sa T) a H (o x y σ) Q
def Mx:pk T (rD T o) o:=λE a H b x y v u Q r p q h=>⟨E,a,b,x,y,r,p,q,h⟩
def Mq(h:Sa T a H (Z i) v):v=Ϥ i:=by simpa [Sa]using h
def Ď:pk T (Tq λi j=>Ϥ$ g i j)$ oI g:=by
 intro E a H b x y v u Q r p q h;cases x with
 |int i=>
  cases y with
  |int j=>exact⟨i,j,Mq p,Mq q,Rb.here h r (by rw[Sa])⟩
  |_=>exact h.elim
 |_=>exact h.elim
def tH:pk T (Tq λi j=>ϫ$ g i j)$ oB g:=by
 intro E a H b x y v u Q r p q h;cases x with
 |int i=>
  cases y with
  |int j=>exact⟨i,j,Mq p,Mq q,Rb.here h r (by rw[Sa])⟩
  |_=>exact h.elim
 |_=>exact h.elim
def uH(d:∀ i j,C i j=Ĳ->b i j):pk T (rI b λi j=>Ϥ$ g i j)$ Kx C g:=by
 intro E f H σ x y v u Q r p q h;cases x with
 |int i=>
  cases y with
  |int j=>
   by_cases a:C i j=Ĳ
   ·have c:Rb T E (Sa T) f H (ret (Z$ g i j) σ) Q:=by
     have e:Kx C g (Z i) (Z j)=ret (Z$ g i j):=by show (if C i j=Ĳ then _ else _)=_;rw[ka a]
     simp_all
    exact⟨i,j,Mq p,Mq q,d i j a,Rb.here c r (by rw[Sa])⟩
   ·have e:Kx C g (Z i) (Z j)=Eb:=by show (if C i j=Ĳ then _ else _)=_;rw[qa a]
    rw[e]at h;exact h.elim
  |_=>exact h.elim
 |_=>exact h.elim
def RZ:pk T (Tq λi j=>Ϥ$ i - j) Hz:=Ď
def i8:pk T (rI zG λi j=>Ϥ$ i * j) cG:=uH λi j h=>by
 simp[UK]at h;exact h
def G0:pk T (rI MR λi j=>Ϥ$ i / j) XB:=uH λi j h=>by
 simp[fN]at h;exact h
def U2:pk T (rI (λa j=>0<j) λi j=>Ϥ$ i % j) Ap:=uH λi j h=>by
 simp[yN]at h;exact h
def E3:pk T (rI xR λi j=>Ϥ$ i ^ j.toNat) Lx:=uH λi j h=>by
 simp[iz]at h;exact⟨h.1.1,h.1.2,h.2⟩
def ON:pk T (Tq λi j=>ϫ$ decide$ i<j) oLt:=tH
def WI:pk T (Tq λi j=>ϫ$ decide$ i<=j) oLe:=tH
def IU:pk T (Tq λi j=>ϫ$ decide$ j<i) GY:=tH
def TL:pk T (Tq λi j=>ϫ$ decide$ j<=i) w4:=tH
def i4:IP T (rU λi=>Ϥ$ -i) WT:=by
 intro E a H b x v Q r p h;cases x with
 |int i=>exact⟨i,Mq p,Rb.here h r (by rw[Sa])⟩
 |_=>exact h.elim
noncomputable def sc:D->Option V
 | Ϛ=>BD .Zb
 | ϐ b=>BD (ϫ b)
 | Z i=>BD (Ϥ i)
 | ϓ x=>BD (.str x)
 |_=>V6
noncomputable def Cf(a:Fa)(n:Nat):Option$ B':=match a[n]? with
 |some (ϒ xs)=>BD xs
 |_=>V6
theorem BG{xs}(h:Cf a n=BD xs):a[n]?=BD (ϒ xs):=by
 unfold Cf at h;cases e:a[n]? with
 |none=>simp_all
 |some o=>rw[e]at h;cases o<;>simp at h;subst h;rfl
inductive Kd where
 |s (v:V)|t (xs:B')|l (xs:B')|o
def kd(a:Fa):D->Kd
 | Ϛ=>.s .Zb
 | ϐ b=>.s (ϫ b)
 | Z i=>.s (Ϥ i)
 | ϓ x=>.s (.str x)
 | ώ xs=>.t xs
 | ύ xs=>.l xs
 | U n=>match Cf a n with
  |some xs=>.l xs
  |none=>.o
 |_=>.o
noncomputable def vn(f:D->D->Option Bool):B'->B'->Option Bool
 |[],[]=>BD Ĳ
 |[],_::_=>BD Ε
 |_::_,[]=>BD Ε
 |x::xs,y::a=>match f x y,vn f xs a with
  |some b,BD c=>BD (b && c)
  |_,_=>V6
def Ot(f:D->D->Option Bool):Kd->Kd->Option Bool
 | .s a,.s b=>BD (Jl a b)
 | .t xs,.t c=>vn f xs c
 | .l xs,.l c=>vn f xs c
 | .s _,.t _=>BD Ε
 | .t _,.s _=>BD Ε
 | .s _,.l _=>BD Ε
 | .l _,.s _=>BD Ε
 | .t _,.l _=>BD Ε
 | .l _,.t _=>BD Ε
 |_,_=>V6
def Mj(a:Fa):Nat->D->D->Option Bool
 |0,x,y=>Ot (λb b=>V6) (kd a x) (kd a y)
 |n+1,x,y=>Ot (Mj a n) (kd a x) (kd a y)
noncomputable def Qs(f:D->D->Option Bool)(xs c:B')(j:Nat):Bool:=match xs[j]?,c[j]? with
 |some a,BD b=>(f a b).getD Ε
 |_,_=>Ε
theorem LR(f:D->D->Option Bool):∀ (xs d:B') (b:Bool),vn f xs d=BD b->
  (∀ (j:Nat) (a c:D),xs[j]?=BD a->d[j]?=BD c->∃ k,f a c=BD k)/\b=((List.range$ min xs.length d.length).all (Qs f xs d) && xs.length == d.length)
 |[],[],b,h=>by simp[vn]at h;subst h;simp
 |[],y::d,b,h=>by simp[vn]at h;subst h;simp
 |x::xs,[],b,h=>by simp[vn]at h;subst h;simp
 |x::xs,y::d,b,h=>by
  unfold vn at h;cases e:f x y with
  |none=>simp_all
  |some i=>
   cases g:vn f xs d with
   |none=>rw[e,g]at h;cases h
   |some l=>
    rw[e,g]at h;cases h;obtain⟨r,s⟩:=LR f xs d l g;refine⟨λj a c t u=>?_,?_⟩
    ·cases j with
     |zero=>simp_all
     |succ j=>exact r j a c (by simpa using t) (by assumption)
    ·have m:min (x::xs).length (y::d).length=min xs.length d.length+1:=by simp
     have n:∀ j,Qs f (x::xs) (y::d) (j+1)=Qs f xs d j:=λj=>by simp[Qs]
     have o:Qs f (x::xs) (y::d) 0=i:=by simp[Qs,e]
     rw[m,wq,vf,DC,o,s];have p:(Qs f _ _ ∘ Nat.succ)=Qs f xs d:=funext λj=>n j;have q:((x::xs).length == (y::d).length)=(xs.length == d.length):=by simp
     rw[p,q,Uy]
section
variable{T:Tb}{μ:dl}{H:Hp}{σ:Fa}
def ud.ra(r:ud T μ H σ){n}{v}{xs}(h:Sa T μ H (U n) v)(e:Cf σ n=BD xs):∃ a vs,v=ϖ a/\μ[n]?=BD a/\H a=BD (ϯ vs)/\lb T μ H xs vs:=by
 obtain⟨a,rfl,b,vs,c,d⟩:=r.at h (BG e);exact⟨a,vs,rfl,b,c,d⟩
def WG(h:Sa T μ H d v)(e:sc d=BD a):v=a:=by
 cases d<;>simp[sc]at e<;>subst e<;>simpa [Sa]using h
theorem sT(e:sc d=BD a):ri a=Ĳ:=by
 cases d<;>simp[sc]at e<;>subst e<;>rfl
def ĵ(h:ri a=Ĳ):Jl a a=Ĳ:=by cases a<;>simp[ri,Jl]at h ⊢
def Ky(r:ud T μ H σ){d:D}{v:V}(h:Sa T μ H d v):match kd σ d with
  | .s a=>v=a/\ri a=Ĳ
  | .t xs=>∃ p vs,v=ϖ p/\H p=BD (.Qa vs)/\lb T μ H xs vs
  | .l xs=>∃ p vs,v=ϖ p/\H p=BD (ϯ vs)/\lb T μ H xs vs
  | .o=>True:=by
 cases d with
 |Zb=>exact⟨by simpa [Sa]using h,rfl⟩
 |bl b=>exact⟨by simpa [Sa]using h,rfl⟩
 |int b=>exact⟨by simpa [Sa]using h,rfl⟩
 |str b=>exact⟨by simpa [Sa]using h,rfl⟩
 |Qa xs=>rw[Sa]at h;exact h
 |ra xs=>rw[Sa]at h;obtain⟨a,vs,c,_,f,g⟩:=h;exact⟨a,vs,c,f,g⟩
 |ref n=>
  unfold kd;dsimp only;cases e:Cf σ n with
  |none=>trivial
  |some xs=>obtain⟨a,vs,c,_,f,g⟩:=r.ra h e;exact⟨a,vs,c,f,g⟩
 |_=>trivial
theorem lL{f:D->D->Option Bool}(j:∀ (x y:D) (v:V) (b:Bool),Sa T μ H x v->Sa T μ H y v->f x y=BD b->b=Ĳ):∀ (xs a:B') (e:n') (b:Bool),lb T μ H xs e->lb T μ H a e->vn f xs a=BD b->b=Ĳ
 |[],a,e,b,d,c,h=>by
  rw[lb]at d;subst d;cases a with
  |nil=>simp[vn]at h;exact h
  |cons y a=>rw[lb]at c;obtain⟨_,_,z,_⟩:=c;cases z
 |x::xs,a,e,b,d,c,h=>by
  rw[lb]at d;obtain⟨v,r,rfl,m,o⟩:=d;cases a with
  |nil=>rw[lb]at c;cases c
  |cons y a=>
   rw[lb]at c;obtain⟨s,q,z,n,p⟩:=c;cases z;unfold vn at h;cases g:f x y with
   |none=>simp_all
   |some k=>
    cases i:vn f xs a with
    |none=>simp_all
    |some l=>
     rw[g,i]at h;cases h;rw[j x y v k m n g,lL j xs a r l o p i];rfl
def bO(r:ud T μ H σ)(w:∀ x y v b,Sa T μ H x v->Sa T μ H y v->f x y=BD b->b=Ĳ)(z:Sa T μ H x v)(A:Sa T μ H y v)(h:Ot f (kd σ x) (kd σ y)=BD b):b=Ĳ:=by
 have j:=Ky r z;have d:=Ky r A;generalize kd σ x=k1 at h j;generalize kd σ y=m at h d;cases k1 with
 |s a=>
  obtain⟨rfl,fa⟩:=j;cases m with
  |s c=>obtain⟨rfl,_⟩:=d;cases h;exact ĵ fa
  |t xs=>obtain⟨p,vs,rfl,_⟩:=d;simp[ri]at fa
  |l xs=>obtain⟨p,vs,rfl,_⟩:=d;simp[ri]at fa
  |o=>cases h
 |t xs=>
  obtain⟨p,vs,rfl,k,n⟩:=j;cases m with
  |s c=>obtain⟨e,fa⟩:=d;rw[<-e]at fa;simp[ri]at fa
  |t i=>
   obtain⟨q,ws,e,g,u⟩:=d;cases e;rw[k]at g;cases g;exact lL w xs i vs b n u h
  |l i=>simp_all
  |o=>cases h
 |l xs=>
  obtain⟨p,vs,rfl,k,n⟩:=j;cases m with
  |s c=>obtain⟨e,fa⟩:=d;rw[<-e]at fa;simp[ri]at fa
  |t i=>simp_all
  |l i=>
   obtain⟨q,ws,e,g,u⟩:=d;cases e;rw[k]at g;cases g;exact lL w xs i vs b n u h
  |o=>cases h
 |o=>cases h
theorem hZ(r:ud T μ H σ):∀ (n:Nat) (x y:D) (v:V) (b:Bool),Sa T μ H x v->Sa T μ H y v->Mj σ n x y=BD b->b=Ĳ
 |0,x,y,v,b,a,c,h=>bO r (λg g g g g g z=>by cases z) a c h
 |n+1,x,y,v,b,a,c,h=>bO r (λx y v b d e f=>hZ r n x y v b d e f) a c h
end
section
variable{pins:List$ Addr × Obj}{st:St}{μ:dl}{H:Hp}{s:Shared}{σ:Fa}
def KH(fa:ri a=Ĳ)(r:jd a u)(c:s.heap.IsTuple p e)(d:A.units<cLine):Oc A s u (yb p) Ε/\Oc A s (yb p) u Ε/\Rg A s u (yb p) Ε/\Rg A s (yb p) u Ε/\Og A s u (yb p) Ĳ/\Og A s (yb p) u Ĳ:=by
 cases a with
 |Zb=>cases r;exact⟨.none_tuple c d,.tuple_none c d,.none_tuple c d,.tuple_none c d,.none_tuple c d,.tuple_none c d⟩
 |bl b=>cases r;exact⟨.bool_tuple b c d,.tuple_bool b c d,.bool_tuple b c d,.tuple_bool b c d,.bool_tuple b c d,.tuple_bool b c d⟩
 |int b=>obtain⟨t,rfl⟩:=r;exact⟨.int_tuple b t c d,.tuple_int b t c d,.int_tuple b t c d,.tuple_int b t c d,.int_tuple b t c d,.tuple_int b t c d⟩
 |str b=>obtain⟨t,rfl⟩:=r;exact⟨.str_tuple b t c d,.tuple_str b t c d,.str_tuple b t c d,.tuple_str b t c d,.str_tuple b t c d,.tuple_str b t c d⟩
 |_=>simp[ri]at fa
def XY(fa:ri a=Ĳ)(r:jd a u)(c:s.heap.IsList p e)(d:A.units<cLine):Rg A s u (yb p) Ε/\Rg A s (yb p) u Ε/\Og A s u (yb p) Ĳ/\Og A s (yb p) u Ĳ:=by
 cases a with
 |Zb=>cases r;exact⟨.none_list c d,.list_none c d,.none_list c d,.list_none c d⟩
 |bl b=>cases r;exact⟨.bool_list b c d,.list_bool b c d,.bool_list b c d,.list_bool b c d⟩
 |int b=>obtain⟨t,rfl⟩:=r;exact⟨.int_list b t c d,.list_int b t c d,.int_list b t c d,.list_int b t c d⟩
 |str b=>obtain⟨t,rfl⟩:=r;exact⟨.str_list b t c d,.list_str b t c d,.str_list b t c d,.list_str b t c d⟩
 |_=>simp[ri]at fa
def m9(fa:ri a=Ĳ)(r:jd a u)(c:s.heap.IsList p e)(d:A.units<cLine):Oc A s u (yb p) Ε:=by
 cases a with
 |Zb=>cases r;exact .none_list c d
 |bl b=>cases r;exact .bool_list b c d
 |int b=>obtain⟨t,rfl⟩:=r;exact .int_list b t c d
 |str b=>obtain⟨t,rfl⟩:=r;exact .str_list b t c d
 |_=>trivial
def À(fa:ri a=Ĳ)(r:jd a u)(c:s.heap.IsList p e)(d:A.units<cLine):Oc A s (yb p) u Ε:=by
 cases a with
 |Zb=>cases r;exact .list_none c d
 |bl b=>cases r;exact .list_bool b c d
 |int b=>obtain⟨t,rfl⟩:=r;exact .list_int b t c d
 |str b=>obtain⟨t,rfl⟩:=r;exact .list_str b t c d
 |_=>trivial
def N3(f:jd a u)(d:jd b w)(fa:ri a=Ĳ)(e:ri b=Ĳ):Rg A s u w (Jl a b)/\Og A s u w (!Jl a b):=by
 cases a with
 |Zb=>
  cases f;cases b with
  |Zb=>cases d;exact⟨.none_none,.none_none⟩
  |bl y=>cases d;exact⟨.none_bool y,.none_bool y⟩
  |int y=>obtain⟨t,rfl⟩:=d;exact⟨.none_int y t,.none_int y t⟩
  |str y=>obtain⟨t,rfl⟩:=d;exact⟨.none_str y t,.none_str y t⟩
  |_=>simp[ri]at e
 |bl x=>
  cases f;cases b with
  |Zb=>cases d;exact⟨.bool_none x,.bool_none x⟩
  |bl y=>cases d;exact⟨.bool_bool x y,.bool_bool x y⟩
  |int y=>obtain⟨t,rfl⟩:=d;exact⟨.bool_int x y t,.bool_int x y t⟩
  |str y=>obtain⟨t,rfl⟩:=d;exact⟨.bool_str x y t,.bool_str x y t⟩
  |_=>simp[ri]at e
 |int x=>
  obtain⟨c,rfl⟩:=f;cases b with
  |Zb=>cases d;exact⟨.int_none x c,.int_none x c⟩
  |bl y=>cases d;exact⟨.int_bool x c y,.int_bool x c y⟩
  |int y=>obtain⟨t,rfl⟩:=d;exact⟨.int_int x c y t,.int_int x c y t⟩
  |str y=>obtain⟨t,rfl⟩:=d;exact⟨.int_str x c y t,.int_str x c y t⟩
  |_=>simp[ri]at e
 |str x=>
  obtain⟨c,rfl⟩:=f;cases b with
  |Zb=>cases d;exact⟨.str_none x c,.str_none x c⟩
  |bl y=>cases d;exact⟨.str_bool x c y,.str_bool x c y⟩
  |int y=>obtain⟨t,rfl⟩:=d;exact⟨.str_int x c y t,.str_int x c y t⟩
  |str y=>obtain⟨t,rfl⟩:=d;exact⟨.str_str x c y t,.str_str x c y t⟩
  |_=>simp[ri]at e
 |_=>simp[ri]at fa
def GI{xs}{i:Nat}(r:ie xs a)(h:a[i]?=BD u):∃ x,xs[i]?=BD x/\jd x u:=by
 have e:=r.length;have d:=(ba.mp h).1;obtain⟨f,b,c⟩:=r.get (i:=i) (x:=xs[i]'⋯) ⋯
 simp_all
def OK{i:Nat}(r:lb T μ H a vs)(h:vs[i]?=BD v):∃ d,a[i]?=BD d/\Sa T μ H d v:=by
 have f:=r.length;have e:=(ba.mp h).1;obtain⟨g,b,c⟩:=r.get (i:=i) (d:=a[i]'⋯) ⋯
 simp_all
def QN(G:∀ x y v w z B b,Sa T μ H x v->Sa T μ H y w->jd v z->jd w B->f x y=BD b->Oc A s z B b)
  {xs c} (r:lb T μ H xs vs) (t:lb T μ H c ws) (p:ie vs a) (q:ie ws d) (h:vn f xs c=BD b) :
  (∀ j (n:j<a.toArray.size) (o:j<d.toArray.size),Oc A s a.toArray[j] d.toArray[j] (Qs f xs c j))/\b=((List.range$ min a.toArray.size d.toArray.size).all (Qs f xs c) && a.toArray.size == d.toArray.size):=by
 obtain⟨n,o⟩:=LR f xs c b h;refine⟨λj K L=>?_,?_⟩
 ·obtain⟨v,C,J⟩:=GI (i:=j) (u:=a.toArray[j]) p ⋯;obtain⟨w,E,e⟩:=GI (i:=j) (u:=d.toArray[j]) q ⋯;obtain⟨x,g,I⟩:=OK r C;obtain⟨y,l,p4⟩:=OK t E;obtain⟨k,m⟩:=n j x y g l;have F:Qs f xs c j=k:=by simp[Qs,g,l,m]
  rw[F];exact G x y v w _ _ k I p4 J e m
 ·simp;rw[o,r.length,t.length,p.length,q.length]
abbrev oV(A:Ra)(s:Shared)(v w:Value)(b:Bool):Prop:=Rg A s v w b/\Og A s v w (!b)
def WL(I:db X pins st H s)(r:ud T μ H σ)(hu:A.units+1<cLine)
  (hf:∀ x y v w ό P b,Sa T μ H x v->Sa T μ H y w->jd v ό->jd w P->f x y=BD b->Oc A.in1 s ό P b) (hx:Sa T μ H x v) (hy:Sa T μ H y w) (N:jd v ό) (d:jd w P) (h:Ot f (kd σ x) (kd σ y)=BD b):oV A s ό P b:=by
 have g:A.units<cLine:=by lia
 have R:=Ky r hx;have m:=Ky r hy;generalize kd σ x=k1 at h R;generalize kd σ y=ϋ at h m;cases k1 with
 |o=>cases h
 |s a=>
  obtain⟨rfl,fa⟩:=R;cases ϋ with
  |o=>cases h
  |s c=>obtain⟨rfl,K⟩:=m;cases h;exact N3 N d fa K
  |t C=>
   obtain⟨q,ws,rfl,j,z⟩:=m;cases h;cases d;obtain⟨k,_,u,_⟩:=L2.db.tuple I (Tg.of j);obtain⟨_,_,E,F,G,J⟩:=KH fa N u g;exact⟨E,G⟩
  |l C=>
   obtain⟨q,ws,rfl,j,z⟩:=m;cases h;cases d;obtain⟨k,_,pl,_⟩:=L2.db.list I (Ue.of j);obtain⟨E,F,G,J⟩:=XY fa N pl.isList g;exact⟨E,G⟩
 |t xs=>
  obtain⟨p,vs,rfl,S,ϊ⟩:=R;cases N;obtain⟨k,W,M,_⟩:=L2.db.tuple I (Tg.of S);cases ϋ with
  |o=>cases h
  |s c=>
   obtain⟨rfl,K⟩:=m;cases h;obtain⟨_,_,E,F,G,J⟩:=KH K d M g;exact⟨F,J⟩
  |t C=>
   obtain⟨q,ws,rfl,j,z⟩:=m;cases d;obtain⟨i,Y,u,_⟩:=L2.db.tuple I (Tg.of j);obtain⟨L,Q⟩:=QN hf ϊ z W Y h;rw[Q];exact⟨.tuples M u ⋯ L,.tuples M u ⋯ L⟩
  |l C=>
   obtain⟨q,ws,rfl,j,z⟩:=m;cases h;cases d;obtain⟨i,_,pl,_⟩:=L2.db.list I (Ue.of j);exact⟨.tuple_list M pl.isList g,.tuple_list M pl.isList g⟩
 |l xs=>
  obtain⟨p,vs,rfl,S,ϊ⟩:=R;cases N;obtain⟨k,W,pl,_⟩:=L2.db.list I (Ue.of S);cases ϋ with
  |o=>cases h
  |s c=>
   obtain⟨rfl,K⟩:=m;cases h;obtain⟨E,F,G,J⟩:=XY K d pl.isList g;exact⟨F,J⟩
  |t C=>
   obtain⟨q,ws,rfl,j,z⟩:=m;cases h;cases d;obtain⟨i,_,u,_⟩:=L2.db.tuple I (Tg.of j);exact⟨.list_tuple pl.isList u g,.list_tuple pl.isList u g⟩
  |l C=>
   obtain⟨q,ws,rfl,j,z⟩:=m;cases d;obtain⟨i,Y,n,_⟩:=L2.db.list I (Ue.of j);obtain⟨L,Q⟩:=QN hf ϊ z W Y h;by_cases B:k.toArray.size=i.toArray.size
   ·have e:b=(List.range k.toArray.size).all (Qs f xs C):=by rw[Q,<-B];simp
    rw[e];exact⟨.lists pl.isList n.isList B ⋯ L,.lists pl.isList n.isList B ⋯ L⟩
   ·have e:b=Ε:=by rw[Q,ce.mpr B,Sy]
    rw[e];exact⟨.lists_lengths pl.isList n.isList (by simpa using B) ⋯,.lists_lengths pl.isList n.isList (by simpa using B) ⋯⟩
def YY(I:db X pins st H s)(r:ud T μ H σ)(R:A.units+1<cLine)
  (N:∀ x y v w C E b,Sa T μ H x v->Sa T μ H y w->jd v C->jd w E->f x y=BD b->Oc A.in1 s C E b)
  (Q:∀ x y v b,Sa T μ H x v->Sa T μ H y v->f x y=BD b->b=Ĳ) (F:Sa T μ H x v) (G:Sa T μ H y w) (m:jd v C) (d:jd w E) (h:Ot f (kd σ x) (kd σ y)=BD b):Oc A s C E b:=by
 have j:A.units<cLine:=by lia
 have J:=(WL I r R N F G m d h).1;by_cases i:v=w
 ·subst i;have M:=bO r Q F G h;have k:=Ky r F;have g:=Ky r G;generalize kd σ x=k1 at h k;generalize kd σ y=B at h g;cases k1 with
  |o=>cases h
  |s a=>
   obtain⟨rfl,fa⟩:=k;cases B with
   |o=>cases h
   |s c=>obtain⟨rfl,n⟩:=g;cases h;exact SK m d fa n
   |t z=>obtain⟨q,ws,e,_⟩:=g;rw[e]at fa;simp[ri]at fa
   |l z=>obtain⟨q,ws,e,_⟩:=g;rw[e]at fa;simp[ri]at fa
  |t xs=>
   obtain⟨p,vs,rfl,_⟩:=k;cases m;cases d;rw[M];exact Vj _
  |l xs=>
   obtain⟨p,vs,rfl,_⟩:=k;cases m;cases d;rw[M];exact Vj _
 ·have k:=Ky r F;have g:=Ky r G;generalize kd σ x=k1 at h k;generalize kd σ y=B at h g;cases k1 with
  |o=>cases h
  |s a=>
   obtain⟨rfl,fa⟩:=k;cases B with
   |o=>cases h
   |s c=>obtain⟨rfl,n⟩:=g;cases h;exact SK m d fa n
   |t z=>
    obtain⟨q,ws,rfl,L,ϋ⟩:=g;cases h;cases d;obtain⟨u,_,P,_⟩:=L2.db.tuple I (Tg.of L);exact(KH fa m P j).1
   |l z=>
    obtain⟨q,ws,rfl,L,ϋ⟩:=g;cases h;cases d;obtain⟨u,_,pl,_⟩:=L2.db.list I (Ue.of L);exact m9 fa m pl.isList j
  |t xs=>
   obtain⟨p,vs,rfl,K,S⟩:=k;cases m;cases B with
   |o=>cases h
   |s c=>
    obtain⟨rfl,n⟩:=g;cases h;obtain⟨u,_,ό,_⟩:=L2.db.tuple I (Tg.of K);exact(KH n d ό j).2.1
   |t z=>obtain⟨q,ws,rfl,_⟩:=g;cases d;exact .of_refs (λe=>i (by rw[e])) J
   |l z=>obtain⟨q,ws,rfl,_⟩:=g;cases d;exact .of_refs (λe=>i (by rw[e])) J
  |l xs=>
   obtain⟨p,vs,rfl,K,S⟩:=k;cases m;cases B with
   |o=>cases h
   |s c=>
    obtain⟨rfl,n⟩:=g;cases h;obtain⟨u,_,pl,_⟩:=L2.db.list I (Ue.of K);exact À n d pl.isList j
   |t z=>obtain⟨q,ws,rfl,_⟩:=g;cases d;exact .of_refs (λe=>i (by rw[e])) J
   |l z=>obtain⟨q,ws,rfl,_⟩:=g;cases d;exact .of_refs (λe=>i (by rw[e])) J
theorem dG(I:db X pins st H s)(r:ud T μ H σ):∀ (n:Nat) (A:Ra) (x y:D) (v w:V) (c d:Value) (b:Bool),A.units+n+1<cLine->Sa T μ H x v->Sa T μ H y w->jd v c->jd w d->Mj σ n x y=BD b->Oc A s c d b
 |0,A,x,y,v,w,c,d,b,o,i,j,k,a,h=>YY I r ⋯ (λp p p p p p p p p p p z=>by cases z) (λp p p p p p z=>by cases z) i j k a h
 |n+1,A,x,y,v,w,c,d,b,o,i,j,k,a,h=>YY I r ⋯ (λx y v w c d b e f g l m=>dG I r n A.in1 x y v w c d b (by show A.units+1+n+1<cLine;lia) e f g l m) (λx y v b e f g=>hZ r n x y v b e f g) i j k a h
def QP(I:db X pins st H s)(r:ud T μ H σ) n(o:A.units+n+1<cLine)(e:Sa T μ H x v)(f:Sa T μ H y w)(g:jd v c)(a:jd w d)(h:Mj σ n x y=BD b):oV A s c d b:=by
 cases n with
 |zero=>exact WL I r ⋯ (λp p p p p p p p p p p z=>by cases z) e f g a h
 |succ n=>exact WL I r ⋯ (λx y v w c d b i j k l m=>dG I r n A.in1 x y v w c d b (by show A.units+1+n+1<cLine;lia) i j k l m) e f g a h
end
section
variable{pins:List$ Addr × Obj}{st:St}{μ:dl}{H:Hp}{s:Shared}{σ:Fa}
def rj(x y:D):M D:=λσ=>match Mj σ 8 x y with
 |some b=>O (ϐ b) σ
 |none=>Ϙ
def Lj(x y:D):M D:=λσ=>match Mj σ 8 x y with
 |some b=>O (ϐ$ !b) σ
 |none=>Ϙ
def oX(h:X.A.units+9<cLine):zh X (Gb .Eq)$ rD T rj:=by
 rintro pins s st H v u j i Q I g f ⟨E,μ,σ,x,y,r,c,d,a⟩;unfold rj at a;cases e:Mj σ 8 x y with
 |none=>rw[e]at a;exact a.elim
 |some b=>
  rw[e]at a;have:=(QP I r 8 ⋯ c d g f e).1 X.prog X.w X.xe (EP X pins st Q) ⟨ϫ b,H,I,rfl,Rb.here a r (by rw[Sa])⟩;exact this
def RT(h:X.A.units+9<cLine):zh X (Gb .NotEq)$ rD T Lj:=by
 rintro pins s st H v u j i Q I g f ⟨E,μ,σ,x,y,r,c,d,a⟩;unfold Lj at a;cases e:Mj σ 8 x y with
 |none=>rw[e]at a;exact a.elim
 |some b=>
  rw[e]at a;have:=(QP I r 8 ⋯ c d g f e).2 X.prog X.w X.xe (EP X pins st Q) ⟨ϫ _,H,I,rfl,Rb.here a r (by rw[Sa])⟩;exact this
noncomputable def Jq(x y:D):M D:=λσ=>match y with
 | Ϛ=>(match x with
  | Ϛ=>O (ϐ Ĳ) σ
  |_=>O (ϐ Ε) σ)
 |_=>Ϙ
noncomputable def zH(x y:D):M D:=λσ=>match y with
 | Ϛ=>(match x with
  | Ϛ=>O (ϐ Ε) σ
  |_=>O (ϐ Ĳ) σ)
 |_=>Ϙ
def sW(h:Sa T μ H x v):decide (v=.Zb)=(match x with | Ϛ=>Ĳ|_=>Ε):=by
 cases x with
 |Zb=>rw[Sa]at h;subst h;rfl
 |Qa ds=>rw[Sa]at h;obtain⟨p,_,rfl,_⟩:=h;simp
 |Ff ds=>rw[Sa]at h;obtain⟨p,rfl,_⟩:=h;simp
 |ref ds=>rw[Sa]at h;obtain⟨p,rfl,_⟩:=h;simp
 |ra ds=>rw[Sa]at h;obtain⟨p,_,rfl,_⟩:=h;simp
 |Xa ks ds=>rw[Sa]at h;obtain⟨p,_,rfl,_⟩:=h;simp
 |obj c ks ds=>rw[Sa]at h;obtain⟨p,_,_,rfl,_⟩:=h;simp
 |Us c=>rw[Sa]at h;obtain⟨p,_,rfl,_⟩:=h;simp
 |gt ds=>rw[Sa]at h;obtain⟨p,rfl,_⟩:=h;simp
 |_=>rw[Sa]at h;subst h;simp
def oQ:pk T (λx y H Q=>y=.Zb/\Q (ϫ$ decide$ x=.Zb) H) Jq:=by
 intro E μ H σ x y v u Q r p q h;cases y with
 |Zb=>
  refine⟨by rw[Sa]at q;exact q,?_⟩;rw[sW p];cases x<;>exact Rb.here h r (by rw[Sa])
 |_=>exact h.elim
def yV:pk T (λx y H Q=>y=.Zb/\Q (ϫ$ !decide (x=.Zb)) H) zH:=by
 intro E μ H σ x y v u Q r p q h;cases y with
 |Zb=>
  refine⟨by rw[Sa]at q;exact q,?_⟩;rw[sW p];cases x<;>exact Rb.here h r (by rw[Sa]<;>rfl)
 |_=>exact h.elim
def Ć(r:lb T μ H a b)(h:km a k=BD d):∃ v,km b k=BD v/\Sa T μ H d v:=by
 unfold km at h ⊢;rw[<-r.length];cases e:Hr a.length k with
 |none=>simp_all
 |some j=>rw[e]at h;exact r.get h
theorem kE:∀ (a:h8),lb T μ H (a.map Z) (a.map Ϥ)
 |[]=>lb.nil
 |n::a=>lb.cons (by rw[Sa]) (kE a)
def gi(σ:Fa):D->Option (B')
 | ώ xs=>BD xs
 | ϥ ns=>BD (ns.map Z)
 | U n=>Cf σ n
 | ύ xs=>BD xs
 | .gt ss=>BD (ss.map ϓ)
 |_=>V6
def nb(x i:D):M D:=λσ=>match i with
 | Z k=>(match gi σ x with
  |some xs=>(match km xs k with
   |some d=>O d σ
   |none=>Ϙ)
  |none=>Ϙ)
 |_=>Ϙ
theorem RI:∀ (a:ad),lb T μ H (a.map ϓ) (a.map V.str)
 |[]=>lb.nil
 |n::ns=>lb.cons (by rw[Sa]) (RI ns)
def oA(r:ud T μ H σ){xs}(h:Sa T μ H x v)(e:gi σ x=BD xs):∃ p vs,v=ϖ p/\lb T μ H xs vs/\(Ue T.K H p vs\/Tg T.K H p vs):=by
 cases x with
 |Qa ds=>cases e;rw[Sa]at h;obtain⟨p,vs,rfl,b,c⟩:=h;exact⟨p,vs,rfl,c,ϕ$ Tg.of b⟩
 |Ff ns=>cases e;rw[Sa]at h;obtain⟨p,rfl,b⟩:=h;exact⟨p,_,rfl,kE ns,ϑ b.seq⟩
 |ref n=>obtain⟨a,vs,rfl,_,b,c⟩:=r.ra h e;exact⟨a,vs,rfl,c,ϑ$ Ue.of b⟩
 |ra ds=>cases e;rw[Sa]at h;obtain⟨p,vs,rfl,_,b,c⟩:=h;exact⟨p,vs,rfl,c,ϑ$ Ue.of b⟩
 |gt ss=>cases e;rw[Sa]at h;obtain⟨p,rfl,b⟩:=h;exact⟨p,_,rfl,RI ss,ϕ$ ϕ b⟩
 |_=>cases e
def RN(j:T.K=X.K):pk T (λx y H Q=>ML X.K x y H Q\/UO X.K x y H Q) nb:=by
 intro E μ H σ x y v u Q r p q h;cases y with
 |int k=>
  unfold nb at h;cases e:gi σ x with
  |none=>simp[e]at h;exact h.elim
  |some xs=>
   simp[e]at h;cases c:km xs k with
   |none=>rw[c]at h;exact h.elim
   |some d=>
    rw[c]at h;obtain⟨a,vs,rfl,i,b⟩:=oA r p e;obtain⟨w,f,g⟩:=Ć i c;rw[j]at b;rcases b with b|b
    ·exact ϑ ⟨a,vs,k,w,rfl,Mq q,b,f,Rb.here h r g⟩
    ·exact ϕ ⟨a,vs,k,w,rfl,Mq q,b,f,Rb.here h r g⟩
 |_=>trivial
def KN:Lw X (λx y H Q=>ML X.K x y H Q\/UO X.K x y H Q):=y9.or ye1
def mw(d:D):Bool:=(sc d).isSome
def Qx(x y:D):Bool:=match sc x,sc y with
 |some a,BD b=>Jl a b
 |_,_=>Ε
def Es(a:Bool)(x y:D):M D:=λσ=>match gi σ y with
 |some xs=>if (mw x && xs.all mw)=Ĳ then O (ϐ$ if a then !(xs.any λz=>Qx z x)else xs.any λz=>Qx z x) σ else Ϙ
 |none=>Ϙ
theorem ZY:∀ {b:B'} {vs:n'},lb T μ H b vs->b.all mw=Ĳ->vs.all ri=Ĳ
 |[],vs,h,_=>by rw[lb]at h;subst h;rfl
 |d::b,vs,h,e=>by
  obtain⟨v,r,rfl,f,g⟩:=h;rw[vf,Ga]at e ⊢;obtain⟨a,c⟩:=ke.mp e.1;exact⟨by rw[WG f c];exact sT c,ZY g e.2⟩
theorem iT{x:D}{a:V}(ex:sc x=BD a):∀ {b:B'} {vs:n'},lb T μ H b vs->b.all mw=Ĳ->(b.any λz=>Qx z x)=vs.any λy=>Jl y a
 |[],vs,h,_=>by rw[lb]at h;subst h;rfl
 |d::b,vs,h,e=>by
  obtain⟨v,r,rfl,g,i⟩:=h;rw[vf,Ga]at e;obtain⟨c,f⟩:=ke.mp e.1;rw[wf,wf,iT ex i e.2];have:Qx d x=Jl v a:=by unfold Qx;rw[f,ex,WG g f]
  grind
def kG(k:T.K=X.K) d:pk T (kH X.K d)$ Es d:=by
 intro E μ H σ x y v u Q r p q h;unfold Es at h;cases e:gi σ y with
 |none=>rw[e]at h;exact h.elim
 |some xs=>
  rw[e]at h;by_cases c:(mw x && xs.all mw)=Ĳ
  ·simp[c]at h;rw[Ga]at c;obtain⟨a,f⟩:=ke.mp c.1;obtain⟨b,vs,rfl,g,i⟩:=oA r q e;rw[k]at i;refine⟨b,vs,rfl,i,by rw[WG p f];exact sT f,ZY g c.2,?_⟩;have j:rC v vs=xs.any λz=>Qx z x:=by unfold rC;rw[iT f g c.2,WG p f]
   rw[j];exact Rb.here h r (by rw[Sa])
  ·simp[c]at h;exact h.elim
def Fo(xs:B'):M D:=λσ=>match xs with
 |[x]=>(match gi σ x with
  |some a=>O (Z a.length) σ
  |none=>Ϙ)
 |_=>Ϙ
def zzm(g:T.K=X.K):Bs T (λxs H Q=>∃ p a,xs=[ϖ p]/\(Ue X.K H p a\/Tg X.K H p a)/\Q (Ϥ a.length) H) Fo:=by
 intro E μ H σ xs vs Q r p h
 match xs with
 |[]=>exact h.elim
 |[x]=>
  obtain⟨v,w,rfl,i,d⟩:=p;rw[lb]at d;subst d;unfold Fo at h;cases e:gi σ x with
  |none=>simp[e]at h;exact h.elim
  |some a=>
   simp[e]at h;obtain⟨b,vs,rfl,f,c⟩:=oA r i e;rw[g]at c;exact⟨b,vs,rfl,c,by rw[<-f.length];exact Rb.here h r (by rw[Sa])⟩
 |_::_::_=>exact h.elim
def xr(xs:B'):M D:=λσ=>match xs with
 |[x]=>(match gi σ x with
  |some a=>PB a σ
  |none=>Ϙ)
 |_=>Ϙ
def C5(g:T.K=X.K):Bs T (λxs H Q=>∃ p a,xs=[ϖ p]/\(Ue X.K H p a\/Tg X.K H p a)/\∀ l,H l=V6->Q (ϖ l) (Wb H l$ ϯ a)) xr:=by
 intro E μ H σ xs vs Q r p h
 match xs with
 |[]=>exact h.elim
 |[x]=>
  obtain⟨v,w,rfl,j,d⟩:=p;rw[lb]at d;subst d;unfold xr at h;cases e:gi σ x with
  |none=>simp[e]at h;exact h.elim
  |some a=>
   simp only[e]at h;obtain⟨b,vs,rfl,f,c⟩:=oA r j e;rw[g]at c;exact⟨b,vs,rfl,c,λl i=>jF h r f i⟩
 |_::_::_=>exact h.elim
noncomputable def FN:D->Bool
 | .gt _=>Ĳ
 |_=>Ε
def AE(xs:B'):M D:=λσ=>match xs with
 |[x]=>(match gi σ x with
  |some a=>if FN x=Ĳ then Ϙ else O (ώ a) σ
  |none=>Ϙ)
 |_=>Ϙ
def đ(k:T.K=X.K):Bs T (λxs H Q=>∃ p g,xs=[ϖ p]/\((Ue X.K H p g/\∀ l,H l=V6->Q (ϖ l) (Wb H l$ .Qa g))\/(Tg X.K H p g/\Q (ϖ p) H))) AE:=by
 intro E μ H σ xs vs Q r p h
 match xs with
 |[]=>exact h.elim
 |[x]=>
  obtain⟨v,w,rfl,c,j⟩:=p;rw[lb]at j;subst j;have h:Rb T E _ μ H (match gi σ x with|some g=>if FN x=Ĳ then Ϙ else O _ σ|none=>Ϙ) Q:=h;cases e:gi σ x with
  |none=>simp[e]at h;exact h.elim
  |some g=>
   simp[e]at h;cases x with
   |gt ss=>exact h.elim
   |Qa ds=>
    cases e;have m:=c;rw[Sa]at c;obtain⟨b,vs,rfl,d,i⟩:=c;exact⟨b,vs,rfl,ϕ ⟨Tg.of d,Rb.here h r m⟩⟩
   |Ff ns=>
    cases e;rw[Sa]at c;obtain⟨b,rfl,d⟩:=c;exact⟨b,_,rfl,ϑ ⟨by rw[<-k];exact d.seq,λl f=>xC h r (kE ns) f⟩⟩
   |ref n=>
    obtain⟨a,vs,rfl,_,d,i⟩:=r.ra c e;exact⟨a,vs,rfl,ϑ ⟨Ue.of d,λl f=>xC h r i f⟩⟩
   |ra ds=>
    cases e;rw[Sa]at c;obtain⟨b,vs,rfl,_,d,i⟩:=c;exact⟨b,vs,rfl,ϑ ⟨Ue.of d,λl f=>xC h r i f⟩⟩
   |_=>cases e
 |_::_::_=>exact h.elim
end
def Go(o:B'->M D)(a:Ev->M (B')):Ev->M D:=λb=>Tc (a b) o
section
variable{x:Str}{p pos:Td}{e:Oa}{es:List Oa}{fs:Ev->M (B')}{id ty:String}{r:n'->Hp->VK->Prop}{o:B'->M D}
def SX(j:Bs T r o)(h:tF T X (Go o fs) c H Q):lN r (tL T X fs) c H Q:=by
 obtain⟨p,q,s,f,i,g⟩:=h;exact⟨p,q,s,f,i,g.bind λe b a n d u t m k l=>j _ a d b e n Q m k l⟩
def LG(f:Ao X (Ϣ id) r)(l:Bs T r o)(i:Gl X x)(j:X.mg x=V6)(m:bootBuiltins x=BD (Ϣ id))(d:FA T X (e::es) fs)(k:x ≠ "__name__":=by decide)(b:(x == ("__debug__" : Str))=Ε:=by decide)
  (g:va (e::es) X.env=(Ε,Mb e X.env)::va es X.env:=by rfl) (c:(lc pos$ va es X.env).any (·.1)=Ε:=by rfl):FE T X (ϡ (Ϝ x p) (e::es) [] pos)$ Go o fs:=
 λa s n H Q I h=>GG f i j m d k b g c a s n H Q I$ SX l h
def mI(f:Ao X (Uh ty) r)(l:Bs T r o)(i:Gl X x)(j:X.mg x=V6)(m:bootBuiltins x=BD (Uh ty))(d:FA T X (e::es) fs)(k:x ≠ "__name__":=by decide)(b:(x == ("__debug__" : Str))=Ε:=by decide)
  (g:va (e::es) X.env=(Ε,Mb e X.env)::va es X.env:=by rfl) (c:(lc pos$ va es X.env).any (·.1)=Ε:=by rfl):FE T X (ϡ (Ϝ x p) (e::es) [] pos)$ Go o fs:=
 λa s n H Q I h=>BM f i j m d k b g c a s n H Q I$ SX l h
end
def Lf(a:Fa):D->Option (B')
 | U n=>Cf a n
 | ύ xs=>BD xs
 |_=>V6
def ud.ls(r:ud T f H g){xs}(h:Sa T f H x v)(e:Lf g x=BD xs):∃ a vs,v=ϖ a/\H a=BD (ϯ vs)/\lb T f H xs vs:=by
 cases x with
 |ref n=>obtain⟨a,vs,b,_,c,d⟩:=r.ra h e;exact⟨a,vs,b,c,d⟩
 |ra i=>cases e;rw[Sa]at h;obtain⟨a,vs,b,_,c,d⟩:=h;exact⟨a,vs,b,c,d⟩
 |_=>cases e
def Pu(o:D->B'->M D)(m:M$ B')(x:D):M D:=λa=>match Lf a x with
 |some _=>Tc m (o x) a
 |none=>Ϙ
def vy(o:D->B'->M D)(f:Ev->M D)(b:Ev->M (B')):Ev->M D:=λa=>Tc (f a)$ Pu o$ b a
def ly(T:Tb)(r:V->n'->Hp->VK->Prop)(o:D->B'->M D):Prop:=∀ (E:XK) a H c x xs v b Q,ud T a H c->Sa T a H x v->lb T a H xs b->Rb T E (Sa T) a H (o x xs c) Q->r v b H Q
def Kj(x:D)(xs:B'):M D:=λb=>match x,xs with
 | U n,[y]=>(match Cf b n with
  |some a=>if a.length<Dg then O Ϛ (b.set n$ ϒ$ a++[y])else Ϙ
  |none=>Ϙ)
 |_,_=>Ϙ
section
variable{o e:Oa}{es:List Oa}{f:Ev->M D}{fs:Ev->M (B')}{name:Str}{apos cpos:Td}{id:String}{r:V->n'->Hp->VK->Prop}{g:D->B'->M D}
def DG(R:vm "list")(l:vP "list" name id)(q:uo (Ϣ id)=pure (Uh "method_descriptor"))(K:Uw X id r)(ό:ly T r g)(L:FE T X o f)(J:FA T X (e::es) fs)
  (c:Dd o name X.env (Mb o X.env)=Mb o X.env:=by rfl)
  (i:((lc cpos$ va (e::es) X.env).all (λx=>!x.1) && (Hh cpos$ uf [] X.env).all (λx=>x.1.isSome)
   && decide ((e::es).length+([]:List ej).length+(if ([]:List ej).isEmpty then 0 else 1)<30))=Ĳ:=by rfl)
  (d:(apos.endLine == cpos.line)=Ĳ:=by rfl) (p:va (e::es) X.env=(Ε,Mb e X.env)::va es X.env:=by rfl) (b:(lc cpos$ va es X.env).any (·.1)=Ε:=by rfl) :
  FE T X (ϡ (ϟ o name apos) (e::es) [] cpos)$ vy g f fs:=by
 intro j s V H Q I h;refine Μ R l q K L J c i d p b j s V H Q I ?_;obtain⟨W,B,Y,y,N,M⟩:=h;refine⟨W,B,Y,y,N,M.bind λx m t v ϊ O E A z k=>?_⟩;unfold Pu at k;cases n:Lf m x with
 |none=>rw[n]at k;exact k.elim
 |some xs=>
  rw[n]at k;obtain⟨a,vs,rfl,G,h2⟩:=A.ls z n;exact⟨ϑ ⟨rfl,vs,Ue.of G⟩,t,B,m,y.mono E,A,k.bind λD w u ws C O F ϋ P S=>(ό _ u C w x D _ ws Q ϋ (Sa.mono F _ _ z) P S)⟩
def aK:ly T fM Kj:=by
 intro E j H σ x xs v vs Q r p q h;cases x with
 |ref n=>
  match xs with
  |[]=>exact h.elim
  |[y]=>
   obtain⟨w,z,rfl,k,g⟩:=q;rw[lb]at g;subst g;unfold Kj at h;cases b:Cf σ n with
   |none=>simp[b]at h;exact h.elim
   |some l=>
    simp only[b]at h;by_cases c:l.length<Dg
    ·rw[ka c]at h;obtain⟨a,vs,rfl,f,d,e⟩:=r.ra p b;have i:=r.write (ob:=ϒ _) f ⟨_,Mf,by
      have ex:Cd j H j$ Wb H a$ ϯ$ vs++[w]:=Ss (wa f) d (λm z=>by cases z) (λm m z=>by cases z);exact lb.append (lb.mono ex _ _ e)$ lb.cons (Sa.mono ex _ _ k) lb.nil⟩
     exact⟨a,vs,w,rfl,rfl,d,by rw[<-e.length];exact vV c,h _ _ _ i.1 i.2 (by rw[Sa])⟩
    ·rw[qa c]at h;exact h.elim
  |_::_::_=>exact h.elim
 |_=>exact h.elim
end
inductive BT where
 |int|bool|str|tuple|list|dict
noncomputable def BT.nm:BT->String
 | .int=>"int" | .bool=>"bool" | .str=>"str" | .tuple=>"tuple" | .list=>"list" | .dict=>"dict"
noncomputable def bG(a:Fa)(c:BT):D->Option Bool
 | Ϛ=>BD Ε
 | ϐ _=>BD (match c with | .int=>Ĳ | .bool=>Ĳ|_=>Ε)
 | Z _=>BD (match c with | .int=>Ĳ|_=>Ε)
 | ϓ _=>BD (match c with | .str=>Ĳ|_=>Ε)
 | ώ _=>BD (match c with | .tuple=>Ĳ|_=>Ε)
 | ϥ _=>V6
 | ύ _=>BD (match c with | .list=>Ĳ|_=>Ε)
 | Ϩ _ _=>BD (match c with | .dict=>Ĳ|_=>Ε)
 | ϸ _ _ _=>V6
 | .Us _=>V6
 | .gt _=>V6
 | U n=>match a[n]? with
  |some (ϒ _)=>BD (match c with | .list=>Ĳ|_=>Ε)
  |some (Ϗ _)=>BD (match c with | .dict=>Ĳ|_=>Ε)
  |_=>V6
def Cy(c:BT)(x:D):M D:=λa=>match bG a c x with
 |some b=>O (ϐ b) a
 |none=>Ϙ
def tQ(K:ϗ)(H:Hp)(x:V)(t:Value):Prop:=nk K H x t\/∃ a b,x=ϖ a/\Rd H a (ϛ b)/\t=Uh "dict"
def yyh(K:ϗ)(c:String):n'->Hp->VK->Prop:=λxs H Q=>∃ x t b,xs=[x,.ty c]/\tQ K H x t/\W.kitOne K t (Uh c)=BD b/\Q (ϫ b) H
def M9 c:Ao X (Ϣ "isinstance")$ yyh X.K c:=by
 rintro d s st H xs m Q I r ⟨x,t,b,rfl,ty,e,q⟩;obtain⟨u,u2,rfl,f,rfl⟩:=P9 r;rcases ty with ty|⟨a,i,rfl,rd,rfl⟩
 ·exact zhp I f ty e λj=>⟨ϫ b,H,I.tok _,rfl,q⟩
 ·cases (f);obtain⟨_,_,vs,_,p⟩:=(rd.ok I.Fc)
  obtain⟨o,l,k,g,h,_⟩:=p;exact W.kia_one W.kitx_dict I.Ai ⟨o,g,h.1⟩ e (λz=>nomatch z) λj=>⟨ϫ b,H,I.tok _,rfl,q⟩
def Ó(r:ud T l H g)(p:Sa T l H x v)(h:bG g c x=BD b):∃ t,tQ X.K H v t/\W.kitOne X.K t (Uh c.nm)=BD b:=by
 cases x with
 |Zb=>rw[Sa]at p;subst p;refine⟨_,ϑ$ .Zb,?_⟩;cases c<;>cases h<;>rfl
 |bl i=>rw[Sa]at p;subst p;refine⟨_,ϑ$ .bl i,?_⟩;cases c<;>cases h<;>rfl
 |int i=>rw[Sa]at p;subst p;refine⟨_,ϑ$ .int i,?_⟩;cases c<;>cases h<;>rfl
 |str i=>rw[Sa]at p;subst p;refine⟨_,ϑ$ .str i,?_⟩;cases c<;>cases h<;>rfl
 |Qa ds=>rw[Sa]at p;obtain⟨q,vs,rfl,d,_⟩:=p;refine⟨_,ϑ$ .Qa d,?_⟩;cases c<;>cases h<;>rfl
 |Ff ns=>cases h
 |ra ds=>rw[Sa]at p;obtain⟨q,vs,rfl,_,d,_⟩:=p;refine⟨_,ϑ$ .ra d,?_⟩;cases c<;>cases h<;>rfl
 |Xa ks ds=>rw[Sa]at p;obtain⟨q,vs,rfl,_,d,_⟩:=p;refine⟨_,ϕ ⟨q,_,rfl,d,rfl⟩,?_⟩;cases c<;>cases h<;>rfl
 |obj j ks ds=>cases h
 |Us j=>cases h
 |gt ss=>cases h
 |ref n=>
  unfold bG at h;dsimp only at h;cases e:g[n]? with
  |none=>rw[e]at h;cases h
  |some o=>
   rw[e]at h;obtain⟨a,rfl,_,k⟩:=r.at p e;cases o with
   |ra xs=>obtain⟨vs,f,_⟩:=k;refine⟨_,ϑ$ .ra f,?_⟩;cases c<;>cases h<;>rfl
   |Xa xs=>obtain⟨vs,f,_⟩:=k;refine⟨_,ϑ$ .dK f,?_⟩;cases c<;>cases h<;>rfl
   |ub j m=>cases h
   |He xs=>cases h
   |Vc _=>cases h
def nI c(C:FE T X e f)(E:Gl X "isinstance")(F:X.mg "isinstance" = V6)(m:Gl X a)(n:X.mg a=V6)(r:bootBuiltins a=BD (Uh c.nm))(o:a ≠ "__name__":=by decide)(l:(a == ("__debug__" : Str))=Ε:=by decide)
  (w:va [e,Ϝ a j] X.env=(Ε,Mb e X.env)::va [Ϝ a j] X.env:=by rfl) (q:(lc g$ va [Ϝ a j] X.env).any (·.1)=Ε:=by rfl) :
  FE T X (ϡ (Ϝ "isinstance" p) [e,Ϝ a j] [] g)$ gf (Cy c) f:=by
 intro d s st H Q I h;refine GG (M9 c.nm) E F boot_isinstance (Zt C (Zt (I0 m n r (v:=.ty c.nm) rfl o l) fx) w) ⋯ ⋯ w q d s st H Q I ?_;obtain⟨L,ό,P,B,J,G⟩:=h;refine⟨L,ό,P,B,J,G.bind λx u N v R D S y K i=>?_⟩;unfold Cy at i;cases k:bG u c x with
 |none=>rw[k]at i;exact i.elim
 |some b=>
  rw[k]at i;obtain⟨t,z,A⟩:=Ó y K k;exact⟨v,t,b,rfl,z,A,Rb.here i y (by rw[Sa])⟩
noncomputable def Ei:Ev->M Fl:=λa=>ret$ ϙ a
noncomputable def eF(h:Ev->M Fl):Fl->M Fl
 | ϙ a=>h a
 | .rt d=>ret (.rt d)
 | .bk a=>ret (.bk a)
 | .ct a=>ret (.ct a)
 | .xc a x=>ret (.xc a x)
def Nc(g h:Ev->M Fl):Ev->M Fl:=λa=>Tc (g a)$ eF h
noncomputable def yM:D->M Fl:=λd=>ret$ .rt d
def qh(f:Ev->M D):Ev->M Fl:=λa=>xs a (f a) yM
noncomputable def aM(a:Ev):D->M Fl:=λb=>ret$ ϙ a
def Ml(f:Ev->M D):Ev->M Fl:=λa=>xs a (f a)$ aM a
noncomputable def wK(i:Nat)(a:Ev):D->M Fl:=λd=>ret$ ϙ$ a.set i$ BD d
def Tf(i:Nat)(f:Ev->M D):Ev->M Fl:=λa=>xs a (f a)$ wK i a
noncomputable def Vh(t:Ev->M Bool)(a b:Ev->M Fl):Ev->M Fl:=λc=>xs c (t c)$ Fj (a c)$ b c
section
variable{st':Stmt}{rest:List Stmt}{g h:Ev->M Fl}{e:Oa}{f:Ev->M D}{pos:Td}
def Nr:Dk T X [] Ei:=by
 rintro a s b H D I ⟨f,h,i,c,e,d⟩;exact IV a s b H D I$ Rb.here (g:=Ϸ b) d e c
def ņ{g}{h}{e}{D}(r:ud T g H h)(q:zo T g H e b)(k:Fl->M Fl)
  (i:∀ a,e=ϙ a->∀ st,b=Ϸ st->fh T g H a st->N st H) (f:(∀ a,e≠ ϙ a)->Rb T EN (zo T) g H (O e h) (zp X D)):zp X { D with nx:=N } b H:=by
 cases e with
 |nx a=>cases b with
  |nx st=>exact i a rfl st rfl q
  |_=>exact q.elim
 |rt d=>cases b with
  |rt v=>have z:=Rb.here (f λj z=>by cases z) r q;exact z
  |_=>exact q.elim
 |bk a=>cases b with
  |bk v=>have z:=Rb.here (f λj z=>by cases z) r q;exact z
  |_=>exact q.elim
 |ct a=>cases b with
  |ct v=>have z:=Rb.here (f λj z=>by cases z) r q;exact z
  |_=>exact q.elim
 |xc a x=>cases b with
  |xc v c fd=>have z:=Rb.here (f λj z=>by cases z) r q;exact z
  |_=>exact q.elim
def yd(k:FS T X st' g)(l:Dk T X rest h):Dk T X (st'::rest)$ Nc g h:=by
 intro a s t H D I q;refine iV k l a s t H D I ?_;obtain⟨v,w,x,m,p,o⟩:=q;refine⟨v,w,x,m,p,o.bind λj d c B y C z f r e=>(ņ f r (λC=>Eb) (λb i u A n=>?_)$ λC=>?_)⟩
 ·subst i;exact⟨c,b,d,n,f,e⟩
 ·cases j with
  |nx b=>simp_all
  |_=>exact e
def ui(a:FS T X st' g):Dk T X [st'] g:=ê a
def Ar(c:FE T X e f):FS T X (.Return (BD e) pos)$ qh f:=by
 intro a s n H D I j;refine yhz c a s n H D I ?_;obtain⟨o,q,r,b,i,h⟩:=j;exact⟨o,q,r,b,i,h.xs b λd t p v u d w m l k=>Rb.here (g:=Nq.rt v) k m l⟩
def Cz(i:FE T X e f)(l:Ng e V6 pos.line X.env=pure Ε:=by rfl):FS T X (.Expr e pos)$ Ml f:=by
 intro a s c H D I m;refine G6 i l a s c H D I ?_;obtain⟨p,r,t,b,k,j⟩:=m;exact⟨p,r,t,b,k,j.xs b λd u q v w d h o x n=>Rb.here (g:=Ϸ c) n o$ b.mono h⟩
def VE(j:X.N.Nodup)(m:X.N[i]?=BD x)(r:Loc X.env.scope x)(k:FE T X e f)(p:Ng e (BD$ Ϝ x a) pos.line X.env=pure Ε:=by rfl)(l:X.fn x=Ĳ\/X.env.scope.names.lookup x=BD .local:=by first|exact .inl rfl|exact .inr rfl|assumption) :
  FS T X (Ϻ [Ϝ x a] e pos)$ Tf i f:=by
 intro b s st H D I q;refine yh0 j m r k p l b s st H D I ?_;obtain⟨y,A,B,c,o,n⟩:=q;exact⟨y,A,B,c,o,n.xs c λd C z v E d h w u t=>Rb.here (g:=Ϸ _) t w$ (c.mono h).set i u⟩
def oq(q:FT T X c n)(o:Dk T X a k)(p:Dk T X b l):FS T X (.If c a b pos)$ Vh n k l:=by
 intro e s x H D I u;refine SQ q o p e s x H D I ?_;obtain⟨y,i,σ,h,t,r⟩:=u;refine⟨y,i,σ,h,t,r.xs h λc g f v z A j m w d=>?_⟩;cases w;cases c with
 |true=>unfold Fj at d;rw[ka rfl]at d ⊢;exact⟨f,i,g,h.mono j,m,d⟩
 |false=>unfold Fj at d;rw[qa qb]at d ⊢;exact⟨f,i,g,h.mono j,m,d⟩
noncomputable def gD(T:Tb)(f:D->Ev->Option Ev):TG:=λv e H Q=>∃ b g c d a,fh T b H c e/\ud T b H g/\Sa T b H d v/\f d c=BD a/\∀ st',fh T b H a st'->Q st' H
noncomputable def r8(T:Tb)(f:B'->Ev->Option Ev):Iy:=λg e H Q=>∃ b h d c a,fh T b H d e/\ud T b H h/\lb T b H c g/\f c d=BD a/\∀ st',fh T b H a st'->Q st' H
abbrev FG(T:Tb)(X:Cx)(t:Oa)(a:D->Ev->Option Ev):Prop:=PG X t$ gD T a
abbrev bC(T:Tb)(X:Cx)(b:List Oa)(a:B'->Ev->Option Ev):Prop:=cE X b$ r8 T a
noncomputable def je(i:Nat):D->Ev->Option Ev:=λd a=>BD$ a.set i$ BD d
noncomputable def Io:B'->Ev->Option Ev
 |[],a=>BD a
 |_::_,_=>V6
noncomputable def bi(t:D->Ev->Option Ev)(u:B'->Ev->Option Ev):B'->Ev->Option Ev
 |[],_=>V6
 |d::ds,b=>(t d b).bind λa=>u ds a
noncomputable def io(n:Nat)(t:B'->Ev->Option Ev):D->Ev->Option Ev
 | ώ ds,a=>if ds.length=n then t ds a else V6
 |_,_=>V6
def Ł(c:X.N.Nodup)(g:X.N[i]?=BD x)(k:Loc X.env.scope x)(f:X.fn x=Ĳ\/X.env.scope.names.lookup x=BD .local:=by first|exact .inl rfl|exact .inr rfl|assumption):FG T X (Ϝ x pos)$ je i:=by
 rintro a s st H v u Q I r ⟨n,o,ρ,d,l,b,m,e,j,h⟩;cases j;exact Ô c g k f a s st H v u Q I r$ h _$ b.set i e
def UZ:bC T X [] Io:=by
 rintro a s h H vs i Q I r ⟨l,m,ρ,b,j,f,k,c,e,g⟩;cases b with
 |nil=>cases e;rw[lb]at c;subst c;exact zxp a s h H [] i Q I r ⟨rfl,g _ f⟩
 |cons d b=>cases e
def j5(q:FG T X e t)(x:bC T X c u)
  (B:(ge (e::c) X.env).map (·.2)=dj e X.env::(ge c X.env).map (·.2):=by rfl):bC T X (e::c)$ bi t u:=by
 rintro a s st H vs E Q I r ⟨m,n,ρ,f,j,y,k,z,l,A⟩;cases f with
 |nil=>cases l
 |cons d f=>
  obtain⟨v,w,rfl,h,i⟩:=z;obtain⟨b,o,p⟩:=Bf.mp l;exact J6 q x B a s st H _ E Q I r ⟨v,w,rfl,m,n,ρ,d,b,y,k,h,o,λC g=>⟨m,n,b,f,j,g,k,i,p,A⟩⟩
def xM(m:X.qc=Ĳ)(h:bC T X c t)
  (q:(ge c X.env).length=n:=by rfl) (e:(ge c X.env).findIdx? (·.1)=V6:=by rfl):FG T X (ϱ c k pos)$ io n t:=by
 rintro b s st H v u Q I r ⟨y,σ,ρ,d,f,l,x,o,a,w⟩;cases d with
 |Qa ds=>
  obtain⟨p,vs,rfl,j,g⟩:=o;unfold io at a;dsimp only at a;by_cases i:ds.length=n
  ·rw[ka i]at a;exact QZ m h q e b s st H _ u Q I r ⟨p,vs,rfl,Tg.of j,by rw[<-g.length];exact i,y,σ,ρ,ds,f,l,x,g,a,w⟩
  simp_all
 |_=>cases a
def aC(x i d:D):M Unit:=λa=>match x,i with
 | U n,Z k=>(match Cf a n with
  |some xs=>(match Hr xs.length k with
   |some j=>O () (a.set n$ ϒ$ xs.set j d)
   |none=>Ϙ)
  |none=>Ϙ)
 |_,_=>Ϙ
def Yw(b:Ev)(d x i:D):M Fl:=λc=>match aC x i d c with
 | O _ a=>O (ϙ b) a
 |_=>Ϙ
def bN(a:Ev)(b:Ev->M D)(d x:D):M Fl:=xs a (b a)$ Yw a d x
def CO(a:Ev)(c b:Ev->M D)(d:D):M Fl:=xs a (c a)$ bN a b d
def JH(f c b:Ev->M D):Ev->M Fl:=λa=>xs a (f a)$ CO a c b
def Ζ(R:FE T X e f)(ϋ:FE T X o L)(S:FE T X i fi)
  (Q:∀ v,dj (Ϟ o i b) X.env v=(do
   let r <-qe [v] (Mb o X.env);let y <-qe [v,r] (Mb i X.env)
   oh b
   qe [v,r,y] (yq r y v)
   NC [v,r,y] []):=by intro _;rfl)
  (ϊ:Sl [Ϟ o i b] e pos.line X.env=pure Ε:=by rfl) (hw:Tl [Ϟ o i b] e X.env=pure V6:=by rfl)
  (q:(ge [Ϟ o i b] X.env).map (·.2)=[dj (Ϟ o i b) X.env]:=by rfl):FS T X (Ϻ [Ϟ o i b] e pos)$ JH f L fi:=by
 intro l s st H D I W;refine cP R (oM ϋ S t6 Q) ϊ hw q l s st H D I ?_;obtain⟨μ,E,σ,g,Y,V⟩:=W;refine⟨μ,E,σ,g,Y,V.xs g λd F B v H1 d h r1 q1 p1=>⟨B,E,F,g.mono h,r1,p1.xs (g.mono h) λx G C vo H2 d p r2 q2 p2=>⟨C,E,G,(g.mono h).mono p,r2,p2.xs ((g.mono h).mono p) λk J m vi K d t P q3 c=>?_⟩⟩⟩;have hx:=Sa.mono t _ _ q2;unfold Yw aC at c;cases x with
 |ref n=>
  cases k with
  |int k=>
   dsimp only at c;cases w:Cf J n with
   |none=>rw[w]at c;exact c.elim
   |some xs=>
    rw[w]at c;dsimp only at c;cases u:Hr xs.length k with
    |none=>rw[u]at c;exact c.elim
    |some j=>
     rw[u]at c;obtain⟨a,vs,rfl,ό,q,N⟩:=P.ra hx w;have A:=P.write (ob:=ϒ _) ό ⟨_,Mf,by
      have ex:Cd m K m$ Wb K a$ ϯ$ vs.set j v:=Ss (wa ό) q (λd z=>by cases z) (λd d z=>by cases z);exact lb.set (Sa.mono ex _ _$ Sa.mono t _ _$ Sa.mono p _ _ q1) j$ lb.mono ex _ _ N⟩
     exact⟨a,vs,k,j,rfl,Mq q3,q,by rw[<-N.length];exact u,c _ (Ϸ st) _ A.1 A.2$ ((g.mono h).mono p).mono t |>.mono A.1⟩
  |_=>exact c.elim
 |_=>exact c.elim
end
inductive Ej where
 |seq (ds:B')
 |Xl (n:Nat)
def Ej.nx:Ej->Nat->Fa->Option (Option D)
 | .seq ds,i,_=>BD ds[i]?
 | .Xl n,i,σ=>(Cf σ n).map λxs=>xs[i]?
def mH(T:Tb)(c:dl)(g:Hp)(a:Ej)(J:It):Prop:=∀ b H f i,Cd c g b H->ud T b H f->match a.nx i f with
 |none=>True
 |some V6=>J.stop i H
 |some (BD d)=>J.go i H/\∀ x e,J.SA i H x e->e=H/\Sa T b H d x
def tI(T:Tb)(X:Cx)(f:Ev->M Ej):TI:=λa H R=>YA T a H λb c d=>Rb T (XE X a) (mH T) b H (f c d) R
abbrev FI(T:Tb)(X:Cx)(b a:Oa)(f:Ev->M Ej):Prop:=PI X b a$ tI T X f
noncomputable def kA(n:Nat):B':=(List.range n).map λ(i:Nat)=>Z (i:Int)
def Au(d:D):M Ej:=λa=>match d with
 | ώ ds=>O (.seq ds) a
 | ύ ds=>O (.seq ds) a
 | ϥ ns=>O (.seq$ ns.map Z) a
 | U n=>(match Cf a n with
  |some _=>O (.Xl n) a
  |none=>Ϙ)
 |_=>Ϙ
def Gi(f:Ev->M D):Ev->M Ej:=λa=>Tc (f a) Au
def sH(j:Int):Bool:=zd$ decide (-(2 ^ 62)<=j) && decide (j<2 ^ 62)
def Hy(d:D):M Ej:=λa=>match d with
 | Z j=>if sH j=Ĳ then O (.seq$ kA j.toNat) a else Ϙ
 |_=>Ϙ
def Gy(f:Ev->M D):Ev->M Ej:=λa=>Tc (f a) Hy
section
variable{tg iter:Oa}{f:Ev->M D}
def l6(K:ϗ)(c:TE):TI:=λd H R=>c d H λx b=>∃ a,x=ϖ a/\(((∃ xs,Ue K b a xs)/\R (AN K a) b)\/((∃ xs,Tg K b a xs)/\R (pL K a) b))
def yhn(m:PE X l k):PI X tg l$ l6 X.K k:=by
 intro d s u H R I h;refine Ed (m d s u H _ I h) λv s1 ſ=>?_;obtain⟨x,H1,c,r,j⟩:=ſ;obtain⟨a,rfl,j⟩:=j;cases r;rcases j with⟨⟨xs,g⟩,q⟩|⟨⟨xs,g⟩,q⟩
 ·obtain⟨i,t,p,n⟩:=c.list g;refine Xh p.isList ⟨s1.heap.objs.size,[s1.heap.objs.size],_,_,H1,rfl,c.kept λb o e=>ga _ e,R1 a _,⟨_,Da _ rfl,rfl,rfl⟩,λb f=>?_,q⟩;have e:b=s1.heap.objs.size:=by simpa using f
  subst e;exact c.Bp (ua _)$ c.Fc.fresh$ ua _
 ·obtain⟨i,t,p,n⟩:=c.tuple g;refine yA (p) ⟨s1.heap.objs.size,[s1.heap.objs.size],_,_,H1,rfl,c.kept λb o e=>ga _ e,zf1 a _,⟨_,Da _ rfl,rfl,rfl⟩,λb f=>?_,q⟩;have e:b=s1.heap.objs.size:=by simpa using f
  subst e;exact c.Bp (ua _)$ c.Fc.fresh$ ua _
def bZ{K}(h:∀ b c,Cd g l b c->∃ f,Ue K c a f/\lb T b c j f):mH T g l (.seq j)$ AN K a:=by
 intro b c p i ex r;obtain⟨f,m,n⟩:=h b c ex;show match BD j[i]? with|none=>True|some V6=>_|some (BD d)=>_
 cases e:j[i]? with
 |none=>exact⟨f,m,by rw[<-n.length];exact Qb.mp e⟩
 |some d=>
  obtain⟨v,k,o⟩:=n.get e;refine⟨⟨f,v,m,k⟩,λx q y=>?_⟩;obtain⟨rfl,y⟩:=y
  simp_all
def zz3{K}(h:∀ b c,Cd g l b c->∃ f,Tg K c a f/\lb T b c j f):mH T g l (.seq j)$ pL K a:=by
 intro b c p i ex r;obtain⟨f,m,n⟩:=h b c ex;show match BD j[i]? with|none=>True|some V6=>_|some (BD d)=>_
 cases e:j[i]? with
 |none=>exact⟨f,m,by rw[<-n.length];exact Qb.mp e⟩
 |some d=>
  obtain⟨v,k,o⟩:=n.get e;refine⟨⟨f,v,m,k⟩,λx q y=>?_⟩;obtain⟨rfl,y⟩:=y
  simp_all
def LN(J:T.K=X.K)(h:FE T X iter f):FI T X tg iter$ Gi f:=by
 intro q s st H R I P;refine yhn h q s st H R I ?_;obtain⟨S,ϋ,V,G,N,M⟩:=P;refine⟨S,ϋ,V,G,N,M.bind λd A z v C x Y t r j=>?_⟩;cases d with
 |Qa ds=>
  obtain⟨p,vs,rfl,g,l⟩:=r;exact⟨p,rfl,ϕ ⟨⟨vs,Tg.of g⟩,Rb.here j t (zz3 λb c ex=>⟨vs,Tg.of$ ex.Qa _ _ g,lb.mono ex _ _ l⟩)⟩⟩
 |ra ds=>
  obtain⟨p,vs,rfl,L,g,l⟩:=r;exact⟨p,rfl,ϑ ⟨⟨vs,Ue.of g⟩,Rb.here j t (bZ λb c ex=>⟨vs,Ue.of (ex.Mh _ _ g L).1,lb.mono ex _ _ l⟩)⟩⟩
 |Ff ns=>
  obtain⟨p,rfl,g⟩:=r;have o:∀ b c,Cd z C b c->Ue X.K c p _:=λb c ex=>by
   have l:Sa T b c (ϥ ns) _:=Sa.mono ex _ _ (by rw[Sa];exact⟨p,rfl,g⟩);obtain⟨ϊ,D,m⟩:=l;cases D;rw[<-J];exact m.seq
  exact⟨p,rfl,ϑ ⟨⟨_,o _ _$ ϰ _ _⟩,Rb.here j t (bZ λb c ex=>⟨_,o b c ex,kE ns⟩)⟩⟩
 |ref n=>
  unfold Au at j;dsimp only at j;cases k:Cf A n with
  |none=>rw[k]at j;exact j.elim
  |some xs=>
   rw[k]at j;obtain⟨a,vs,rfl,_,g,l⟩:=t.ra r k;refine⟨a,rfl,ϑ ⟨⟨vs,Ue.of g⟩,Rb.here j t λb c u i ex Q=>?_⟩⟩;show match (Cf u n).map (λxs=>xs[i]?)with|none=>True|some V6=>_|some (BD d)=>_
   cases F:Cf u n with
   |none=>trivial
   |some ys=>
    obtain⟨a',ws,E,_,m,B⟩:=Q.ra (Sa.mono ex _ _ r) F;cases E;show match BD (ys[i]?)with|none=>True|some V6=>_|some (BD d)=>_
    cases e:ys[i]? with
    |none=>exact⟨ws,Ue.of m,by rw[<-B.length];exact Qb.mp e⟩
    |some d=>
     obtain⟨v,w,ό⟩:=B.get e;refine⟨⟨ws,v,Ue.of m,w⟩,λx W y=>?_⟩;obtain⟨rfl,y⟩:=y;have:=y ws$ Ue.of m
     simp_all
 |_=>trivial
def ħ(h:i<n):(kA n)[i]?=BD (Z i):=by simp[kA,h]
def zfh n:(kA n).length=n:=by simp[kA]
def Z7(h:Gl X "range")(o:X.mg "range" = V6)(n:FE T X a f)(e:va [a] X.env=[(Ε,Mb a X.env)]:=by rfl):FI T X tg (ϡ (Ϝ "range" p) [a] [] l)$ Gy f:=by
 intro g s st H R I t;refine SZ h o (Zt n fx e) e g s st H R I ?_;obtain⟨z,C,D,m,r,q⟩:=t;refine⟨z,C,D,m,r,q.bind λd E A v J x L w u b=>?_⟩;cases d with
 |int j=>
  subst u;unfold Hy at b;dsimp only at b;by_cases c:sH j=Ĳ
  ·rw[ka c]at b;simp[sH]at c;refine⟨j,rfl,c.1,c.2,Rb.here b w λB K F i ex M=>?_⟩;show match BD (kA j.toNat)[i]? with|none=>True|some V6=>_|some (BD d)=>_
   by_cases k:i<j.toNat
   ·rw[ħ k];refine⟨k,λx G y=>?_⟩;obtain⟨rfl,rfl⟩:=y;exact⟨rfl,by rw[Sa,EF]⟩
   ·rw[Qb.mpr (by rw[zfh];lia)];exact iP.mp k
  ·rw[qa c]at b;exact b.elim
 |_=>exact b.elim
end
noncomputable def bu(k:Ev->M Fl):Fl->M Fl
 | ϙ a=>k a
 | .ct a=>k a
 | .bk a=>ret (ϙ a)
 | .rt d=>ret (.rt d)
 | .xc b x=>ret (.xc b x)
def Nj(e:D->Ev->Option Ev)(a:Ev->M Fl):B'->Ev->M Fl
 |[],b=>ret (ϙ b)
 |d::ds,b=>match e d b with
  |none=>Eb
  |some c=>Tc (a c) (bu$ Nj e a ds)
def Bq(e:D->Ev->Option Ev)(a:Ev->M Fl)(n:Nat):Nat->Nat->Ev->M Fl
 |0,_,_=>Eb
 |k+1,i,f=>λc=>match Cf c n with
  |none=>Ϙ
  |some xs=>match xs[i]? with
   |none=>O (ϙ f) c
   |some d=>match e d f with
    |none=>Ϙ
    |some b=>Tc (a b) (bu$ Bq e a n k$ i+1) c
def gE(b:D->Ev->Option Ev)(a:Ev->M Fl)(c:Ev):Ej->M Fl
 | .seq ds=>Nj b a ds c
 | .Xl n=>Bq b a n 1001 0 c
def xn(b:Ev->M Ej)(d:D->Ev->Option Ev)(a:Ev->M Fl):Ev->M Fl:=λc=>xs c (b c)$ gE d a c
section
def BO{D}(l:ud T d e g)(h:zo T d e j f)(i:Rb T EN (zo T) d e (bu k j g)$ zp X D)
  (m:∀ b a,fh T d e b a->Rb T EN (zo T) d e (k b g) (zp X D)->N a e):zp X { D with nx:=N,ct:=N,bk:=D.nx } f e:=by
 cases j with
 |nx b=>cases f with
  |nx a=>exact m b a h i
  |_=>trivial
 |ct b=>cases f with
  |ct a=>exact m b a h i
  |_=>trivial
 |bk b=>cases f with
  |bk a=>have z:zp X D (Ϸ a) e:=Rb.here i l h;exact z
  |_=>exact h.elim
 |rt o=>cases f with
  |rt v2=>have z:=Rb.here i l h;exact z
  |_=>trivial
 |xc b x=>cases f with
  |xc a c n=>have z:=Rb.here i l h;exact z
  |_=>trivial
variable{tgt iter:Oa}{body:List Stmt}{src:Ev->M Ej}{t:D->Ev->Option Ev}{g:Ev->M Fl}{pos:Td}
def Vx(ϋ:qo (model X.prog X.w) X.A X.env X.xe)(hc:X.qc=Ĳ)(hi:FI T X tgt iter src)(hg:FG T X tgt t)(hb:Dk T X body g)
  (hs:∀ x,ye iter X.env x=pure x:=by intro _;rfl):FS T X (.For tgt iter body [] pos)$ xn src t g:=by
 intro P s st H D I hq;refine UR ϋ hc hi hg hb hs P s st H D I ?_;obtain⟨e,ρ,σ,R,hr,ϋ⟩:=hq;refine⟨e,ρ,σ,R,hr,ϋ.xs R λsrc z k J N O e1 r1 q1 p1=>?_⟩;cases src with
 |seq ds=>
  have G:Rb T EN (zo T) k N (Nj t g ds ρ z) _:=p1;refine⟨λi m o b=>m=ds.length - i/\∃ e ρ σ,Cd k N e b/\fh T e b ρ o/\ud T e b σ/\Rb T EN _ e b (Nj t g (ds.drop i) ρ σ) _,⟨ds.length,by simp,k,ρ,z,ϰ _ _,R.mono e1,r1,by simpa using G⟩,?_⟩;rintro i m o b ⟨rfl,f,r,j,ex,q,v,c⟩;have a:match (BD ds[i]?)with|none=>True|some V6=>J.stop i b|some (BD d)=>J.go i b/\∀ x ό,J.SA i b x ό->ό=b/\Sa T f b d x:=(q1 f b j i ex v)
  cases B:ds[i]? with
  |none=>
   rw[B]at a;rw[xq$ Qb.mp B]at c;exact ϑ ⟨a,Rb.here (g:=Ϸ o) c v q⟩
  |some d=>
   rw[B]at a;obtain⟨hl,ed⟩:=ba.mp B;have hd:ds.drop i=d::ds.drop (i+1):=by rw[<-ed];exact(jf hl)
   rw[hd]at c;unfold Nj at c;refine ϕ ⟨a.1,λp l=>∃ e ρ σ,Cd k N e l/\fh T e l ρ p/\ud T e l σ/\Rb T EN (zo T) e l _ _,λp l h=>⟨ds.length - (i+1),by omega,rfl,h⟩,λx l y=>?_⟩;obtain⟨rfl,V⟩:=a.2 x l y;cases F:t d r with
   |none=>rw[F]at c;exact c.elim
   |some u=>
    rw[F]at c;exact⟨f,j,r,d,u,q,v,V,F,λp C=>⟨f,u,j,C,v,c.bind λfl M K gl H4 O S Q Y p4=>BO Q Y p4 λL ϊ E W=>⟨K,L,M,ex.trans S,E,Q,W⟩⟩⟩
 |Xl n=>
  have G:Rb T EN (zo T) k N (Bq t g n 1001 0 ρ z)$ zp X D:=p1;refine⟨λi m o b=>∃ e ρ σ,Cd k N e b/\fh T e b ρ o/\ud T e b σ/\Rb T EN (zo T) e b (Bq t g n m i ρ σ) (zp X D),⟨1001,k,ρ,z,ϰ _ _,R.mono e1,r1,G⟩,?_⟩;rintro i m o b ⟨f,r,j,ex,q,v,c⟩;cases m with
  |zero=>exact c.elim
  |succ m=>
   unfold Bq at c;have a:match ((Cf j n).map λxs=>xs[i]?)with|none=>True|some V6=>J.stop i b|some (BD d)=>J.go i b/\∀ x ό,J.SA i b x ό->ό=b/\Sa T f b d x:=(q1 f b j i ex v)
   cases el:Cf j n with
   |none=>simp only[el]at c;exact c.elim
   |some xs=>
    simp only[el]at c a;cases B:xs[i]? with
    |none=>
     simp only[B,Th]at c a;exact ϑ ⟨a,Rb.here (g:=Ϸ o) c v q⟩
    |some d=>
     simp only[B,Th]at c a;refine ϕ ⟨a.1,λp l=>∃ e ρ σ,Cd k N e l/\fh T e l ρ p/\ud T e l σ/\Rb T EN (zo T) e l (Bq t g n m (i+1) ρ σ) _,λp l h=>⟨m,Jb _,h⟩,λx l y=>?_⟩;obtain⟨rfl,V⟩:=a.2 x l y;cases F:t d r with
     |none=>simp only[F]at c;exact c.elim
     |some u=>
      simp only[F]at c;exact⟨f,j,r,d,u,q,v,V,F,λp C=>⟨f,u,j,C,v,c.bind λfl M K gl H4 O S Q Y p4=>BO Q Y p4 λL ϊ E W=>⟨K,L,M,ex.trans S,E,Q,W⟩⟩⟩
end
mutual
def cl:D->Bool
 | ώ xs=>qf xs
 | ύ xs=>qf xs
 | Ϩ _ xs=>qf xs
 | ϸ _ _ xs=>qf xs
 | U _=>Ε
 | Ϛ=>Ĳ
 | ϐ _=>Ĳ
 | Z _=>Ĳ
 | ϓ _=>Ĳ
 | ϥ _=>Ĳ
 | .Us _=>Ĳ
 | .gt _=>Ĳ
def qf:B'->Bool
 |[]=>Ĳ
 |d::ds=>cl d && qf ds
end
noncomputable def El(f:D->Option D):B'->Option (B')
 |[]=>BD []
 |d::ds=>match f d,El f ds with
  |some x,BD xs=>BD (x::xs)
  |_,_=>V6
def fz(k:Nat)(a:Fa):Nat->D->Option D
 |0,d=>if cl d=Ĳ then BD d else match d with
  | U n=>if n<k then BD (U n)else V6
  |_=>V6
 |m+1,d=>if cl d=Ĳ then BD d else match d with
  | U n=>if n<k then BD (U n)else match a[n]? with
   |some (ϒ xs)=>(El (fz k a m) xs).map ύ
   |some (Ϗ b)=>(El (fz k a m) (b.map (·.2))).map (Ϩ (b.map (·.1)))
   |some (ϔ c e)=>(El (fz k a m) (e.map (·.2))).map (ϸ c (e.map (·.1)))
   |some (.He _)=>V6
   |some (ϧ _)=>V6
   |none=>V6
  | ώ xs=>(El (fz k a m) xs).map ώ
  | ύ xs=>(El (fz k a m) xs).map ύ
  | Ϩ ks xs=>(El (fz k a m) xs).map (Ϩ ks)
  | ϸ c ns xs=>(El (fz k a m) xs).map (ϸ c ns)
  |_=>V6
open Classical in
def ig(b:Fa):Vi D->Vi D
 | O d a=>if a.take b.length=b then (match fz b.length a 6 d with
  |some c=>O c b
  |none=>Ϙ)else Ϙ
 | .ex x a=>if a.take b.length=b then .ex x b else Ϙ
 | Ϙ=>Ϙ
def Ud(f:M D):M D:=λa=>ig a$ f a
section
variable{T:Tb}{μ μ':dl}{H H':Hp}{σ σ':Fa}
mutual
theorem zK(e:∃ r,μ'=μ++r):∀ (d:D) (v:V),cl d=Ĳ->Sa T μ' H d v->Sa T μ H d v
 | Ϛ,v,_,h=>by simpa [Sa]using h
 | ϐ b,v,_,h=>by simpa [Sa]using h
 | Z i,v,_,h=>by simpa [Sa]using h
 | ϓ x,v,_,h=>by simpa [Sa]using h
 | ώ ds,v,c,h=>by
  rw[Sa]at h ⊢;obtain⟨p,vs,f,g,j⟩:=h;exact⟨p,vs,f,g,qF e ds vs (by simpa [cl]using c) j⟩
 | ϥ ns,v,_,h=>by rw[Sa]at h ⊢;exact h
 | U n,v,c,h=>by simp[cl]at c
 | ύ ds,v,c,h=>by
  rw[Sa]at h ⊢;obtain⟨a,vs,f,g,j,l⟩:=h;exact⟨a,vs,f,λz=>g (by obtain⟨r,rfl⟩:=e;exact eb _ z),j,qF e ds vs (by simpa [cl]using c) l⟩
 | Ϩ ks ds,v,c,h=>by
  rw[Sa]at h ⊢;obtain⟨a,vs,f,g,j,m,l⟩:=h;exact⟨a,vs,f,λz=>g (by obtain⟨r,rfl⟩:=e;exact eb _ z),j,m,qF e ds _ (by simpa [cl]using c) l⟩
 | ϸ k ns ds,v,c,h=>by
  rw[Sa]at h ⊢;obtain⟨a,t,vs,f,g,j,m,l⟩:=h;exact⟨a,t,vs,f,λz=>g (by obtain⟨r,rfl⟩:=e;exact eb _ z),j,m,qF e ds _ (by simpa [cl]using c) l⟩
 | .Us k,v,_,h=>by
  rw[Sa]at h ⊢;obtain⟨a,s,f,g,j,l⟩:=h;exact⟨a,s,f,λz=>g (by obtain⟨r,rfl⟩:=e;exact eb _ z),j,λn q=>let ⟨o,u,w,y⟩:=l n q;⟨o,u,λz=>w (by obtain⟨r,rfl⟩:=e;exact eb _ z),y⟩⟩
 | .gt ss,v,_,h=>by rw[Sa]at h ⊢;exact h
theorem qF(e:∃ r,μ'=μ++r):∀ (a:B') (vs:n'),qf a=Ĳ->lb T μ' H a vs->lb T μ H a vs
 |[],vs,_,h=>by simpa [lb]using h
 |d::a,vs,c,h=>by
  rw[lb]at h ⊢;obtain⟨v,r,f,g,i⟩:=h;have b:cl d=Ĳ/\qf a=Ĳ:=by simpa [qf,Ga]using c
  exact⟨v,r,f,zK e d v b.1 g,qF e a r b.2 i⟩
end
mutual
theorem Sa.down(e:∃ r,μ'=μ++r):∀ (d:D) (v0 v:V),Sa T μ H d v0->Sa T μ' H' d v->Sa T μ H' d v
 | Ϛ,v0,v,_,h=>by simpa [Sa]using h
 | ϐ b,v0,v,_,h=>by simpa [Sa]using h
 | Z i,v0,v,_,h=>by simpa [Sa]using h
 | ϓ x,v0,v,_,h=>by simpa [Sa]using h
 | ώ ds,v0,v,c,h=>by
  rw[Sa]at h c ⊢;obtain⟨p,vs,g,f,l⟩:=h;obtain⟨F,j,_,_,u⟩:=c;exact⟨p,vs,g,f,lb.down e ds j vs u l⟩
 | ϥ ns,v0,v,_,h=>by rw[Sa]at h ⊢;exact h
 | U n,v0,v,c,h=>by
  rw[Sa]at h c ⊢;obtain⟨a,g,f⟩:=h;obtain⟨b,_,t⟩:=c;refine⟨a,g,?_⟩;obtain⟨r,rfl⟩:=e;rw[Za (ba.mp t).1]at f;exact f
 | ύ ds,v0,v,c,h=>by
  rw[Sa]at h c ⊢;obtain⟨a,vs,g,f,l,m⟩:=h;obtain⟨_,j,_,_,_,o⟩:=c;exact⟨a,vs,g,λz=>f (by obtain⟨r,rfl⟩:=e;exact eb _ z),l,lb.down e ds j vs o m⟩
 | Ϩ ks ds,v0,v,c,h=>by
  rw[Sa]at h c ⊢;obtain⟨a,vs,g,f,l,s,m⟩:=h;obtain⟨_,j,_,_,_,_,o⟩:=c;exact⟨a,vs,g,λz=>f (by obtain⟨r,rfl⟩:=e;exact eb _ z),l,s,lb.down e ds _ _ o m⟩
 | ϸ k ns ds,v0,v,c,h=>by
  rw[Sa]at h c ⊢;obtain⟨a,A,vs,g,f,l,s,m⟩:=h;obtain⟨_,_,j,_,_,_,_,o⟩:=c;exact⟨a,A,vs,g,λz=>f (by obtain⟨r,rfl⟩:=e;exact eb _ z),l,s,lb.down e ds _ _ o m⟩
 | .Us k,v0,v,_,h=>by
  rw[Sa]at h ⊢;obtain⟨a,y,g,f,l,m⟩:=h;exact⟨a,y,g,λz=>f (by obtain⟨r,rfl⟩:=e;exact eb _ z),l,λn q=>let ⟨w,B,C,E⟩:=m n q;⟨w,B,λz=>C (by obtain⟨r,rfl⟩:=e;exact eb _ z),E⟩⟩
 | .gt ss,v0,v,_,h=>by rw[Sa]at h ⊢;exact h
theorem lb.down(e:∃ r,μ'=μ++r):∀ (b:B') (a vs:n'),lb T μ H b a->lb T μ' H' b vs->lb T μ H' b vs
 |[],a,vs,_,h=>by simpa [lb]using h
 |d::b,a,vs,c,h=>by
  rw[lb]at h c ⊢;obtain⟨v,r,i,j,k⟩:=h;obtain⟨v0,r0,_,f,g⟩:=c;exact⟨v,r,i,Sa.down e d v0 v f j,lb.down e b r0 r g k⟩
end
theorem VG{f:Type}(e:∃ r,μ'=μ++r):∀ {xs:List$ f × D} {g h:List$ f × V},Paired (λ(p:f × D) (q:f × V)=>p.1=q.1/\Sa T μ H p.2 q.2) xs h->Paired (λ(p:f × D) (q:f × V)=>p.1=q.1/\Sa T μ' H' p.2 q.2) xs g->Paired (λ(p:f × D) (q:f × V)=>p.1=q.1/\Sa T μ H' p.2 q.2) xs g:=by
 intro _ _ x a b;induction b generalizing x with
 |nil=>exact .nil
 |cons c _ i=>cases a with|cons a b=>exact .cons ⟨c.1,Sa.down e _ _ _ a.2 c.2⟩ (i b)
theorem Rn.down(e:∃ r,μ'=μ++r):∀ {o:Ob},Rn T μ H a o->Rn T μ' H' a o->Rn T μ H' a o
 | ϒ ds,⟨_,_,c⟩,⟨b,h,r⟩=>⟨b,h,lb.down e _ _ _ c r⟩
 | Ϗ f,⟨_,_,c⟩,⟨b,h,r⟩=>⟨b,h,VG e c r⟩
 | ϔ c i,⟨_,_,_,d⟩,⟨g,b,h,r⟩=>⟨g,b,h,VG e d r⟩
 | .He f,⟨_,_,_,d⟩,⟨ob,b,h,r⟩=>⟨ob,b,h,VG e d r⟩
 | ϧ ks,_,⟨b,h,r⟩=>⟨b,h,r⟩
def ud.down(r0:ud T μ H σ)(r:ud T μ' H' σ')(e:Cd μ H μ' H')(m:σ'.take σ.length=σ):ud T μ H' σ/\Cd μ H μ H':=by
 refine⟨⟨r0.len,r0.nd,λn o h=>?_,r.tb.sub λb k=>by obtain⟨z,rfl⟩:=e.pre;exact eb _ k⟩,⟨⟨[],by simp⟩,e.Qa,e.Ud,λp o h n=>⟨(e.keep p o h n).1,n⟩⟩⟩;obtain⟨a,d,g⟩:=r0.obs n o h;have f:σ'[n]?=BD o:=by
  have l:=(ba.mp h).1
  rwa [<-m,No l]at h
 obtain⟨b,i,j⟩:=r.obs n o f;have c:=e.get d;rw[i]at c;cases c;exact⟨a,d,g.down e.pre j⟩
theorem BL{c:Type}:∀ {xs:List$ c × D} {d:List$ c × V},Paired (λ(p:c × D) (q:c × V)=>p.1=q.1/\Sa T μ H p.2 q.2) xs d->d.map (·.1)=xs.map (·.1)/\lb T μ H (xs.map (·.2)) (d.map (·.2)):=by
 intro _ _ h;induction h with
 |nil=>exact⟨rfl,lb.nil⟩
 |cons a _ i=>exact⟨by simp[i.1,a.1],lb.cons a.2 i.2⟩
theorem bQ{f:D->Option D}(i:∀ d c v,f d=BD c->Sa T μ' H d v->Sa T μ H c v):∀ (b a:B') (vs:n'),El f b=BD a->lb T μ' H b vs->lb T μ H a vs
 |[],a,vs,h,r=>by cases h;simpa [lb]using r
 |d::b,a,vs,h,r=>by
  unfold El at h;cases e:f d with
  |none=>simp_all
  |some x=>
   cases g:El f b with
   |none=>simp_all
   |some xs=>
    rw[e,g]at h;cases h;obtain⟨v,w,rfl,j,k⟩:=r;exact lb.cons (i d x v e j)$ bQ i b xs w g k
def lS(e:∃ r,μ'=μ++r)(r:ud T μ' H σ'):∀ m d x v,fz μ.length σ' m d=BD x->Sa T μ' H d v->Sa T μ H x v:=by
 have E:∀ n v,n<μ.length->Sa T μ' H (U n) v->Sa T μ H (U n) v:=λn v j h=>by
  obtain⟨a,f,y⟩:=h;obtain⟨q,rfl⟩:=e;rw[Za j]at y;exact⟨a,f,y⟩
 intro m;induction m with
 |zero=>
  intro d x v h g;unfold fz at h;by_cases u:cl d=Ĳ
  ·rw[ka u]at h;cases h;exact zK e _ _ u g
  ·rw[qa u]at h;cases d with
   |ref n=>
    dsimp only at h;by_cases j:n<μ.length
    ·rw[ka j]at h;cases h;exact E n v j g
    ·rw[qa j]at h;cases h
   |_=>cases h
 |succ m P=>
  intro d x v h g;unfold fz at h;by_cases u:cl d=Ĳ
  ·rw[ka u]at h;cases h;exact zK e _ _ u g
  ·rw[qa u]at h;have t:=bQ (λd x v a b=>P d x v a b);cases d with
   |ref n=>
    dsimp only at h;by_cases j:n<μ.length
    ·rw[ka j]at h;cases h;exact E n v j g
    ·rw[qa j]at h;cases I:σ'[n]? with
     |none=>rw[I]at h;cases h
     |some o=>
      rw[I]at h;obtain⟨a,rfl,N,w⟩:=r.at g I;have out:a ∉ μ:=λz=>by
       obtain⟨i,M⟩:=Ur z;obtain⟨q,rfl⟩:=e;have ό:=(ba.mp M).1;have:=QG r.nd (by rw[Za ό];exact M) N;omega
      cases o with
      |ra xs=>
       obtain⟨ys,f,rfl⟩:=La.mp h;obtain⟨vs,B,C⟩:=w;exact⟨a,vs,rfl,out,B,t xs ys vs f C⟩
      |Xa L=>
       obtain⟨ys,f,rfl⟩:=La.mp h;obtain⟨vs,B,C⟩:=w;obtain⟨J,K⟩:=BL C;exact⟨a,vs,rfl,out,(ϑ B),J,t _ ys _ f K⟩
      |ub c Q=>
       obtain⟨ys,f,y⟩:=La.mp h;subst y;obtain⟨F,vs,B,C⟩:=w;obtain⟨J,K⟩:=BL C;exact⟨a,F,vs,rfl,out,B,J,t _ ys _ f K⟩
      |He L=>cases h
      |Vc _=>cases h
   |Qa xs=>
    obtain⟨ys,f,rfl⟩:=La.mp h;obtain⟨p,vs,k,l,s⟩:=g;exact⟨p,vs,k,l,t xs ys vs f s⟩
   |ra xs=>
    obtain⟨ys,f,rfl⟩:=La.mp h;obtain⟨p,vs,k,A,l,s⟩:=g;exact⟨p,vs,k,λz=>A (by obtain⟨r,rfl⟩:=e;exact eb _ z),l,t xs ys vs f s⟩
   |Xa ks xs=>
    obtain⟨ys,f,rfl⟩:=La.mp h;obtain⟨p,vs,k,A,l,G,s⟩:=g;exact⟨p,vs,k,λz=>A (by obtain⟨r,rfl⟩:=e;exact eb _ z),l,G,t xs ys _ f s⟩
   |obj c ks xs=>
    obtain⟨ys,f,y⟩:=La.mp h;subst y;obtain⟨p,F,vs,k,A,l,G,s⟩:=g;exact⟨p,F,vs,k,λz=>A (by obtain⟨r,rfl⟩:=e;exact eb _ z),l,G,t xs ys _ f s⟩
   |_=>cases h
def Rb.Ud{E}{f}{Q}(r:ud T μ H σ)(h:Rb T E (Sa T) μ H (Ud f σ) Q):Rb T E (Sa T) μ H (f σ) Q:=by
 unfold L4.Ud at h;cases e:f σ with
 |Eb=>rw[e]at h;exact h
 |ex x a=>
  rw[e]at h;unfold ig at h;dsimp only at h;by_cases b:a.take σ.length=σ
  ·rw[ka b]at h;intro m i c g;obtain⟨l,j⟩:=ud.down r g c b;exact h μ i j l
  ·rw[qa b]at h;exact h.elim
 |ok d a=>
  rw[e]at h;unfold ig at h;dsimp only at h;by_cases b:a.take σ.length=σ
  ·rw[ka b]at h;cases k:fz σ.length a 6 d with
   |none=>rw[k]at h;exact h.elim
   |some n=>
    rw[k]at h;intro m v i c g o;obtain⟨l,j⟩:=ud.down r g c b;exact h μ v i j l$ lS c.pre g 6 d n v (by rw[r.len];exact k) o
  ·rw[qa b]at h;exact h.elim
end
def fk(f:Ev->M D):Ev->M D:=λa=>Ud$ f a
def CS(h:FE T X e f):FE T X e$ fk f:=by
 rintro a s g H Q I ⟨i,j,k,c,b,d⟩;exact h a s g H Q I ⟨i,j,k,c,b,Rb.Ud b d⟩
def DK(h c:Heap):Prop:=∀ (a:Nat) o,h.objs[a]?=BD o->∃ b:Obj,c.objs[a]?=BD b/\b.dict=o.dict
def DK.refl h:DK h h:=λa o e=>⟨o,e,rfl⟩
def DK.trans(x:DK b c)(y:DK c d):DK b d:=λa o e=>by
 obtain⟨h,f,q⟩:=x a o e;obtain⟨i,g,j⟩:=y a h f
 simp_all
def DK.push h o:DK h$ h.push o:=λa u e=>by
 obtain⟨b,l⟩:=h;have e:=e;have c:=(Wc.mp e).1;refine⟨u,?_,rfl⟩;show (b.push o)[a]?=BD u;rw[Array.getElem?_push_lt c];exact(Fb c).symm.trans e
def DK.update h b(i:∀ o,(f o).dict=o.dict):DK h$ h.update b f:=λa u e=>by
 obtain⟨c,l⟩:=h;show ∃ d:Obj,(c.modify b f)[a]?=BD d/\_;rw[Array.getElem?_modify];by_cases g:b=a;all_goals simp_all
def DK.get(x:DK h b)(e:h.get? a=BD o)(d:b.get? a=BD c):c.dict=o.dict:=by
 obtain⟨u,f,g⟩:=x a o ((Wu _ _ _).1 e).1;have:=((Wu _ _ _).1 d).1
 simp_all
structure KD{α:Type}(t:Wm α):Prop where
 out:∀ (M:Ji) (Γ:PySem.Ctx) (Q:α->Td->Shared->Prop) (E:Value->Td->Shared->Prop) (p:Td) (s:Shared),Sem.wp M Γ t Q E p s->Sem.wp M Γ t (λa p' s'=>Q a p' s'/\DK s.heap s'.heap) (λe p' s'=>E e p' s'/\DK s.heap s'.heap) p s
namespace KD
variable{α β:Type}
def Ys a:KD (Pure.pure a:Wm α):=⟨λb b b b b s h=>⟨h,.refl _⟩⟩
def fu w:KD (PySem.unsupported w:Wm α):=⟨λa a a a a a h=>h⟩
def Tc(g:KD m)(e:∀ a,KD (f a)):KD$ m >>= f:=⟨λM b Q E p s h=>by
 rw[ul]at h ⊢;refine ut M b m (λa c d z=>?_) (λi i i z=>z) p s$ g.out M b _ _ p s h;exact ut M b _ (λi i i q=>⟨q.1,z.2.trans q.2⟩) (λi i i q=>⟨q.1,z.2.trans q.2⟩) c d$ (e a).out M b _ _ c d z.1⟩
def fm{c}[Decidable c]{t u:Wm α}(a:KD t)(b:KD u):KD$ if c then t else u:=by split<;>assumption
def ld a:KD$ PySem.load a:=⟨λc c c c c c h=>by obtain⟨o,b,h⟩:=h;exact⟨o,b,h,.refl _⟩⟩
def Wb a(b:∀ o,(f o).dict=o.dict):KD$ PySem.update a f:=⟨λc c c c c c h=>⟨h.1,h.2,.update _ _ b⟩⟩
def yp:KD PySem.stack:=⟨λM a Q E p s h=>by
 exact⟨h,.refl _⟩⟩
def Xt o:KD$ PySem.alloc o:=⟨λa a a a a a h=>⟨h,.push _ _⟩⟩
def fld v i:KD$ PySem.field v i:=⟨λj g Q E p s h=>by
 rw[Xu]at h ⊢;obtain⟨a,o,f,x,b,c,d,e,h⟩:=h;exact⟨a,o,f,x,b,c,d,e,h,.refl _⟩⟩
def set v i x:KD$ PySem.setField v i x:=⟨λn m Q E p s h=>by
 rw[lJ]at h ⊢;obtain⟨a,o,k,e,f,g,j,h⟩:=h;exact⟨a,o,k,e,f,g,j,h,.update _ _ λo=>by obtain⟨c,d,b,l⟩:=o;cases b<;>rfl⟩⟩
end KD
def Ò a l:KD$ wP a l:=by unfold wP;(repeat' with_reducible first|assumption|exact KD.Ys _|exact KD.fu _|exact KD.fld _ _|exact KD.set _ _ _|exact KD.ld _|exact KD.Wb _ _|exact KD.yp|exact KD.Xt _|apply KD.fm|apply KD.Tc|intro _|split)
def Á:KD underTheClaimsCaller:=by unfold underTheClaimsCaller;(repeat' with_reducible first|assumption|exact KD.Ys _|exact KD.fu _|exact KD.fld _ _|exact KD.set _ _ _|exact KD.ld _|exact KD.Wb _ _|exact KD.yp|exact KD.Xt _|apply KD.fm|apply KD.Tc|intro _|split)
def J7 a i l:KD$ keptBack a i l:=by
 have:=Á;cases l<;>unfold keptBack<;>(repeat' with_reducible first|assumption|exact KD.Ys _|exact KD.fu _|exact KD.fld _ _|exact KD.set _ _ _|exact KD.ld _|exact KD.Wb _ _|exact KD.yp|exact KD.Xt _|apply KD.fm|apply KD.Tc|intro _|split)
theorem lR:∀ l:List Ag,KD (readyFrames l)
 |[]=>KD.Ys _
 |env::l=>by
  have b:=lR l;have a:=Ò env l;unfold readyFrames
  (repeat' with_reducible first|assumption|exact KD.Ys _|exact KD.fu _|exact KD.fld _ _|exact KD.set _ _ _|exact KD.ld _|exact KD.Wb _ (λc=>rfl)|exact KD.yp|exact KD.Xt _|apply KD.fm|apply KD.Tc|intro _|split)
  all_goals first|exact(λi=>J7 env i l) _|skip
def zu3 l:KD$ frameObject l:=by
 cases l with
 |nil=>exact KD.Ys _
 |cons env l=>
  have:=lR$ env::l;unfold frameObject
  (repeat' with_reducible first|assumption|exact KD.Ys _|exact KD.fu _|exact KD.fld _ _|exact KD.set _ _ _|exact KD.ld _|exact KD.Wb _ _|exact KD.yp|exact KD.Xt _|apply KD.fm|apply KD.Tc|intro _|split)
def R3:KD frameEnvs:=by unfold frameEnvs;(repeat' with_reducible first|assumption|exact KD.Ys _|exact KD.fu _|exact KD.fld _ _|exact KD.set _ _ _|exact KD.ld _|exact KD.Wb _ _|exact KD.yp|exact KD.Xt _|apply KD.fm|apply KD.Tc|intro _|split)
def Ų a:KD$ PySem.frameOf a:=by
 have b:=R3;unfold PySem.frameOf
 (repeat' with_reducible first|assumption|exact KD.Ys _|exact KD.fu _|exact KD.fld _ _|exact KD.set _ _ _|exact KD.ld _|exact KD.Wb _ _|exact KD.yp|exact KD.Xt _|apply KD.fm|apply KD.Tc|intro _|split)
 all_goals first|exact zu3 _|skip
def ς f b:KD$ entryPlaceOf f b:=by unfold entryPlaceOf;(repeat' with_reducible first|assumption|exact KD.Ys _|exact KD.fu _|exact KD.fld _ _|exact KD.set _ _ _|exact KD.ld _|exact KD.Wb _ _|exact KD.yp|exact KD.Xt _|apply KD.fm|apply KD.Tc|intro _|split)
def A2 a b c d e l:KD$ wo a b c d e l:=by
 unfold wo newFields newObj newObjAsIs
 (repeat' with_reducible first|assumption|exact KD.Ys _|exact KD.fu _|exact KD.fld _ _|exact KD.set _ _ _|exact KD.ld _|exact KD.Wb _ _|exact KD.yp|exact KD.Xt _|apply KD.fm|apply KD.Tc|intro _|split)
def Ê e a:KD$ uh e a:=by
 have b:=Ų a;unfold uh
 (repeat' with_reducible first|assumption|exact KD.Ys _|exact KD.fu _|exact KD.fld _ _|exact KD.set _ _ _|exact KD.ld _|exact KD.Wb _ (λc=>rfl)|exact KD.yp|exact KD.Xt _|apply KD.fm|apply KD.Tc|intro _|split)
 all_goals first|exact ς _ _|exact A2 _ _ _ _ _ _|skip
def Ū e f:KD$ xo e f:=by unfold xo;(repeat' with_reducible first|assumption|exact KD.Ys _|exact KD.fu _|exact KD.fld _ _|exact KD.set _ _ _|exact KD.ld _|exact KD.Wb _ _|exact KD.yp|exact KD.Xt _|apply KD.fm|apply KD.Tc|intro _|split)
def xX{M}{t:Wm e}{Q}(k:KD t)(h:wpAny M A t Q E s):wpAny M A t (λa d=>Q a d/\DK s.heap d.heap) E s:=
 λc p b=>ut M c t (λf f f z=>z) (λf f f z=>z.1) p s$ k.out M c _ _ p s$ h c p b
section
variable{P:Ca}{w:Wa}{H H':Hp}{h h':Heap}{a:Addr}{o:HO}
def eQ(x:Cj P w H h a o):∃ u,h.get? a=BD u:=by
 cases o with
 |ra xs=>obtain⟨_,_,_,_,e⟩:=x;exact⟨_,e⟩
 |Qa xs=>obtain⟨_,_,_,d,e,_⟩:=x;exact⟨_,e⟩
 |dK b=>obtain⟨_,_,_,_,o,_,_,e,_⟩:=x;exact⟨_,e⟩
 |dT b=>obtain⟨_,_,_,_,o,_,_,e,_⟩:=x;exact⟨_,e⟩
 |set S n=>obtain⟨o,_,_,_,e,_⟩:=x;exact⟨_,e⟩
 |ub C g c=>obtain⟨_,_,_,e,_⟩:=x;exact⟨_,e⟩
 |own y=>trivial
 |xd c=>obtain⟨_,⟨_,_,_,e,_⟩,_⟩:=x;exact⟨_,e⟩
 |wG lo i=>obtain⟨_,_,_,e⟩:=x;exact⟨_,e⟩
 |Ud d u=>obtain⟨e,_⟩:=x;exact⟨_,e⟩
 |Zk ps=>exact⟨_,x⟩
 |met f y=>exact⟨_,x⟩
 |ext j=>obtain⟨_,⟨_,e⟩,_⟩:=x;exact⟨_,e⟩
def yes(x:Jh P w H h)(k:∀ b o u,H b=BD o->h.get? b=BD u->h'.get? b=BD u):Jh P w H h':=λb o e=>
 (x b o e).yj (λc v a q=>by
  rcases a with rfl|a
  ·exact k _ _ _ e q
  ·exact k _ _ _ a q) (λc q=>q) λc c q=>q
end
section
variable{pins:List$ Addr × Obj}{st:St}{H H':Hp}{s s':Shared}{cls:Value}{h':Heap}{ea:Addr}{args:gV}{M:Ji}{E:Value->Shared->Prop}{Q:Unit->Shared->Prop}
def zto(x:OC B l ea cls a h):wn B l ea cls a h:=⟨x.1,x.2.1,x.2.2.1,ϑ ⟨Bc,x.2.2.2.at⟩⟩
def wn.there(x:wn B l ea cls b h):∃ a,h.get? ea=BD a/\a.cls=cls:=by
 obtain⟨_,_,_,⟨f,q⟩|⟨c,g,d,e,_⟩⟩:=x
 ·exact q.there
 ·exact⟨c,d,e⟩
def wn.XO(x:wn B l ea cls b h)(g:h.get? ea=BD o):∃ vs,o.data=ϩ vs:=by
 obtain⟨_,_,_,⟨d,c,vs,T,oT,m,f,a,e,_⟩|⟨c,vs,i,j,k,_⟩⟩:=x;all_goals simp_all
def IE.next(x:IE a ea B h b H')(k:DK h h')(e:∃ o,h'.get? ea=BD o):IE a ea B h' b H':=λn q=>by
 obtain⟨c,oD,i,d,f,g⟩:=x n q;obtain⟨o,e⟩:=e;exact⟨c,oD,o,e,(k.get d e).trans f,g⟩
def zN(x:wn B l ea cls d s.heap)(i:∀ a,wn B l ea cls d a->s.heap.UpToSlots a->DK s.heap a->Q () { s with heap:=a }):wpAny M A (xo (yb ea) V6) Q E s:=by
 obtain⟨f,g,h,⟨w,c⟩|c⟩:=x
 ·have k:wpAny M A _ (λG s'=>∃ a,s'={ s with heap:=a }/\wn B l ea cls d a/\s.heap.UpToSlots a) E s:=
   wpAny_setFlight_noneW f h c λa k1 p q r=>⟨a,rfl,zto ⟨k1,g,p,q⟩,λb o e n=>⟨o.slots,r b o e n⟩⟩
  exact dc (xX (Ū _ _) k) (λ_ _ ⟨⟨a,e,t,u⟩,v⟩=>by subst e;exact i a t u v) λG G z=>z
 ·obtain⟨F,vs,m,C,j,D,y,a⟩:=id c;exact aa$ rk m j a$ da$ i s.heap ⟨f,g,h,ϕ c⟩ (.refl _)$ .refl _
def j6(u:A.frames=BD (d::a))(t:d.frame=BD L)(x:wn B (d::a) ea cls l s.heap)
  (J:∀ g,Hn B (d::a) ea cls l L g->s.heap.UpToSlots g->Q () { s with heap:=g }):wpAny M A (uh (yb ea) d) Q E s:=by
 obtain⟨G,y,H,⟨z,m⟩|m⟩:=x
 ·by_cases X:z=yc L
  ·subst X;exact wpAny_noteFrame_againW t m$ J s.heap ⟨G,y,H,m⟩$ .refl _
  ·obtain⟨R,vs,T,oT,ts,j,K,i,g,w,h,C,c,W⟩:=m;have S:3<ts.size:=(Wc.mp W).1;have Li:∀ b,b≠T->(s.heap.update T (Vp (·.setIfInBounds 3 Bc))).get? b=s.heap.get? b:=λb D=>Ge _ _$ Jd D;have nr:∀ b o,s.heap.get? b=BD o->(∀ v,o.data≠ ϩ v)->b≠T:=λb o D hn q=>by
    rw[q,C]at D;cases D;exact hn ts c
   have f:=Mc (Vp (·.setIfInBounds 3 Bc)) C$ We$ jc c _;have up:s.heap.UpToSlots _:=λb o e n=>⟨o.slots,(Li b$ nr b o e n).trans e⟩
   have F0:OC B _ ea cls l _:=
    ⟨λb o e=>(Li b λq=>by rw[q,w]at e;cases e).trans$ G b o e,y,H.of_keeps λb o e n=>⟨o,(Li b$ nr b o e n).trans e,rfl⟩,
     R,vs,T,_,_,(Li ea$ Jd h).trans j,K,i,g,w,h,f,jc c _,by simp[S]⟩
   intro Γ p N;have k:=(wpAny_looks_onW (M:=M) (E:=E) (s:={ s with heap:=s.heap.update T _ }) u t F0 λh2 q1 q2=>J h2 q1$ up.trans q2) Γ p N;unfold uh at k ⊢;simp only[t]at k ⊢;rw[ul,Xu]at k ⊢;obtain⟨a1,ό,v1,x1,e1,g1,V,Y,k⟩:=k;cases e1;have r:s.heap.get? ea=BD ό:=(Li ea$ Jd h).symm.trans g1;have P:ό=R:=by rw[j]at r;cases r;rfl
   subst P;rw[i]at V;cases V;rw[g]at Y;cases Y;refine⟨ea,ό,vs,yb T,rfl,j,i,g,?_⟩;have nn:(yb T != Bc)=Ĳ:=by simp
   simp only[nn,Jf]at k ⊢;rw[ul,Xu]at k ⊢;obtain⟨a2,o2,v2,x2,e2,g2,d2,ϊ,k⟩:=k;cases e2;have I:=f.symm.trans g2;cases I;have F:=(jc c (·.setIfInBounds 3 Bc)).symm.trans d2;cases F;have ϋ:x2=Bc:=by
    have:(ts.setIfInBounds 3 Bc)[3]?=BD Bc:=by simp[S]
    rw[this]at ϊ;cases ϊ;rfl
   subst ϋ;refine⟨T,oT,ts,z,rfl,C,c,W,?_⟩;have n1:(Bc == yc L)=Ε:=by simp[yc]
   have n2:(z == yc L)=Ε:=by
    cases q:z == yc L with
    |false=>rfl
    |true=>exact absurd (Wh.mp q) X
   simp only[n1,n2,Tt,Oo]at k ⊢;rw[ul,lJ]at k ⊢;obtain⟨a3,o3,v3,e3,g3,d3,i3,k⟩:=k;cases e3;refine⟨T,oT,ts,rfl,C,c,S,?_⟩;simpa only[Heap.update_setField_twice]using k
 ·obtain⟨R,vs,j,K,i,hz,h0,g⟩:=m;unfold uh;simp[t];refine aa$ rk j i g (wpAny_entryW (base:=B) (outer:=a) (a0:=l) u H t j G y i hz h0 λh4 hN=>?_);obtain⟨k1,k2,k3,k4⟩:=hN;rw[K]at k3;exact J h4 ⟨k1,y,k2,k3⟩ k4
def lY(f:A.frames=BD (c::a))(j:c.frame=BD L)(x:wn B (c::a) ea cls d s.heap)
  (i:∀ b,Hn B (c::a) ea cls d L b->s.heap.UpToSlots b->DK s.heap b->Q () { s with heap:=b }):wpAny M A (uh (yb ea) c) Q E s:=by
 have k:wpAny M A _ (λm s'=>∃ b,s'={ s with heap:=b }/\Hn B _ ea cls d L b/\s.heap.UpToSlots b) E s:=j6 f j x λb g h=>⟨b,rfl,g,h⟩
 exact dc (xX (Ê _ _) k) (λ_ _ ⟨⟨b,e,g,h⟩,l⟩=>by subst e;exact i b g h l) λm m z=>z
def XQ(x:Hn B l ea cls a L h):wn B l ea cls a h:=⟨x.1,x.2.1,x.2.2.1,ϑ ⟨_,x.2.2.2⟩⟩
def Í(d:A.frames=BD (b::a))(h:b.frame=BD L)(x:wn B (b::a) ea cls e s.heap)
  (g:∀ c,wn B a ea cls e c->s.heap.UpToSlots c->DK s.heap c->Q () { s with heap:=c }):wpAny M A (leaving b$ yb ea) Q E s:=by
 refine aa (lY d h x λc l m n=>(zN (XQ l) λf o p q=>?_));obtain⟨k1,i,⟨_,_,j⟩,k⟩:=o;exact g f ⟨k1,i,j,k⟩ (m.trans p)$ n.trans q
def sI(c:X.stack=X.env::X.outer)(a:X.env.frame=BD X.env.locals):b∈Sj X.stack ↔ b=X.env.locals\/b∈Sj X.outer:=by
 rw[c];unfold Sj;rw[pf,a];exact za
def B7(I:db X pins st H s)(m:X.stack=X.env::X.outer)(l:X.env.frame=BD X.env.locals)(p:X.ex=[])(d:Un (Sj X.stack) [] H H' s.heap f):Un (Sj X.outer) [] X.H₀ H' X.s₀.heap f:=by
 have a:∀ b,b ∉ X.ex:=λb z=>by rw[p]at z;cases z
 have i:∀ b o,X.s₀.heap.get? b=BD o->b≠X.env.locals:=λb o e=>Aa$ Ja (ya e) I.ok.above;refine⟨λb o e n g v=>?_,λb o e n g v=>?_,λb o e n v=>?_,λb o e v=>?_,λb xs e=>d.Yj b xs$ I.base.Yj b xs e,λb o u e=>d.zi b o u$ I.base.zi b o u e,λb ps e=>?_⟩
 ·exact d.keep b o (I.base.keep b o e n g$ a b) (I.base.free b o e n$ a b) (λz=>((sI m l).mp z).elim (i b o e) g) ⋯
 ·obtain⟨t,c⟩:=I.base.slot b o e n g (a b);obtain⟨k,h⟩:=d.slot b _ c (I.base.free b o e n$ a b) ((sI m l).mpr$ ϕ g) ⋯;exact⟨k,h⟩
 ·obtain⟨j,c⟩:=I.base.there b o e (a b);exact d.free b j c (I.base.free b o e n$ a b) ⋯
 ·obtain⟨j,c⟩:=I.base.there b o e (a b);exact d.there b j c ⋯
 ·obtain⟨q,c⟩:=I.base.Bj b ps e;obtain⟨r,h⟩:=d.Bj b _ c;exact⟨q++r,by rw[h,kt]⟩
def LH(F:Sz P w a H s cls v H' e s'){B:Heap}(y:∀ b o,s.heap.get? b=BD o->H b=V6->b ∉ Sj a->B.get? b=BD o)(z:∀ b o,H' b=BD o->∃ t,B.get? b=BD t)
  (x:∀ b o,s.heap.get? b=BD o->b ∉ Sj a->∃ k,B.get? b=BD k) (A:∀ b o,B.get? b=BD o->s'.heap.get? b=BD o) (l:∀ b o,B.get? b=BD o->j.get? b=BD o) (h:s'.heap.UpToSlots j) (g:∀ b∈Sj a,∃ o,s.heap.get? b=BD o/\(∀ vs,o.data≠ ϩ vs)/\H b=V6) :
  Un (Sj a) [] H H' s.heap j/\Jh P w H' j:=by
 refine⟨⟨λb o e n c E=>l b o$ y b o e n c,λb o e n c p=>?_,F.un.free,λb o e p=>?_,F.un.Yj,F.un.zi,F.un.Bj⟩,yes F.Fc λb o u e q=>?_⟩
 ·obtain⟨D,f⟩:=F.un.slot b o e n c p;obtain⟨k,d,m,_⟩:=g b c;rw[e]at d;cases d;obtain⟨i,r⟩:=h b _ f m;exact⟨i,r⟩
 ·by_cases c:b∈Sj a
  ·obtain⟨k,d,m,C⟩:=g b c;rw[e]at d;cases d;obtain⟨D,f⟩:=F.un.slot b o e C c p;obtain⟨i,r⟩:=h b _ f m
   simp_all
  ·obtain⟨k,f⟩:=x b o e c
   simp_all
 ·obtain⟨t,f⟩:=z b o e
  simp_all
def yI(I:db X pins st H s):∀ b∈Sj X.stack,∃ o,s.heap.get? b=BD o/\(∀ vs,o.data≠ ϩ vs)/\H b=V6:=λb a=>by
 obtain⟨_,o,e,c⟩:=I.stack.mem a;exact⟨o,e,c,I.nj b a⟩
set_option tactic.hygienic true in
def m4(I:db X pins st H s)(d:X.stack=X.env::X.outer)(i:X.env.frame=BD X.env.locals)(c:X.ex=[])(F:Sz X.prog X.w X.stack H s cls j H' e s')
  (N:∀ g,Sz X.prog X.w X.outer X.H₀ X.s₀ cls j H' e g->Q () g):wpAny M X.A (leaving X.env e) Q E s':=by
 obtain⟨ea,t,B,rfl,y,ό,J,G,D,C,L⟩:=F.ex;have k:wn B (X.env::X.outer) ea cls t s'.heap:=by rw[<-d];exact y
 refine Í (by rw[<-d];exact I.ok.frames) i k λl r S T=>N _ ?_;obtain⟨R,p⟩:=LH F D G C y.1 r.1 S (yI I);have a:∀ b,b ∉ X.ex:=λb z=>by rw[c]at z;cases z
 have f:∀ b o,X.s₀.heap.get? b=BD o->b≠X.env.locals:=λb o e=>Aa$ Ja (ya e) I.ok.above;have K:∀ b,s.heap.get? b=V6->X.s₀.heap.get? b=V6:=λb e=>by
  cases q:X.s₀.heap.get? b with
  |none=>rfl
  |some u=>obtain⟨v,x⟩:=I.base.there _ _ q (a _);rw[e]at x;cases x
 have m:IE j ea B l X.s₀.heap H':=λn q=>by
  obtain⟨ϋ,oD,V,W,Y,ϊ,z4,z5,z6⟩:=L.next T (let ⟨o,e,_⟩:=r.there;⟨o,e⟩) n q
  simp_all
 refine⟨⟨ea,t,B,rfl,r,ό,?_,G,λb o e n h=>?_,λb o e h=>?_,m⟩,F.os.trans I.os,F.bare,B7 I d i c R,p⟩
 ·cases q:X.s₀.heap.get? ea with
  |none=>rfl
  |some u=>grind
 ·exact D b o (I.base.keep b o e n h$ a b) (I.base.free b o e n$ a b) λz=>((sI d i).mp z).elim (f b o e) h
 ·obtain⟨P,q⟩:=I.base.there b o e (a b);exact C b P q λz=>((sI d i).mp z).elim (f b o e) h
end
def ĥ{P}{w}{K}{m}{d}{N}{g}{c}{f}{l}{A}{b}{s}{H}{E}{st}{a}{j}{i}
  (h:E a j i):OB (xp (jl P w) P w K m d N g c f l A b s H E) st a j i where
 iI:=λk o s1 e p I F=>m4 I rfl rfl rfl F λn G=>⟨a,j,i,G,h⟩
def OB.made{st}(t:OB X st j V6 g)(I:db X d st g s)(c:Heap.MadeExcOf s.heap h' h j i):X.xe (yb h) { s with heap:=h' }:=by
 have f:∀ b o,s.heap.get? b=BD o->b ∉ Sj X.stack->(W.hideAll s.heap _).get? b=BD o:=λb o e n=>W.hideAll_get _ e n;obtain⟨y,m,x,A⟩:=c.there;have p:∀ b o,g b=BD o->b ∉ Sj X.stack:=λb o e z=>by rw[I.nj b z]at e;cases e
 have w:g h=V6:=by
  cases q:g h with
  |none=>rfl
  |some u=>obtain⟨v,e⟩:=eQ (I.Fc _ _ q);rw[c.new]at e;cases e
 refine t.iI d g s _ _ I ⟨⟨h,yb y,W.hideAll s.heap _,rfl,⟨λb o q=>c.keeps b o$ W.of_hideAll _ q,?_,(W.funFrames_hide I.stack$ λl m a r=>Uj.mpr ⟨l,m,r⟩).of_keeps λb o e B=>⟨o,c.keeps b o e,rfl⟩,ϕ ⟨_,_,m,rfl,rfl,by simp,rfl,rfl⟩⟩,w,c.new,λb o e=>?_,λb o e n k=>f b o e k,λb o e k=>⟨o,f b o e k⟩,λn q=>by cases q⟩,rfl,I.bare,⟨λb o e n k B=>c.keeps b o e,λb o e n k B=>⟨o.slots,c.keeps b o e⟩,λb o e n B=>n,λb o e B=>⟨o,c.keeps b o e⟩,λB B e=>e,λB B B e=>e,λb ps e=>⟨#[],by rw[e];simp⟩⟩,yes I.Fc λb o u e q=>c.keeps b u q⟩
 ·cases q:(W.hideAll s.heap _).get? h with
  |none=>rfl
  |some u=>have:=W.of_hideAll _ q;rw[c.new]at this;cases this
 ·obtain⟨u,q⟩:=eQ (I.Fc _ _ e);exact⟨u,f b u q$ p b o e⟩
def vr{K} :
  qo (model P w) (xp (jl P w) P w K g c N d b f e A a s H E).A (xp (jl P w) P w K g c N d b f e A a s H E).env (xp (jl P w) P w K g c N d b f e A a s H E).xe:=zaC
noncomputable def Ú:Fl->M D
 | ϙ _=>ret Ϛ
 | .rt d=>ret d
 | .xc _ x=>λa=>.ex x a
 |_=>Eb
def Bo:Vi Fl->Vi D
 | O a σ=>Ú a σ
 |_=>Ϙ
def dh(n:Nat)(g:Ev->M Fl)(a:B'):M D:=λb=>Bo$ g (a.map BD++List.replicate (n - a.length) V6) b
inductive VY(T:Tb)(n:Nat)(vs:n')(H:Hp)(P:dl->Fa->B'->Prop):Prop
 |mk (μ:dl) (σ:Fa) (ds:B') (a:lb T μ H ds vs) (l:ds.length=n) (r:ud T μ H σ) (p:P μ σ ds):VY T n vs H P
noncomputable def Ho(T:Tb)(n:Nat)(f:B'->M D):Sp:=λb H Q E=>VY T n b H λc d a=>Rb T E (Sa T) c H (f a d) Q
noncomputable def Dq(n:Nat)(f:B'->M D)(a:B')(b:B'):M D:=if (b++a).length=n then f (b++a)else Eb
def lf(n:Nat)(f:B'->M D)(a:B')(b:Ev->M (B')):Ev->M D:=λc=>Tc (b c)$ Dq n f a
section
def n5(h:lb T c H a vs):fh T c H (a.map BD++List.replicate (N.length - a.length) V6)$ L2.start N vs:=by
 have k:=h.length;refine⟨by simp[L2.start,k],λi d e=>?_⟩;by_cases j:i<a.length
 ·rw[Za (by simpa using j),Pa]at e;cases b:a[i]? with
  |none=>simp_all
  |some x=>
   rw[b]at e;cases e;obtain⟨v,f,g⟩:=h.get b;refine⟨v,?_,g⟩;unfold L2.start;rw[Za ⋯,Pa,f];rfl
 ·rw[Cc ⋯,Op]at e
  simp_all
variable{k:Nat}{f C:Addr}{fd:sf}{ps:ad}{dvs:n'}{dval:gV}{dds:B'}{x:Str}{p pos:Td}{e:Oa}{es:List Oa}{fn:B'->M D}{fs:Ev->M (B')}{sp:Sp}{t:TA}
def EI(F:jh X.prog X.w X.K X.mg X.base (jl X.prog X.w) k f fd ps sp)(p:Qd k X.A)(m:Er X.K fd ps dval)(n:ie dvs dval)
  (I:db X a g H s) (r:ie vs d) (h:sp (vs++dvs) H Q$ XE X g):wpAny (model X.prog X.w) X.A (call (yb f) d) (EP X a g Q) X.xe s:=by
 have i:=r.append n;have o:(d++dval).length=ps.length:=by rw[<-i.length];exact F.len _ _ _ _ h
 refine aj (Af (F.dh X.A X.stack s H _ _ _ Q _ p I.lD (m s d I.Ai o) i h) λr t c=>?_);cases r with
 |error e=>obtain⟨j,fd,v,b,q⟩:=c;exact q.iI a H s e t I b
 |ok l=>
  cases l with
  |ret u=>exact I.after c
  |next=>exact ϲ c
  |brk=>exact ϲ c
  |cont=>exact ϲ c
def gN(F:jh X.prog X.w X.K X.mg X.base (jl X.prog X.w) k f fd ps$ Ho T ps.length fn)(M:Qd k X.A)(E:Gl X x)(J:X.mg x=BD (yb f))(G:ϻ X.K (yb f)=Ĳ)(B:Er X.K fd ps dval)(C:ie dvs dval)(g:∀ m H,lb T m H dds dvs)
  (z:FA T X (e::es) fs) (d:(x == ("__debug__" : Str))=Ε:=by decide) (D:va (e::es) X.env=(Ε,Mb e X.env)::va es X.env:=by rfl) (j:(lc pos$ va es X.env).any (·.1)=Ε:=by rfl) :
  FE T X (ϡ (Ϝ x p) (e::es) [] pos)$ lf ps.length fn dds fs:=by
 intro a s v H Q I h;refine Ve$ RB I E J ?_ d;obtain⟨m,ρ,P,y,l,L⟩:=h;refine Ϲ I.ok.mod.Rw G (Ed (z pos a s v H (λvs c=>Ho T ps.length fn (vs++dvs) c Q$ XE X v) I ⟨m,ρ,P,y,l,L.bind λu o n vs c O R ό N b=>?_⟩) λus s1 ⟨vs,c,t,r,q⟩=>⟨t.Ai,?_⟩) D j
 ·unfold Dq at b;by_cases i:(u++dds).length=ps.length
  ·rw[ka i]at b;exact⟨n,o,u++dds,N.append$ g _ _,i,ό,b⟩
  ·rw[qa i]at b;exact b.elim
 ·exact EI F M B C t r q
variable{P:Ca}{w:Wa}{K:ϗ}{mg:Str->Option Value}{base:Heap}
def qB{st}{D kV i G d ct ϊ}{C od}
  (lk:K.lookup f=BD ⟨ϊ,od,.func$ ϭ x a c (Pj st) (yf st) D kV i G C d ct,q⟩) (p:W.codeIn K d a=Ĳ) (S:nc N ps$ yf st)
  (X:∀ A b s H E,Qd k (A.deeper$ ug a (yf st) s.heap.objs.size f d)->Dk T (xp (jl P w) P w K mg base N a (yf st) f d A b s H E) (Pj st) g) :
  jh P w K mg base (jl P w) (k+1) f (ϭ x a c (Pj st) (yf st) D kV i G C d ct) ps$ Ho T ps.length$ dh N.length g:=by
 refine S8 lk p S (λvs H Q E h=>?_) (λA b s H vs Q E Y h=>?_)
 ·obtain⟨I,y,L,o,F,_⟩:=h;rw[<-o.length];exact F
 ·obtain⟨I,y,L,o,F,V,e⟩:=h;refine⟨_,X A b s H E Y,I,_,y,n5 o,V,?_⟩;unfold dh at e;cases m:g _ y with
  |Eb=>rw[m]at e;exact e
  |ex x B=>rw[m]at e;exact e.elim
  |ok ϋ B=>
   rw[m]at e;intro u n J ό r j;have l:=e.mono ό;cases ϋ with
   |nx v=>cases n with
    |nx t=>have z:=Rb.here l r (by rw[Sa]);exact z
    |_=>exact j.elim
   |rt d2=>cases n with
    |rt v2=>have z:=Rb.here l r j;exact z
    |_=>exact j.elim
   |xc v x2=>cases n with
    |xc t c2 R=>
     obtain⟨_,rfl,rfl⟩:=j;exact ĥ$ l u J (ϰ _ _) r
    |_=>exact j.elim
   |_=>exact l.elim
def WN(F:jh P w K mg base (jl P w) k f fd ps$ Ho T ps.length fn):jh P w K mg base (jl P w) k f fd ps$ Ho T ps.length (λa=>Ud$ fn a):=
 F.imp λvs H Q E h=>by
  obtain⟨g,i,a,c,d,b,e⟩:=h;exact⟨g,i,a,c,d,b,Rb.Ud b e⟩
end
noncomputable def Oi(e:Ag)(a:List$ Str × Ke)(b:List$ Str × Addr):List$ Str × Addr:=
 a.foldl (λd y=>if (y.2 == xb)=Ĳ then (match e.cells.lookup y.1 with|some c=>(y.1,c)::d|none=>d)else d) b
theorem vK(b:Ag):∀ (d:List$ Str × Ke) (acc:List$ Str × Addr),(∀ y∈d,y.2=xb->∃ c,b.cells.lookup y.1=BD c)->
  (forIn d acc (λx (cs:List (Str × Addr))=>match x with|(name,kind)=>if (kind == xb)=Ĳ then (do let a <-cellOf b name;pure (ForInStep.yield$ (name,a)::cs))else pure (ForInStep.yield cs)):Wm (List$ Str × Addr))=pure (Oi b d acc)
 |[],acc,_=>rfl
 |(n,k)::r,acc,h=>by
  rw[List.forIn_cons];by_cases e:(k == xb)=Ĳ
  ·obtain⟨c,i⟩:=h _ la ⋯;have j:cellOf b n=pure c:=by unfold cellOf;rw[i]
   simp only[e,j];show (forIn r _ _:Wm _)=_;rw[vK b r _ λy g=>h y$ ja _ g];have f:Oi b ((n,k)::r) acc=Oi b r ((n,c)::acc):=by
    unfold Oi;rw[oi];simp only[e,Jf,i]
   rw[f]
  ·simp only[e];show (forIn r acc _:Wm _)=_;rw[vK b r acc λy g=>h y$ ja _ g];have f:Oi b ((n,k)::r) acc=Oi b r acc:=by
    unfold Oi;rw[oi];simp only[e];rfl
   rw[f]
def bK b a(h:∀ y∈a.names,y.2=xb->∃ c,b.cells.lookup y.1=BD c):closureFor a b=pure (Oi b a.names []):=by
 unfold closureFor;simp only[bind_pure];exact(vK b a.names [] h)
theorem ZK(a:Ag):∀ (b:List$ Str × Ke) (acc:List$ Str × Addr) (n:Str) (c:Addr),(∀ n c,acc.lookup n=BD c->a.cells.lookup n=BD c)->(Oi a b acc).lookup n=BD c->a.cells.lookup n=BD c
 |[],acc,n,c,h,e=>h n c e
 |(y,k)::r,acc,n,c,h,e=>by
  refine ZK a r _ n c (λn c q=>?_) e;by_cases f:(k == xb)=Ĳ
  ·simp[f,Jf]at q;cases d:a.cells.lookup y with
   |none=>rw[d]at q;exact h n c q
   |some g=>
    rw[d]at q;rw[Ib]at q;cases i:(n == y)with
    |true=>simp_all
    |false=>simp_all
  grind
theorem IT(a:Ag):∀ (b:List$ Str × Ke) (acc:List$ Str × Addr) (n:Str),(∃ c,acc.lookup n=BD c)->∃ c,(Oi a b acc).lookup n=BD c
 |[],acc,n,h=>h
 |(y,k)::r,acc,n,h=>by
  refine IT a r _ n ?_;by_cases e:(k == xb)=Ĳ
  ·simp[e];cases f:a.cells.lookup y with
   |none=>exact h
   |some d=>
    rw[Ib];cases g:(n == y)with
    |true=>exact⟨d,rfl⟩
    |false=>exact h
  simp_all
theorem SE(b:Ag):∀ (a:List$ Str × Ke) (acc:List$ Str × Addr) (n:Str),(n,xb)∈a->(∃ c,b.cells.lookup n=BD c)->∃ c,(Oi b a acc).lookup n=BD c
 |[],acc,n,h,_=>nomatch h
 |(y,k)::r,acc,n,h,d=>by
  rcases za.mp h with e|e
  ·cases e;refine IT b r _ _ ?_;obtain⟨c,d⟩:=d
   simp_all
  ·exact SE b r _ n e d
theorem PN{a:Ag}:∀ {b:List$ Str × Ke} {x:Str} {k:Ke},
  (b.map λ(n,k)=>if (k == xb && a.scope.kind == ϣ && a.kindOf n == BD Gc)then (n,Gc)else (n,k)).lookup x=BD k->∃ k0,b.lookup x=BD k0/\(k=k0\/(k0=xb/\k=Gc))
 |[],_,_,h=>by simp at h
 |(n,k0)::r,x,k,h=>by
  have f:=@PN a r x k;have c:List.lookup x ((if (k0 == xb && a.scope.kind == ϣ && a.kindOf n == BD Gc)=Ĳ then (n,Gc)else (n,k0))::(r.map λ(n,k)=>if (k == xb && a.scope.kind == ϣ && a.kindOf n == BD Gc)then (n,Gc)else (n,k)))=BD k:=h;cases e:x == n with
  |true=>
   by_cases d:(k0 == xb && a.scope.kind == ϣ && a.kindOf n == BD Gc)=Ĳ;all_goals grind
  |false=>
   by_cases d:(k0 == xb && a.scope.kind == ϣ && a.kindOf n == BD Gc)=Ĳ
   ·rw[ka d]at c;simp only[Ib,e]at c ⊢;exact f c
   ·rw[qa d]at c;simp only[Ib,e]at c ⊢;exact f c
theorem JX{env:Ag}:∀ {a:List$ Str × Ke} {x:Str},a.lookup x=BD xb->
  (a.map λ(n,k)=>if (k == xb && env.scope.kind == ϣ && env.kindOf n == BD Gc)then (n,Gc)else (n,k)).lookup x=BD Gc\/
  (a.map λ(n,k)=>if (k == xb && env.scope.kind == ϣ && env.kindOf n == BD Gc)then (n,Gc)else (n,k)).lookup x=BD xb
 |[],_,h=>by simp at h
 |(n,k)::r,x,h=>by
  have f:=@JX env r x;have b:∀ z,List.lookup x ((if (k == xb && env.scope.kind == ϣ && env.kindOf n == BD Gc)=Ĳ then (n,Gc)else (n,k))::(r.map λ(n,k)=>if (k == xb && env.scope.kind == ϣ && env.kindOf n == BD Gc)then (n,Gc)else (n,k)))=z->
   (List.map (λ(n,k)=>if (k == xb && env.scope.kind == ϣ && env.kindOf n == BD Gc)then (n,Gc)else (n,k))$ (n,k)::r).lookup x=z:=λz e=>e
  cases c:x == n with
  |true=>
   simp[Ib,c]at h;cases h;by_cases d:(xb == xb && env.scope.kind == ϣ && env.kindOf n == BD Gc)=Ĳ
   ·exact ϑ$ b _ (by rw[ka d];simp only[Ib,c])
   ·exact ϕ$ b _ (by rw[qa d];simp only[Ib,c])
  |false=>
   simp only[Ib,c]at h;have e:List.lookup x ((if (k == xb && env.scope.kind == ϣ && env.kindOf n == BD Gc)=Ĳ then (n,Gc)else (n,k))::(r.map λ(n,k)=>if (k == xb && env.scope.kind == ϣ && env.kindOf n == BD Gc)then (n,Gc)else (n,k))) =
     (r.map λ(n,k)=>if (k == xb && env.scope.kind == ϣ && env.kindOf n == BD Gc)then (n,Gc)else (n,k)).lookup x:=by
    by_cases d:(k == xb && env.scope.kind == ϣ && env.kindOf n == BD Gc)=Ĳ
    ·rw[ka d];simp only[Ib,c]
    ·rw[qa d];simp[Ib,c]
   rcases f h with q|q
   ·exact ϑ$ b _$ e.trans q
   ·exact ϕ$ b _$ e.trans q
def Yv{a:List$ Str × Ke}(h:a.lookup x=BD k):(x,k)∈a:=ue h
noncomputable def Do(X:Cx)(b:ad)(a:Scope)(cl:List$ Str × Addr)(C:Addr)(s₀:Shared)(H₀:Hp)(ex:dl):Cx:=
 { X with N:=b,s₀:=s₀,H₀:=H₀,env:=compEnvC a cl C X.env,outer:=X.stack,stack:=X.stack,ex:=ex,fn:=λc=>Ε,pn:=[],xe:=λc c=>False }
structure Zj(X:Cx)(x:Str)(M':ad)(ix:i')(scope:Scope):Prop where
 kind:scope.kind=ϣ
 cell:(scope.names.all λy=>!(y.2 == Gc))=Ĳ
 names:(scope.names.all λy=>!(y.2 == .local) || scope.names.lookup y.1 == BD .local)=Ĳ
 free:(scope.names.all λy=>!(y.2 == xb) || (X.env.scope.names.lookup y.1 == BD Gc || X.env.scope.names.lookup y.1 == BD xb))=Ĳ
 at_:ix.map (λi=>X.N[i]?)=M'.map BD
 GV:(M'.all λy=>(X.env.scope.names.lookup y == BD Gc || X.env.scope.names.lookup y == BD xb) && scope.names.lookup y == BD xb)=Ĳ
noncomputable def KS(a:i')(b:Ev):Ev:=V6::a.map λi=>(b[i]?).getD V6
noncomputable def kX(a:i')(st:St):St:=V6::a.map λi=>(st[i]?).getD V6
def XV{st} a(h:fh T f H b st):fh T f H (KS a b)$ kX a st:=by
 refine⟨by simp[KS,kX],λi d e=>?_⟩;cases i with
 |zero=>cases e
 |succ j=>
  have l:(a.map λi=>(b[i]?).getD V6)[j]?=BD _:=e;cases m:a[j]? with
  |none=>simp_all
  |some c=>
   have g:b[c]?=BD (BD d):=by
    cases q:b[c]? with
    |none=>simp_all
    |some o=>simp_all
   obtain⟨v,n,k⟩:=h.2 c d g;refine⟨v,?_,k⟩;show (a.map λi=>(st[i]?).getD V6)[j]?=_
   simp_all
section
variable{pins:List$ Addr × Obj}{st:St}{H:Hp}{s:Shared}{x:Str}{M':ad}{ix:i'}{scope:Scope}{fp:dl}
def ć(L:Zj X x M' ix scope) y(a:y∈scope.names)(e:y.2=xb):X.env.kindOf y.1=BD Gc\/X.env.kindOf y.1=BD xb:=by
 have q:=Bb.mp L.free y a;rw[e]at q;simp only[JZ,Bool.not_true,zA,Hg]at q;rcases q with q|q
 ·exact ϑ$ eq_of_beq q
 ·exact ϕ$ eq_of_beq q
def jA(I:db X pins st H s)(L:Zj X x M' ix scope):∀ y∈scope.names,y.2=xb->∃ c,X.env.cells.lookup y.1=BD c:=λy a e=>I.ok.has y.1$ ć L y a e
def AD(L:Zj X x M' ix scope):∀ y∈scope.names,y.2≠ Gc:=λy a e=>by
 have q:=Bb.mp L.cell y a
 simp_all
end
def Ft{a:Type}(m:M a):M a:=λb=>match m b with
 | .ex _ _=>Ϙ
 |o=>o
def Rb.du{E E0}{R:dl->Hp->j->u->Prop}{p}{m}{k:j->M t}{Q:v->Hp->Prop}{o}
  (h:Rb T E p l H (Tc (Ft m) k i) Q) (f:∀ a b c g d,m i=O a b->Cd l H c d->ud T c d b->R c d a g->Rb T E p c d (k a b) Q->o g d):Rb T E0 R l H (m i) o:=by
 unfold Tc Ft at h;cases e:m i with
 |ok a b=>
  simp[e]at h;exact λn g w s r q=>f a b n g w e s r q$ h.mono s
 |ex x b=>simp[e]at h;exact h.elim
 |Eb=>simp[e]at h;exact h
def lw(T:Tb)(X:Cx)(b:List Oa)(f:Ev->M Bool):Prop:=
 ∀ (a:List$ Addr × Obj) (s:Shared) (st:St) (H:Hp) (Q:Bool->Hp->Prop),db X a st H s->tT T X f st H Q->
  wpAny (model X.prog X.w) X.A (forIn b Ĳ λc r=>if r=Ĳ then do let ok <-isTrue c X.env (Mb c X.env);pure (ForInStep.yield ok)else pure (ForInStep.yield r)) (TP X a st Q) X.xe s
noncomputable def On:Ev->M Bool:=λa=>ret Ĳ
def M7:lw T X [] On:=by
 rintro a s e H Q I ⟨f,g,h,d,c,b⟩;exact wpAny_tests_nil ⟨H,I,Rb.here b c rfl⟩
def ztn(h:FT T X c f):lw T X [c] f:=λa s d H Q I b=>wpAny_tests_one$ h a s d H Q I b
def K5(u:Un i ex H g h j)(d:Zc C j k)(l:h.objs.size<=C):Un i ex H g h k:=by
 have f:∀ b o,h.get? b=BD o->b≠C:=λb o e=>Aa$ Ja (ya e) l;refine⟨λb o e n c a=>(d.2 b$ f b o e).trans$ u.keep b o e n c a,λb o e n c a=>?_,u.free,λb o e a=>?_,u.Yj,u.zi,u.Bj⟩
 ·obtain⟨p,q⟩:=u.slot b o e n c a;exact⟨p,(d.2 b$ f b o e).trans q⟩
 ·obtain⟨m,q⟩:=u.there b o e a;exact⟨m,(d.2 b$ f b o e).trans q⟩
def zms(ok:Jh P w H a)(f:Zc C a d)(h:H C=V6):Jh P w H d:=λb g e=>by
 refine(ok b g e).yj (λc j i q=>(f.2 c ?_).trans q) (λk q=>q) λk k q=>q;rintro rfl
 simp_all
def zrk(r:ud T b H c)(d:b[n]?=BD a)(e:Sa T b H y v)(h:Rb T E (Sa T) b H (Kj (U n) [y] c) Q):fM (ϖ a) [v] H Q:=
 aK E b H c _ [y] (ϖ a) [v] Q r (by rw[Sa];exact⟨a,rfl,d⟩) (lb.cons e lb.nil) h
def ZF{m m'}{k:b->M c}(h:m a=m' a):Tc m k a=Tc m' k a:=by unfold Tc;rw[h]
theorem qM{m:M b}{k}{l:c->M d}:Tc (Tc m k) l=Tc m λa=>Tc (k a) l:=by
 funext e;unfold Tc;cases m e<;>rfl
def WD(x y:D):M D:=λa=>match Lf a x,Lf a y with
 |some xs,BD b=>if xs.length+b.length<=Dg then O (ύ$ xs++b) a else Ϙ
 |_,_=>Ϙ
def Mi(x y:D):M D:=match x,y with
 | Z i,Z j=>ret (Z$ i+j)
 | ώ xs,ώ c=>if xs.length+c.length<=Dg then ret (ώ$ xs++c)else Eb
 | ϓ a,ϓ b=>if a.length+b.length<=100000 then ret (ϓ$ a++b)else Eb
 |x,y=>WD x y
def E7(h:n<=100000):n<=sizeLine:=ib h ⋯
section
variable{a b c:Oa}{fa fb fc:Ev->M D}{pos:Td}
def F1{c}{t b}{ws:gV}(u:IsTup s.heap t (#[]:Array Value))(p:IsTup s.heap b ws.toArray)(o:Q (yb b) s):wpAny (model c w) A (Je .Add (yb t)$ yb b) Q F s:=by
 obtain⟨⟨l,m,j,x⟩,k,q,n,r⟩:=id u;obtain⟨⟨i,e,d,h⟩,a,f,v,g⟩:=id p;subst q r f g;exact Qu ⟨_,k,rfl⟩ ⟨_,a,rfl⟩ mo ot Dh kh (ah _ _)
  (tuple_addW0 t b #[] ws.toArray n v m e x h rfl) ⟨k,a,o⟩
def BY{b}{st}(I:db X b st H s)(B:jd v h)(z:jd u g)(r:ud T d H σ)(o:Sa T d H x v)(t:Sa T d H y u)(a:Rb T E (Sa T) d H (WD x y σ) Q) :
  wpAny (model X.prog X.w) X.A (Je .Add h g) (EP X b st Q) X.xe s:=by
 unfold WD at a;cases c:Lf σ x with
 |none=>rw[c]at a;exact a.elim
 |some xs=>
  cases e:Lf σ y with
  |none=>rw[c,e]at a;exact a.elim
  |some C=>
   rw[c,e]at a;dsimp only at a;by_cases f:xs.length+C.length<=Dg
   ·rw[ka f]at a;obtain⟨p,vs,rfl,k,i⟩:=r.ls o c;obtain⟨q,ws,rfl,m,j⟩:=r.ls t e;exact i5 b s st H _ _ h g Q I B z ⟨p,q,vs,ws,rfl,rfl,k,m,by rw[<-i.length,<-j.length];exact wz f,λl n=>vI a r (lb.append i j) n⟩
   ·rw[qa f]at a;exact a.elim
def O1(P:T.K=X.K):zh X (Je .Add)$ rD T Mi:=by
 rintro d s st H v u z w Q I m k ⟨E,ϋ,σ,x,y,r,g,h,c⟩;cases x with
 |int i=>
  cases y with
  |int j=>exact ygt d s st H v u z w Q I m k ⟨i,j,Mq g,Mq h,Rb.here c r (by rw[Sa])⟩
  |_=>trivial
 |str a=>
  cases y with
  |str b=>
   unfold Mi at c;dsimp only at c;by_cases f:a.length+b.length<=100000
   ·rw[ka f]at c;exact U6 d s st H v u z w Q I m k ⟨a,b,by simpa [Sa]using g,by simpa [Sa]using h,E7 f,Rb.here c r (by rw[Sa])⟩
   ·rw[qa f]at c;exact c.elim
  |_=>exact BY I m k r g h c
 |Qa xs=>
  cases y with
  |Qa D=>
   unfold Mi at c;dsimp only at c;by_cases f:xs.length+D.length<=Dg
   ·rw[ka f]at c;have G:=g;have J:=h;obtain⟨p,vs,rfl,A,o⟩:=g;obtain⟨q,ws,rfl,B,t⟩:=h;cases vs with
    |nil=>
     have n:xs=[]:=by have:=o.length;simpa using this
     subst n;cases m;cases k;obtain⟨L,M,N,_⟩:=L2.db.tuple I (Tg.of A);obtain⟨C,R,ό,_⟩:=L2.db.tuple I (Tg.of B);cases M;exact F1 N ό ⟨ϖ q,H,I,rfl,Rb.here c r ⋯⟩
    |cons v0 S=>
     refine ě d s st H _ _ z w Q I m k ⟨p,q,_,ws,rfl,rfl,Tg.of A,Tg.of B,by simp,?_,λe=>?_,λe l F=>?_⟩
     ·rw[<-o.length,<-t.length];exact wz f
     ·subst e;have n:D=[]:=by have:=t.length;simpa using this
      subst n;exact Rb.here c r ⋯
     ·exact xC c r (lb.append o t) F
   ·rw[qa f]at c;exact c.elim
  |_=>trivial
 |_=>exact BY I m k r g h c
noncomputable def JK(a:D->D->M D)(c:M D)(y:D):D->M D:=zx$ Fj (Tc c$ a y)$ ret$ ϐ Ε
def WO(o a:D->D->M D)(c:M D)(x y:D):M D:=Tc (o x y)$ JK a c y
def CK(o a:D->D->M D)(b c:M D)(x:D):M D:=Tc b$ WO o a c x
def IR(o e:D->D->M D)(a b c:Ev->M D):Ev->M D:=λd=>Tc (a d)$ CK o e (b d)$ c d
def η(ϊ:zh X (Gb j) r)(hs:pk T r o)(g:zh X (Gb d) L)(i:pk T L J)(ϋ:FE T X a fa)(V:FE T X b fb)(W:FE T X c fc)
  (Y:lastMarks [j,d] [b,c]=Ε:=by with_unfolding_all rfl):FE T X (.Compare a [j,d] [b,c] pos)$ IR o J fa fb fc:=by
 intro e s st H Q I h;refine ş ϊ g ϋ V W Y e s st H Q I ?_;obtain⟨μ,q,σ,f,hr,hp⟩:=h;refine⟨μ,q,σ,f,hr,hp.bind λx t l v H1 D E r1 q1 p1=>⟨l,q,t,f.mono E,r1,p1.bind λy A m w ό D F r2 K p2=>(hs _ m ό A x y v w _ r2 (Sa.mono F _ _ q1) K$ p2.bind λz B n u H3 D G N q3 p3=>?_)⟩⟩;obtain⟨k,rfl,S,p4⟩:=YF q3 p3;refine⟨k,S,?_⟩;cases k with
 |true=>
  exact⟨n,q,B,((f.mono E).mono F).mono G,N,p4.bind λz C p u5 P D R r5 q5 p5=>i _ p P C y z w u5 Q r5 (Sa.mono R _ _$ Sa.mono G _ _ K) q5 p5⟩
 |false=>unfold Fj at p4;rw[qa qb]at p4 ⊢;exact Rb.here p4 N (by rw[Sa])
def Km(a:Qd k A):A.units+9<cLine:=by have:=a.un;lia
end
def Wp(K:ϗ)(d:Str->Option Value)(x:Str)(e:Stmt)(c:ad):Prop:=
 ∃ f b,d x=BD (yb f)/\bI K x x e f b/\∀ a:gV,a.length=c.length->bindArgs b ⟨a,[]⟩=pure (c.zip a)
def wh(T:Tb)(P:Ca)(w:Wa)(d:Str->Option Value)(a:Heap)(k:Nat)(x:Str)(ps:ad)(e:B'->M D):Prop:=
 ∃ f c,d x=BD (yb f)/\ϻ T.K (yb f)=Ĳ/\(∀ b:gV,b.length=ps.length->bindArgs c ⟨b,[]⟩=pure (ps.zip b))/\jh P w T.K d a (jl P w) k f c ps (Ho T ps.length e)
section
def Nm(h:wh T X.prog X.w X.mg X.base k x ps g)(m:T.K=X.K)(t:Qd k X.A)(r:Gl X x)
  (n:FA T X (e::a) i) (c:(x == ("__debug__" : Str))=Ε:=by decide) (q:va (e::a) X.env=(Ε,Mb e X.env)::va a X.env:=by rfl) (d:(lc b$ va a X.env).any (·.1)=Ε:=by rfl) :
  FE T X (ϡ (Ϝ x p) (e::a) [] b)$ lf ps.length g [] i:=by
 obtain⟨f,u,s,l,o,j⟩:=h;rw[m]at l j;exact gN j t r s l (.all o) Ϡ (λv v=>lb.nil) n c q d
variable{P:Ca}{w:Wa}{K:ϗ}{mg:Str->Option Value}{base:Heap}{ca:Nat->Addr}{tx:Tx}
def Xw{st}(h:Wp K mg x st ps)(S:nc N ps$ yf st)
  (i:∀ f a A b s H E,Qd k (A.deeper$ ug x (yf st) s.heap.objs.size f a)->Dk ⟨K,ca,tx⟩ (xp (jl P w) P w K mg base N x (yf st) f a A b s H E) (Pj st) g) :
  wh ⟨K,ca,tx⟩ P w mg base (k+1) x ps$ dh N.length g:=by
 obtain⟨f,n,j,F,c⟩:=h;obtain⟨o,p,kV,e,q,m,a,ct,l,rfl,lk,d⟩:=F.ex;exact⟨f,_,j,F.kp,c,qB lk d S$ i f a⟩
def wh.Ud{k}{x}{ps}{a}(h:wh T P w mg base k x ps a):wh T P w mg base k x ps (λb=>L4.Ud$ a b):=by
 obtain⟨f,c,d,e,g,i⟩:=h;exact⟨f,c,d,e,g,WN i⟩
def PK{st}{kV d g b ct}(X:K.In h)(G:h.Ns mainGlobals mg)
  (m:∀ kV d g e b ct j,j.length=ps.length->bindArgs (ϭ x x (yl st) (Pj st) (yf st) Bc kV d g e b ct) ⟨j,[]⟩=pure (ps.zip j))
  (a:W.nsIn K mainGlobals x=BD (BD$ yb f)) (l:K.lookup f=BD ⟨n,o,.func$ ϭ x x (yl st) (Pj st) (yf st) Bc kV d g e b ct,i⟩)
  (c:W.codeIn K b x=Ĳ) (k:ϻ K (yb f)=Ĳ):Wp K mg x st ps:=
 ⟨f,_,W.mg_of X G a,WS l c k,m kV d g e b ct⟩
def mkI(X:K.In h)(G:h.Ns mainGlobals mg)(a:W.nsIn K mainGlobals x=BD (BD$ Fh i t)):∃ t,mg x=BD (Fh i t):=⟨t,W.mg_of X G a⟩
end
def kO(T:Tb)(P:Ca)(w:Wa)(d:Str->Option Value)(k:Nat)(x:Str)(ps:ad)(e:B'->M D):Prop:=
 ∃ f c,d x=BD (yb f)/\(∀ b:gV,b.length=ps.length->bindArgs c ⟨b,[]⟩=pure (ps.zip b))/\∀ a:Heap,jh P w T.K d a (jl P w) k f c ps (Ho T ps.length e)
def P7{K}{st}(h:Wp K i x st ps)(S:nc N ps$ yf st)
  (m:∀ a f b A c s H E,Qd k (A.deeper$ ug x (yf st) s.heap.objs.size f b)->Dk ⟨K,j,tx⟩ (xp (jl P w) P w K i a N x (yf st) f b A c s H E) (Pj st) g) :
  kO ⟨K,j,tx⟩ P w i (k+1) x ps$ dh N.length g:=by
 obtain⟨f,q,n,F,d⟩:=h;obtain⟨r,t,kV,l,u,p,b,ct,o,rfl,lk,e⟩:=F.ex;exact⟨f,_,n,d,λa=>qB lk e S$ m a f b⟩
set_option tactic.hygienic true in
def C9{K:ϗ}(k:K.In h)(j:W.excIn K C c a=Ĳ) :
  ∃ f N v w n i x e m d o k0 k1 r s t y,h.get? C=BD (excClassObj v w C N n f i x e m d o k0 k1 r s t a)/\h.Ns N y/\y "__init__" = V6/\OwnTail h c f:=by
 unfold W.excIn at j;split at j
 ·rename_i o b J lk
  split at j
  ·rename_i z f k0 k1 r s u t g p
   have q:((((z=C/\u=a)/\b.hasDel=Ε)/\W.tailIn K c f=Ĳ)/\W.nsOkIn K b.ns=Ĳ)/\W.nsIn K b.ns "__init__" = BD V6:=by
    simp_all
   obtain⟨⟨⟨⟨⟨A,B⟩,D⟩,E⟩,c5⟩,c6⟩:=q;subst A;subst B;obtain⟨v,n,H,I,w,G,x,e,m,d,F⟩:=b;cases g;cases D;obtain⟨l⟩:=J;cases p;exact⟨f,I,v,w,n,G,x,e,m,d,o,k0,k1,r,s,t,_,k _ _ lk,.of_isNs$ W.isNs_of_in k c5,W.nsMap_none_of_in k c5 c6,W.tail_of_in k E⟩
  ·cases j
 ·cases j
def YH(c:Nat)(b:Ev)(a:B'):M Fl:=if a.length<=Dg then ret (.xc b ⟨c⟩)else Eb
def AT(c:Nat)(b:Ev->M (B')):Ev->M Fl:=λa=>xs a (b a)$ YH c a
def S5 c(F:ExcBaseFacts B b d i)(hK:T.K=X.K)(R:W.excIn T.K (T.ca c) i b=Ĳ)(hm:X.mg x=BD (yb$ T.ca c))
  (hg:Gl X x) (hc:X.qc=Ĳ) (ha:FA T X (e::h) P) (v:(x == ("__debug__" : Str))=Ε:=by decide) (Q:va (e::h) X.env=(Ε,Mb e X.env)::va h X.env:=by rfl)
  (z:(lc a$ va h X.env).any (·.1)=Ε:=by rfl) (w:fE c=V6:=by rfl):FS T X (.Raise (BD$ ϡ (Ϝ x np) (e::h) [] a) V6 A)$ AT c P:=by
 intro n s C H D I hw;obtain⟨μ,ρ,σ,u,hr,hp⟩:=hw;rw[hK]at R;obtain⟨J,N,Y,qn,L,f,ϊ,o,G,j,ό,k0,k1,S,ϋ,V,mN,hC,hN,y,tl⟩:=C9 I.ok.mod.Rw R;have l:(lc a$ va (e::h) X.env).any (·.1)=Ε:=by
  rw[Q];show (Ε || (lc a _).any (·.1))=Ε;rw[z];rfl
 refine wpAny_Raise_call_subT (nm:=Y) (q:=qn) (N:=N) (bs:=L) (bm:=J) (hdct:=f) (sn:=ϊ) (sub:=o) (ab:=G) (col:=j) (dd:=ό) (k0:=k0) (k1:=k1) (k2:=S) (k3:=ϋ) (k5:=V) F (tl.hasType F.hasBase) (I.ok.hd hc) l y$ RB I hg hm ⟨rfl,?_⟩ v;have step:=ha a n s C H (λvs t=>vs.length<=Dg/\OB X C _ V6 t) I ⟨μ,ρ,σ,u,hr,hp.xs u λds a1 a0 vs t M e1 r1 q1 m=>by
  unfold YH at m;by_cases k:ds.length<=Dg
  ·rw[ka k]at m;exact⟨by rw[<-q1.length];exact k,Rb.here (g:=Nq.xc C _ V6) m r1 ⟨u.mono e1,rfl,w.symm⟩⟩
  ·rw[qa k]at m;exact m.elim⟩
 rw[Q]at step ⊢;exact Hi (Ed step λus s1 ⟨vs,t,p,r,k,E⟩=>⟨rfl,by rw[<-r.length];exact wz k,p.bk _ _ hC,hN.keeps p.bk,tl.keeps p.bk,λh' ea hx=>E.made p hx⟩)
structure Hd where
 t:Nat->Option Bool
 nm:Option Nat
 g:Ev->M Fl
noncomputable def vW(i:Nat):Fl->M Fl
 | ϙ a=>ret (ϙ$ a.set i V6)
 | .rt d=>ret (.rt d)
 | .bk a=>ret (.bk$ a.set i V6)
 | .ct a=>ret (.ct$ a.set i V6)
 | .xc _ _=>Eb
noncomputable def TH:Fl->M Fl
 | ϙ a=>ret (ϙ a)
 | .rt d=>ret (.rt d)
 | .bk a=>ret (.bk a)
 | .ct a=>ret (.ct a)
 | .xc _ _=>Eb
def hit(h:Hd)(a:Ev)(x:Xn):M Fl:=match h.nm with
 |none=>Tc (h.g a) TH
 |some i=>Tc (h.g$ a.set i$ BD$ .Us x.cls) (vW i)
def Nv(a:Ev)(x:Xn):List Hd->M Fl
 |[]=>Eb
 |h::r=>match h.t x.cls with
  |some Ĳ=>hit h a x
  |some Ε=>Nv a x r
  |none=>Eb
def NG(b:List Hd):Fl->M Fl
 | .xc a x=>Nv a x b
 | ϙ a=>ret (ϙ a)
 | .rt d=>ret (.rt d)
 | .bk a=>ret (.bk a)
 | .ct a=>ret (.ct a)
def iE(g:Ev->M Fl)(a:List Hd):Ev->M Fl:=λb=>Tc (g b)$ NG a
noncomputable abbrev Cx.Mv(X:Cx)(e:Value):Cx:={ X with A:=X.A.mark (BD e),qc:=Ε,xe:=λa a=>False }
abbrev Cx.VI(X:Cx)(a:List$ Addr × Obj)(xe:Value->Shared->Prop):Cx:={ X with xe:=xe,pn:=X.pn++a }
section
variable{pins:List$ Addr × Obj}{st:St}{H:Hp}{s:Shared}{e:Value}{xe:Value->Shared->Prop}
def V5(I:db X pins st H s):db (Cx.VI X pins xe) [] st H s:=
 ⟨⟨I.ok.mod,I.ok.kind,I.ok.glob,I.ok.blt,I.ok.above,I.ok.inj,I.ok.has,I.ok.nB,I.ok.hd,I.ok.frames,I.ok.yp,I.ok.sD,I.ok.bs,I.ok.ku,I.ok.Ds,I.ok.Fs,I.ok.ck,I.ok.wy⟩,I.os,I.bare,I.base,I.loc,I.cell,I.free,I.dg,λp a=>I.pin p ⋯,I.Fc,I.len⟩
def uE(I:db (Cx.VI X pins xe) b st H s):db X pins st H s:=
 ⟨⟨I.ok.mod,I.ok.kind,I.ok.glob,I.ok.blt,I.ok.above,I.ok.inj,I.ok.has,I.ok.nB,I.ok.hd,I.ok.frames,I.ok.yp,I.ok.sD,I.ok.bs,I.ok.ku,I.ok.Ds,I.ok.Fs,I.ok.ck,I.ok.wy⟩,I.os,I.bare,I.base,I.loc,I.cell,I.free,I.dg,λp a=>I.pin p$ eb _ a,I.Fc,I.len⟩
def pA(I:db X pins st H s):db (Cx.Mv X e) pins st H s:=
 ⟨⟨I.ok.mod,I.ok.kind,I.ok.glob,I.ok.blt,I.ok.above,I.ok.inj,I.ok.has,I.ok.nB,λz=>(by cases z),I.ok.frames,I.ok.yp,I.ok.sD,I.ok.bs,I.ok.ku,I.ok.Ds,I.ok.Fs,I.ok.ck,I.ok.wy⟩,I.os,I.bare,I.base,I.loc,I.cell,I.free,I.dg,I.pin,I.Fc,I.len⟩
def UE(ok:X.Ok)(I:db (Cx.Mv X e) pins st H s):db X pins st H s:=
 ⟨ok,I.os,I.bare,I.base,I.loc,I.cell,I.free,I.dg,I.pin,I.Fc,I.len⟩
def Ĕ{D}(h:SP (Cx.VI X pins xe) [] D f c):SP X pins D f c:=by
 cases f with
 |next=>obtain⟨a,b,I,q⟩:=h;exact⟨a,b,uE I,q⟩
 |brk=>obtain⟨a,b,I,q⟩:=h;exact⟨a,b,uE I,q⟩
 |cont=>obtain⟨a,b,I,q⟩:=h;exact⟨a,b,uE I,q⟩
 |ret u=>obtain⟨v,a,b,I,r,q⟩:=h;exact⟨v,a,b,uE I,r,q⟩
def mW(ok:X.Ok){D}(h:SP (Cx.Mv X e) pins D f c):SP X pins D f c:=by
 cases f with
 |next=>obtain⟨a,b,I,q⟩:=h;exact⟨a,b,UE ok I,q⟩
 |brk=>obtain⟨a,b,I,q⟩:=h;exact⟨a,b,UE ok I,q⟩
 |cont=>obtain⟨a,b,I,q⟩:=h;exact⟨a,b,UE ok I,q⟩
 |ret u=>obtain⟨v,a,b,I,r,q⟩:=h;exact⟨v,a,b,UE ok I,r,q⟩
end
def Fq(X:Cx)(a:List$ Addr × Obj)(f:St)(H:Hp)(s:Shared)(d:Addr)(b:Value)(e:Option Nat):Prop:=∃ c s0,db X a f c s0/\Sz X.prog X.w X.stack c s0 b e H (yb d) s
section
variable{pins:List$ Addr × Obj}{st:St}{H:Hp}{s:Shared}{ea:Addr}{cls:Value}{fd:Option Nat}
def Fq.inv(L:Fq X pins st H s ea cls fd):db X pins st H s:=by
 obtain⟨a,s0,I,F⟩:=L;exact L2.db.Ou I F.os F.un F.Fc F.bare λb z=>absurd z ⋯
set_option tactic.hygienic true in
def Fq.next(L:Fq X pins st H s ea cls fd){M}(h:∀ l,Fq X pins st H l ea cls fd->Q () l):wpAny M A (xo (yb ea) V6) Q E s:=by
 obtain⟨m,s0,I,F⟩:=L;obtain⟨p,n,B,e,g,r,b,k,j,i,q⟩:=F.ex;cases e;refine zN g λu a f c=>h _ ?_;obtain⟨t,d⟩:=LH F j k i g.1 a.1 f (yI I);exact⟨m,s0,I,⟨ea,n,B,rfl,a,r,b,k,j,i,q.next c (let ⟨o,e,_⟩:=a.there;⟨o,e⟩)⟩,F.os,F.bare,t,d⟩
def Fq.obj(L:Fq X pins st H s ea cls fd):H ea=V6/\(∃ o,s.heap.get? ea=BD o/\o.cls=cls)/\∃ s0:Shared,s0.heap.get? ea=V6/\∃ b,db X pins st b s0:=by
 obtain⟨b,s0,I,F⟩:=L;obtain⟨c,g,B,e,d,f,a,k,i,h,j⟩:=F.ex;cases e;exact⟨f,d.there,s0,a,b,I⟩
def DM(I:db X pins st H s)(h:db X pins st B s0)(d:s0.heap.get? a=V6)(D:H a=V6)(E:s.heap.get? a=BD o)(r:k s.heap)
  (F:∀ t w:Heap,k t->(∀ u,t.get? a=BD u->w.get? a=BD u)->k w):db X pins st (Wb H a$ Ϫ k) s:=by
 have j:∀ b u,s0.heap.get? b=BD u->b≠a:=λb u e z=>by rw[z,d]at e;cases e
 have g:∀ b u,H b=BD u->b≠a:=λb u e z=>by rw[z,D]at e;cases e
 have G:∀ b u,X.s₀.heap.get? b=BD u->b ∉ X.ex->b≠a:=λb u e i=>by obtain⟨N,C⟩:=h.base.there b u e i;exact j b N C
 refine⟨I.ok,I.os,I.bare,⟨I.base.keep,I.base.slot,λb u e n i=>?_,I.base.there,λb xs e=>?_,λb J u e=>?_,λb ps e=>?_⟩,I.loc,I.cell,?_,λx c e=>?_,λp A=>?_,λb u e=>?_,I.len⟩
 ·rw[Ad$ G b u e i];exact I.base.free b u e n i
 ·have q:=I.base.Yj b xs e;rw[Ad$ g b _ q];exact q
 ·have q:=I.base.zi b J u e;rw[Ad$ g b _ q];exact q
 ·obtain⟨f,q⟩:=I.base.Bj b ps e;exact⟨f,by rw[Ad$ g b _ q];exact q⟩
 ·obtain⟨m,⟨u,_,_,l,_⟩,_⟩:=h.loc;rw[Ad$ j _ u l];exact I.free
 ·obtain⟨v,u,l,_⟩:=h.cell x c e;rw[Ad$ j _ u l];exact I.dg x c e
 ·obtain⟨K,L,M⟩:=I.pin p A;refine⟨K,?_,M⟩;rw[Ad$ j _ _ (h.pin p A).1];exact L
 ·by_cases y:b=a
  ·subst y;rw[Mf]at e;cases e;exact⟨r,⟨o,E⟩,F⟩
  ·rw[Ad y]at e;exact(I.Fc b u e).yj (λc v O q=>q) (λc q=>by rw[Ad$ g c _ q];exact q) λc xs q=>by rw[Ad$ g c _ q];exact q
def DX:∀ b c:Heap,oG C d a b->(∀ u,b.get? a=BD u->c.get? a=BD u)->oG C d a c:=λb c ⟨u,e,q⟩ k=>⟨u,k u e,q⟩
def K6:∀ b c:Heap,VH a n b->(∀ u,b.get? a=BD u->c.get? a=BD u)->VH a n c:=λb c ⟨u,d,q⟩ k=>⟨u,k u d,q⟩
def Fq.nE(L:Fq X pins st H s ea (yb C) fd):∃ v g,db X pins st g s/\g ea=BD (Ϫ$ oG C v ea)/\(∀ n,fd=BD n->∃ a,v=BD a/\H a=V6/\g a=BD (Ϫ$ VH a n))/\(∀ b u,H b=BD u->g b=BD u)/\∀ b u,g b=BD u->H b=BD u\/H b=V6:=by
 have I:=L.inv;obtain⟨N,s0,p,F⟩:=L;obtain⟨D,ό,B,e,k,d,c,R,Q,P,E⟩:=F.ex;cases e;obtain⟨o,f,w⟩:=k.there;cases r:fd with
 |none=>
  refine⟨V6,_,(DM I p c d f ⟨o,f,w,λm z=>by cases z⟩ DX),Mf,(λn q=>by cases q),λb u e=>?_,λb u e=>?_⟩
  ·rw[Ad (λz=>by rw[z,d]at e;cases e)];exact e
  ·by_cases h:b=ea
   ·rw[h];exact ϕ d
   ·rw[Ad h]at e;exact ϑ e
 |some n=>
  obtain⟨a,oD,y,A,G,J,K,l,M⟩:=E n r;have t:y=o:=by rw[f]at A;cases A;rfl
  subst t;have i:=k.1 a oD J;have j:a≠ea:=λz=>by
   have:=k.2.1
   simp_all
  refine⟨BD a,_,(DM (DM I p c d f ⟨y,f,w,λm z=>by cases z;exact⟨G,k.XO f⟩⟩ DX) p M (by rw[Ad j];exact l) i ⟨oD,i,K⟩ K6),by rw[Ad$ Jd j];exact Mf,λm q=>?_,λb u e=>?_,λb u e=>?_⟩
  ·cases q;exact⟨a,rfl,l,Mf⟩
  ·rw[Ad (λz=>by rw[z,l]at e;cases e),Ad (λz=>by rw[z,d]at e;cases e)];exact e
  ·by_cases x:b=a
   ·rw[x];exact ϕ l
   ·rw[Ad x]at e;by_cases h:b=ea
    ·rw[h];exact ϕ d
    ·rw[Ad h]at e;exact ϑ e
set_option tactic.hygienic true in
def İ(I:db X pins st H s)(m:X.stack=X.env::X.outer)(C:X.env.frame=BD X.env.locals)(F:Sz X.prog X.w X.stack H s cls fd r e n){M}{Q:Value->Shared->Prop}
  (h:∀ ea d,e=yb ea->Fq X pins st r d ea cls fd->Q e d):wpAny M X.A (uh e X.env) (λ_ s2=>wpAny M X.A (xo e V6) (λ_ G=>Q e G) E s2) E n:=by
 obtain⟨ea,f,B,rfl,t,D,c,x,v,u,z⟩:=F.ex;have j:wn B (X.env::X.outer) ea cls f n.heap:=by rw[<-m];exact t
 refine lY (by rw[<-m];exact I.ok.frames) C j λK b p g=>(zN (XQ b) λy k q i=>h ea _ rfl ?_)
 have a:wn B X.stack ea cls f y:=by rw[m];exact k
 obtain⟨J,l⟩:=LH F v x u t.1 a.1 (p.trans q) (yI I);exact⟨H,s,I,⟨ea,f,B,rfl,a,D,c,x,v,u,z.next (g.trans i) (let ⟨o,e,_⟩:=a.there;⟨o,e⟩)⟩,F.os,F.bare,J,l⟩
end
def wn.keep(x:wn B l e a i h)(k:∀ b o,h.get? b=BD o->j.get? b=BD o):wn B l e a i j:=by
 obtain⟨m,n,p,r⟩:=x;refine⟨λb o q=>k b o$ m b o q,n,p.of_keeps λb o q A=>⟨o,k b o q,rfl⟩,?_⟩;rcases r with⟨s,g,ws,T,oT,ts,d,w,y,t,z,f,v,c,u⟩|⟨g,vs,d,q⟩
 ·exact ϑ ⟨s,g,ws,T,oT,ts,k _ _ d,w,y,t,z,f,k _ _ v,c,u⟩
 ·exact ϕ ⟨g,vs,k _ _ d,q⟩
def Fq.keep{st}(L:Fq X a st H s g c i)(k:∀ b o,s.heap.get? b=BD o->h'.get? b=BD o):Fq X a st H { s with heap:=h' } g c i:=by
 obtain⟨r,s0,I,F⟩:=L;obtain⟨v,t,B,e,j,x,f,p,m,l,w⟩:=F.ex;cases e;have d:=j.keep k;obtain⟨C,h⟩:=LH F m p l j.1 d.1 (EC k) (yI I);exact⟨r,s0,I,⟨g,t,B,rfl,d,x,f,p,m,l,λn q=>let ⟨u,oD,y,z,A⟩:=w n q;⟨u,oD,y,k _ _ z,A⟩⟩,F.os,F.bare,C,h⟩
def oE(X:Cx)(x:Str)(a:Value):Prop:=X.mg x=BD a\/(X.mg x=V6/\bootBuiltins x=BD a/\x ≠ "__name__")
inductive Aw(T:Tb)(X:Cx):List bf->List Hd->Prop where
 |nil {r:List bf}:Aw T X r []
 |cons {x:Str} {np pos:Td} {cv:Value} {b₀:Stmt} {suite:List Stmt} {t:Nat->Option Bool} {g:Ev->M Fl} {r:List bf} {hs:List Hd} (hg:Gl X x) (hd:(x == ("__debug__" : Str))=Ε) (hm:oE X x cv) (ht:∀ c b,t c=BD b->W.exmOne X.K (yb (T.ca c)) cv=BD b)
   (hb:∀ e,Dk T (Cx.Mv X e) (b₀::suite) g) (hr:Aw T X r hs):Aw T X (.ExceptHandler (BD (Ϝ x np)) V6 (b₀::suite) pos::r) (⟨t,V6,g⟩::hs)
 |rE {x y:Str} {np nq tp pos:Td} {k:Nat} {cv cw:Value} {b₀:Stmt} {suite:List Stmt} {t:Nat->Option Bool} {g:Ev->M Fl} {r:List bf} {hs:List Hd} (hg:Gl X x) (hd:(x == ("__debug__" : Str))=Ε) (hm:oE X x cv) (hg':Gl X y) (hd':(y == ("__debug__" : Str))=Ε) (hm':oE X y cw) (ht:∀ c b,t c=BD b->W.exmAny X.K (yb (T.ca c)) [cv,cw]=BD b)
   (hb:∀ e,Dk T (Cx.Mv X e) (b₀::suite) g) (hr:Aw T X r hs):Aw T X (.ExceptHandler (BD (ϱ [Ϝ x np,Ϝ y nq] k tp)) V6 (b₀::suite) pos::r) (⟨t,V6,g⟩::hs)
 |dA {x n:Str} {i:Nat} {np pos:Td} {cv:Value} {b₀:Stmt} {suite:List Stmt} {t:Nat->Option Bool} {g:Ev->M Fl} {r:List bf} {hs:List Hd} (hg:Gl X x) (hd:(x == ("__debug__" : Str))=Ε) (hm:oE X x cv) (ht:∀ c b,t c=BD b->W.exmOne X.K (yb (T.ca c)) cv=BD b)
   (hN:X.N.Nodup) (hi:X.N[i]?=BD n) (hl:X.env.scope.names.lookup n=BD .local)
   (hb:∀ e,Dk T (Cx.Mv X e) (b₀::suite) g) (hr:Aw T X r hs):Aw T X (.ExceptHandler (BD (Ϝ x np)) (BD n) (b₀::suite) pos::r) (⟨t,BD i,g⟩::hs)
def hJ{st}(I:db X b st H s)(f:Gl X x)(e:(x == ("__debug__" : Str))=Ε)(a:oE X x d)(h:Q d s):wpAny (model X.prog X.w) X.A (Mb (Ϝ x c) X.env) Q E s:=by
 rcases a with a|⟨a,i,g⟩
 ·exact RB I f a h e
 ·exact gy I f a i h g e
def uV{D}(b:Rb T EN (zo T) j H (o.bind TH)$ zp X D):Rb T EN (zo T) j H o$ zp (Cx.Mv X e) D:=by
 cases o with
 |Eb=>exact b
 |ex x σ=>exact b
 |ok k σ=>
  intro a g d f h c;cases k with
  |nx i=>cases g with
   |nx st=>exact b a _ d f h c
   |_=>exact c.elim
  |rt i=>cases g with
   |rt st=>exact b a _ d f h c
   |_=>exact c.elim
  |bk i=>cases g with
   |bk st=>exact b a _ d f h c
   |_=>trivial
  |ct i=>cases g with
   |ct st=>exact b a _ d f h c
   |_=>trivial
  |xc i x=>trivial
def aP{st}(h:fh T b H c st) i:fh T b H (c.set i V6)$ st.set i V6:=by
 refine⟨by simpa using h.1,λj d q=>?_⟩;rw[pe]at q;by_cases a:i=j
 ·subst a;rw[ka rfl]at q;split at q<;>cases q
 ·rw[qa a]at q;obtain⟨v,e,f⟩:=h.2 j d q
  simp_all
def P1{D}(b:Rb T EN (zo T) k H (o.bind$ vW i)$ zp X D):Rb T EN (zo T) k H o$ zp (Cx.Mv X e) ⟨λst H=>D.nx (st.set i V6) H,D.rt,λst H=>D.bk (st.set i V6) H,λst H=>D.ct (st.set i V6) H⟩:=by
 cases o with
 |Eb=>exact b
 |ex x σ=>exact b
 |ok l σ=>
  intro a g d f h c;cases l with
  |nx j=>cases g with
   |nx st=>exact b a (Ϸ _) d f h$ aP c i
   |_=>exact c.elim
  |rt j=>cases g with
   |rt st=>exact b a _ d f h c
   |_=>trivial
  |bk j=>cases g with
   |bk st=>exact b a (.bk _) d f h$ aP c i
   |_=>trivial
  |ct j=>cases g with
   |ct st=>exact b a (.ct _) d f h$ aP c i
   |_=>trivial
  |xc j x=>trivial
def K9{st}(I:db X a st H s)(ό:X.N.Nodup)(R:X.N[i]?=BD n)(hl:X.env.scope.names.lookup n=BD .local)(T:s.heap.Ns X.env.locals m)(C:h'.Ns X.env.locals λy=>if y=n then w else m y)(d:Zc X.env.locals s.heap h'):db X a (st.set i V6) H { s with heap:=h',toks:=t }:=by
 have f:∀ b o,X.s₀.heap.get? b=BD o->b≠X.env.locals:=λb o e=>Aa$ Ja (ya e) I.ok.above;obtain⟨E,B,h⟩:=I.loc;have K:E=m:=by
  obtain⟨o,es,ep,ho,hd,hk,hf⟩:=B;obtain⟨F,M,L,ϋ,P,S,Q⟩:=T;funext y
  simp_all
 subst K;refine⟨I.ok,I.os,I.bare,⟨λb o e n x l=>(d.2 b$ f b o e).trans$ I.base.keep b o e n x l,λb o e n x l=>?_,I.base.free,λb o e l=>?_,I.base.Yj,I.base.zi,I.base.Bj⟩,⟨_,C,λj y v D g J=>?_⟩,λy c e=>?_,I.free,I.dg,λp V=>?_,yes I.Fc λb o u e q=>?_,by simpa using I.len⟩
 ·obtain⟨sl,q⟩:=I.base.slot b o e n x l;exact⟨sl,(d.2 b$ f b o e).trans q⟩
 ·obtain⟨F,q⟩:=I.base.there b o e l;exact⟨F,(d.2 b$ f b o e).trans q⟩
 ·rw[pe]at g;by_cases A:i=j
  ·subst A;rw[ka rfl]at g;split at g<;>cases g
  ·rw[qa A]at g;obtain⟨u,r,lk⟩:=h j y v D g J;refine⟨u,r,?_⟩;have W:y≠n:=λz=>A$ FM ό R$ z ▸ D;rcases lk with⟨k,q⟩|⟨k,c,q,z⟩
   ·exact ϑ ⟨k,by show (if y=n then w else E y)=BD u;rw[qa W];exact q⟩
   ·exact ϕ ⟨k,c,q,z.sameBut d$ I.TC y c q⟩
 ·obtain⟨v,z⟩:=I.cell y c e;exact⟨v,z.sameBut d$ I.TC y c e⟩
 ·obtain⟨Y,ϊ,G,q4⟩:=I.pin p V;exact⟨(d.2 p.1 G).trans Y,ϊ,G,q4⟩
 ·exact(d.2 b λz=>by rw[z,I.free]at e;cases e).trans q
set_option tactic.hygienic true in
def Ç{D}{st}{K}(h:Aw T X a0 hs)(hE:fh T K H ρ st)(hr:ud T K H σ)(d:Rb T EN (zo T) K H (Nv ρ x hs σ)$ zp X D) :
  ∀ s,Fq X c st H s l (T.cv x) (fE x.cls)->wpAny (model X.prog X.w) X.A (handleBy (yb l) X.env a0) (SP X c D) X.xe s:=by
 induction h with
 |nil=>exact d.elim
 |@cons y np pos cv ό F t g r hs hg hd hm ht hb C ih=>
  intro s L;have I:=L.inv;obtain⟨_,⟨o,ho,hc⟩,_⟩:=L.obj;refine vl (Hj$ hJ (pA I) hg hd hm ?_) (by intro q;cases q);unfold Nv at d;dsimp only at d;cases B:t x.cls with
  |none=>rw[B]at d;exact d.elim
  |some b=>
   rw[B]at d;have Y:W.Looks (model X.prog X.w) s.heap (uo$ yb l)$ T.cv x:=by rw[<-hc];exact(W.Looks.ld ho).andThen .now
   refine(W.exm_one I.Ai Y$ ht x.cls b B).here ?_;cases b with
   |false=>exact ih d s L
   |true=>
    exact Yu (L.next λs' ϋ=>(dc (hb (yb l) c s' st H D (pA ϋ.inv) ⟨K,ρ,σ,hE,hr,uV d⟩) (λf s2 q=>mW I.ok q) λ_ _ z=>z.elim))
 |@rE y z np nq tp pos k cv cw ό F t g r hs hg hd hm a6 a3 a7 ht hb C ih=>
  intro s L;have I:=L.inv;obtain⟨_,⟨o,ho,hc⟩,_⟩:=L.obj;refine vl (Hj$ wpAny_Tuple$ FF$ hJ (pA I) hg hd hm$ FF$ hJ (pA I) a6 a3 a7$ wpAny_items_nil ⟨by size_fits,?_⟩) (by intro q;cases q);unfold Nv at d;dsimp only at d;have kp:∀ q o,s.heap.get? q=BD o->(s.heap.push { cls:=Uh "tuple",data:=Ϧ [cv,cw].toArray }).get? q=BD o:=λ_ _ z=>ga _ z;cases B:t x.cls with
  |none=>rw[B]at d;exact d.elim
  |some b=>
   rw[B]at d;have Y:W.Looks (model X.prog X.w) s.heap (uo$ yb l)$ T.cv x:=by rw[<-hc];exact(W.Looks.ld ho).andThen .now
   refine(W.exm_tup2 (I.Ai.keeps kp) (Y.keeps kp) (Da s.heap rfl)$ ht x.cls b B).here ?_;cases b with
   |false=>exact ih d _$ L.keep kp
   |true=>
    refine Yu ((L.keep kp).next λs' ϋ=>?_);exact dc (hb (yb l) c s' st H D (pA ϋ.inv) ⟨K,ρ,σ,hE,hr,uV d⟩) (λf s2 q=>mW I.ok q) λ_ _ z=>z.elim
 |@dA y n i np pos cv ό F t g r hs hg hd hm ht hN hi hl hb C ih=>
  intro s L;have I:=L.inv;obtain⟨_,⟨o,ho,hc⟩,_⟩:=L.obj;refine vl (Hj$ hJ (pA I) hg hd hm ?_) (by intro q;cases q);unfold Nv at d;dsimp only at d;cases B:t x.cls with
  |none=>rw[B]at d;exact d.elim
  |some b=>
   rw[B]at d;have Y:W.Looks (model X.prog X.w) s.heap (uo$ yb l)$ T.cv x:=by rw[<-hc];exact(W.Looks.ld ho).andThen .now
   refine(W.exm_one I.Ai Y$ ht x.cls b B).here ?_;cases b with
   |false=>exact ih d s L
   |true=>
    refine codeAny_handlers_suite_as (L.next λs' ϋ=>?_);obtain⟨dd,H1,I1,a5,a4,G,b0⟩:=Fq.nE ϋ;have E:∀ b,b∈K->∃ u,H b=BD u:=λb z=>by obtain⟨u,M,_⟩:=hr.mem z;exact⟨u,M⟩
    have R:Cd K H K H1:=⟨⟨[],by simp⟩,λp xs e=>G _ _ e,λp o u e=>G _ _ e,λp o e n=>⟨⟨o,G _ _ e,ϑ rfl⟩,n⟩⟩
    have out:l ∉ K:=λz=>by obtain⟨u,M⟩:=E _ z;rw[ϋ.obj.1]at M;cases M
    have rp:Sa T K H1 (.Us x.cls)$ ϖ l:=by
     refine⟨l,dd,rfl,out,a5,λn q=>?_⟩;obtain⟨dN,z1,z2,z3⟩:=a4 n q;exact⟨dN,z1,λz=>(by obtain⟨u,M⟩:=E _ z;rw[z2]at M;cases M),z3⟩
    refine mG (X:=Cx.Mv X$ yb l) (v:=ϖ l) (pA I1) hN hi (ϑ hl) rfl (λs2 I2=>?_)$ ϕ hl;refine dc (hb (yb l) c s2 _ _ _ I2 ⟨K,ρ.set i$ BD$ .Us x.cls,σ,(hE.mono R).set i rp,hr.keep R (λa ha=>by obtain⟨u,M⟩:=E a ha;rw[G _ _ M,M])$ hr.tb.grow G,P1$ Rb.mono R d⟩) (λf s3 q=>?_) λ_ _ z=>z.elim;have ϊ:(X.env.scope.kind == .class || (X.env.scope.kind == .module && X.env.locals != X.env.globals))=Ε:=by rw[I.ok.kind];rfl
    have go:∀ {j:St} {P:Hp},db (Cx.Mv X$ yb l) c j P s3->(∀ V,db X c (j.set i V6) P V->SP X c D f V)->wpAny (model X.prog X.w) X.A (do bindName X.env n Bc;unbindBehindTheSuite X.env n pos) (λ_ a2=>SP X c D f a2) X.xe s3:=fun {j P} N k=>by
     have J:=UE I.ok N;obtain⟨m,a1,_⟩:=id J.loc;exact wpAny_nameGoes_keeps hl a1 ϊ λh4 v4 a8 a9=>k _$ K9 J hN hi hl a1 a8 a9
    cases f with
    |next=>obtain⟨j,P,N,S⟩:=q;exact go N λV Q=>⟨_,_,Q,S⟩
    |brk=>obtain⟨j,P,N,S⟩:=q;exact go N λV Q=>⟨_,_,Q,S⟩
    |cont=>obtain⟨j,P,N,S⟩:=q;exact go N λV Q=>⟨_,_,Q,S⟩
    |ret u=>obtain⟨v,j,P,N,r3,S⟩:=q;exact go N λV Q=>⟨v,_,_,Q,r3,S⟩
def WM{K}(B:X.stack=X.env::X.outer)(Y:X.env.frame=BD X.env.locals)
  (W:∀ b N,qo (model X.prog X.w) X.A X.env N->Dk T (Cx.VI X b N) d g) (ϊ:Aw T X (h::l) K):FS T X (.Try d (h::l) [] [] C)$ iE g K:=by
 rintro b s o H D I ⟨ό,j,G,V,hr,hp⟩;refine wpAny_Try_except (dc (W b _ zaD [] s o H D (V5 I)
  ⟨ό,j,G,V,hr,?_⟩) (λf s1 q=>?_) λM M z=>z)
 ·have a:Rb T EN _ ό H ((g j G).bind _) _:=hp;cases v:g j G with
  |Eb=>rw[v]at a;exact a
  |ex x J=>rw[v]at a;exact a
  |ok ϋ J=>
   rw[v]at a;intro c k r R n i;have m:=a.mono R;cases ϋ with
   |nx j=>cases k with
    |nx o=>exact m c _ r (ϰ _ _) n i
    |_=>exact i.elim
   |rt j=>cases k with
    |rt o=>exact m c _ r (ϰ _ _) n i
    |_=>exact i.elim
   |bk j=>cases k with
    |bk o=>exact m c _ r (ϰ _ _) n i
    |_=>trivial
   |ct j=>cases k with
    |ct o=>exact m c _ r (ϰ _ _) n i
    |_=>trivial
   |xc a1 x=>cases k with
    |xc a0 cls fd=>
     obtain⟨y,rfl,rfl⟩:=i;exact⟨λp0 H0 s0 e s' P F=>(İ (uE P) B Y F (Q:=λe p=>wpAny _ X.A _ _ X.xe p) λea E S L=>by subst S;exact Ç ϊ y n m E L)⟩
    |_=>trivial
 ·have t:=Ĕ q;cases f with
  |next=>exact kj t
  |brk=>exact t
  |cont=>exact t
  |ret u=>exact t
set_option tactic.hygienic true in
def ł(h:FS T X r$ Tf i f):FS T X r$ Tf i$ fk f:=by
 rintro p s st H D I ⟨t,y,c,F,u,P⟩;refine h p s st H D I ⟨t,y,c,F,u,?_⟩;have a:Rb T EN _ t H (xs y (Ud _) _ c) _:=P;show Rb T EN _ t H (xs y _ _ c) _;unfold xs Ud at a;unfold xs;cases e:f y c with
 |Eb=>rw[e]at a;exact a
 |ex x g=>
  rw[e]at a;unfold ig at a;dsimp only at a ⊢;by_cases k:g.take c.length=c
  ·rw[ka k]at a;intro K C z m w q;cases C with
   |xc J R ό=>
    obtain⟨G,A⟩:=ud.down u w m k;obtain⟨N,Q⟩:=q;refine a t _ z A G ⟨⟨N.1,λj d b=>?_⟩,Q⟩;obtain⟨v,n,o⟩:=N.2 j d b;obtain⟨v0,_,E⟩:=F.2 j d b;exact⟨v,n,Sa.down m.pre d v0 v E o⟩
   |_=>exact q.elim
  ·rw[qa k]at a;exact a.elim
 |ok d g=>
  rw[e]at a;unfold ig at a;dsimp only at a ⊢;by_cases k:g.take c.length=c
  ·rw[ka k]at a;cases B:fz c.length g 6 d with
   |none=>rw[B]at a;exact a.elim
   |some d'=>
    rw[B]at a;intro K C z m w q;cases C with
    |nx J=>
     obtain⟨G,A⟩:=ud.down u w m k;have l:=q;refine a t _ z A G ⟨by simpa using l.1,λj x b=>?_⟩;rw[pe]at b;by_cases L:i=j
     ·subst L;rw[ka rfl]at b;split at b
      ·rename_i S
       cases b;obtain⟨v,n,o⟩:=l.2 i d ⋯;exact⟨v,n,lS m.pre w 6 d d' v (by rw[u.len];exact B) o⟩
      ·cases b
     ·rw[qa L]at b;obtain⟨v,n,o⟩:=l.2 j x ⋯;obtain⟨v0,_,E⟩:=F.2 j x b;exact⟨v,n,Sa.down m.pre x v0 v E o⟩
    |_=>exact q.elim
  ·rw[qa k]at a;exact a.elim
noncomputable def NA:B'->Option (List Bool)
 |[]=>BD []
 | ϐ b::r=>(NA r).map (b::·)
 |_::_=>V6
noncomputable def Js:B'->Option (h8)
 |[]=>BD []
 | Z b::r=>(Js r).map (b::·)
 |_::_=>V6
theorem GP{T:Tb}{g:dl}{H:Hp}:∀ {a:B'} {vs:n'} {bs:List Bool},lb T g H a vs->NA a=BD bs->vs=bs.map ϫ
 |[],vs,bs,r,h=>by cases h;rw[lb]at r;exact r
 |d::a,vs,bs,r,h=>by
  obtain⟨v,w,rfl,c,f⟩:=r;cases d with
  |bl b=>
   obtain⟨i,e,rfl⟩:=La.mp h;rw[Sa]at c;subst c;rw[GP f e];rfl
  |_=>cases h
theorem GE{T:Tb}{g:dl}{H:Hp}:∀ {a:B'} {vs:n'} {bs:h8},lb T g H a vs->Js a=BD bs->vs=bs.map Ϥ
 |[],vs,bs,r,h=>by cases h;rw[lb]at r;exact r
 |d::a,vs,bs,r,h=>by
  obtain⟨v,w,rfl,c,f⟩:=r;cases d with
  |int b=>
   obtain⟨i,e,rfl⟩:=La.mp h;rw[Sa]at c;subst c;rw[GE f e];rfl
  |_=>cases h
def JE(xs:B'):M D:=λa=>match xs with
 |[x]=>(match (gi a x).bind NA with
  |some bs=>O (ϐ$ bs.all id) a
  |none=>Ϙ)
 |_=>Ϙ
def Dz(xs:B'):M D:=λa=>match xs with
 |[x]=>(match (gi a x).bind Js with
  |some bs=>O (Z bs.sum) a
  |none=>Ϙ)
 |_=>Ϙ
def OW(K:ϗ)(g:List Bool->Bool):n'->Hp->VK->Prop:=λxs H Q=>∃ p a,xs=[ϖ p]/\(Ue K H p (a.map ϫ)\/Tg K H p (a.map ϫ))/\Q (ϫ$ g a) H
def jQ(K:ϗ):n'->Hp->VK->Prop:=λxs H Q=>∃ (p:Addr) (bs:h8),xs=[ϖ p]/\(Ue K H p (bs.map Ϥ)\/Tg K H p (bs.map Ϥ))/\Q (Ϥ bs.sum) H
theorem PR:∀ {a:List Bool} {us:gV},ie (a.map ϫ) us->us=a.map fg
 |[],us,h=>by cases h;rfl
 |b::a,us,h=>by
  cases h with
  |cons r t=>cases r;rw[PR t];rfl
theorem LU{c:Type}(g:c->Bool)(d:c):∀ (a:List c),(List.range a.length).all (λi=>g$ a.getD i d)=a.all g
 |[]=>rfl
 |b::a=>by
  rw[gb,wq,vf,DC,vf];rw[<-LU g d a];congr 1
def Į{c:Ca}{w:Wa}{A:Ra}(d:List Bool):TruthOf c w A (λi v=>(d.map fg).toArray[i]?=BD v) (λi=>d.getD i Ε):=by
 intro i v s Q E f g;simp only[yi,Pa]at f;cases e:d[i]? with
 |none=>simp_all
 |some b=>
  rw[e]at f;cases f;have a:Q (d.getD i Ε) s:=g;rw[zt2,e]at a;exact md a
def bR{s:Shared}{a:Heap}(k:∀ b u,b ∉ [s.heap.objs.size]->(s.heap.push o).get? b=BD u->a.get? b=BD u):∀ b u,s.heap.get? b=BD u->a.get? b=BD u:=λb u e=>
 k b u (λz=>absurd (ya e) ⋯)$ ga _ e
def JU{st}(n:X.A.handled=V6)(I:db X d st H s)(g:Ue X.K H p vs\/Tg X.K H p vs)
  (h:∀ a It m St s2,ie vs a->Walks X.prog X.w X.A.in1 It m [It] a.toArray.size (λi v=>a.toArray[i]?=BD v) St->St 0 s2.heap->(∀ b∈m,b<s2.heap.objs.size)->
   (∀ h' l,(∀ b o,b ∉ [It]->s2.heap.get? b=BD o->h'.get? b=BD o)->db X d st H { s2 with heap:=h',toks:=l })->Q (yb It) s2):wpAny (model X.prog X.w) X.A.in1 (pyIter$ yb p) Q E s:=by
 rcases g with g|g
 ·obtain⟨a,k,pl,q⟩:=I.list g;have c:p<s.heap.objs.size:=by obtain⟨_,e,_⟩:=pl.isList;exact ya e
  refine Xh pl.isList$ h a s.heap.objs.size [s.heap.objs.size,p] _ _ k (Ij (A:=X.A.in1) n _ p (Aa c) a.toArray) ⟨⟨_,Da _ rfl,rfl,rfl⟩,pl.isList.push _⟩ (λb f=>?_) (λh' l j=>I.kept$ bR j);rw[Xc];simp at f;rcases f with rfl|rfl
  ·exact Jb _
  ·exact Kb c
 ·obtain⟨a,k,pl,q⟩:=I.tuple g;have c:=pl.lt;refine yA (pl)$ h a s.heap.objs.size [s.heap.objs.size,p] _ _ k (Walks.tuple (A:=X.A.in1) n _ p (Aa c) a.toArray) ⟨⟨_,Da _ rfl,rfl,rfl⟩,mJ (pl) _⟩ (λb f=>?_) (λh' l j=>I.kept$ bR j);rw[Xc];simp at f;rcases f with rfl|rfl
  ·exact Jb _
  ·exact Kb c
def ŉ(f:X.qc=Ĳ):Ao X (Ϣ "all") (OW X.K λa=>a.all id):=by
 rintro b s st H xs o Q I r ⟨p,a,rfl,h,q⟩;obtain⟨u,rfl,rfl⟩:=Cs r;refine call_all_walk (JU (I.ok.hd f) I h λj It m St s2 k W d n e=>?_);have c:=PR k;subst c;refine⟨_,_,_,_,_,_,λi=>a.getD i Ε,rfl,W,d,Į a,λh' l g=>⟨ϫ _,H,e h' l g,?_,q⟩⟩;rw[Ua,Ea];exact zb fg$ LU id Ε a
theorem zQ:∀ (a:h8) (n:Nat),n<=a.length->preSum (λi=>a.getD i 0) n=(a.take n).sum
 |a,0,_=>by simp[preSum]
 |a,n+1,h=>by
  rw[preSum,zQ a n ⋯,List.take_succ_eq_append_getElem ⋯,List.sum_append];simp[show n<a.length by lia]
def Χ(n:X.qc=Ĳ):Ao X (Ϣ "sum")$ jQ X.K:=by
 rintro g s st H xs B Q I r ⟨p,a,rfl,y,q⟩;obtain⟨u,rfl,rfl⟩:=Cs r;refine call_sum_walkG (JU (I.ok.hd n) I y λd It A St s2 h W k o m=>⟨_,_,_,_,_,_,λi=>a.getD i 0,rfl,W,k,o,λi v f=>?_,λh' z t' w=>⟨Ϥ a.sum,H,m h' z w,⟨t',?_⟩,q⟩⟩)
 ·simp at f;obtain⟨x,c,l⟩:=GI h f;rw[Pa]at c;cases e:a[i]? with
  |none=>simp_all
  |some b=>
   rw[e]at c;cases c;obtain⟨t,rfl⟩:=l
   simp_all
 ·have j:d.toArray.size=a.length:=by rw[Ua,<-h.length,Ea]
  rw[j,zQ a _$ ua _,Ec]
def fQ{g:B'->Option c}{a:c}(h:(gi d x).bind g=BD a):∃ b,gi d x=BD b/\g b=BD a:=Bf.mp h
def ı(j:T.K=X.K):Bs T (OW X.K λa=>a.all id) JE:=by
 intro E n H l xs vs Q r p h
 match xs with
 |[]=>trivial
 |[x]=>
  obtain⟨v,w,rfl,k,d⟩:=p;rw[lb]at d;subst d;unfold JE at h;cases e:(gi l x).bind NA with
  |none=>simp only[e]at h;exact h.elim
  |some a=>
   simp only[e]at h;obtain⟨m,f,g⟩:=fQ e;obtain⟨b,vs,rfl,i,c⟩:=oA r k f;rw[j,GP i g]at c;exact⟨b,a,rfl,c,Rb.here h r (by rw[Sa])⟩
 |_::_::_=>exact h.elim
def zzt(i:T.K=X.K):Bs T (jQ X.K) Dz:=by
 intro E m H k xs vs Q r p h
 match xs with
 |[]=>trivial
 |[x]=>
  obtain⟨v,w,rfl,j,c⟩:=p;rw[lb]at c;subst c;unfold Dz at h;cases e:(gi k x).bind Js with
  |none=>simp[e]at h;exact h.elim
  |some bs=>
   simp[e]at h;obtain⟨l,d,f⟩:=fQ e;obtain⟨b,vs,rfl,g,a⟩:=oA r j d;rw[i,GE g f]at a;exact⟨b,bs,rfl,a,Rb.here h r (by rw[Sa])⟩
 |_::_::_=>trivial
noncomputable def Om(a:h8):h8:=a.foldl GA []
def NL a:Kf (λi=>a.getD i 0) a.length=Om a:=by
 unfold Kf Om;congr 1;apply Of;intro i;by_cases h:i<a.length<;>simp[h]
def CG(x:D):M D:=λa=>match (Lf a x).bind Js with
 |some ns=>if ns.length<=Dg then O (Z (Om ns).length) a else Ϙ
 |none=>Ϙ
def w1(K:ϗ):n'->Hp->VK->Prop:=λxs H Q=>∃ (p:Addr) (ns:h8),xs=[ϖ p]/\Ue K H p (ns.map Ϥ)/\ns.length<=Dg/\∀ l,H l=V6->Q (ϖ l) (Wb H l (.set (λk=>(Om ns).any (·== k)) (Om ns).length))
def nQ(h:n<=Dg):n+1<scanBound:=Vu (qx h) ⋯
def õ(i:X.qc=Ĳ):Ao X (Uh "set")$ w1 X.K:=by
 rintro g s n H xs v Q I r ⟨p,f,rfl,l,k,q⟩;obtain⟨u,rfl,rfl⟩:=Cs r;obtain⟨a,h,pl,m⟩:=I.list l;have c:a.length=f.length:=by rw[<-h.length,Ea]
 refine call_set_list (I.ok.hd i) pl.isList (zev h) (by rw[Ua,c];exact nQ k) λh' t d j=>?_;rw[show a.toArray.size=f.length by rw[Ua,c],NL]at d;refine⟨ϖ s.heap.objs.size,_,I.laid (λb o e=>j b o (ya e) e) (ua _) ?_,rfl,q _$ I.Fc.fresh$ ua _⟩;exact d
def o7:Ao X (Ϣ "len") (λxs H Q=>∃ p S n,xs=[ϖ p]/\H p=BD (.set S n)/\Q (Ϥ n) H):=by
 rintro a s st H xs w Q I r ⟨p,S,n,rfl,g,q⟩;obtain⟨u,rfl,h⟩:=Cs r;cases h;obtain⟨o,j,i,t,b,c,d,k,l,m,e,f⟩:=(I.Fc p _ g)
 have v:scanBound<=2 ^ 62:=by decide
 refine call_len_set b c d e ⋯ ⟨Ϥ n,H,I.tok _,⟨_,by rw[f]⟩,q⟩
def K0(hK:T.K=X.K)(J:X.qc=Ĳ)(N:Gl X "len")(ό:X.mg "len" = V6)(n:Gl X "set")(q:X.mg "set" = V6)(L:FE T X e f)
  (y:va [e] X.env=(Ε,Mb e X.env)::va [] X.env:=by rfl) (r:(lc b$ va [] X.env).any (·.1)=Ε:=by rfl)
  (i:va [ϡ (Ϝ "set" t) [e] [] b] X.env=(Ε,Mb (ϡ (Ϝ "set" t) [e] [] b) X.env)::va [] X.env:=by rfl) (g:(lc k$ va [] X.env).any (·.1)=Ε:=by rfl) :
  FE T X (ϡ (Ϝ "len" p) [ϡ (Ϝ "set" t) [e] [] b] [] k)$ gf CG f:=by
 intro j s ϋ H Q I h;refine GG o7 N ό sx (Zt (BM (õ J) n q rfl (Zt L fx y) ⋯ ⋯ y r) fx i) ⋯ ⋯ i g j s ϋ H Q I ?_;obtain⟨V,W,σ,G,R,P⟩:=h;refine⟨V,W,σ,G,R,P.bind λd w u v Y D ϊ z S c=>?_⟩;unfold CG at c;cases m:(Lf w d).bind Js with
 |none=>rw[m]at c;exact c.elim
 |some ns=>
  rw[m]at c;dsimp only at c;by_cases o:ns.length<=Dg
  ·rw[ka o]at c;obtain⟨ys,A,B⟩:=Bf.mp m;obtain⟨a,vs,rfl,E,F⟩:=z.ls S A;have C:=GE F B;subst C;exact⟨a,ns,rfl,Ue.of E,o,λl x=>⟨l,_,_,rfl,Mf,c u _ _ (ek x) (z.fresh x) (by rw[Sa])⟩⟩
  ·rw[qa o]at c;exact c.elim
def nu(xs:B')(lo a:Option Int):B':=(xs.drop$ HT.Sf xs.length 0 lo).take$ HT.Sf xs.length xs.length a - HT.Sf xs.length 0 lo
def ZZ{xs}{lo a}(h:HT.Sf xs.length 0 lo=0/\HT.Sf xs.length xs.length a=xs.length):nu xs lo a=xs:=by
 unfold nu;rw[h.1,h.2];simp
def fK{xs}(r:lb T c H xs b) lo a:lb T c H (nu xs lo a)$ HB b lo a:=by
 unfold nu HB;rw[r.length];exact lb.take _$ lb.drop _ r
end L4
namespace HT
open Spec
variable{prog:Ca}{w:Wa}{A:Ra}{E:Value->Shared->Prop}{s:Shared}
def qj{lo d}(b:IsTup s.heap t a)(j:s.heap.IsSliceOf i k l Bc)(pl:yk k lo)(p:yk l d)
  (v:Sf a.size 0 lo=0/\Sf a.size a.size d=a.size) (h:Q (yb t) s):wpAny (model prog w) A (Yh (yb t)$ yb i) Q E s:=by
 obtain⟨n,g,f,m⟩:=id j;have e:s.TypeIs (yb i) "slice":=⟨n,g,f⟩
 unfold Yh;try with_reducible refine Yb ?_
 refine aa$ AC b.typeIs ⋯ ?_;refine aa$ Ld b.typeIs pc
  (Jc pc b.typeIs Ry ?_$ uA _ _)
 show wpAny _ _ (gg _ >>= _) _ _ s;refine aa$ uZ b$ aa$ Zi e$ aa$ qQ j pl p ?_;have c:(((Sf a.size 0 lo):Int) == 0 && (1:Int) == 1 && (Sf a.size a.size d - Sf a.size 0 lo) == a.size)=Ĳ:=by
  simp_all
 show wpAny _ _ (if (((Sf a.size 0 lo):Int) == 0 && 1 == 1 && (Sf a.size a.size d - Sf a.size 0 lo) == a.size)=Ĳ then _ else _) _ _ s;rw[ka c];obtain⟨o,r,q,u⟩:=id b;refine aa$ aa$ Zi b.typeIs$ da$ aa$ mm ?_;first
  |exact da _
  |exact da _
  |exact aa$ da$ da ⟨_,rfl,da h⟩
end HT
namespace L4
open Spec L2
def iU(K:ϗ):V->Option Int->Option Int->Hp->VK->Prop:=λx lo b H Q=>∃ a xs,x=ϖ a/\Tg K H a xs/\(HT.Sf xs.length 0 lo=0/\HT.Sf xs.length xs.length b=xs.length)/\Q (ϖ a) H
def L8:Hv X$ iU X.K:=by
 rintro e s n H x v o p lo j m Q I i f pl h ⟨a,xs,rfl,g,k,q⟩;cases i;obtain⟨b,r,d,l⟩:=I.tuple g;have c:b.toArray.size=xs.length:=by rw[Ua];exact r.length.symm
 exact⟨"tuple",_,pc.lookup,d.typeIs,HT.qj d f pl h ⋯ ⟨ϖ a,H,I,rfl,q⟩⟩
abbrev PF:=Option$ Ev->M D
noncomputable def gM(d:D):M$ Option Int:=match d with
 | Z i=>ret (BD i)
 |_=>Eb
def Zz(p:PF):Ev->M (Option Int):=match p with
 |none=>λb=>ret V6
 |some f=>λa=>Tc (f a) gM
def tP(T:Tb)(X:Cx)(f:Ev->M (Option Int)):TO:=λd H Q=>∃ c e g,fh T c H e d/\ud T c H g/\Rb T (XE X d) (λh h a b=>b=a) c H (f e g) Q
abbrev FO(T:Tb)(X:Cx)(e:Option Oa)(p:PF):Prop:=PO X e$ tP T X$ Zz p
theorem P0:FO T X V6 V6:=by
 rintro a s d H Q I ⟨f,g,h,e,c,b⟩;exact v8 a s d H Q I$ Rb.here b c rfl
def l5(g:FE T X e f):FO T X (BD e)$ BD f:=by
 intro a s n H Q I h;refine Y3 g a s n H Q I ?_;obtain⟨o,q,r,c,k,j⟩:=h;refine⟨o,q,r,c,k,Rb.bind j λd t p v u x w m l b=>?_⟩;cases d with
 |int i=>exact⟨i,Mq l,Rb.here b m rfl⟩
 |_=>exact b.elim
def vX(x:D)(lo b:Option Int):M D:=λa=>match x with
 | ώ xs=>O (ώ$ nu xs lo b) a
 | ϥ ns=>O (ύ$ nu (ns.map Z) lo b) a
 |x=>(match Lf a x with
  |some xs=>O (ύ$ nu xs lo b) a
  |none=>Ϙ)
def Ku(x:D)(lo:Option Int)(a:Option Int):M D:=vX x lo a
def UJ(x:D)(a:M$ Option Int)(lo:Option Int):M D:=Tc a$ Ku x lo
def kL(lo a:M$ Option Int)(x:D):M D:=Tc lo$ UJ x a
def yF(f:Ev->M D)(lo b:PF):Ev->M D:=λa=>Tc (f a)$ kL (Zz lo a)$ Zz b a
def ĭ{lo ϋ}{pl V}(ϊ:T.K=X.K)(he:FE T X e f)(hl:FO T X lo pl)(hh:FO T X ϋ V):FE T X (Ϟ e (.Slice lo ϋ V6 A) B)$ yF f pl V:=by
 intro t s W H Q I h;refine ŀ (Hv.or q7$ Hv.or L8 OZ) he hl hh t s W H Q I ?_;obtain⟨μ,N,σ,y,hr,hp⟩:=h;refine⟨μ,N,σ,y,hr,hp.bind λd ό G v H1 l R r1 q1 p1=>⟨G,N,ό,y.mono R,r1,p1.bind λl P J g H2 l S r2 q2 A=>⟨J,N,P,(y.mono R).mono S,r2,A.bind λu k L i x l Y w q3 c=>?_⟩⟩⟩;have C:=q2;have E:=q3;subst C;subst E;have rd:=Sa.mono Y _ _$ Sa.mono S _ _ q1;have b:∀ ys,Lf k d=BD ys->Rb T (XE X W) (Sa T) L x (O (ύ$ nu ys g i) k) Q->oR X.K v g i x Q\/iU X.K v g i x Q\/XT X.K v g i x Q:=λys o p4=>by
  obtain⟨a,vs,rfl,m,j⟩:=w.ls rd o;exact ϕ$ ϕ ⟨a,vs,rfl,Ue.of m,λp r=>vI p4 w (fK j g i) r⟩
 cases d with
 |Qa xs=>
  have F:=rd;obtain⟨p,vs,rfl,m,j⟩:=rd;by_cases z:HT.Sf vs.length 0 g=0/\HT.Sf vs.length vs.length i=vs.length
  ·refine ϕ$ ϑ ⟨p,vs,rfl,Tg.of m,z,Rb.here c w ?_⟩;rw[ZZ (by rw[j.length];exact z)];exact F
  ·exact ϑ ⟨p,vs,rfl,Tg.of m,z,λq r=>xC c w (fK j g i) r⟩
 |ref n=>
  unfold Ku vX at c;dsimp only at c;cases o:Lf k _ with
  |none=>rw[o]at c;exact c.elim
  |some ys=>rw[o]at c;exact b ys o c
 |ra ys=>exact b ys rfl c
 |Ff ns=>
  obtain⟨p,rfl,m⟩:=rd;have j:=m.seq;rw[ϊ]at j;exact ϕ$ ϕ ⟨p,_,rfl,j,λp r=>vI c w (fK (kE ns) g i) r⟩
 |_=>exact c.elim
def ZM(K:ϗ)(j:Str->Option Value)(x:Str)(e:Stmt)(g:ad)(i:gV):Prop:=
 ∃ f b,j x=BD (yb f)/\ϻ K (yb f)=Ĳ/\(∃ (k:Value) (l:Option Addr) (h kV c m:Value) (an:Option Addr) (a ct:Value) (d:Array (Option Value)),
  b=ϭ x x (yl e) (Pj e) (yf e) h kV c m an a ct/\K.lookup f=BD ⟨k,l,.func b,d⟩/\W.codeIn K a x=Ĳ)/\Er K b g []/\Er K b g i
def Ct(T:Tb)(P:Ca)(w:Wa)(c:Str->Option Value)(a:Heap)(k:Nat)(x:Str)(ps:ad)(d:gV)(e:B'->M D):Prop:=
 ∃ f b,c x=BD (yb f)/\ϻ T.K (yb f)=Ĳ/\Er T.K b ps []/\Er T.K b ps d/\jh P w T.K c a (jl P w) k f b ps (Ho T ps.length e)
section
def W0(h:Ct T X.prog X.w X.mg X.base k x ps n g)(o:T.K=X.K)(u:Qd k X.A)(s:Gl X x)
  (q:FA T X (e::a) i) (c:(x == ("__debug__" : Str))=Ε:=by decide) (r:va (e::a) X.env=(Ε,Mb e X.env)::va a X.env:=by rfl) (d:(lc b$ va a X.env).any (·.1)=Ε:=by rfl) :
  FE T X (ϡ (Ϝ x p) (e::a) [] b)$ lf ps.length g [] i:=by
 obtain⟨f,v,t,m,l,_,j⟩:=h;rw[o]at m j l;exact gN j u s t m l Ϡ (λy y=>lb.nil) q c r d
def V7(h:Ct T X.prog X.w X.mg X.base k x ps l m)(s:T.K=X.K)(z:Qd k X.A)(v:Gl X x)(B:ie b l)(i:∀ C H,lb T C H a b)
  (t:FA T X (e::c) n) (g:(x == ("__debug__" : Str))=Ε:=by decide) (u:va (e::c) X.env=(Ε,Mb e X.env)::va c X.env:=by rfl) (j:(lc d$ va c X.env).any (·.1)=Ε:=by rfl) :
  FE T X (ϡ (Ϝ x p) (e::c) [] d)$ lf ps.length m a n:=by
 obtain⟨f,E,y,r,_,q,o⟩:=h;rw[s]at r o q;exact gN o z v y r q B i t g u j
def ŕ:ie [V.Zb] [Bc]:=ϝ rfl Ϡ
def l7 a H:lb T a H [Ϛ] [V.Zb]:=lb.cons (by rw[Sa]) lb.nil
variable{P:Ca}{w:Wa}{K:ϗ}{mg:Str->Option Value}{base:Heap}{ca:Nat->Addr}{tx:Tx}
def ygr{st}(h:ZM K mg x st ps d)(S:nc N ps$ yf st)
  (l:∀ f a A b s H E,Qd k (A.deeper$ ug x (yf st) s.heap.objs.size f a)->Dk ⟨K,ca,tx⟩ (xp (jl P w) P w K mg base N x (yf st) f a A b s H E) (Pj st) g) :
  Ct ⟨K,ca,tx⟩ P w mg base (k+1) x ps d$ dh N.length g:=by
 obtain⟨f,r,n,m,⟨t,u,q,kV,j,v,p,a,ct,o,rfl,lk,c⟩,e,i⟩:=h;exact⟨f,_,n,m,e,i,qB lk c S$ l f a⟩
def Ct.Ud{k}{x}{ps}{a}{b}(h:Ct T P w mg base k x ps a b):Ct T P w mg base k x ps a (λc=>L4.Ud$ b c):=by
 obtain⟨f,d,e,g,i,j,l⟩:=h;exact⟨f,d,e,g,i,j,WN l⟩
def ywx{st}{B i w}{kV e j b ct}(X:K.In h)(G:h.Ns mainGlobals mg)
  (z:∀ t kV e j i b ct s o n g,s.heap.get? t=BD o->o.data=Ϧ m.toArray n->((g++[]).length=ps.length->Xe s (ϭ x x (yl st) (Pj st) (yf st) (yb t) kV e j i b ct) ⟨g,[]⟩ (ps.zip$ g++[]))/\
   ((g++m).length=ps.length->Xe s (ϭ x x (yl st) (Pj st) (yf st) (yb t) kV e j i b ct) ⟨g,[]⟩ (ps.zip$ g++m)))
  (a:W.nsIn K mainGlobals x=BD (BD$ yb f)) (l:K.lookup f=BD ⟨A,B,.func$ ϭ x x (yl st) (Pj st) (yf st) (yb t) kV e j i b ct,p⟩)
  (c:W.codeIn K b x=Ĳ) (k:ϻ K (yb f)=Ĳ) (d:K.lookup t=BD ⟨v,w,Ϧ m.toArray u,y⟩):ZM K mg x st ps m:=
 ⟨f,_,W.mg_of X G a,k,⟨A,B,_,kV,e,j,i,b,ct,p,rfl,l,c⟩,λs g q r=>(z t kV e j i b ct s _ u g (q _ _ d) rfl).1 r,λs g q r=>(z t kV e j i b ct s _ u g (q _ _ d) rfl).2 r⟩
end
noncomputable def GH(l:List$ Nat × Bool):Nat->Option Bool:=λc=>l.lookup c
abbrev SS:gV:=[Uh "ValueError",Uh "Exception",Uh "BaseException",Uh "object"]
def KI(K:ϗ)(a:Nat->Addr)(b:Value)(l:List$ Nat × Bool):Prop:=∀ p∈l,W.exmOne K (yb$ a p.1) b=BD p.2
def X1{K}:KI K a b []:=λc h=>nomatch h
def OU{K}(h:W.exmOne K (yb$ a c) d=BD b)(r:KI K a d l):KI K a d$ (c,b)::l:=λp e=>by
 rcases za.mp e with rfl|e
 ·exact h
 ·exact r p e
theorem AU:∀ {l:List$ Nat × Bool} {c:Nat} {b:Bool},l.lookup c=BD b->(c,b)∈l
 |[],_,_,h=>by simp at h
 |(n,d)::r,c,b,h=>by
  rw[Ib]at h;cases e:c == n with
  |true=>simp_all
  |false=>rw[e]at h;exact ja _$ AU h
def y4{K}(h:KI K a d l):∀ c b,GH l c=BD b->W.exmOne K (yb$ a c) d=BD b:=λc b e=>h (c,b)$ AU e
def wh.zd(h:wh T P w c a k x ps b):wh T P w c a k x ps$ L4.zd b:=by rw[Rs];exact h
def Ct.zd(h:Ct T P w d a k x ps b c):Ct T P w d a k x ps b$ L4.zd c:=by rw[Rs];exact h
section
variable{μ:dl}{H:Hp}{σ:Fa}
def ak(σ:Fa):D->Option (Nat × List (Str × D))
 | ϸ c ns ds=>if ns.length=ds.length then BD (c,ns.zip ds)else V6
 | U n=>match σ[n]? with
  |some (ϔ c a)=>BD (c,a)
  |_=>V6
 |_=>V6
theorem ES:∀ {b:ad} {ds:B'} {a:List$ Str × V},a.map (·.1)=b->lb T μ H ds (a.map (·.2))->js T μ H (b.zip ds) a
 |[],ds,[],_,h=>by
  cases ds with
  |nil=>exact Ϡ
  |cons d ds=>have:=h.length;simp at this
 |[],ds,f::a,e,_=>by simp at e
 |n::b,ds,[],e,_=>by simp at e
 |n::b,[],f::a,e,h=>by have:=h.length;simp at this
 |n::b,d::ds,f::a,e,h=>by
  simp at e;obtain⟨v,r,c,i,j⟩:=h;simp at c;obtain⟨g,rfl⟩:=c;exact ϝ ⟨e.1.symm,by rw[g];exact i⟩$ ES e.2 j
def mz(r:ud T μ H σ)(h:Sa T μ H d v)(e:ak σ d=BD (c,j)):∃ a b vs,v=ϖ a/\H a=BD (.ub (T.ca c) b vs)/\js T μ H j vs:=by
 cases d with
 |obj l ns ds=>
  unfold ak at e;by_cases k:ns.length=ds.length
  ·simp[k]at e;obtain⟨rfl,rfl⟩:=e;obtain⟨a,b,vs,rfl,_,f,g,q⟩:=h;exact⟨a,b,vs,rfl,f,ES g q⟩
  ·simp[k]at e
 |ref n=>
  unfold ak at e;dsimp only at e;cases i:σ[n]? with
  |none=>simp_all
  |some o=>
   rw[i]at e;obtain⟨a,rfl,_,p⟩:=r.at h i;cases o with
   |ub l m=>cases e;obtain⟨b,vs,f,g⟩:=p;exact⟨a,b,vs,rfl,f,g⟩
   |ra _=>cases e
   |Xa _=>cases e
   |He _=>cases e
   |Vc _=>cases e
 |_=>cases e
theorem QA{f:Str}:∀ {b:List$ Str × D} {vs:List$ Str × V},js T μ H b vs->(∀ d,b.lookup f=BD d->∃ v,vs.lookup f=BD v/\Sa T μ H d v)/\(b.lookup f=V6->vs.lookup f=V6)
 |_,_,Ϡ=>⟨λd e=>by simp at e,λo=>rfl⟩
 |(g,x)::b,(n,v)::vs,ϝ ⟨e,h⟩ t=>by
  have c:=e;subst c;obtain⟨i,j⟩:=QA t;by_cases k:(f == g)=Ĳ
  ·refine⟨λd q=>?_,λq=>?_⟩;all_goals simp_all
  ·have a:(f == g)=Ε:=by simpa using k
   refine⟨λd q=>?_,λq=>?_⟩
   ·rw[Ib,a]at q;obtain⟨w,l,m⟩:=i d q;exact⟨w,by rw[Ib,a];exact l,m⟩
   ·rw[Ib,a]at q;rw[Ib,a];exact j q
def ZG(T:Tb)(a:i')(f:Str):Prop:=∀ c,a.contains c=Ĳ->Qr T.K (T.ca c)/\Bw T.K (T.ca c) f
def Lc(a:i')(f:Str)(x:D):M D:=λσ=>match ak σ x with
 |some (c,b)=>if a.contains c=Ĳ then (match b.lookup f with
  |some d=>O d σ
  |none=>Ϙ)else Ϙ
 |none=>Ϙ
def ydb(E:T.K=X.K)(G:ZG T k f)(J:FE T X e g)
  (F:Dd e f X.env (Mb e X.env)=Mb e X.env:=by rfl):FE T X (ϟ e f n)$ gf (Lc k f) g:=by
 intro j s P H Q I h;refine Ī J F j s P H Q I ?_;obtain⟨μ,S,σ,C,N,L⟩:=h;refine⟨μ,S,σ,C,N,Rb.bind L λd o R v ϋ D V r ό b=>?_⟩;unfold Lc at b;cases l:ak o d with
 |none=>rw[l]at b;exact b.elim
 |some p=>
  obtain⟨c,u⟩:=p;rw[l]at b;dsimp only at b;by_cases i:k.contains c=Ĳ
  ·rw[ka i]at b;obtain⟨a,t,vs,rfl,x,z⟩:=mz r ό l;cases m:u.lookup f with
   |none=>rw[m]at b;exact b.elim
   |some y=>
    rw[m]at b;obtain⟨w,A,B⟩:=(QA z).1 y m;obtain⟨k1,q⟩:=G c i;rw[E]at k1 q;exact⟨a,_,t,vs,w,rfl,x,k1,q,A,Rb.here b r B⟩
  ·rw[qa i]at b;exact b.elim
noncomputable def zl(f:Str)(v:D):List (Str × D)->List (Str × D)
 |[]=>[(f,v)]
 |(g,x)::r=>if g=f then (g,v)::r else (g,x)::zl f v r
theorem qO{f:Str}{d:D}{v:V}(c:Sa T μ H d v):∀ {b:List$ Str × D} {vs:List$ Str × V},js T μ H b vs->js T μ H (zl f d b) (dn f v vs)
 |_,_,Ϡ=>ϝ ⟨rfl,c⟩ Ϡ
 |(g,x)::b,(j,w)::vs,ϝ ⟨e,h⟩ t=>by
  have i:=e;subst i;unfold zl dn;by_cases a:g=f
  ·rw[ka a,ka a];exact ϝ ⟨rfl,c⟩ t
  ·rw[qa a,qa a];exact ϝ ⟨rfl,h⟩$ qO c t
def js.mono(e:Cd μ H a b)(h:js T μ H c d):js T a b c d:=Paired.Jp h λf f q=>⟨q.1,Sa.mono e _ _ q.2⟩
def js.length(h:js T μ H a b):a.length=b.length:=Paired.length h
def sB(b:i')(f:Str)(d x:D):M Unit:=λσ=>match x with
 | U n=>(match σ[n]? with
  |some (ϔ c a)=>if (b.contains c && decide (a.length<1000))=Ĳ then O () (σ.set n$ ϔ c$ zl f d a)else Ϙ
  |_=>Ϙ)
 |_=>Ϙ
def gz(c:Ev)(b:i')(f:Str)(d x:D):M Fl:=λσ=>match sB b f d x σ with
 | O _ a=>O (ϙ c) a
 |_=>Ϙ
def IK(a:Ev)(b:i')(f:Str)(c:Ev->M D)(d:D):M Fl:=xs a (c a)$ gz a b f d
def im(b:i')(f:Str)(d c:Ev->M D):Ev->M Fl:=λa=>xs a (d a)$ IK a b f c
def œ(R:T.K=X.K)(S:ZG T m f)(ϋ:FE T X o C)(hv:FE T X e E)
  (ϊ:Ng e (BD$ ϟ o f h) k.line X.env=pure Ε:=by rfl):FS T X (Ϻ [ϟ o f h] e k)$ im m f E C:=by
 intro j s ό H D I W;refine X4 ϋ hv ϊ j s ό H D I ?_;obtain⟨μ,P,σ,i,Y,V⟩:=W;refine⟨μ,P,σ,i,Y,V.xs i λd w u v H1 d q r1 q1 p1=>⟨u,P,w,i.mono q,r1,p1.xs (i.mono q) λx y l vo A d B N q2 b=>?_⟩⟩;unfold gz sB at b;cases x with
 |ref n=>
  dsimp only at b;cases r:y[n]? with
  |none=>rw[r]at b;exact b.elim
  |some ob=>
   rw[r]at b;cases ob with
   |ra _=>exact b.elim
   |Xa _=>exact b.elim
   |He _=>exact b.elim
   |Vc _=>exact b.elim
   |ub c Q=>
    dsimp only at b;by_cases g:(m.contains c && decide (Q.length<1000))=Ĳ
    ·rw[ka g]at b;rw[Ga,Xb]at g;obtain⟨a,rfl,J,p,vs,F,G⟩:=N.at q2 r;have ex:Cd l A l$ Wb A a$ .ub (T.ca c) p$ dn f v vs:=Ss (wa J) F (λd z=>by cases z) (λd d z=>by cases z);have t:=N.write (ob:=ϔ c _) J ⟨p,_,Mf,qO (Sa.mono ex _ _$ Sa.mono B _ _ q1)$ js.mono ex G⟩;obtain⟨k1,L⟩:=S c g.1;rw[R]at k1 L;exact⟨a,_,p,vs,rfl,F,k1,L,by rw[<-G.length];exact g.2,b _ (Ϸ ό) _ t.1 t.2$ (i.mono q).mono B |>.mono t.1⟩
    ·rw[qa g]at b;exact b.elim
 |_=>exact b.elim
noncomputable def Jy(n:Nat):Vi D->Vi D
 | O Ϛ a=>O (U n) a
 | O _ _=>Ϙ
 | .ex x a=>.ex x a
 | Ϙ=>Ϙ
def Vk(c n:Nat)(b:B'->M D)(a:B'):M D:=λσ=>if a.length+1=n then Jy σ.length (b (U σ.length::a)$ σ++[ϔ c []])else Ϙ
def Xp(c n:Nat)(a:B'->M D)(b:Ev->M (B')):Ev->M D:=λd=>Tc (b d)$ Vk c n a
def wr(T:Tb)(P:Ca)(w:Wa)(e:Str->Option Value)(a:Heap)(k:Nat)(f:Addr)(ps:ad)(d:B'->M D):Prop:=
 ∃ c,(∀ b:gV,b.length=ps.length->bindArgs c ⟨b,[]⟩=pure (ps.zip b))/\jh P w T.K e a (jl P w) k f c ps (Ho T ps.length d)
def fT(T:Tb)(P:Ca)(w:Wa)(b:Str->Option Value)(a:Heap)(k:Nat)(x:Str)(c:Nat)(ps:ad)(d:B'->M D):Prop:=
 ∃ f,b x=BD (yb$ T.ca c)/\Mk T.K (T.ca c) f/\wr T P w b a k f ps d
def sQ{ps:ad}(r:ud T μ H σ)(q:lb T μ H j vs)(p:Rb T E (Sa T) μ H (Vk c ps.length m j σ) Q) :
  ∀ x a,H x=V6->H a=V6->a≠x->Ho T ps.length m (ϖ x::(vs++[])) (Wb (Wb H a$ .own x) x$ .ub (T.ca c) a []) (λv w=>v=.Zb/\Q (ϖ x) w) E:=by
 intro x a A h o;unfold Vk at p;by_cases n:j.length+1=ps.length
 ·rw[ka n]at p;have b:Cd μ H μ$ Wb H a$ .own x:=ek h;have t:ud T μ (Wb H a$ .own x) σ:=r.fresh h;have i:Wb H a (.own x) x=V6:=by unfold Wb;rw[qa$ Jd o];exact A
  have f:Cd μ _ _$ Wb _ x$ .ub (T.ca c) a []:=wu i;have C:ud T _ _$ σ++[ϔ c []]:=t.push i ⟨a,[],Mf,Ϡ⟩;refine⟨μ++[x],σ++[ϔ c []],U σ.length::j,lb.cons (GB t) (by rw[Oe];exact lb.mono (b.trans f) _ _ q),by rw[gb];exact n,C,?_⟩;cases e:m _ _ with
  |Eb=>rw[e]at p;exact p.elim
  |ex y u=>rw[e]at p;exact λg l k s=>p g l ((b.trans f).trans k) s
  |ok d u=>
   rw[e]at p;intro g v l k s B;have z:d=Ϛ:=by cases d<;>first|rfl|exact p.elim
   subst z;exact⟨B,p g _ l ((b.trans f).trans k) s$ Sa.mono k _ _$ GB t⟩
 ·rw[qa n]at p;exact p.elim
def aQ{st}(M:Mk X.K C f)(F:jh X.prog X.w X.K X.mg X.base (jl X.prog X.w) k f m ps q)(J:Qd (k+1) X.A)(D:Er X.K m ps j)(E:ie c j)
  (I:db X b st H s) (r:ie vs d)
  (h:∀ x l,H x=V6->H l=V6->l≠x->q (ϖ x::(vs++c)) (Wb (Wb H l$ .own x) x$ .ub C l []) (λv t=>v=.Zb/\Q (ϖ x) t) (XE X st)) :
  wpAny (model X.prog X.w) X.A (call (yb C) d) (EP X b st Q) X.xe s:=by
 have o:=h _ s.heap.objs.size (I.Fc.fresh$ re _) (I.Fc.fresh$ ua _)$ Aa$ Jb _;have i:=db.made (C:=C) I;have p:ie (ϖ _::(vs++c))$ yb (s.heap.objs.size+1)::(d++j):=ϝ rfl$ r.append E;have G:(yb (s.heap.objs.size+1)::d++j).length=ps.length:=by
  have e:=p.length;rw[F.len _ _ _ _ o]at e
  grind
 refine aj$ U8 I.Ai M.makes M.init (Wh.mp M.fn) (Af (F.dh _ X.stack _ _ _ _ _ _ _ (J.make C d [])
  (i.lD.make C d []) (D _ _ i.Ai G) p o) λr P a=>?_)
 cases r with
 |error e=>obtain⟨z,m,n,g,L⟩:=a;exact L.iI b _ _ e P i g
 |ok B=>
  cases B with
  |ret u=>
   obtain⟨v,n,y,ό,rfl,N⟩:=i.after a;exact⟨ό,⟨ϖ _,n,y,rfl,N⟩⟩
  |next=>exact ϲ a
  |brk=>exact ϲ a
  |cont=>exact ϲ a
def p7(h:fT T X.prog X.w X.mg X.base k x c ps n)(y:T.K=X.K)(J:Qd (k+1) X.A)(E:Gl X x)
  (z:FA T X (e::b) o) (i:(x == ("__debug__" : Str))=Ε:=by decide) (C:va (e::b) X.env=(Ε,Mb e X.env)::va b X.env:=by rfl) (j:(lc a$ va b X.env).any (·.1)=Ε:=by rfl) :
  FE T X (ϡ (Ϝ x p) (e::b) [] a)$ Xp c ps.length n o:=by
 obtain⟨f,F,g,ϊ,B,t⟩:=h;rw[y]at g t;rintro d s st H Q I ⟨μ,S,σ,v,l,G⟩;exact Ve$ RB I E F (Ϲ I.ok.mod.Rw g.kp (Ed (z a d s st H _ I ⟨μ,S,σ,v,l,G.bind λV ϋ R P u D Y ό L N=>sQ ό L N⟩) λus s1 ⟨P,u,m,r,q⟩=>⟨m.Ai,(aQ g t J (.all B) Ϡ m r q)⟩) C j) i
structure FJ(T:Tb)(P:Ca)(w:Wa)(mg:Str->Option Value)(base:Heap)(k:Nat)(m:Str)(c:Nat)(ps:ad)(fn:B'->M D):Prop where
 cl:Qr T.K (T.ca c)
 ex:∃ f,ju T.K (T.ca c) m f/\wr T P w mg base k f ps fn
abbrev Mt:=List$ Nat × (B'->M D)
noncomputable def Br:Mt->Nat->Option (B'->M D)
 |[],_=>V6
 |(c,fn)::r,d=>if c == d then BD fn else Br r d
noncomputable def Ri(n:Nat)(b:B'->M D)(x:D)(a:B'):M D:=if a.length+1=n then b (x::a)else Eb
def Gk(b:Mt)(n:Nat)(m:Str)(a:M$ B')(x:D):M D:=λσ=>match ak σ x with
 |some (c,gs)=>(match Br b c,gs.lookup m with
  |some fn,V6=>Tc a (Ri n fn x) σ
  |_,_=>Ϙ)
 |none=>Ϙ
def Yf(c:Mt)(n:Nat)(m:Str)(f:Ev->M D)(b:Ev->M (B')):Ev->M D:=λa=>Tc (f a)$ Gk c n m$ b a
theorem eP:∀ {a:Mt} {c:Nat} {fn:B'->M D},Br a c=BD fn->(c,fn)∈a
 |[],_,_,h=>by cases h
 |(d,g)::r,c,fn,h=>by
  unfold Br at h;by_cases e:(d == c)=Ĳ
  ·rw[ka e]at h;cases h
   simp_all
  ·rw[qa e]at h;exact ja _$ eP h
def rM(hK:T.K=X.K)(he:FE T X o f)(h:∀ q∈G,FJ T X.prog X.w X.mg X.base k m q.1 ps q.2)(hr:Qd k X.A)(ha:FA T X (e::l) N)
  (ϋ:va (e::l) X.env=(Ε,Mb e X.env)::va l X.env:=by rfl) (R:(lc b$ va l X.env).any (·.1)=Ε:=by rfl)
  (ht:Mb (ϡ (ϟ o m i) (e::l) [] b) X.env=(do
   let ov <-Mb o X.env
   oh i.atName
   let (f,first) <-qe [ov] (Ki ov m pl)
   lr b f first (lc b$ va (e::l) X.env) (Hh b$ uf [] X.env)):=by rfl) :
  FE T X (ϡ (ϟ o m i) (e::l) [] b)$ Yf G ps.length m f N:=by
 rintro j s st H Q I ⟨μ,ρ,σ,hE,S,hp⟩;refine W.methodCall_KW (Ed (he j s st H (λx p=>∃ a c F vs B,x=ϖ a/\p a=BD (.ub (T.ca c) F vs)/\Br G c=BD B/\vs.lookup m=V6/\tL T X N st p λY J=>Ho T ps.length B (x::(Y++[])) J Q$ XE X st) I ⟨μ,ρ,σ,hE,S,hp.bind λd E ϊ v p D e1 r1 q1 g=>?_⟩) λu s1 ⟨x,p,I1,rx,a,c,F,vs,B,ex,ea,n,t,q⟩=>?_) ht
 ·unfold Gk at g;cases L:ak E d with
  |none=>rw[L]at g;exact g.elim
  |some z=>
   obtain⟨c,gs⟩:=z;rw[L]at g;dsimp only at g;cases n:Br G c with
   |none=>rw[n]at g;exact g.elim
   |some B=>
    cases t:gs.lookup m with
    |some y=>rw[n,t]at g;exact g.elim
    |none=>
     rw[n,t]at g;dsimp only at g;obtain⟨a,F,vs,rfl,h1,h2⟩:=mz r1 q1 L;refine⟨a,c,F,vs,B,rfl,h1,n,(QA h2).2 t,ϊ,ρ,E,hE.mono e1,r1,g.bind λds a1 a0 Y J D e2 r2 V C=>?_⟩;unfold Ri at C;by_cases P:ds.length+1=ps.length
     ·rw[ka P]at C;exact⟨a0,a1,d::ds,lb.cons (Sa.mono e2 _ _ q1) (by rw[Oe];exact V),by rw[gb];exact P,r2,C⟩
     ·rw[qa P]at C;exact C.elim
 ·subst ex;obtain rfl:u=yb a:=rx;obtain⟨hC,f',ό,fd,hb,hF⟩:=h _ (eP n);rw[hK]at hC ό hF;exact bP I1 ea hC ό t$ Ϲ I.ok.mod.Rw ό.kp (Ed (ha b j s1 st p _ I1 q) λY s2 ⟨vs,J,I2,r,V⟩=>⟨I2.Ai,(EI (vs:=ϖ a::vs) hF hr (.all hb) Ϡ I2 (ϝ rfl r) V)⟩) ϋ R
def Ŵ(hK:T.K=X.K)(he:FE T X o f)(h:∀ q∈E,FJ T X.prog X.w X.mg X.base k m q.1 ps q.2)(hr:Qd k X.A)
  (ht:Mb (ϡ (ϟ o m e) [] [] g) X.env=(do
   let R <-Mb o X.env
   oh e.atName
   let (f,first) <-qe [R] (Ki R m pl)
   lr g f first (lc g$ va [] X.env) (Hh g$ uf [] X.env)):=by rfl) :
  FE T X (ϡ (ϟ o m e) [] [] g)$ Yf E ps.length m f Db:=by
 rintro t s st H Q I ⟨μ,ρ,σ,hE,N,hp⟩;refine W.methodCall_KW (Ed (he t s st H (λx n=>∃ a c C vs l,x=ϖ a/\n a=BD (.ub (T.ca c) C vs)/\Br E c=BD l/\vs.lookup m=V6/\Ho T ps.length l (x::([]++[])) n Q (XE X st)) I ⟨μ,ρ,σ,hE,N,hp.bind λd i B v n D e1 ϋ S b=>?_⟩) λu s1 ⟨x,n,F,rx,a,c,C,vs,l,ex,V,j,p,q⟩=>?_) ht
 ·unfold Gk at b;cases G:ak i d with
  |none=>rw[G]at b;exact b.elim
  |some z=>
   obtain⟨c,gs⟩:=z;rw[G]at b;dsimp only at b;cases j:Br E c with
   |none=>rw[j]at b;exact b.elim
   |some l=>
    cases p:gs.lookup m with
    |some y=>rw[j,p]at b;exact b.elim
    |none=>
     rw[j,p]at b;dsimp only at b;obtain⟨a,C,vs,rfl,Y,ϊ⟩:=mz ϋ S G;have r:Rb T _ _ B n (Ri ps.length l d [] i) Q:=b;unfold Ri at r;by_cases L:([]:B').length+1=ps.length
     ·rw[ka L]at r;exact⟨a,c,C,vs,l,rfl,Y,j,(QA ϊ).2 p,B,i,[d],lb.cons S lb.nil,L,ϋ,r⟩
     ·rw[qa L]at r;exact r.elim
 ·subst ex;obtain rfl:u=yb a:=rx;obtain⟨ό,f',J,fd,hb,P⟩:=h _ (eP j);rw[hK]at ό J P;exact bP F V ό J p$ W.callWith_K0 F.Ai J.kp$ EI (vs:=[ϖ a]) P hr (.all hb) Ϡ F (ϝ rfl Ϡ) q
end
structure iu(K:ϗ)(C:Addr)(x qual:Str)(st:Stmt)(ps:ad)(f:Addr):Prop where
 ex:∃ fd,bI K x qual st f fd/\∀ us:gV,us.length=ps.length->bindArgs fd ⟨us,[]⟩=pure (ps.zip us)
section
variable{P:Ca}{w:Wa}{K:ϗ}{mg:Str->Option Value}{base:Heap}{ca:Nat->Addr}{tx:Tx}
def cV{st}(h:iu K C x a st ps f)(S:nc N ps$ yf st)
  (j:∀ b A c s H E,Qd k (A.deeper$ ug a (yf st) s.heap.objs.size f b)->Dk ⟨K,ca,tx⟩ (xp (jl P w) P w K mg base N a (yf st) f b A c s H E) (Pj st) g) :
  wr ⟨K,ca,tx⟩ P w mg base (k+1) f ps$ dh N.length g:=by
 obtain⟨n,F,d⟩:=h.ex;obtain⟨o,p,kV,i,q,m,b,ct,l,rfl,lk,e⟩:=F.ex;exact⟨_,d,qB lk e S$ j b⟩
def wr.Ud{T}{k}{f}{ps}{a}(h:wr T P w mg base k f ps a):wr T P w mg base k f ps (λb=>L4.Ud$ a b):=by
 obtain⟨c,d,e⟩:=h;exact⟨c,d,WN e⟩
def wr.zd(h:wr T P w mg base k f ps a):wr T P w mg base k f ps$ L4.zd a:=by rw[Rs];exact h
end
noncomputable def au(s:Stmt)(j:Nat):Stmt:=match s with
 | .ClassDef _ _ _ b _ _ _ _ _ _ _=>b.getD j (.Pass ⟨0,0,0,0⟩)
 |s=>s
def QY{K:ϗ}{st}{kV d g b ct}
  (j:∀ kV d g e b ct i,i.length=ps.length->bindArgs (ϭ x a (yl st) (Pj st) (yf st) Bc kV d g e b ct) ⟨i,[]⟩=pure (ps.zip i))
  (l:K.lookup f=BD ⟨m,n,.func$ ϭ x a (yl st) (Pj st) (yf st) Bc kV d g e b ct,h⟩)
  (c:W.codeIn K b a=Ĳ) (k:ϻ K (yb f)=Ĳ):iu K C x a st ps f:=⟨⟨_,WS l c k,j kV d g e b ct⟩⟩
section
variable{T:Tb}{P:Ca}{w:Wa}{mg:Str->Option Value}{base:Heap}
def kI(T:Tb)(P:Ca)(w:Wa)(mg:Str->Option Value)(base:Heap)(k:Nat)(m:Str)(ps:ad)(a:Mt):Prop:=∀ q∈a,FJ T P w mg base k m q.1 ps q.2
def U1:kI T P w mg base k m ps []:=λq h=>nomatch h
def ž(l:Qr T.K$ T.ca c)(n:ju T.K (T.ca c) m f)(o:wr T P w mg base j f ps e)(p:j<=k)(h:kI T P w mg base k m ps g):kI T P w mg base k m ps$ (c,e)::g:=λq d=>by
 rcases za.mp d with rfl|d
 ·obtain⟨i,a,b⟩:=o;exact⟨l,f,n,i,a,b.mono p⟩
 ·exact h q d
end
end L4
namespace L4
open L2
def nr{a b:c}(h:a=b):a=b:=h
section
variable{α β:Type}{ρ:Ev}{σ:Fa}
@[simp] theorem ze a σ(k:α->M β):(O a σ).bind k=k a σ:=rfl
@[simp] theorem yie(a:α) σ:ret a σ=O a σ:=rfl
@[simp] theorem zm m(k:α->M β) σ:Tc m k σ=(m σ).bind k:=rfl
@[simp] theorem GL d:eC d ρ σ=O d σ:=rfl
@[simp] theorem eu d r:Ba 0 (BD d::r) σ=O d σ:=rfl
@[simp] theorem bA i o r:Ba (i+1) (o::r) σ=Ba i r σ:=rfl
@[simp] theorem zsn o a b:Ab o a b ρ σ=(a ρ σ).bind (KL o$ b ρ):=rfl
@[simp] theorem zrw o m x:KL o m x σ=(m σ).bind (o x):=rfl
@[simp] theorem aN o a:gf o a ρ σ=(a ρ σ).bind o:=rfl
@[simp] theorem yj4 b:gB (ϐ b) σ=O b σ:=rfl
@[simp] theorem yn9(p q:M α):Fj p q Ĳ σ=p σ:=rfl
@[simp] theorem yn8(p q:M α):Fj p q Ε σ=q σ:=rfl
@[simp] theorem zwk c:jO c σ=O (!c) σ:=rfl
@[simp] theorem zqp(k:Bool->M α) b:zx k (ϐ b) σ=k b σ:=rfl
@[simp] theorem zn1 c:cL c σ=O (ϐ$ !c) σ:=rfl
@[simp] theorem ymx f:eT f ρ σ=(f ρ σ).bind gB:=rfl
@[simp] theorem zrt a b:yJ a b ρ σ=(a ρ σ).bind (Fj (b ρ)$ ret Ε):=rfl
@[simp] theorem ybd a b:sv a b ρ σ=(a ρ σ).bind (Fj (ret Ĳ)$ b ρ):=rfl
@[simp] theorem zru a:kn a ρ σ=(a ρ σ).bind jO:=rfl
@[simp] theorem zsm a b:bF a b ρ σ=(a ρ σ).bind (zx$ Fj (b ρ)$ ret$ ϐ Ε):=rfl
@[simp] theorem ycx a b:XW a b ρ σ=(a ρ σ).bind (zx$ Fj (ret$ ϐ Ĳ)$ b ρ):=rfl
@[simp] theorem zsr a:tV a ρ σ=(a ρ σ).bind (zx cL):=rfl
@[simp] theorem yct t a b:nv t a b ρ σ=(t ρ σ).bind (Fj (a ρ)$ b ρ):=rfl
@[simp] theorem jy:Db ρ σ=O [] σ:=rfl
@[simp] theorem fC e r:Na e r ρ σ=(e ρ σ).bind (sM$ r ρ):=rfl
@[simp] theorem jB m x:sM m x σ=(m σ).bind (TN x):=rfl
@[simp] theorem KA x xs:TN x xs σ=O (x::xs) σ:=rfl
@[simp] theorem Ì a:Pg a ρ σ=(a ρ σ).bind Iw:=rfl
@[simp] theorem yj6:Iw [] σ=O (ώ []) σ:=rfl
@[simp] theorem yj7 a:Iw [a] σ=O (ώ [a]) σ:=rfl
@[simp] theorem F8 a b:Iw [a,b] σ=O (ώ [a,b]) σ:=rfl
@[simp] theorem yj9 a b c:Iw [a,b,c] σ=O (ώ [a,b,c]) σ:=rfl
@[simp] theorem yka a b c d:Iw [a,b,c,d] σ=O (ώ [a,b,c,d]) σ:=rfl
@[simp] theorem ykb a b c d e:Iw [a,b,c,d,e] σ=O (ώ [a,b,c,d,e]) σ:=rfl
@[simp] theorem ycu a:kl a ρ σ=(a ρ σ).bind Bv:=nr rfl
theorem vR(h:Nat.ble a.length 1000=Ĳ):Bv a σ=O (ύ a) σ:=by unfold Bv;rw[ka (show a.length<=Dg from Ma h)];rfl
@[simp] theorem n9 a:Fv a ρ σ=(a ρ σ).bind uD:=rfl
@[simp] theorem yfr:uD [] σ=O (U σ.length) (σ++[ϒ []]):=nr rfl
@[simp] theorem yp5 g i j:oI g (Z i) (Z j) σ=O (Z$ g i j) σ:=nr rfl
@[simp] theorem yp2 g i j:oB g (Z i) (Z j) σ=O (ϐ$ g i j) σ:=nr rfl
theorem BH(h:C i j=Ĳ):Kx C g (Z i) (Z j) σ=O (Z$ g i j) σ:=by
 show (if C i j=Ĳ then ret _ else Eb) σ=_;rw[ka h];rfl
@[simp] theorem zwp i j(h:0<j)(a:j<1073741824):XB (Z i) (Z j) σ=O (Z$ i / j) σ:=BH (by simp[fN,h,a])
@[simp] theorem aZ i j(h:0<j):Ap (Z i) (Z j) σ=O (Z$ i % j) σ:=BH (by simp[yN,h])
theorem Y2(h:-(2 ^ 64)<i)(a:i<2 ^ 64):cG (Z i) (Z j) σ=O (Z$ i * j) σ:=BH (by simp only[UK,Rs,Hg,Ga,Xb];exact ϑ ⟨h,a⟩)
def jG(h:iz i j=Ĳ):Lx (Z i) (Z j) σ=O (Z$ i ^ j.toNat) σ:=BH h
@[simp] theorem p12:Lx (Z 10) (Z 12) σ=O (Z 1000000000000) σ:=jG (by simp[iz])
@[simp] theorem p6:Lx (Z 10) (Z 6) σ=O (Z 1000000) σ:=jG (by simp[iz])
@[simp] theorem p4:Lx (Z 10) (Z 4) σ=O (Z 10000) σ:=jG (by simp[iz])
@[simp] theorem p40:Lx (Z 10) (Z 40) σ=O (Z$ 10 ^ 40) σ:=jG (by simp[iz])
@[simp] theorem zw3 i:WT (Z i) σ=O (Z$ -i) σ:=nr rfl
@[simp] theorem zn7 i j:Mi (Z i) (Z j) σ=O (Z$ i+j) σ:=nr rfl
theorem MJ{xs a}(h:xs.length+a.length<=Dg):Mi (ώ xs) (ώ a) σ=O (ώ$ xs++a) σ:=by show (if _ then _ else _:M D) σ=_;rw[ka h];rfl
def nH{xs a}(h:xs.length+a.length<=Dg):Mi (ύ xs) (ύ a) σ=O (ύ$ xs++a) σ:=by
 show WD (ύ xs) (ύ a) σ=_;unfold WD;simp only[Lf];rw[ka h]
@[simp] theorem zoi σ:Jq Ϛ Ϛ σ=O (ϐ Ĳ) σ:=nr rfl
@[simp] theorem zoh b:Jq (Z b) Ϛ σ=O (ϐ Ε) σ:=nr rfl
@[simp] theorem zoj b:Jq (ώ b) Ϛ σ=O (ϐ Ε) σ:=nr rfl
@[simp] theorem zik σ:zH Ϛ Ϛ σ=O (ϐ Ε) σ:=nr rfl
@[simp] theorem zij b:zH (Z b) Ϛ σ=O (ϐ Ĳ) σ:=nr rfl
theorem CI(h:Mj σ 8 x y=BD b):rj x y σ=O (ϐ b) σ:=by unfold rj;rw[h]
def aG(h:Mj σ 8 x y=BD b):Lj x y σ=O (ϐ$ !b) σ:=by unfold Lj;rw[h]
@[simp] theorem zwq i j:rj (Z i) (Z j) σ=O (ϐ$ i == j) σ:=CI (by simp[Mj,kd,Ot,Jl])
@[simp] theorem zw2 i j:Lj (Z i) (Z j) σ=O (ϐ$ !(i == j)) σ:=aG (by simp[Mj,kd,Ot,Jl])
@[simp] theorem zwr i j:rj (ϓ i) (ϓ j) σ=O (ϐ$ i == j) σ:=CI (by simp[Mj,kd,Ot,Jl])
theorem Gx{xs}(h:km xs k=BD d):nb (ώ xs) (Z k) σ=O d σ:=by simp[nb,gi,h]
def NJ{xs}(h:km xs k=BD d):nb (ύ xs) (Z k) σ=O d σ:=by simp[nb,gi,h]
@[simp] theorem yol a r:nb (ώ$ a::r) (Z 0) σ=O a σ:=Gx$ iq rfl
@[simp] theorem yom a b r:nb (ώ$ a::b::r) (Z 1) σ=O b σ:=Gx$ iq rfl
@[simp] theorem yon a b c r:nb (ώ$ a::b::c::r) (Z 2) σ=O c σ:=Gx$ iq rfl
@[simp] theorem yoo a b c d r:nb (ώ$ a::b::c::d::r) (Z 3) σ=O d σ:=Gx$ iq rfl
@[simp] theorem bU xs:Fo [ώ xs] σ=O (Z xs.length) σ:=nr rfl
@[simp] theorem oO xs:Fo [ύ xs] σ=O (Z xs.length) σ:=nr rfl
@[simp] theorem zol xs:Fo [ϥ xs] σ=O (Z xs.length) σ:=by simp[Fo,gi]
@[simp] theorem ze6 xs:AE [ύ xs] σ=O (ώ xs) σ:=nr rfl
@[simp] theorem zkx o a:Go o a ρ σ=(a ρ σ).bind o:=rfl
@[simp] theorem qK n f a b:lf n f a b ρ σ=(b ρ σ).bind (Dq n f a):=rfl
@[simp] theorem Ŧ f a:Dq 1 f [] [a] σ=f [a] σ:=by unfold Dq;rw[ka ⋯];simp
@[simp] theorem C1 f a b:Dq 2 f [] [a,b] σ=f [a,b] σ:=by unfold Dq;rw[ka ⋯];simp
@[simp] theorem A0 f a b c:Dq 3 f [] [a,b,c] σ=f [a,b,c] σ:=by unfold Dq;rw[ka ⋯];simp
@[simp] theorem ydy f a b c:Dq 3 f [c] [a,b] σ=f [a,b,c] σ:=by unfold Dq;rw[ka ⋯];simp
@[simp] theorem yng f a b c d:Dq 4 f [] [a,b,c,d] σ=f [a,b,c,d] σ:=by unfold Dq;rw[ka ⋯];simp
@[simp] theorem ynh f a b c d e:Dq 5 f [] [a,b,c,d,e] σ=f [a,b,c,d,e] σ:=by unfold Dq;rw[ka ⋯];simp
@[simp] theorem zym:Ei ρ σ=O (ϙ ρ) σ:=rfl
@[simp] theorem Uk g h:Nc g h ρ σ=(g ρ σ).bind (eF h):=rfl
@[simp] theorem Kl h ρ:eF h (ϙ ρ) σ=h ρ σ:=rfl
@[simp] theorem zyx h d:eF h (.rt d) σ=O (.rt d) σ:=rfl
@[simp] theorem zyy h ρ x:eF h (.xc ρ x) σ=O (.xc ρ x) σ:=rfl
noncomputable def Ik(ρ:Ev)(k:α->M Fl):Vi α->Vi Fl
 | O a b=>k a b
 | .ex x b=>O (.xc ρ x) b
 | Ϙ=>Ϙ
@[simp] theorem Ul ρ(m:M α) k:xs ρ m k σ=Ik ρ k (m σ):=by unfold xs Ik;cases m σ<;>rfl
@[simp] theorem Co ρ k(a:α):Ik ρ k (O a σ)=k a σ:=rfl
@[simp] theorem ykn ρ(k:α->M Fl) x:Ik ρ k (.ex x σ)=O (.xc ρ x) σ:=rfl
@[simp] theorem zyo f:qh f ρ σ=Ik ρ yM (f ρ σ):=Ul ..
@[simp] theorem zx9 d:yM d σ=O (.rt d) σ:=rfl
@[simp] theorem NY f:Ml f ρ σ=Ik ρ (aM ρ) (f ρ σ):=Ul ..
@[simp] theorem xQ d:aM ρ d σ=O (ϙ ρ) σ:=rfl
@[simp] theorem R6 i f:Tf i f ρ σ=Ik ρ (wK i ρ) (f ρ σ):=Ul ..
@[simp] theorem zy1 i d:wK i ρ d σ=O (ϙ$ ρ.set i$ BD d) σ:=rfl
@[simp] theorem JL t a b:Vh t a b ρ σ=Ik ρ (Fj (a ρ)$ b ρ) (t ρ σ):=Ul ..
@[simp] theorem zi7 c a:AT c a ρ σ=Ik ρ (YH c ρ) (a ρ σ):=Ul ..
@[simp] theorem zpa c d:YH c ρ [d] σ=O (.xc ρ ⟨c⟩) σ:=rfl
@[simp] theorem zyr g a:iE g a ρ σ=(g ρ σ).bind (NG a):=rfl
@[simp] theorem yah a:NG a (ϙ ρ) σ=O (ϙ ρ) σ:=rfl
@[simp] theorem yai a x:NG a (.xc ρ x) σ=Nv ρ x a σ:=rfl
theorem Ė(e:h.t x.cls=BD Ĳ):Nv ρ x (h::r) σ=hit h ρ x σ:=by unfold Nv;rw[e]
@[simp] theorem yer t g x:hit ⟨t,V6,g⟩ ρ x σ=(g ρ σ).bind TH:=rfl
@[simp] theorem yf7:TH (ϙ ρ) σ=O (ϙ ρ) σ:=rfl
@[simp] theorem kN n g a:dh n g a σ=Bo (g (a.map BD++List.replicate (n - a.length) V6) σ):=rfl
@[simp] theorem zye d:Bo (O (.rt d) σ)=O d σ:=rfl
@[simp] theorem OL:Bo (O (ϙ ρ) σ)=O Ϛ σ:=rfl
@[simp] theorem zyf x:Bo (O (.xc ρ x) σ)=.ex x σ:=rfl
@[simp] theorem yd2 f:Ud f σ=ig σ (f σ):=nr rfl
@[simp] theorem cp f:fk f ρ σ=ig σ (f ρ σ):=nr rfl
theorem Ay(h:cl d=Ĳ):fz k σ m d=BD d:=by cases m<;>(unfold fz;rw[ka h])
def UL(h:cl d=Ĳ)(b:a.take σ.length=σ):ig σ (O d a)=O d σ:=by
 unfold ig;dsimp only;rw[ka b,Ay h]
@[simp] theorem zhc(h:cl d=Ĳ):ig σ (O d σ)=O d σ:=UL h Ec
theorem mR{j j':Fa}{xs}(h:qf xs=Ĳ):ig σ (O (U σ.length)$ σ++[ϒ xs]++j)=O (ύ xs) σ:=by
 unfold ig;dsimp only;rw[ka ⋯];have e:fz σ.length (σ++[ϒ xs]++j) 6 (U σ.length)=BD (ύ xs):=by
  unfold fz;dsimp only;rw[qa$ Vd _];have:(σ++[ϒ xs]++j)[σ.length]?=BD (ϒ xs):=by simp
  rw[this];dsimp only;have d:∀ a m,qf a=Ĳ->El (fz σ.length (σ++[ϒ xs]++j) m) a=BD a:=by
   intro a m;induction a with
   |nil=>intro _;rfl
   |cons y a f=>
    intro c;have b:cl y=Ĳ/\qf a=Ĳ:=by simpa [qf]using c
    unfold El;rw[Ay b.1,f b.2]
  rw[d xs 5 h];rfl
 rw[e]
@[simp] theorem yb3 i:cl (Z i)=Ĳ:=by simp[cl]
@[simp] theorem ylz i:cl (ϐ i)=Ĳ:=by simp[cl]
@[simp] theorem yca i:cl (ϓ i)=Ĳ:=by simp[cl]
@[simp] theorem yb5:cl Ϛ=Ĳ:=by simp[cl]
@[simp] theorem ycc xs:cl (ώ xs)=qf xs:=by simp[cl]
@[simp] theorem yb4 xs:cl (ύ xs)=qf xs:=by simp[cl]
@[simp] theorem yb8 n:cl (U n)=Ε:=by simp[cl]
@[simp] theorem zr9:qf []=Ĳ:=by simp[qf]
@[simp] theorem cX d a:qf (d::a)=(cl d && qf a):=by simp[qf]
theorem Kn:∀ {a:B'},(∀ d∈a,cl d=Ĳ)->qf a=Ĳ
 |[],_=>by simp
 |d::a,h=>by rw[cX,h d la,Kn λx b=>h x$ ja _ b];rfl
theorem FU:∀ {a:B'},qf a=Ĳ->∀ d∈a,cl d=Ĳ
 |[],_,d,h=>nomatch h
 |x::a,h,d,b=>by
  rw[cX,Ga]at h;rcases za.mp b with rfl|b
  ·exact h.1
  ·exact FU h.2 d b
def k8{f:a->D}{l:List a}(h:∀ x,cl (f x)=Ĳ):qf (l.map f)=Ĳ:=Kn λd b=>by obtain⟨x,_,rfl⟩:=na.mp b;exact h x
@[simp] theorem zkl(l:h8):qf (l.map Z)=Ĳ:=k8 yb3
@[simp] theorem uO xs a:qf (xs++a)=(qf xs && qf a):=by
 induction xs with
 |nil=>simp
 |cons x xs b=>simp[b,Uy]
theorem ψ{xs}{k}(a:0<=k)(h:k<xs.length):km xs k=BD (xs.getD k.toNat Ϛ):=by
 obtain⟨n,rfl⟩:=Int.eq_ofNat_of_zero_le a;have b:n<xs.length:=by lia
 refine iq ?_;show xs[n]?=BD (xs.getD n Ϛ);rw[zt2,Vb b];rfl
def k9{a:h8}{k:Int}(b:0<=k)(h:k<a.length):km (a.map Z) k=BD (Z$ a.getD k.toNat 0):=by
 rw[ψ b (by simpa using h)];have c:k.toNat<a.length:=by lia
 simp[c]
@[simp] theorem ypc a:Bv [a] σ=O (ύ [a]) σ:=nr rfl
@[simp] theorem ypb:Bv [] σ=O (ύ []) σ:=nr rfl
@[simp] theorem ypd a b:Bv [a,b] σ=O (ύ [a,b]) σ:=nr rfl
@[simp] theorem yfs a b:uD [a,b] σ=O (U σ.length) (σ++[ϒ [a,b]]):=nr rfl
@[simp] theorem zB xs:Cf (σ++[ϒ xs]) σ.length=BD xs:=by simp[Cf]
@[simp] theorem ZB a b:(σ++[a]).set σ.length b=σ++[b]:=by
 rw[Re _ _$ ua _];simp
@[simp] theorem zk0 o f a:vy o f a ρ σ=(f ρ σ).bind (Pu o$ a ρ):=rfl
theorem uB{xs}(h:Lf σ x=BD xs):Pu o m x σ=(m σ).bind (o x):=by unfold Pu;rw[h];rfl
def XD{xs}(h:xs.length<1000):Kj (U σ.length) [d] (σ++[ϒ xs])=O Ϛ (σ++[ϒ$ xs++[d]]):=by
 unfold Kj;simp only[zB];rw[ka (show xs.length<Dg from h),ZB]
def UC{ws:h8}(h:gi σ x=BD (ws.map Z)):Es neg (Z w) x σ=O (ϐ (if neg then !(ws.any (·== w))else ws.any (·== w))) σ:=by
 have a:∀ l:h8,(l.map Z).all mw=Ĳ:=λl=>by simp[mw,sc]
 have b:∀ l:h8,((l.map Z).any λz=>Qx z$ Z w)=l.any (·== w):=λl=>by simp[Qx,sc,Jl,Function.comp_def]
 unfold Es;rw[h];simp only[a,b,show mw (Z w)=Ĳ from rfl,Bool.and_self,Jf]
@[simp] theorem zjd xs:gi (σ++[ϒ xs]) (U σ.length)=BD xs:=zB xs
@[simp] theorem Ý xs:gi σ (ύ xs)=BD xs:=nr rfl
@[simp] theorem ô xs:gi σ (ώ xs)=BD xs:=nr rfl
@[simp] theorem UA f:Gi f ρ σ=(f ρ σ).bind Au:=nr rfl
@[simp] theorem zjc a:Au (ώ a) σ=O (.seq a) σ:=nr rfl
@[simp] theorem ZI a:Au (ύ a) σ=O (.seq a) σ:=nr rfl
@[simp] theorem N8 f:Gy f ρ σ=(f ρ σ).bind Hy:=nr rfl
theorem NN(h:-(2 ^ 62)<=j)(a:j<2 ^ 62):Hy (Z j) σ=O (.seq$ kA j.toNat) σ:=by
 unfold Hy;dsimp only;rw[ka (by simp only[sH,Rs,Ga,Xb];exact⟨h,a⟩)]
@[simp] theorem hG b c a:xn b c a ρ σ=Ik ρ (gE c a ρ) (b ρ σ):=Ul ..
@[simp] theorem aJ c a b:gE c a ρ (.seq b) σ=Nj c a b ρ σ:=nr rfl
@[simp] theorem Nw b a:Nj b a [] ρ σ=O (ϙ ρ) σ:=nr rfl
theorem iZ(h:c d ρ=BD b):Nj c a (d::e) ρ σ=(a b σ).bind (bu$ Nj c a e):=by
 show (match c d ρ with|none=>Eb|some b=>Tc (a b) (bu$ Nj c a e)) σ=_;rw[h];rfl
@[simp] theorem Iq i a d b:Nj (je i) a (d::b) ρ σ=(a (ρ.set i$ BD d) σ).bind (bu$ Nj (je i) a b):=iZ rfl
@[simp] theorem Tk k:bu k (ϙ ρ) σ=k ρ σ:=nr rfl
@[simp] theorem znn k d:bu k (.rt d) σ=O (.rt d) σ:=nr rfl
theorem NB(h:m σ=O a b):Ft m σ=O a b:=by unfold Ft;rw[h]
end
section
variable{α β:Type}{ρ:Ev}{σ:Fa}
@[simp] theorem zjf a:gi σ (ϥ a)=BD (a.map Z):=nr rfl
theorem É(b:0<=k)(h:k<a.length):nb (ϥ a) (Z k) σ=O (Z$ a.getD k.toNat 0) σ:=by
 simp[nb,k9 b h]
@[simp] theorem zod c i:Cy c (Z i) σ=O (ϐ$ match c with | .int=>Ĳ|_=>Ε) σ:=nr rfl
@[simp] theorem zwu c i:Cy c (ϐ i) σ=O (ϐ$ match c with | .int=>Ĳ | .bool=>Ĳ|_=>Ε) σ:=nr rfl
@[simp] theorem zog xs:Cy .tuple (ώ xs) σ=O (ϐ Ĳ) σ:=nr rfl
@[simp] theorem zgz o d a b c:IR o d a b c ρ σ=(a ρ σ).bind (CK o d (b ρ)$ c ρ):=nr rfl
noncomputable def pl:Nat->D->Bool
 |_,Ϛ=>Ĳ
 |_,ϐ _=>Ĳ
 |_,Z _=>Ĳ
 |_,ϓ _=>Ĳ
 |n+1,ώ xs=>xs.all (pl n)
 |n+1,ύ xs=>xs.all (pl n)
 |_,_=>Ε
theorem DL{f:D->D->Option Bool}:∀ {xs:B'},(∀ x∈xs,f x x=BD Ĳ)->vn f xs xs=BD Ĳ
 |[],_=>rfl
 |x::xs,h=>by unfold vn;rw[h x la,DL λy a=>h y$ ja _ a];rfl
theorem iD:∀ (n:Nat) (x:D),pl n x=Ĳ->Mj σ n x x=BD Ĳ
 |0,x,h=>by cases x<;>simp[pl]at h<;>simp[Mj,kd,Ot,Jl]
 |n+1,x,h=>by
  cases x with
  |Zb=>rfl
  |bl b=>simp[Mj,kd,Ot,Jl]
  |int b=>simp[Mj,kd,Ot,Jl]
  |str b=>simp[Mj,kd,Ot,Jl]
  |Qa xs=>
   simp[pl,Bb]at h;exact DL λy a=>iD n y$ h y a
  |ra xs=>
   simp[pl,Bb]at h;exact DL λy a=>iD n y$ h y a
  |_=>trivial
def kK(h:pl 8 x=Ĳ):rj x x σ=O (ϐ Ĳ) σ:=CI$ iD 8 x h
def uv(h:pl 8 x=Ĳ):Lj x x σ=O (ϐ Ε) σ:=aG$ iD 8 x h
@[simp] theorem zpr f b a:JH f b a ρ σ=Ik ρ (CO ρ b a) (f ρ σ):=Ul ..
@[simp] theorem zgp o a b c x:CK o a b c x σ=(b σ).bind (WO o a c x):=nr rfl
@[simp] theorem zgr o a c x y:WO o a c x y σ=(o x y σ).bind (JK a c y):=nr rfl
@[simp] theorem zgq a c y b:JK a c y (ϐ b) σ=Fj (Tc c$ a y) (ret$ ϐ Ε) b σ:=nr rfl
@[simp] theorem zpz b a d:CO ρ b a d σ=Ik ρ (bN ρ a d) (b ρ σ):=Ul ..
@[simp] theorem zp0 a d x:bN ρ a d x σ=Ik ρ (Yw ρ d x) (a ρ σ):=Ul ..
@[simp] theorem N2 d a r:Yw ρ d (U σ.length) (Z 0) (σ++[ϒ$ a::r])=O (ϙ ρ) (σ++[ϒ$ d::r]):=by
 have:aC (U σ.length) (Z 0) d (σ++[ϒ$ a::r])=O () (σ++[ϒ$ d::r]):=by
  simp only[aC,zB];rw[show Hr (a::r).length 0=BD 0 by simp[Hr]];simp
 unfold Yw;rw[this]
@[simp] theorem R5 d a b r:Yw ρ d (U σ.length) (Z 1) (σ++[ϒ$ a::b::r])=O (ϙ ρ) (σ++[ϒ$ a::d::r]):=by
 have:aC (U σ.length) (Z 1) d (σ++[ϒ$ a::b::r])=O () (σ++[ϒ$ a::d::r]):=by
  simp only[aC,zB];rw[show Hr (a::b::r).length 1=BD 1 by simp[Hr];lia];simp
 unfold Yw;rw[this]
theorem DW{xs}(h:km xs k=BD d):nb (U σ.length) (Z k) (σ++[ϒ xs])=O d (σ++[ϒ xs]):=by simp[nb,h]
def uU(h:cl d=Ĳ):ig σ (O d$ σ++[a])=O d σ:=UL h ⋯
@[simp] theorem zgd(f:a->Bool)(l:List a):NA (l.map λx=>ϐ$ f x)=BD (l.map f):=by
 induction l with
 |nil=>rfl
 |cons x l b=>simp[NA,b]
@[simp] theorem oU l:Js (l.map Z)=BD l:=by
 induction l with
 |nil=>rfl
 |cons x l a=>simp[Js,a]
theorem yQ{f:a->Bool}{l:List a}:JE [ύ (l.map λx=>ϐ$ f x)] σ=O (ϐ$ l.all f) σ:=by
 simp only[JE];simp
def R9(h:l.length<=1000):CG (ύ$ l.map Z) σ=O (Z (Om l).length) σ:=by
 simp only[CG,Lf,sh,oU];rw[ka (show l.length<=Dg from h)]
theorem zO:∀ (l s:h8),(l.foldl PyProof.Rows.step_dedup s).length<=s.length+l.length/\((l.foldl PyProof.Rows.step_dedup s).length=s.length+l.length ↔ (l.Nodup/\∀ x∈l,x ∉ s))
 |[],s=>by simp
 |x::l,s=>by
  rw[oi];by_cases h:s.any (·== x)=Ĳ
  ·have i:x∈s:=by simpa using h
   rw[show PyProof.Rows.step_dedup s x=s by unfold PyProof.Rows.step_dedup;rw[ka h]];obtain⟨g,d⟩:=zO l s;refine⟨by simp;lia,λe=>?_,λe=>absurd i$ e.2 x la⟩;simp[gb]at e;lia
  ·have i:x ∉ s:=by simpa using h
   rw[show PyProof.Rows.step_dedup s x=s++[x] by unfold PyProof.Rows.step_dedup;rw[qa h]];obtain⟨g,d⟩:=zO l (s++[x]);simp only[Ub,gb,Qe]at g d;refine⟨by simp[gb];lia,?_⟩;rw[gb,show s.length+(l.length+1)=s.length+(0+1)+l.length by lia,d,Fd];constructor
   ·rintro ⟨a,b⟩;refine⟨⟨λj=>(b x j) ⋯,a⟩,λy f=>?_⟩;rcases za.mp f with rfl|f;all_goals grind
   ·rintro ⟨⟨a,b⟩,c⟩;refine⟨b,λy f k=>?_⟩;all_goals grind
def Ë l:((Om l).length:Int)=(l.length:Int) ↔ l.Nodup:=by
 have:=(zO l []).2;simp at this;unfold Om;rw[<-this];lia
end
section
variable{ρ:Ev}{σ:Fa}
@[simp] theorem KQ c n a b:Xp c n a b ρ σ=(b ρ σ).bind (Vk c n a):=nr rfl
theorem xN(h:a.length+1=n):Vk c n b a σ=Jy σ.length (b (U σ.length::a)$ σ++[ϔ c []]):=by unfold Vk;rw[ka h]
@[simp] theorem TM c b a:Vk c 2 b [a] σ=Jy σ.length (b [U σ.length,a]$ σ++[ϔ c []]):=xN rfl
@[simp] theorem iC n:Jy n (O Ϛ σ)=O (U n) σ:=nr rfl
@[simp] theorem yX a f c b:im a f c b ρ σ=Ik ρ (IK ρ a f b) (c ρ σ):=Ul ..
@[simp] theorem yS a f b d:IK ρ a f b d σ=Ik ρ (gz ρ a f d) (b ρ σ):=Ul ..
theorem XH(h:cs.contains c=Ĳ)(a:fs.length<1000):gz ρ cs f d (U σ.length) (σ++[ϔ c fs])=O (ϙ ρ) (σ++[ϔ c$ zl f d fs]):=by
 have e:sB cs f d (U σ.length) (σ++[ϔ c fs])=O () (σ++[ϔ c$ zl f d fs]):=by
  have:(σ++[ϔ c fs])[σ.length]?=BD (ϔ c fs):=by simp
  unfold sB;simp only[this];rw[ka ⋯];simp
 unfold gz;rw[e]
def SD(h:b.length=a.length):ak σ (ϸ c b a)=BD (c,b.zip a):=by unfold ak;dsimp only;rw[ka h]
def Oj(h:ak σ x=BD (c,b))(e:a.contains c=Ĳ)(g:b.lookup f=BD d):Lc a f x σ=O d σ:=by
 unfold Lc;rw[h];dsimp only;rw[ka e,g]
@[simp] theorem UY b n m f a:Yf b n m f a ρ σ=(f ρ σ).bind (Gk b n m$ a ρ):=nr rfl
theorem Oq(h:ak σ x=BD (c,gs))(f:Br d c=BD a)(e:gs.lookup m=V6):Gk d n m b x σ=(b σ).bind (Ri n a x):=by
 unfold Gk;rw[h];dsimp only;rw[f,e];rfl
def nG(h:a.length+1=n):Ri n b x a σ=b (x::a) σ:=by unfold Ri;rw[ka h]
@[simp] theorem L5 a x:Ri 1 a x [] σ=a [x] σ:=nG rfl
@[simp] theorem D6 b x a:Ri 2 b x [a] σ=b [x,a] σ:=nG rfl
@[simp] theorem zv9 c x a b:Ri 3 c x [a,b] σ=c [x,a,b] σ:=nG rfl
theorem UU(h:qf (a.map (·.2))=Ĳ):ig σ (O (U σ.length)$ σ++[ϔ c a])=O (ϸ c (a.map (·.1)) (a.map (·.2))) σ:=by
 unfold ig;dsimp only;rw[ka ⋯];have e:fz σ.length (σ++[ϔ c a]) 6 (U σ.length)=BD (ϸ c (a.map (·.1)) (a.map (·.2))):=by
  unfold fz;dsimp only;rw[qa$ Vd _];have:(σ++[ϔ c a])[σ.length]?=BD (ϔ c a):=by simp
  have i:∀ b (m:Nat),qf b=Ĳ->El (fz σ.length (σ++[ϔ c a]) m) b=BD b:=by
   intro b m;induction b with
   |nil=>intro _;rfl
   |cons y b g=>
    intro f;have d:cl y=Ĳ/\qf b=Ĳ:=by simpa using f
    unfold El;rw[Ay d.1,g d.2]
  simp_all
 rw[e]
@[simp] theorem yb6 c b a:cl (ϸ c b a)=qf a:=by simp[cl]
@[simp] theorem zof i:Cy .str (ϓ i) σ=O (ϐ Ĳ) σ:=nr rfl
@[simp] theorem zoe c:Cy c Ϛ σ=O (ϐ Ε) σ:=by cases c<;>rfl
end
end L4
namespace L2
open Spec
section
variable{κ:Type}[DecidableEq κ]
noncomputable def Ek(a:List$ κ × V)(k:κ):Option V:=(a.find? λb=>decide$ b.1=k).map (·.2)
noncomputable def ik(a:List$ κ × V)(k:κ)(v:V):List$ κ × V:=
 if (a.any λb=>decide$ b.1=k)=Ĳ then a.map (λb=>if b.1=k then (b.1,v)else b)else a++[(k,v)]
noncomputable def vw(a:List$ κ × V)(k:κ):List$ κ × V:=a.filter λb=>decide$ b.1≠k
theorem J0:Ek ([]:List (κ × V)) k=V6:=rfl
def EE{k:κ}(e:p.1=k):Ek (p::r) k=BD p.2:=by simp[Ek,Gd,e]
def gF{k:κ}(e:¬ p.1=k):Ek (p::r) k=Ek r k:=by simp[Ek,Gd,e]
theorem cT(k:κ):∀ a:List$ κ × V,(a.any λb=>decide$ b.1=k)=(Ek a k).isSome
 |[]=>rfl
 |p::r=>by
  rw[wf];by_cases e:p.1=k
  ·simp only[EE e,rc e,Bool.true_or,lj]
  ·rw[gF e,gc e,zA];exact cT k r
def ND a(k:κ) v:(ik a k v).length<=a.length+1:=by
 unfold ik;split
 ·rw[Ea];lia
 ·rw[Ub,gb,Qe];lia
theorem Tn.Eg(r:Tn o u):o.isSome=u.isSome:=by
 cases o with
 |none=>cases u with
  |none=>rfl
  |some _=>exact(show False from r).elim
 |some _=>cases u with
  |none=>exact(show False from r).elim
  |some _=>rfl
def KV.val(r:KV a vs)(k:κ):Tn (Ek a k)$ Nk vs k:=by
 unfold KV at r;induction r with
 |nil=>exact Ϯ
 |@cons p q ps d h t i=>
  obtain⟨f,g⟩:=h;by_cases e:p.1=k
  ·have c:q.1=k:=f.symm.trans e;have b:Nk (q::d) k=BD q.2:=by simp[Nk,Gd,c]
   rw[EE e,b];exact g
  ·have c:¬ q.1=k:=λz=>e$ f.trans z;have b:Nk (q::d) k=Nk d k:=by simp[Nk,Gd,c]
   rw[gF e,b];exact i
def KV.any(r:KV a c)(k:κ):(a.any λb=>decide$ b.1=k)=c.any λb=>decide$ b.1=k:=by
 unfold KV at r;induction r with
 |nil=>rfl
 |cons h t d=>rw[wf,wf,d,h.1]
def KV.lA(r:KV b vs)(k:κ)(g:jd y u) :
  KV (b.map λa=>if a.1=k then (a.1,y)else a) (vs.map λa=>if a.1=k then (a.1,u)else a):=by
 unfold KV at r ⊢;induction r with
 |nil=>exact Ϡ
 |@cons p q ps i h t f=>
  rw[Ta,Ta];refine ϝ ?_ f;obtain⟨c,d⟩:=h;by_cases e:p.1=k
  ·rw[ka e,ka$ c.symm.trans e];exact⟨c,g⟩
  ·rw[qa e,qa (λz=>e$ c.trans z)];exact⟨c,d⟩
def KV.put(r:KV a b)(k:κ)(c:jd y u):KV (ik a k y)$ stored b k u:=by
 unfold ik stored;rw[r.any k];by_cases e:(b.any λd=>decide$ d.1=k)=Ĳ
 ·rw[ka e,ka e];exact r.lA k c
 ·rw[qa e,qa e];exact Paired.snoc r ⟨rfl,c⟩
def KV.drop(r:KV c vs)(k:κ):KV (vw c k)$ without vs k:=by
 unfold KV at r ⊢;unfold vw without;induction r with
 |nil=>exact Ϡ
 |@cons p q ps j h t f=>
  obtain⟨d,i⟩:=h;rw[Be,Be];by_cases e:p.1=k
  ·have a:¬ decide (p.1≠k)=Ĳ:=by simp[e]
   have b:¬ decide (q.1≠k)=Ĳ:=by simp[d.symm.trans e]
   rw[qa a,qa b];exact f
  ·have g:¬ q.1=k:=λz=>e$ d.trans z;have a:decide (p.1≠k)=Ĳ:=by simp[e]
   have b:decide (q.1≠k)=Ĳ:=by simp[g]
   rw[ka a,ka b];exact ϝ ⟨d,i⟩ f
def KV.length(r:KV a b):a.length=b.length:=Paired.length r
def EU a(k:κ):(vw a k).length<=a.length:=Se _ _
end
def Qv(r:jd (kV k) u):(fj P w).is k u=Ĳ:=by
 cases k with
 |inl i=>obtain⟨t,e⟩:=(show ∃ t,u=Fh i t from r);subst e;exact ý P w i t
 |inr x=>obtain⟨t,e⟩:=(show ∃ t,u=To x t from r);subst e;exact f9 P w x t
abbrev KT(H:Hp):List (TK × V)->List (TK × Addr × Value)->Prop:=Paired λp q=>p.1=q.1/\NR H 5 (.inr p.1) (ϖ q.2.1)/\jd p.2 q.2.2
def KT.val(r:KT H a xs) k:Tn (Ek a k) ((mr xs k).map (·.2)):=by
 induction r with
 |nil=>exact Ϯ
 |@cons p q ps d h t i=>
  obtain⟨f,_,g⟩:=h;by_cases e:p.1=k
  ·have c:q.1=k:=f.symm.trans e;have b:mr (q::d) k=BD q.2:=by simp[mr,Gd,c]
   rw[EE e,b];exact g
  ·have c:¬ q.1=k:=λz=>e$ f.trans z;have b:mr (q::d) k=mr d k:=by simp[mr,Gd,c]
   rw[gF e,b];exact i
def KT.lA(r:KT H a xs) k(i:jd y u) :
  KT H (a.map λc=>if c.1=k then (c.1,y)else c)$ xs.map$ putAt k u:=by
 induction r with
 |nil=>exact Ϡ
 |@cons p q ps j h t g=>
  rw[Ta,Ta];refine ϝ ?_ g;obtain⟨b,d,f⟩:=h;unfold putAt;by_cases e:p.1=k
  ·rw[ka e,ka$ b.symm.trans e];exact⟨b,d,i⟩
  ·rw[qa e,qa (λz=>e$ b.trans z)];exact⟨b,d,f⟩
def KT.put(r:KT H a xs) k(d:NR H 5 (.inr k)$ ϖ b)(c:jd y u) :
  KT H (ik a k y)$ storedH xs k b u:=by
 have e:(a.any λf=>decide$ f.1=k)=(mr xs k).isSome:=by
  rw[cT,(r.val k).Eg,Wj]
 unfold ik storedH;rw[e];by_cases q:(mr xs k).isSome=Ĳ
 ·rw[ka q,ka q];exact r.lA k c
 ·rw[qa q,qa q];exact Paired.snoc r ⟨rfl,d,c⟩
def KT.keeps(r:KT H a xs)(e:∀ b d,H b=BD (.Qa d)->c b=BD (.Qa d)):KT c a xs:=
 Paired.Jp r λf f z=>⟨z.1,NR.keeps e 5 z.2.1,z.2.2⟩
section
variable{P:Ca}{w:Wa}{H:Hp}{h:Heap}{a:Addr}
def wR(ok:Jh P w H h)(e:Rd H a u):Cj P w H h a u:=e.ok ok
def Gv(ok:Jh P w H h)(e:Rd H a$ ϛ b):b.length<=sizeLine/\(a == rf)=Ε/\∃ c,KV b c/\h.DictOf (fj P w) a c:=
 show Cj P w H h a (ϛ b)from wR ok e
def MB(ok:Jh P w H h)(e:H a=BD (ϛ b)):b.length<=sizeLine/\(a == rf)=Ε/\∃ c,KV b c/\h.DictOf (fj P w) a c:=Gv ok$ ϑ e
theorem PP(ok:Jh P w H h):∀ (n:Nat) {k:NK n} {v:V} {u:Value},NR H n k v->jd v u->Gq P w h n k u
 |0,_,_,_,e,r=>by cases (show _=kV _ from e);exact Qv r
 |_+1,.inl _,_,_,e,r=>by cases (show _=kV _ from e);exact Qv r
 |n+1,.inr ks,_,_,e,r=>by
  obtain⟨b,a,rfl,e,p⟩:=e;cases (show _=yb b from r);obtain⟨_,d,q,t⟩:=(show Cj P w H h b (.Qa a)from ok b _ e)
  have f:∀ {ks:List$ NK n} {a:n'} {c:gV},Paired (NR H n) ks a->ie a c->Paired (Gq P w h n) ks c:=by
   intro ks a c p;induction p generalizing c with
   |nil=>intro q;cases q;exact Ϡ
   |cons r _ g=>intro q;cases q with|cons i j=>exact ϝ (PP ok n r i)$ g j
  exact⟨b,d.toArray,rfl,t,by simpa using f p q⟩
theorem zE(ok:Jh P w H h)(e:NR H 5 (.inr ks)$ ϖ a):(iF P w).is h ks a:=PP ok 5 e rfl
def ZD(ok:Jh P w H h)(e:Rd H a$ .dT b):b.length<=sizeLine/\(a == rf)=Ε/\
  ∃ xs,KT H b xs/\h.DictOfH (iF P w) a xs:=by
 obtain⟨z,y,xs,r,o,i,g,j,k,n,s,u⟩:=(show Cj P w H h a (.dT b)from wR ok e)
 refine⟨z,y,xs,r,o,i,g,j,k,n,s,λx c=>?_,u⟩;have d:∀ {l:List$ TK × V} {m:List$ TK × Addr × Value},KT H l m->∀ x∈m,(iF P w).is h x.1 x.2.1:=by
  intro l m q;induction q with
  |nil=>intro x c;exact nomatch c
  |@cons p q ps A f t v=>
   intro x c;rcases za.mp c with e|c
   ·subst e;exact zE ok (by rw[<-f.1];exact f.2.1)
   ·exact v x c
 exact d r x c
def i9(ok:Jh P w H h)(e:H a=BD (.dT b)):b.length<=sizeLine/\(a == rf)=Ε/\
  ∃ xs,KT H b xs/\h.DictOfH (iF P w) a xs:=ZD ok$ ϑ e
end
def Ui(H:Hp)(a:Addr)(y:V)(r:Option V):Prop:=
 (∃ c k,Rd H a (ϛ c)/\y=kV k/\r=Ek c k)\/∃ c k b,Rd H a (.dT c)/\y=ϖ b/\NR H 5 (.inr k) (ϖ b)/\r=Ek c k
def Fx(H:Hp)(a:Addr)(y v:V)(d:Hp):Prop:=
 (∃ c k,H a=BD (ϛ c)/\y=kV k/\c.length<sizeLine/\d=Wb H a (ϛ$ ik c k v))\/
 ∃ c k b,H a=BD (.dT c)/\y=ϖ b/\NR H 5 (.inr k) (ϖ b)/\c.length<sizeLine/\d=Wb H a (.dT$ ik c k v)
def Ui.t(e:H a=BD (.dT c))(d:NR H 5 (.inr k)$ ϖ b):Ui H a (ϖ b)$ Ek c k:=ϕ ⟨c,k,b,ϑ e,rfl,d,rfl⟩
def Fx.k{H}{a}{b}{k}{v}(e:H a=BD (ϛ b))(c:b.length<sizeLine):Fx H a (kV k) v$ Wb H a$ ϛ$ ik b k v:=ϑ ⟨b,k,e,rfl,c,rfl⟩
def Fx.t{k}(e:H a=BD (.dT c))(d:NR H 5 (.inr k)$ ϖ b)(f:c.length<sizeLine) :
  Fx H a (ϖ b) v$ Wb H a$ .dT$ ik c k v:=ϕ ⟨c,k,b,e,rfl,d,f,rfl⟩
section
variable{pins:List$ Addr × Obj}{σ:St}{H:Hp}{s:Shared}{a:Addr}{y v:V}{u r:Value}{o:Option V}{A:Ra}{E:Value->Shared->Prop}
def db.qH(I:db X pins σ H s):rf<s.heap.objs.size:=by
 have h:mainGlobals<s.heap.objs.size:=(I.mod.glob.keeps I.bk).lt;exact br ⋯ h
def M5(D:A.units+7<cLine)(I:db X pins σ H s)(g:Ui H a y$ BD v)(r:jd y u)(h:∀ f t,db X pins σ H t->jd v f->Q f t) :
  wpAny (model X.prog X.w) A (Yh (yb a) u) Q E s:=by
 rcases g with⟨q,k,e,j,l⟩|⟨q,k,b,e,j,x,l⟩
 ·subst j;obtain⟨z,B,vs,c,i⟩:=Gv I.Fc e;obtain⟨f,n,d⟩:=Tn.some_of (v:=v) (o:=Nk vs k) (by rw[l];exact c.val k);exact wpAny_getItem_of (Qv r) i.mapOf n$ h f _ (I.tok _) d
 ·subst j;cases (show u=yb b from r);obtain⟨z,B,xs,c,i⟩:=ZD I.Fc e;obtain⟨f,n,d⟩:=Tn.some_of (v:=v) (o:=(mr xs k).map (·.2)) (by rw[l];exact c.val k);obtain⟨p,C,m⟩:=La.mp n;refine wpAny_getItem_heap (show A.units+1+5<cLine by lia) (zE I.Fc x) i C ?_;rw[m];exact h f _ (I.tok _) d
def yve(r:A.units+7<cLine)(I:db X pins σ H s)(g:Ui H a y o)(m:jd y u)(h:∀ n,db X pins σ H n->Q (fg o.isSome) n) :
  wpAny (model X.prog X.w) A (Gb .In u$ yb a) Q E s:=by
 rcases g with⟨j,k,e,f,l⟩|⟨j,k,b,e,f,p,l⟩
 ·subst f;obtain⟨z,i,vs,c,d⟩:=Gv I.Fc e;refine wpAny_in_of (Qv m) i d.mapOf ?_;rw[<-(c.val k).Eg,<-l];exact h _$ I.tok _
 ·subst f;cases (show u=yb b from m);obtain⟨z,i,xs,c,d⟩:=ZD I.Fc e;refine wpAny_in_heap (show A.units+1+5<cLine by lia) (zE I.Fc p) i d ?_;have q:=(c.val k).Eg;rw[Wj]at q;rw[<-q,<-l];exact h _$ I.tok _
def zsg(r:A.units+7<cLine)(I:db X pins σ H s)(g:Ui H a y o)(m:jd y u)(h:∀ n,db X pins σ H n->Q (fg$ !o.isSome) n) :
  wpAny (model X.prog X.w) A (Gb .NotIn u$ yb a) Q E s:=by
 rcases g with⟨j,k,e,f,l⟩|⟨j,k,b,e,f,p,l⟩
 ·subst f;obtain⟨z,i,vs,c,d⟩:=Gv I.Fc e;refine wpAny_notIn_of (Qv m) i d.mapOf ?_;rw[<-(c.val k).Eg,<-l];exact h _$ I.tok _
 ·subst f;cases (show u=yb b from m);obtain⟨z,i,xs,c,d⟩:=ZD I.Fc e;refine wpAny_notIn_heap (show A.units+1+5<cLine by lia) (zE I.Fc p) i d ?_;have q:=(c.val k).Eg;rw[Wj]at q;rw[<-q,<-l];exact h _$ I.tok _
def ez(I:db X pins σ H s)(i:uF$ H a)(h:Zc a s.heap h')(g:∃ q,h'.get? a=BD q)(c:Cj X.prog X.w (Wb H a d) h' a d) :
  db X pins σ (Wb H a d) { s with heap:=h',toks:=t' }:=
 I.write (x:=a) (e:=a) i (ϑ rfl) (λb q f z=>(h.2 b f).trans z) g c
def Rz(z:b.length<=sizeLine)(g:(a == rf)=Ε)(c:KV b vs)(f:d.DictOf (fj P w) a vs) :
  Cj P w e d a$ ϛ b:=⟨z,g,vs,c,f⟩
def ź(T:A.units+7<cLine)(I:db X pins σ H s)(g:Fx H a y v C)(J:jd y u)(G:jd v r)(h:∀ K,db X pins σ C K->Q () K) :
  wpAny (model X.prog X.w) A (yq (yb a) u r) Q E s:=by
 rcases g with⟨d,k,e,o,l,n⟩|⟨d,k,b,e,o,D,l,n⟩
 ·subst o n;obtain⟨z,p,vs,f,m⟩:=MB I.Fc e;have B:vs.length<=sizeLine:=by rw[<-f.length];exact z
  have t:(ik d k v).length<=sizeLine:=by have:=ND d k v;lia
  refine wpAny_setItem_pairs (hsz:=B) (Qv J) m λh' i x=>h _ ?_;have S:∃ q,h'.get? a=BD q:=let ⟨q,_,_,j,_⟩:=i;⟨q,j⟩;exact ez I (by rw[e];exact Ϯ) x S$ Rz t p (f.put k G) i
 ·subst o n;cases (show u=yb b from J);obtain⟨z,p,xs,f,m⟩:=i9 I.Fc e;have B:xs.length<=sizeLine:=by rw[<-Paired.length f];exact z
  have t:(ik d k v).length<=sizeLine:=by have:=ND d k v;lia
  refine wpAny_setItem_heap (hsz:=B) (show A.units+1+5<cLine by lia) (zE I.Fc D) m λh' i x=>h _ ?_;obtain⟨q,M,L,j,N,ό,P,_,R⟩:=i;refine ez I (by rw[e];exact Ϯ) x ⟨q,j⟩ ⟨t,p,_,(f.put k D G).keeps λc ϋ F=>?_,q,M,L,j,N,ό,P,R⟩;rw[Ad$ oN F e (λz=>nomatch z)];exact F
end
section
variable{pins:List$ Addr × Obj}{σ:St}{H:Hp}{s:Shared}{a:Addr}{kvs:List$ Ic × V}{k:Ic}{u:Value}{A:Ra}{E:Value->Shared->Prop}
def zgt(I:db X pins σ H s)(e:H a=BD (ϛ kvs))(n:jd (kV k) u)(l:(Ek kvs k).isSome=Ĳ)(h:∀ f,db X pins σ (Wb H a$ ϛ$ vw kvs k) f->Q () f) :
  wpAny (model X.prog X.w) A (delItem (yb a) u) Q E s:=by
 obtain⟨z,g,vs,b,d⟩:=MB I.Fc e;refine wpAny_delItem_slot d.typeIs ⋯ Em
  (bj Em d.typeIs PySem.F.entry_dict_delitem (PySem.F.args_dict_delitem_2 _ _) (meets_dict_delitem_pairs (fj X.prog X.w) a$ Qv n) ⟨vs,d,by rw[<-b.length];exact z,by rw[<-(b.val k).Eg];exact l,λh' c m=>h _ ?_⟩)
 have i:∃ q,h'.get? a=BD q:=let ⟨q,_,_,j,_⟩:=c;⟨q,j⟩;exact ez I (by rw[e];exact Ϯ) m i$ Rz (ib (EU kvs k) z) g (b.drop k) c
def A8(I:db X pins σ H s)(e:H a=BD (ϛ kvs))(j:jd (kV k) u)(l:Ek kvs k=BD v)(n:b=[]\/∃ x,b=[x])
  (h:∀ f p,db X pins σ (Wb H a$ ϛ$ vw kvs k) p->jd v f->Q f p):wpAny (model X.prog X.w) A (call (Ϣ "dict.pop")$ yb a::u::b) Q E s:=by
 obtain⟨z,y,vs,c,m⟩:=MB I.Fc e;obtain⟨f,J,g⟩:=Tn.some_of (v:=v) (o:=Nk vs k) (by rw[<-l];exact c.val k);have C:(keyPart u).isSome=Ĳ:=by
  cases k with
  |inl i=>obtain⟨t,q⟩:=(show ∃ t,u=Fh i t from j);subst q;rfl
  |inr x=>obtain⟨t,q⟩:=(show ∃ t,u=To x t from j);subst q;rfl
 have r:pr "dict.pop" ⟨yb a::u::b,[]⟩:=by
  rcases n with q|⟨x,q⟩
  ·subst q;exact PySem.F.args_dict_pop_2 _ _
  ·subst q;exact PySem.F.args_dict_pop_3 _ _ _
 refine bj Po m.typeIs PySem.F.entry_dict_pop r (meets_dict_pop_there (fj X.prog X.w) a (Qv j) b n C)
  ⟨vs,f,m,by rw[<-c.length];exact z,J,λh' d G=>h f _ ?_ g⟩
 have B:∃ q,h'.get? a=BD q:=let ⟨q,_,_,D,_⟩:=d;⟨q,D⟩;exact ez I (by rw[e];exact Ϯ) G B$ Rz (ib (EU kvs k) z) y (c.drop k) d
end
def WJ(i:Oa):Prop:=∀ b a,Wo i Ε b a=operate [b,a] (Yh b a)
def j9{T t}
  (p:typeLookup (Uh T) "__getitem__" = pure (BD$ Ϣ t)) (q:WJ b)
  (h:wpAny (model a w) A (Mb c j) (λo f=>wpAny (model a w) A (Mb b j) (λi d=>d.TypeIs o T/\wpAny (model a w) A (Yh o i) Q E d) E f) E s) :
  wpAny (model a w) A (Mb (Ϟ c b m) j) Q E s:=by
 refine vA (dc h (λo f k=>dc k (λi d e=>?_) λu u x=>x) λu u x=>x);obtain⟨n,e⟩:=e;unfold NZ;refine aa ?_;rw[getitemInPython_of_ne n.not_modules];refine aa$ Yg n p ?_;have jg:wpAny (model a w) A (Wo b Ε o i) (λr g=>wpAny (model a w) A (letTemporaryGo c o r >>= λu=>pure r) Q E g) E d:=by
  rw[q o i];exact wpAny_operating (dc e (λr g l=>aa$ wpAny_letTemporaryGo$ da l) λu u x=>x)
 first
  |exact da$ aa jg
  |exact aa$ da$ aa jg
  |exact aa jg
def Z9(I:db X c h H s)(g:Ui H a y o):s.TypeIs (yb a) "dict":=by
 rcases g with⟨f,k,e,_,_⟩|⟨f,k,b,e,_,_,_⟩
 ·obtain⟨_,_,i,_,d⟩:=Gv I.Fc e;exact d.typeIs
 ·obtain⟨_,_,xs,_,d⟩:=ZD I.Fc e;exact d.typeIs
noncomputable def Z8(e ty:TE):TE:=λc H Q=>e c H λx d=>ty c d λy b=>∃ a v,x=ϖ a/\Ui b a y (BD v)/\Q v b
section
variable{o i e value:Oa}{pos pos' tpos:Td}{td ty tv:TE}
def P3(p:X.A.units+7<cLine)(m:PE X o td)(l:PE X i ty)(n:WJ i):PE X (Ϟ o i pos)$ Z8 td ty:=by
 intro b s e H Q I h;refine j9 PySem.F.slot_dict_getitem.lookup n (Ed (m b s e H _ I h) λu s1 ⟨x,H1,j,t,q⟩=>Ed (l b s1 e H1 _ j q) λz s2 ⟨y,f,d,w,a,v,ex,g,r⟩=>?_);subst ex;obtain rfl:u=yb a:=t;exact⟨Z9 d g,M5 p d g w λC B k c=>⟨v,f,k,c,r⟩⟩
end
def pQ(h:Heap)(a:rf<h.objs.size):Cj P w H (h.push { cls:=Uh "dict",data:=.dict #[] }) h.objs.size$ ϛ []:=
 ⟨rh _,ce.mpr$ Jd$ Aa a,[],Ϡ,jP h⟩
def Ņ(h:Heap)(a:rf<h.objs.size):Cj P w H (h.push { cls:=Uh "dict",data:=.dict #[] }) h.objs.size$ .dT []:=
 ⟨rh _,ce.mpr$ Jd$ Aa a,[],Ϡ,_,#[],0,Da _ rfl,⟨rfl,rfl,rfl⟩,rfl,rfl,An⟩
def Ţ:TE:=λa H Q=>∀ p,H p=V6->Q (ϖ p) (Wb H p$ ϛ [])
def ĺ:TE:=λa H Q=>∀ p,H p=V6->Q (ϖ p) (Wb H p$ .dT [])
section
variable{pos:Td}
def GU:PE X (.Dict [] [] pos) Ţ:=λb s c H Q I h=>
 GF ⟨ϖ s.heap.objs.size,_,I.laid (a:=s.heap.objs.size) (o:=ϛ []) (t':=s.toks) (λb b q=>ga _ q) (ua _)$ pQ s.heap I.qH,rfl,h _$ I.Fc.fresh$ ua _⟩
def ó:PE X (.Dict [] [] pos) ĺ:=λb s c H Q I h=>
 GF ⟨ϖ s.heap.objs.size,_,I.laid (a:=s.heap.objs.size) (o:=.dT []) (t':=s.toks) (λb b q=>ga _ q) (ua _)$ Ņ s.heap I.qH,rfl,h _$ I.Fc.fresh$ ua _⟩
end
section
variable{pins:List$ Addr × Obj}{σ:St}{H:Hp}{s:Shared}{a:Addr}{kvs:List$ Ic × V}{A:Ra}{E:Value->Shared->Prop}
def zkp(I:db X pins σ H s)(e:Rd H a$ ϛ kvs)(h:∀ p g,H p=V6->db X pins σ (Wb H p$ ϛ kvs) g->Q (yb p) g):wpAny (model X.prog X.w) A (call (Uh "dict") [yb a]) Q E s:=by
 obtain⟨z,j,vs,c,i⟩:=Gv I.Fc e;refine kt_call_dict j i (by rw[<-c.length];exact z) λh' d k=>?_;refine h _ _ (I.Fc.fresh$ ua _)$ I.laid (a:=s.heap.objs.size) (o:=ϛ kvs) (t':=s.toks) (λb q f=>?_) (ua _)$ Rz z (ce.mpr$ Jd$ Aa I.qH) c d;exact(k.2 b$ Aa$ ya f).trans$ ga _ f
end
end L2
namespace L4
open Spec L2
noncomputable def Bi:D->Option Ic
 | Z i=>BD (.inl i)
 | ϓ x=>BD (.inr x)
 |_=>V6
noncomputable def Sg(b:Fa):D->Option (List$ Ic × D)
 | Ϩ ks xs=>if ks.length=xs.length then BD (ks.zip xs)else V6
 | U n=>(match b[n]? with
  |some (Ϗ a)=>BD a
  |some (.He a)=>BD a
  |_=>V6)
 |_=>V6
noncomputable def Qi(a:List$ Ic × D)(k:Ic):Option D:=(a.find? λb=>decide$ b.1=k).map (·.2)
noncomputable def ij(a:List$ Ic × D)(k:Ic)(d:D):List$ Ic × D:=
 if a.any (λb=>decide$ b.1=k)then a.map λb=>if b.1=k then (b.1,d)else b else a++[(k,d)]
section
variable{μ:dl}{H:Hp}
def Cw(h:Sa T μ H y v)(e:Bi y=BD k):v=kV k:=by
 cases y<;>simp[Bi]at e<;>subst e<;>rw[Sa]at h<;>exact h
theorem MG:∀ {ks:List Ic} {ds:B'} {a:List$ Ic × V},a.map (·.1)=ks->lb T μ H ds (a.map (·.2))->eh T μ H (ks.zip ds) a
 |ks,[],a,c,b=>by
  rw[lb]at b;have:a=[]:=by simpa using b
  subst this;rw[<-c];exact Ϡ
 |ks,d::ds,a,c,b=>by
  obtain⟨v,r,e,f,g⟩:=b;cases a with
  |nil=>cases e
  |cons p a=>
   cases e;rw[<-c];exact ϝ ⟨rfl,f⟩$ MG rfl g
def uy(r:ud T μ H g)(h:Sa T μ H x v)(e:Sg g x=BD d):∃ a vs,v=ϖ a/\Rd H a (ϛ vs)/\eh T μ H d vs:=by
 cases x with
 |Xa ks xs=>
  obtain⟨a,vs,rfl,_,b,c,i⟩:=h;unfold Sg at e;dsimp only at e;split at e
  ·cases e;exact⟨a,vs,rfl,b,MG c i⟩
  ·cases e
 |ref n=>
  unfold Sg at e;dsimp only at e;cases q:g[n]? with
  |none=>simp_all
  |some o=>
   rw[q]at e;cases o with
   |Xa f=>
    cases e;obtain⟨a,rfl,_,vs,b,c⟩:=r.at h q;exact⟨a,vs,rfl,ϑ b,c⟩
   |He f=>
    cases e;obtain⟨a,rfl,_,ob,vs,b,c⟩:=r.at h q;exact⟨a,vs,rfl,ϕ ⟨ob,b⟩,c⟩
   |_=>cases e
 |_=>cases e
def kC(h:eh T μ H a vs) k:(Qi a k=V6/\Ek vs k=V6)\/∃ d v,Qi a k=BD d/\Ek vs k=BD v/\Sa T μ H d v:=by
 induction h with
 |nil=>exact ϑ ⟨rfl,rfl⟩
 |@cons p q ps j h t i=>
  obtain⟨c,g⟩:=h;by_cases e:p.1=k
  ·have b:=c.symm.trans e;exact ϕ ⟨p.2,q.2,by unfold Qi;rw[Gd,rc e];rfl,EE b,g⟩
  ·have b:=λz=>e$ c.trans z;have f:Qi (p::ps) k=Qi ps k:=by unfold Qi;rw[Gd,gc e]
   rw[f,gF b];exact i
def F3(h:eh T μ H a c) k:(a.any λb=>decide$ b.1=k)=(c.any λb=>decide$ b.1=k):=by
 induction h with
 |nil=>rfl
 |@cons p q ps e h t d=>simp_all
theorem lQ{c d:Type}{F:c->d->Prop}{f:c->c}{g:d->d}(UD:∀ a b,F a b->F (f a) (g b)):∀ {l:List c} {m:List d},Paired F l m->Paired F (l.map f) (m.map g)
 |_,_,Ϡ=>Ϡ
 |_,_,ϝ h t=>ϝ (UD _ _ h) (lQ UD t)
theorem eV{d e:Type}{F:d->e->Prop}{a:d}{b:e}(c:F a b):∀ {l:List d} {m:List e},Paired F l m->Paired F (l++[a]) (m++[b])
 |_,_,Ϡ=>ϝ c Ϡ
 |_,_,ϝ h t=>ϝ h (eV c t)
def vL(h:eh T μ H a vs) k(b:Sa T μ H d v):eh T μ H (ij a k d)$ ik vs k v:=by
 unfold ij ik;rw[F3 h k];split
 ·refine lQ (λp q h=>?_) h;by_cases e:p.1=k;all_goals simp_all
 ·exact eV ⟨rfl,b⟩ h
def eh.mono(e:Cd μ H b c)(h:eh T μ H a d):eh T b c a d:=Paired.Jp h λf f z=>⟨z.1,Sa.mono e _ _ z.2⟩
def _root_.L2.Ui.kr(e:Rd H a$ ϛ b):Ui H a (kV k)$ Ek b k:=ϑ ⟨b,k,e,rfl,rfl⟩
def am(x y:D):M D:=λb=>match Bi y with
 |some k=>(match Sg b x with
  |some a=>(match Qi a k with
   |some d=>O d b
   |none=>Ϙ)
  |none=>Ϙ)
 |none=>Ϙ
def AK(hu:X.A.units+9<cLine)(G:FE T X o p)(F:FE T X i fi)(L:WJ i):FE T X (Ϟ o i g)$ Ab am p fi:=by
 intro c s st H Q I h;refine P3 ⋯ G F L c s st H Q I ?_;obtain⟨μ,t,Y,q,K,J⟩:=h;refine⟨μ,t,Y,q,K,J.bind λx m l v ϊ D z S P ό=>⟨l,t,m,q.mono z,S,ό.bind λy n W u H2 D B r R b=>?_⟩⟩;unfold am at b;cases f:Bi y with
 |none=>rw[f]at b;exact b.elim
 |some k=>
  rw[f]at b;cases e:Sg n x with
  |none=>rw[e]at b;exact b.elim
  |some N=>
   rw[e]at b;dsimp only at b;obtain⟨a,vs,rfl,C,E⟩:=uy r (Sa.mono B _ _ P) e;obtain rfl:=Cw R f;rcases kC E k with⟨j,_⟩|⟨d,w,j,ϋ,V⟩
   ·rw[j]at b;exact b.elim
   ·rw[j]at b;exact⟨a,w,rfl,by rw[<-ϋ];exact Ui.kr C,Rb.here b r V⟩
noncomputable def EL:R2:=λy x H Q=>∃ a o,x=ϖ a/\Ui H a y o/\Q (ϫ o.isSome) H
def NH(f:X.A.units+9<cLine):zh X (Gb .In) EL:=by
 rintro b s j H y x h u Q I e d ⟨a,o,rfl,g,q⟩;obtain rfl:u=yb a:=d;exact yve ⋯ I g e λi c=>⟨ϫ o.isSome,H,c,rfl,q⟩
def Nu(y x:D):M D:=λb=>match Bi y with
 |some k=>(match Sg b x with
  |some a=>O (ϐ (Qi a k).isSome) b
  |none=>Ϙ)
 |none=>Ϙ
theorem WP:pk T EL Nu:=by
 intro E μ H l y x u v Q r q p h;unfold Nu at h;cases c:Bi y with
 |none=>rw[c]at h;exact h.elim
 |some k=>
  rw[c]at h;cases b:Sg l x with
  |none=>rw[b]at h;exact h.elim
  |some j=>
   rw[b]at h;obtain⟨a,vs,rfl,g,i⟩:=uy r p b;obtain rfl:=Cw q c;refine⟨a,Ek vs k,rfl,Ui.kr g,Rb.here h r ?_⟩;rcases kC i k with⟨e,f⟩|⟨d,w,e,f,m⟩
   ·rw[e,f];rfl
   ·rw[e,f];rfl
noncomputable def p8:eG:=λx y v H Q=>∃ a b,x=ϖ a/\Fx H a y v b/\Q b
def cU(k:X.A.units+9<cLine):GJ X p8:=by
 rintro b s st H o i v e l u Q I h f j ⟨a,c,rfl,g,q⟩;obtain rfl:e=yb a:=h;exact ź ⋯ I g f j λm d=>⟨c,d,q⟩
def jq(c:Ev)(d x:D)(y:D):M Fl:=λb=>match x with
 | U n=>(match Bi y with
  |some k=>(match b[n]? with
   |some (Ϗ a)=>if a.length<Dg then O (ϙ c) (b.set n$ Ϗ$ ij a k d)else Ϙ
   |_=>Ϙ)
  |none=>Ϙ)
 |_=>Ϙ
def YL(a:Ev)(b:Ev->M D)(d x:D):M Fl:=xs a (b a)$ jq a d x
def CL(a:Ev)(c b:Ev->M D)(d:D):M Fl:=xs a (c a)$ YL a b d
def Jv(f c b:Ev->M D):Ev->M Fl:=λa=>xs a (f a)$ CL a c b
def mL(hu:X.A.units+9<cLine)(ϊ:FE T X e f)(ho:FE T X o R)(hi:FE T X i fi)
  (Y:∀ v,dj (Ϟ o i b) X.env v=(do
   let t <-qe [v] (Mb o X.env);let F <-qe [v,t] (Mb i X.env)
   oh b
   qe [v,t,F] (yq t F v)
   NC [v,t,F] []):=by intro _;rfl)
  (hs:Sl [Ϟ o i b] e p.line X.env=pure Ε:=by rfl) (hw:Tl [Ϟ o i b] e X.env=pure V6:=by rfl)
  (W:(ge [Ϟ o i b] X.env).map (·.2)=[dj (Ϟ o i b) X.env]:=by rfl):FS T X (Ϻ [Ϟ o i b] e p)$ Jv f R fi:=by
 intro m s st H D I hq;refine cP ϊ (oM ho hi (cU hu) Y) hs hw W m s st H D I ?_;obtain⟨μ,L,σ,g,hr,hp⟩:=hq;refine⟨μ,L,σ,g,hr,hp.xs g λd N J v H1 d h r1 q1 p1=>⟨J,L,N,g.mono h,r1,p1.xs (g.mono h) λx ό K vo H2 d r r2 q2 p2=>⟨K,L,ό,(g.mono h).mono r,r2,p2.xs ((g.mono h).mono r) λy P q vi Q d u V q3 c=>?_⟩⟩⟩;have hx:=Sa.mono u _ _ q2;unfold jq at c;cases x with
 |ref n=>
  dsimp only at c;cases w:Bi y with
  |none=>rw[w]at c;exact c.elim
  |some k=>
   rw[w]at c;cases B:P[n]? with
   |none=>rw[B]at c;exact c.elim
   |some ob=>
    rw[B]at c;cases ob with
    |Xa l=>
     dsimp only at c;by_cases E:l.length<Dg
     ·rw[ka E]at c;obtain⟨a,rfl,ϋ,vs,S,C⟩:=V.at hx B;obtain rfl:=Cw q3 w;have G:=V.write (ob:=Ϗ _) ϋ ⟨_,Mf,by
       have ex:Cd q Q q$ Wb Q a$ ϛ$ ik vs k v:=Ss (wa ϋ) S (λd z=>by cases z) (λd d z=>by cases z);exact vL (eh.mono ex C) k$ Sa.mono ex _ _$ Sa.mono u _ _$ Sa.mono r _ _ q1⟩
      have j:vs.length=l.length:=by unfold eh at C;exact(Paired.length C).symm
      exact⟨a,_,rfl,Fx.k S (by rw[j];exact Ja E ⋯),c _ (Ϸ st) _ G.1 G.2$ ((g.mono h).mono r).mono u |>.mono G.1⟩
     ·rw[qa E]at c;exact c.elim
    |_=>exact c.elim
 |_=>exact c.elim
noncomputable def rq:Ev->M D:=λb a=>O (U a.length)$ a++[Ϗ []]
def Ĥ:FE T X (.Dict [] [] b) rq:=by
 rintro a s f H Q I ⟨μ,h,i,g,d,e⟩;exact GU a s f H Q I λp c=>(e _ _ _ (wu c) (d.push c ⟨[],Mf,Ϡ⟩)$ GB d)
def XU:FE T X (.Dict [] [] c)$ eC$ Ϩ [] []:=by
 rintro a s h H Q I ⟨μ,j,k,i,d,g⟩;exact GU a s h H Q I λp b=>(g μ _ _ (ek b) (d.fresh b)$ by rw[Sa];exact⟨p,[],rfl,λf=>(by obtain⟨u,e,_⟩:=d.mem f;rw[b]at e;cases e),(ϑ Mf),rfl,lb.nil⟩)
def HJ:n'->Hp->VK->Prop:=λxs H Q=>∃ a b,xs=[ϖ a]/\Rd H a (ϛ b)/\∀ p,H p=V6->Q (ϖ p) (Wb H p$ ϛ b)
def DY:Ao X (Uh "dict") HJ:=by
 rintro b s h H xs i Q I r ⟨a,f,rfl,e,q⟩;obtain⟨u,rfl,rfl⟩:=Cs r;exact zkp I e λp g d c=>⟨ϖ p,_,c,rfl,q p d⟩
def cF(c:B'):M D:=λb=>match c with
 |[x]=>(match Sg b x with
  |some a=>O (Ϩ (a.map (·.1)) (a.map (·.2))) b
  |none=>Ϙ)
 |_=>Ϙ
theorem pX:∀ {a:List$ Ic × D} {b:List$ Ic × V},eh T μ H a b->b.map (·.1)=a.map (·.1)/\lb T μ H (a.map (·.2)) (b.map (·.2)):=by
 intro _ _ h;induction h with
 |nil=>exact⟨rfl,lb.nil⟩
 |cons h _ i=>exact⟨by rw[Ta,Ta,i.1,h.1],lb.cons h.2 i.2⟩
def t9:Bs T HJ cF:=by
 intro E μ H o e vs Q r p h
 match e with
 |[]=>trivial
 |[x]=>
  unfold cF at h;dsimp only at h;cases c:Sg o x with
  |none=>rw[c]at h;exact h.elim
  |some j=>
   rw[c]at h;obtain⟨v,q,rfl,k,rfl⟩:=p;obtain⟨a,ws,rfl,f,g⟩:=uy r k c;refine⟨a,ws,rfl,f,λl b=>?_⟩;obtain⟨m,n⟩:=pX g;exact h μ _ _ (ek b) (r.fresh b) (by rw[Sa];exact⟨l,ws,rfl,λi=>(by obtain⟨u,d,_⟩:=r.mem i;rw[b]at d;cases d),(ϑ Mf),m,lb.mono (ek b) _ _ n⟩)
 |_::_::_=>trivial
end
noncomputable def DD(o:Int->Int->Int)(i:Nat)(c:Ev)(x d:D):M Fl:=λe=>match x,d with
 | Z a,Z b=>O (ϙ$ c.set i$ BD$ Z$ o a b) e
 |_,_=>Ϙ
def ky(o:Int->Int->Int)(i:Nat)(f:Ev->M D):Ev->M Fl:=λa=>match a[i]? with
 |some (BD x)=>xs a (f a) (DD o i a x)
 |_=>λb=>Ϙ
def fV(h:a[i]?=BD (BD x)):ky o i f a b=Ik a (DD o i a x) (f a b):=by
 unfold ky;rw[h];exact Ul ..
@[simp] theorem zrs o i c a b d:DD o i c (Z a) (Z b) d=O (ϙ$ c.set i$ BD$ Z$ o a b) d:=nr rfl
section
variable{e:Oa}{f:Ev->M D}{pos:Td}
def xW(C:mM X n$ YS o)(w:X.N.Nodup)(B:X.N[i]?=BD x)(G:Loc X.env.scope x)(z:FE T X e f)(A:X.fn x=Ĳ\/X.env.scope.names.lookup x=BD .local:=by first|exact .inl rfl|exact .inr rfl|assumption) :
  FS T X (.AugAssign (Ϝ x j) n e pos)$ ky o i f:=by
 intro h s st H D I F;refine ľ w B G z C A h s st H D I ?_;obtain⟨L,p,ό,l,E,c⟩:=F;unfold ky at c;cases k:p[i]? with
 |none=>rw[k]at c;exact c.elim
 |some q=>
  cases q with
  |none=>rw[k]at c;exact c.elim
  |some d=>
   rw[k]at c;obtain⟨v,t,u⟩:=l.2 i d k;refine⟨v,t,L,p,ό,l,E,c.xs l λy P M R Q O r K J m=>?_⟩;cases d with
   |int a=>
    cases y with
    |int b=>
     subst u J;exact⟨a,b,rfl,rfl,Rb.here (g:=Ϸ _) m K$ (l.mono r).set i (by rw[Sa])⟩
    |_=>exact m.elim
   |_=>exact m.elim
end
def Zw(o:D->B'->M D)(m:M$ B')(x:D):M D:=λa=>match Sg a x with
 |some _=>Tc m (o x) a
 |none=>Ϙ
def qD(o:D->B'->M D)(f:Ev->M D)(b:Ev->M (B')):Ev->M D:=λa=>Tc (f a)$ Zw o$ b a
def BP:V->n'->Hp->VK->Prop:=λx c H Q=>∃ a b k d,x=ϖ a/\c=[kV k,d]/\H a=BD (ϛ b)/\b.length<sizeLine/\
 (∀ v,Ek b k=BD v->Q v H)/\(Ek b k=V6->Q d (Wb H a$ ϛ$ ik b k d))
def Hw(x:D)(xs:B'):M D:=λb=>match x,xs with
 | U n,[y,d]=>(match Bi y with
  |some k=>(match b[n]? with
   |some (Ϗ a)=>if a.length<Dg then (match Qi a k with
    |some e=>O e b
    |none=>O d (b.set n$ Ϗ$ ij a k d))else Ϙ
   |_=>Ϙ)
  |none=>Ϙ)
 |_,_=>Ϙ
section
variable{o e:Oa}{es:List Oa}{f:Ev->M D}{fs:Ev->M (B')}{name:Str}{apos cpos:Td}{id:String}{r:V->n'->Hp->VK->Prop}{g:D->B'->M D}
def Ã:Uw X "dict.setdefault" BP:=by
 rintro l s st H x vs v K Q I G E ⟨a,b,k,d,rfl,rfl,i,J,n,o⟩;cases G;obtain⟨u,r,rfl,D,m⟩:=E.two;obtain⟨z,j,ws,c,h⟩:=MB I.Fc i;have C:ws.length<=sizeLine:=by rw[<-c.length];exact z
 have g:(ik b k d).length<=sizeLine:=by have:=ND b k d;lia
 refine bj wl h.typeIs PySem.F.entry_dict_setdefault (PySem.F.args_dict_setdefault_3 _ _ _) (kt_meets_setdefault _ a (Qv D) j r) ⟨ws,h,C,λw B=>?_,λt h' f A=>?_⟩
 ·have q:=c.val k;rw[B]at q;cases e:Ek b k with
  |none=>rw[e]at q;exact absurd q (by simp[Tn])
  |some x=>rw[e]at q;exact⟨x,H,I.tok _,q,n x e⟩
 ·have q:=c.val k;rw[t]at q;cases e:Ek b k with
  |some x=>rw[e]at q;exact absurd q (by simp[Tn])
  |none=>
   have p:∃ q,h'.get? a=BD q:=let ⟨q,_,_,y,_⟩:=f;⟨q,y⟩;exact⟨d,_,ez I (by rw[i];exact Ϯ) A p$ Rz g j (c.put k m) f,m,o e⟩
def nY(I:db X b h H s)(g:Rd H p$ ϛ c):s.TypeIs (yb p) "dict"/\∀ a,yb p=yb a->∃ d,s.heap.get? a=BD d/\d.dict=V6:=by
 obtain⟨_,_,_,_,o,_,_,e,ex,_⟩:=Gv I.Fc g;refine⟨⟨o,e,ex.1⟩,λa f=>?_⟩;cases f;exact⟨o,e,ex.2.1⟩
def Ľ(r:V->n'->Hp->VK->Prop)(d:TE):TE:=λe H Q=>d e H λx c=>(∃ a b,x=ϖ a/\Rd c a (ϛ b))/\r x [] c Q
def û(r:V->n'->Hp->VK->Prop)(f:TE)(t:TA):TE:=λd H Q=>f d H λx c=>(∃ a b,x=ϖ a/\Rd c a (ϛ b))/\t d c λxs e=>r x xs e Q
def GS(t:vm "dict")(e:vP "dict" name id)(f:uo (Ϣ id)=pure (Uh "method_descriptor"))(n:Uw X id r)(p:PE X o i)
  (c:Dd o name X.env (Mb o X.env)=Mb o X.env:=by rfl) (d:(apos.endLine == cpos.line)=Ĳ:=by rfl):PE X (ϡ (ϟ o name apos) [] [] cpos)$ Ľ r i:=by
 intro b s j H Q I h;refine wpAny_Call_method0_late c d (Ed (p b s j H _ I h) λv s1 ſ=>?_);obtain⟨x,H1,g,w,ty,u⟩:=ſ;obtain⟨a,q,rfl,m⟩:=ty;cases w;obtain⟨k,l⟩:=nY g m;exact⟨"dict",id,t,e,f,k,l,Sh rfl$ PySem.evalArgs_none$ n b s1 j H1 (ϖ a) [] (yb a) [] Q g rfl Ϡ u⟩
def Ę(E:vm "dict")(g:vP "dict" name id)(j:uo (Ϣ id)=pure (Uh "method_descriptor"))(A:Uw X id r)(B:PE X o n)(y:PA X (e::es) t)
  (c:Dd o name X.env (Mb o X.env)=Mb o X.env:=by rfl)
  (f:((lc cpos$ va (e::es) X.env).all (λx=>!x.1) && (Hh cpos$ uf [] X.env).all (λx=>x.1.isSome)
   && decide ((e::es).length+([]:List ej).length+(if ([]:List ej).isEmpty then 0 else 1)<30))=Ĳ:=by rfl)
  (d:(apos.endLine == cpos.line)=Ĳ:=by rfl) (C:va (e::es) X.env=(Ε,Mb e X.env)::va es X.env:=by rfl) (i:(lc cpos$ va es X.env).any (·.1)=Ε:=by rfl) :
  PE X (ϡ (ϟ o name apos) (e::es) [] cpos)$ û r n t:=by
 intro b s k H Q I h;refine Uu c f d rfl (Ed (B b s k H _ I h) λv s1 ſ=>?_);obtain⟨x,H1,l,J,ty,F⟩:=ſ;obtain⟨a,D,rfl,z⟩:=ty;cases J;obtain⟨u,w⟩:=nY l z;refine⟨"dict",id,E,g,j,u,w,?_⟩;have m:=y cpos b s1 k H1 _ l F;rw[C]at m ⊢;exact Sh ⋯$ Hi (Ed m λus s2 ⟨vs,p,q,K,G⟩=>A b s2 k p (ϖ a) vs _ us Q q rfl K G)
def CJ(R:vm "dict")(l:vP "dict" name id)(q:uo (Ϣ id)=pure (Uh "method_descriptor"))(K:Uw X id r)(ό:ly T r g)(L:FE T X o f)(J:FA T X (e::es) fs)
  (c:Dd o name X.env (Mb o X.env)=Mb o X.env:=by rfl)
  (i:((lc cpos$ va (e::es) X.env).all (λx=>!x.1) && (Hh cpos$ uf [] X.env).all (λx=>x.1.isSome)
   && decide ((e::es).length+([]:List ej).length+(if ([]:List ej).isEmpty then 0 else 1)<30))=Ĳ:=by rfl)
  (d:(apos.endLine == cpos.line)=Ĳ:=by rfl) (p:va (e::es) X.env=(Ε,Mb e X.env)::va es X.env:=by rfl) (b:(lc cpos$ va es X.env).any (·.1)=Ε:=by rfl) :
  FE T X (ϡ (ϟ o name apos) (e::es) [] cpos)$ qD g f fs:=by
 intro j s V H Q I h;refine Ę R l q K L J c i d p b j s V H Q I ?_;obtain⟨W,B,Y,y,N,M⟩:=h;refine⟨W,B,Y,y,N,M.bind λx m t v ϊ O E A z k=>?_⟩;unfold Zw at k;cases n:Sg m x with
 |none=>rw[n]at k;exact k.elim
 |some xs=>
  rw[n]at k;obtain⟨a,vs,rfl,G,h2⟩:=uy A z n;exact⟨⟨a,vs,rfl,G⟩,t,B,m,y.mono E,A,k.bind λD w u ws C O F ϋ P S=>(ό _ u C w x D _ ws Q ϋ (Sa.mono F _ _ z) P S)⟩
def Ö:ly T BP Hw:=by
 intro E G H σ x xs v M Q r p q h;cases x with
 |ref n=>
  match xs with
  |[]=>exact h.elim
  |[_]=>exact h.elim
  |[y,d]=>
   obtain⟨w,z,rfl,J,K⟩:=q;obtain⟨D,f,rfl,B,C⟩:=K;rw[lb]at C;subst C;unfold Hw at h;cases m:Bi y with
   |none=>simp[m]at h;exact h.elim
   |some k=>
    simp[m]at h;cases b:σ[n]? with
    |none=>simp[b]at h;exact h.elim
    |some ob=>
     cases ob with
     |Xa j=>
      simp[b]at h;by_cases o:j.length<Dg
      ·rw[ka o]at h;obtain⟨a,rfl,A,s,u,g⟩:=r.at p b;obtain rfl:=Cw J m;have i:s.length=j.length:=by unfold eh at g;exact(Paired.length g).symm
       refine⟨a,s,k,D,rfl,rfl,u,by rw[i];exact vV o,λv e=>?_,λe=>?_⟩
       ·rcases kC g k with⟨l,f⟩|⟨I,L,l,f,F⟩
        ·rw[f]at e;cases e
        ·rw[f]at e;cases e;rw[l]at h;exact Rb.here h r F
       ·rcases kC g k with⟨l,f⟩|⟨I,L,l,f,F⟩
        ·rw[l]at h;have t:=r.write (ob:=Ϗ _) A ⟨_,Mf,by
          have ex:Cd G H G$ Wb H a$ ϛ$ ik s k D:=Ss (wa A) u (λO z=>by cases z) (λO O z=>by cases z);exact vL (eh.mono ex g) k$ Sa.mono ex _ _ B⟩
         exact h _ _ _ t.1 t.2$ Sa.mono t.1 _ _ B
        ·rw[f]at e;cases e
      ·rw[qa o]at h;exact h.elim
     |ra N=>simp[b]at h;exact h.elim
     |ub c fs=>simp[b]at h;exact h.elim
     |He _=>simp only[b]at h;exact h.elim
     |Vc _=>simp only[b]at h;exact h.elim
  |_::_::_::_=>exact h.elim
 |_=>exact h.elim
end
def pw(a:Fa)(x:D):B'->Option (List Bool)
 |[]=>BD []
 |y::c=>match Mj a 7 y x,pw a x c with
  |some b,BD bs=>BD (b::bs)
  |_,_=>V6
def cJ(a:Bool)(x y:D):M D:=λb=>match gi b y with
 |some xs=>(match pw b x xs with
  |some bs=>O (ϐ$ if a then !(bs.any id)else bs.any id) b
  |none=>Ϙ)
 |none=>Ϙ
theorem VT{a:Fa}{x:D}:∀ {xs:B'} {bs:List Bool},pw a x xs=BD bs->bs.length=xs.length/\∀ (j:Nat) (d:D) (b:Bool),xs[j]?=BD d->bs[j]?=BD b->Mj a 7 d x=BD b
 |[],bs,h=>by cases h;exact⟨rfl,λj d b h=>by simp at h⟩
 |y::k,bs,h=>by
  unfold pw at h;cases f:Mj a 7 y x with
  |none=>simp_all
  |some l=>
   cases c:pw a x k with
   |none=>simp_all
   |some e=>
    rw[f,c]at h;cases h;obtain⟨g,i⟩:=VT c;refine⟨by simp[g],λj d b n m=>?_⟩;cases j with
    |zero=>simp_all
    |succ j=>exact i j d b (by trivial) (by trivial)
open Classical in
def UB(a:gV)(b:List Bool)(u:Value):Bool:=decide$ ∃ j:Nat,a[j]?=BD u/\b[j]?=BD Ĳ
def dJ:UB a b u=Ĳ ↔ ∃ j:Nat,a[j]?=BD u/\b[j]?=BD Ĳ:=by unfold UB;exact @decide_eq_true_iff _$ Classical.propDecidable _
def UX{a:gV}(k:c.length=a.length):a.toArray.any (UB a c)=c.any id:=by
 rw[show a.toArray.any _=a.any (UB a c) by simp,zf,Qc,Qc];constructor
 ·rintro ⟨u,_,i⟩;obtain⟨j,_,h⟩:=dJ.mp i;exact⟨Ĳ,wa h,rfl⟩
 ·rintro ⟨b,d,g⟩;cases (g);obtain⟨j,f,h⟩:=vt d;have e:j<a.length:=by lia
  exact⟨a[j],Ph e,dJ.mpr ⟨j,by simp,by simp[f,h]⟩⟩
def ycw(m:c.length=a.length)(h:∀ (j:Nat) u b,a[j]?=BD u->c[j]?=BD b->Oc A s u x b) w(k:w∈a):Oc A s w x$ UB a c w:=by
 cases e:UB a c w with
 |true=>obtain⟨j,f,g⟩:=dJ.mp e;exact h j w Ĳ f g
 |false=>
  obtain⟨j,d,rfl⟩:=vt k;have i:j<c.length:=by lia
  have l:c[j]=Ε:=by
   cases q:c[j]with
   |false=>rfl
   |true=>exact absurd (dJ.mpr ⟨j,Vb d,by rw[Vb i,q]⟩) ⋯
  exact h j _ Ε (Vb d) ⋯
def B9(L:T.K=X.K)(ϋ:X.A.units+9<cLine){st}(I:db X m st H s)(r:ud T B H C)(N:Sa T B H x v)(ό:Sa T B H y u)(R:jd v n)(P:jd u t)
  {xs} (e:gi C y=BD xs) (J:pw C x xs=BD h) :
  (Q (fg$ h.any id) s->wpAny (model X.prog X.w) X.A (Gb .In n t) Q X.xe s)/\(Q (fg$ !h.any id) s->wpAny (model X.prog X.w) X.A (Gb .NotIn n t) Q X.xe s):=by
 obtain⟨p,vs,rfl,E,f⟩:=oA r ό e;rw[L]at f;obtain⟨W,M⟩:=VT J;cases P;have l:∀ {a:gV},ie vs a->(h.length=a.length/\∀ w∈a,Oc X.A.in1 s w n _):=fun {a} q=>by
  have l1:=E.length;have l2:=q.length;have g:h.length=a.length:=by lia
  refine⟨g,ycw g λj w b c o=>?_⟩;obtain⟨z,F,S⟩:=GI q c;obtain⟨d,G,rd⟩:=OK E F;exact dG I r 7 X.A.in1 d x z v w n b ⋯ rd N S R$ M j d b G o
 rcases f with f|f
 ·obtain⟨a,q,pl,_⟩:=L2.db.list I f;obtain⟨g,k⟩:=l q;refine⟨λi=>dw _ pl.isList (λw c=>k w (by simpa using c)) ?_,λi=>qt _ pl.isList (λw c=>k w ⋯) ?_⟩<;>rw[UX g]<;>exact i
 ·obtain⟨a,q,pl,_⟩:=L2.db.tuple I f;obtain⟨g,k⟩:=l q;refine⟨λi=>Tu _ pl (λw c=>k w (by simpa using c)) ?_,λi=>Tr _ pl (λw c=>k w ⋯) ?_⟩<;>rw[UX g]<;>exact i
def qR(f:T.K=X.K)(g:X.A.units+9<cLine):zh X (Gb .In)$ rD T$ cJ Ε:=by
 rintro c s st H v u m l Q I k j ⟨E,n,d,x,y,r,h,i,a⟩;unfold cJ at a;cases e:gi d y with
 |none=>rw[e]at a;exact a.elim
 |some xs=>
  rw[e]at a;dsimp only at a;cases b:pw d x xs with
  |none=>rw[b]at a;exact a.elim
  |some bs=>
   rw[b]at a;exact(B9 f g I r h i k j e b).1 ⟨ϫ _,H,I,rfl,Rb.here a r (by rw[Sa];rfl)⟩
noncomputable def fq:Ev->M Fl:=λa a=>Ϙ
def W9:FS T X e fq:=λpins s st H D I ⟨b,c,σ,_,_,a⟩=>a.elim
section
variable{pins:List$ Addr × Obj}{σ:St}{H:Hp}{s:Shared}{h':Heap}
def dF(e:H b=BD u)(n:H a=V6):b≠a:=λz=>by rw[z,n]at e;cases e
def _root_.L2.db.Eu{a:dl}(I:db X pins σ H s)(k:∀ b u,b ∉ a->s.heap.get? b=BD u->h'.get? b=BD u)(h:∀ b∈a,Sk X pins H b)(j:s.heap.objs.size<=p)(i:Cj X.prog X.w (Wb H p o) h' p o) :
  db X pins σ (Wb H p o) { s with heap:=h',toks:=t' }:=by
 have f:=I.Fc.fresh j;have E:∀ b u,H b=BD u->b ∉ a:=λb u e z=>by rw[(h b z).1]at e;cases e
 refine I.step (λb g=>?_) (λb o m m d e m=>k b o d e) (λb o m m d e m=>⟨o.slots,k b o d e⟩) (λb u m q n=>by rw[Ad$ Aa$ Ja (ya q) j];exact n)
  (λb o d e=>⟨o,k b o d e⟩) (λb xs q=>by rw[Ad$ dF q f];exact q) (λb u xs q=>by rw[Ad$ dF q f];exact q) (λb ps q=>⟨#[],by rw[Ad$ dF q f,q];simp⟩) (λm C=>?_) (λb u e=>?_) I.bare
 ·obtain⟨F,x,G,y,A,B⟩:=h b g;exact⟨y,x,A,B⟩
 ·obtain⟨o,t,l,D,r⟩:=C;exact⟨o,t,l,k _ o (λz=>(h _ z).2.1 rfl) D,r⟩
 ·by_cases g:b=p
  ·subst g;rw[Mf]at e;cases e;exact i
  ·rw[Ad g]at e;refine(I.Fc b u e).yj (λc v d q=>k c v ?_ q) (λc q=>by rw[Ad$ dF q f];exact q) λc xs q=>by rw[Ad$ dF q f];exact q
   grind
def _root_.L2.db.tu{a:dl}(I:db X pins σ H s)(k:∀ b u,b ∉ a->s.heap.get? b=BD u->h'.get? b=BD u)(f:∀ b∈a,Sk X pins H b):db X pins σ H { s with heap:=h',toks:=t' }:=by
 have y:∀ b u,H b=BD u->b ∉ a:=λb u e z=>by rw[(f b z).1]at e;cases e
 refine I.step (λb t=>?_) (λb o m m d e m=>k b o d e) (λb o m m d e m=>⟨o.slots,k b o d e⟩) (λb u m q n=>n)
  (λb o d e=>⟨o,k b o d e⟩) (λb xs q=>q) (λb u xs q=>q) (λb ps q=>⟨#[],by rw[q];simp⟩) (λm w=>?_) (λb u e=>?_) I.bare
 ·obtain⟨A,i,B,j,l,p⟩:=f b t;exact⟨j,i,l,p⟩
 ·obtain⟨o,h,g,x,r⟩:=w;exact⟨o,h,g,k _ o (λz=>(f _ z).2.1 rfl) x,r⟩
 ·refine(I.Fc b u e).yj (λc v d q=>k c v ?_ q) (λm q=>q) λm m q=>q
  grind
end
def ao{h:Heap}(e:h.get? a=BD o)(i:h.get? b=BD f)(c:o.cls=Uh n)(g:f.cls=Uh d)(j:n≠d):a≠b:=λz=>by
 simp_all
def jW(K:ϗ)(l:Addr):It:=
 ⟨λi H=>∃ xs x,Ue K H l xs/\xs[i]?=BD x,λi H v a=>∃ p x,H p=V6/\v=ϖ p/\(∀ xs,Ue K H l xs->xs[i]?=BD x)/\a=Wb H p (.Qa [Ϥ i,x]),λi H=>∃ xs,Ue K H l xs/\i=xs.length⟩
def rY(K:ϗ)(l m:Addr):It:=
 ⟨λi H=>∃ xs a x y,Ue K H l xs/\Ue K H m a/\xs[i]?=BD x/\a[i]?=BD y,λi H v b=>∃ p x y,H p=V6/\v=ϖ p/\(∀ xs,Ue K H l xs->xs[i]?=BD x)/\(∀ a,Ue K H m a->a[i]?=BD y)/\b=Wb H p (.Qa [x,y]),
  λi H=>∃ xs a,Ue K H l xs/\Ue K H m a/\i=min xs.length a.length⟩
def V0{P:Ca}{w:Wa}{K:PySem.W.Frag}{j:List Oa}{kk:Nat}{F:Td}(l e r:Addr):lp P w K (ϱ j kk F) (jW K l) [e,r] e (λi h=>(∃ a,IsEnum h e r i a)/\h.IsListIter r l i) where
 mem:=by simp
 obj:=λi h st b f=>by
  obtain⟨⟨a,s1⟩,o,s2,c,d⟩:=st;simp only[za,df,Qo]at f;rcases f with rfl|rfl;all_goals grind
 keep:=λi h h' st k=>by
  obtain⟨⟨a,s1⟩,s2⟩:=st;exact⟨⟨a,k e ⋯ _ s1⟩,s2.at λo q=>k r ⋯ o q⟩
 item:=by
  intro X ό V N S i D s σ H E I J st ϋ;subst ό V N;obtain⟨xs,x,L,Y⟩:=ϋ;obtain⟨g,rv,p,hz⟩:=I.list L;obtain⟨u,hu,ru⟩:=rv.get Y;obtain⟨⟨a,s1⟩,s2⟩:=st;obtain⟨oa,ea,ca,_⟩:=id p.isList;obtain⟨ob,G,cb,_⟩:=id s2;have a0:l≠e:=ao ea s1 ca rfl ⋯;have a1:l≠r:=ao ea G ca cb ⋯;have ϊ:e≠r:=ao s1 G rfl cb ⋯;have W:=WalksT.enumerate (prog:=X.prog) (w:=X.w) (I.ok.hd S) e r l ϊ a0 a1 g.toArray;have hi:i<g.toArray.size:=by
   have:=(ba.mp hu).1;omega
  refine W.item i s _ E hi ⟨⟨a,s1⟩,s2,p.isList⟩ λT a2 h' tk R hT v m hk=>?_;obtain⟨t,y,M,rfl⟩:=R;have ey:y=u:=by
   have:g.toArray[i]?=BD u:=by simpa using hu
   rw[this]at M;cases M;rfl
  subst ey;refine⟨yb T,rfl,W.go j kk F i T { s with heap:=h',toks:=tk } _ E m λh2 hS C=>?_⟩;have B:=W.apart i T h' m;have n:h2.IsTuple T #[Fh i t,y]:=by
   obtain⟨o,e1,c1⟩:=v;exact⟨o,C T o B e1,c1⟩
  have hn:H T=V6:=I.Fc.fresh hT;refine⟨ϖ T,Wb H T _,I.Eu (λb o f q=>C b o f$ hk b o f q) J hT ?_,rfl,⟨T,x,hn,rfl,λys M=>by rw[I.xj M L];exact Y,rfl⟩,⟨hS.1,hS.2.1⟩,λb f=>?_⟩
  ·exact⟨(show 2<=sizeLine by decide),[Fh i t,y],ϝ ⟨t,rfl⟩$ ϝ ru Ϡ,n⟩
  ·rw[Ad (λz=>B (by rw[<-z];exact f))];exact(J b f).1
 done:=by
  intro X ό V N S i D s σ H E I J st ϋ;subst ό V N;obtain⟨xs,L,Y⟩:=ϋ;obtain⟨g,rv,p,hz⟩:=I.list L;obtain⟨⟨a,s1⟩,s2⟩:=st;have hl:=rv.length;exact wpAny_pyNext_enum_end (I.ok.hd S) s1 s2 p.isList (by simp;lia) λh' G=>⟨rfl,I.tu (λb o f q=>G b o (λz=>f (by simp[z])) q) J⟩
 self:=λA i s Q E st h=>by
  obtain⟨⟨a,s1⟩,s2⟩:=st;exact FC s1 h
def wS{l m z TI TO q r}{xs A}(s:TI≠TO)(t:q≠r)(v:h.IsList l xs)(w:h.IsList m A)(s1:IsZip h z TI TO f)(s2:xP h TI a b)(j:xP h TO c d)(x:h.IsListIter q l k1)(y:h.IsListIter r m u):ZipApart z TI TO q r l m:=by
 obtain⟨B,o,k,_⟩:=v;obtain⟨C,p,n,_⟩:=w;obtain⟨D,g,e,_⟩:=x;obtain⟨E,i,c5,_⟩:=y;exact⟨ao s2 s1 rfl rfl ⋯,ao j s1 rfl rfl ⋯,ao g s1 e rfl ⋯,ao i s1 c5 rfl ⋯,s,ao s2 g rfl e ⋯,ao s2 i rfl c5 ⋯,ao j g rfl e ⋯,ao j i rfl c5 ⋯,t,
  ao o s1 k rfl ⋯,ao o j k rfl ⋯,ao o g k e ⋯,ao o i k c5 ⋯,ao p s1 n rfl ⋯,ao p j n rfl ⋯,ao p g n e ⋯,ao p i n c5 ⋯⟩
def Ķ{P:Ca}{w:Wa}{K:PySem.W.Frag}{D:List Oa}{kk:Nat}{a0:Td}(l m z TI TO g j:Addr)(d1:TI≠TO)(d2:g≠j) :
  lp P w K (ϱ D kk a0) (rY K l m) [z,TI,TO,g,j] z (λi h=>IsZip h z TI TO Bc/\xP h TI (yb g) (yb j)/\(∃ a b,xP h TO a b)/\h.IsListIter g l i/\h.IsListIter j m i) where
 mem:=by simp
 obj:=λi h st b e=>by
  obtain⟨s1,s2,⟨a,c,n⟩,⟨o4,r,c4,d4⟩,⟨o5,t,c5,d5⟩⟩:=st;simp at e;rcases e with rfl|rfl|rfl|rfl|rfl
  ·exact⟨_,s1,λv z=>by cases z⟩
  ·exact⟨_,s2,λv z=>by cases z⟩
  ·exact⟨_,n,λv z=>by cases z⟩
  ·exact⟨o4,r,λv z=>by rw[d4]at z;cases z⟩
  ·exact⟨o5,t,λv z=>by rw[d5]at z;cases z⟩
 keep:=λi h h' st k=>by
  obtain⟨s1,s2,⟨a,c,n⟩,r,t⟩:=st;exact⟨k z ⋯ _ s1,k TI ⋯ _ s2,⟨a,c,k TO ⋯ _ n⟩,r.at λo q=>k g ⋯ o q,t.at λo q=>k j ⋯ o q⟩
 item:=by
  intro X hP hw hK hc i ϊ s σ H E I hf st hg;subst hP hw hK;obtain⟨xs,ys,x,y,hq,B,hx,hy⟩:=hg;obtain⟨f,rv,p,V⟩:=I.list hq;obtain⟨d,J,Y,a2⟩:=I.list B;obtain⟨u,hu,ru⟩:=rv.get hx;obtain⟨u2,R,a4⟩:=J.get hy;obtain⟨s1,s2,⟨a,c,n⟩,r,t⟩:=st;have W:=AA (prog:=X.prog) (w:=X.w) (I.ok.hd hc) z TI TO g j l m (wS d1 d2 p.isList Y.isList s1 s2 n r t) f.toArray d.toArray;have hi:i<min f.toArray.size d.toArray.size:=by
   have h1:=(ba.mp hu).1;have h2:=(ba.mp R).1;simp;lia
  refine W.item i s _ E hi ⟨s1,s2,⟨a,c,n⟩,r,t,p.isList,Y.isList⟩ λT a5 h' tk a1 hT M F hk=>?_;obtain⟨v1,v2,S,ϋ,rfl⟩:=a1;have e1:v1=u:=by
   have:f.toArray[i]?=BD u:=by simpa using hu
   rw[this]at S;cases S;rfl
  have e2:v2=u2:=by
   have:d.toArray[i]?=BD u2:=by simpa using R
   rw[this]at ϋ;cases ϋ;rfl
  subst e1;subst e2;refine⟨yb T,rfl,W.go D kk a0 i T { s with heap:=h',toks:=tk } _ E F λh2 L N=>?_⟩;have G:h2.IsTuple T #[v1,v2]:=by
   obtain⟨o,e1,c1⟩:=M;exact⟨o,N T o (W.apart i T h' F) e1,c1⟩
  have hn:H T=V6:=I.Fc.fresh hT;have C:∀ b,b ∉ [z,TI,TO,g,j]->b ∉ [z,TO,g,j]:=λb e ό=>e (by simp at ό ⊢;rcases ό with h|h|h|h<;>simp[h]);have a3:∀ b∈[z,TI,TO,g,j],b<s.heap.objs.size:=λb e=>by
   simp at e;rcases e with rfl|rfl|rfl|rfl|rfl
   ·exact ya s1
   ·exact ya s2
   ·exact ya n
   ·obtain⟨o,q,_⟩:=r;exact ya q
   ·obtain⟨o,q,_⟩:=t;exact ya q
  refine⟨ϖ T,Wb H T _,I.Eu (λb o e q=>N b o (C b e)$ hk b o (C b e) q) hf hT ?_,rfl,⟨T,x,y,hn,rfl,λzs V=>by rw[I.xj V hq];exact hx,λzs V=>by rw[I.xj V B];exact hy,rfl⟩,⟨L.1,L.2.1,L.2.2.1,L.2.2.2.1,L.2.2.2.2.1⟩,λb e=>?_⟩
  ·exact⟨(show (2:Nat)<=sizeLine by decide),[v1,v2],ϝ ru$ ϝ a4 Ϡ,G⟩
  ·rw[Ad$ Aa$ Ja (a3 b e) hT];exact(hf b e).1
 done:=by
  intro X hP hw hK hc i ϊ s σ H E I hf st hg;subst hP hw hK;obtain⟨xs,ys,hq,B,hx⟩:=hg;obtain⟨f,rv,p,V⟩:=I.list hq;obtain⟨d,J,Y,a2⟩:=I.list B;obtain⟨s1,s2,⟨a,c,n⟩,r,t⟩:=st;have hl:=rv.length;have a6:=J.length;have ei:i=min f.toArray.size d.toArray.size:=by simp;lia
  subst ei;have C:∀ b,b ∉ [z,TI,TO,g,j]->b ∉ [z,TO,g,j]:=λb e ό=>e (by simp at ό ⊢;rcases ό with h|h|h|h<;>simp[h]);exact(AA (prog:=X.prog) (w:=X.w) (A:=X.A) (I.ok.hd hc) z TI TO g j l m (wS d1 d2 p.isList Y.isList s1 s2 n r t) f.toArray d.toArray).done s _ E ⟨s1,s2,⟨a,c,n⟩,r,t,p.isList,Y.isList⟩ λh' tk hk=>⟨rfl,I.tu (t':=tk) (λb o e q=>hk b o (C b e) q) hf⟩
 self:=λA i s Q E st h=>IF st.1 h
abbrev NX:=Nat->Fa->Option (Option D)
def lB(T:Tb)(c:dl)(f:Hp)(nx:NX)(J:It):Prop:=∀ a H e i,Cd c f a H->ud T a H e->match nx i e with
 |none=>True
 |some V6=>J.stop i H
 |some (BD d)=>J.go i H/\∀ x b,J.SA i H x b->Cd a H a b/\ud T a b e/\Sa T a b d x
def PZ(T:Tb)(X:Cx)(f:Ev->M NX):TI:=λb H R=>∃ a c d,fh T a H c b/\ud T a H d/\Rb T (XE X b) (lB T) a H (f c d) R
abbrev Gs(T:Tb)(X:Cx)(b a:Oa)(f:Ev->M NX):Prop:=PI X b a$ PZ T X f
def Yp(nx:NX)(e:D->Ev->Option Ev)(a:Ev->M Fl):Nat->Nat->Ev->M Fl
 |0,_,_=>Eb
 |k+1,i,f=>λc=>match nx i c with
  |none=>Ϙ
  |some V6=>O (ϙ f) c
  |some (BD d)=>match e d f with
   |none=>Ϙ
   |some b=>Tc (a b) (bu$ Yp nx e a k$ i+1) c
def xH(b:D->Ev->Option Ev)(a:Ev->M Fl)(c:Ev)(nx:NX):M Fl:=Yp nx b a 1001 0 c
def Cu(b:Ev->M NX)(d:D->Ev->Option Ev)(a:Ev->M Fl):Ev->M Fl:=λc=>xs c (b c)$ xH d a c
section
variable{tgt iter:Oa}{body:List Stmt}{src:Ev->M NX}{t:D->Ev->Option Ev}{g:Ev->M Fl}{pos:Td}
def iB(L:qo (model X.prog X.w) X.A X.env X.xe)(hc:X.qc=Ĳ)(hi:Gs T X tgt iter src)(hg:FG T X tgt t)(ϊ:Dk T X body g)
  (hs:∀ x,ye iter X.env x=pure x:=by intro _;rfl):FS T X (.For tgt iter body [] pos)$ Cu src t g:=by
 intro u s st H D I hq;refine UR L hc hi hg ϊ hs u s st H D I ?_;obtain⟨b,p,σ,E,hr,L⟩:=hq;refine⟨b,p,σ,E,hr,L.xs E λnx P l J R O W r1 q1 p1=>?_⟩;refine⟨λi m j q=>∃ b p σ,Cd l R b q/\fh T b q p j/\ud T b q σ/\Rb T EN _ b q (Yp nx t g m i p σ) _,⟨1001,l,p,P,ϰ _ _,E.mono W,r1,p1⟩,?_⟩;rintro i m j q ⟨n,v,c,ex,r,S,a⟩;cases m with
 |zero=>exact a.elim
 |succ m=>
  unfold Yp at a;have B:=q1 n q c i ex S;cases C:nx i c with
  |none=>simp only[C]at a;exact a.elim
  |some o=>
   cases o with
   |none=>
    simp only[C]at a B;exact ϑ ⟨B,Rb.here (g:=Ϸ j) a S r⟩
   |some d=>
    simp only[C]at a B;obtain⟨K,hy⟩:=B;refine ϕ ⟨K,λk e=>∃ b p σ,Cd l R b e/\fh T b e p k/\ud T b e σ/\Rb T EN _ b e _ (zp X D),λk e h=>⟨m,Jb _,h⟩,λx e y=>?_⟩;obtain⟨f,ϋ,hx⟩:=hy x e y;cases M:t d v with
    |none=>simp only[M]at a;exact a.elim
    |some z=>
     simp only[M]at a;exact⟨n,c,v,d,z,r.mono f,ϋ,hx,M,λk F=>⟨n,z,c,F,ϋ,(Rb.mono f a).bind λfl Q N gl H4 O Y V q4 p4=>BO V q4 p4 λό a0 G p5=>⟨N,ό,Q,(ex.trans f).trans Y,G,V,p5⟩⟩⟩
end
def Lu(a:D):NX:=λi b=>match Lf b a with
 |some xs=>(match xs[i]? with
  |some x=>BD (BD$ ώ [Z (i:Int),x])
  |none=>if i=xs.length then BD V6 else V6)
 |none=>V6
def hD(a b:D):NX:=λi d=>match Lf d a with
 |some xs=>(match Lf d b with
  |some c=>(match xs[i]? with
   |some x=>(match c[i]? with
    |some y=>BD (BD$ ώ [x,y])
    |none=>if i=min xs.length c.length then BD V6 else V6)
   |none=>if i=min xs.length c.length then BD V6 else V6)
  |none=>V6)
 |none=>V6
def Ez(d:D):M NX:=λa=>match Lf a d with
 |some _=>O (Lu d) a
 |none=>Ϙ
def qI(f:Ev->M D):Ev->M NX:=λa=>Tc (f a) Ez
def wX(a b:D):M NX:=λc=>match Lf c a with
 |some _=>(match Lf c b with
  |some _=>O (hD a b) c
  |none=>Ϙ)
 |none=>Ϙ
def qV(m:M D)(a:D):M NX:=Tc m$ wX a
def rK(f g:Ev->M D):Ev->M NX:=λa=>Tc (f a)$ qV$ g a
section
variable{elts:List Oa}{kk:Nat}{p0 p pos:Td}{f g:Ev->M D}
def ķ:bootBuiltins "enumerate" = BD (Uh "enumerate"):=by decide +kernel
def Y9:bootBuiltins "zip" = BD (Uh "zip"):=by decide +kernel
def θ(K:ϗ)(b:TA):TI:=λd H R=>b d H λc a=>∃ l xs,c=[ϖ l]/\Ue K a l xs/\R (jW K l) a
def ñ(o:Gl X "enumerate")(t:X.mg "enumerate" = V6)(n:PA X [a] j)(v:va [a] X.env=[(Ε,Mb a X.env)]:=by rfl):PI X (ϱ elts kk p0) (ϡ (Ϝ "enumerate" p) [a] [] pos)$ θ X.K j:=by
 intro d s A H R I h;refine Call_$ gy I o t ķ$ De (Ed (n pos d s A H _ I h) λus s1 ſ=>?_) v rfl;obtain⟨vs,H1,f,y,x⟩:=ſ;obtain⟨l,xs,e,u,q⟩:=x;subst e;cases y with
 |cons r z=>
  cases z;cases r;obtain⟨w,D,pl,C⟩:=f.list u;refine call_enumerate_list pl.isList λh' g k B m=>FC g ⟨s1.heap.objs.size+1,[s1.heap.objs.size+1,s1.heap.objs.size],_,_,H1,rfl,f.kept m,V0 l _ _,⟨⟨_,g⟩,k⟩,λb i=>?_,q⟩;have c:s1.heap.objs.size<=b:=by simp at i;rcases i with rfl|rfl<;>lia
  exact f.Bp c$ f.Fc.fresh c
def ztl(N:Gl X "enumerate")(ό:X.mg "enumerate" = V6)(h:FE T X e f)(w:va [e] X.env=[(Ε,Mb e X.env)]:=by rfl):Gs T X (ϱ elts kk p0) (ϡ (Ϝ "enumerate" p) [e] [] pos)$ qI f:=by
 intro k s st H R I S;refine ñ N ό (Zt h fx w) w k s st H R I ?_;obtain⟨V,ϊ,σ,M,Q,P⟩:=S;refine⟨V,ϊ,σ,M,Q,P.bind λd o W v H1 z e1 C B j=>?_⟩;unfold Ez at j;cases m:Lf o d with
 |none=>rw[m]at j;exact j.elim
 |some ds=>
  rw[m]at j;obtain⟨l,vs,rfl,J,h2⟩:=C.ls B m;refine⟨l,vs,rfl,Ue.of J,Rb.here j C λY E r i ex D=>?_⟩;unfold Lu;cases n:Lf r d with
  |none=>trivial
  |some xs=>
   obtain⟨l',ws,F,L,t⟩:=D.ls (Sa.mono ex _ _ B) n;cases F;have b:Ue X.K E l ws:=Ue.of L;dsimp only;cases G:xs[i]? with
   |none=>
    by_cases u:i=xs.length
    ·rw[ka u];exact⟨ws,b,by rw[u];exact t.length⟩
    simp_all
   |some d'=>
    obtain⟨x,A,ϋ⟩:=t.get G;refine⟨⟨ws,x,b,A⟩,λz H' y=>?_⟩;obtain⟨q,x',a,rfl,c,rfl⟩:=y;have g:=c ws b;rw[A]at g;cases g;exact⟨ek a,D.fresh a,⟨q,_,rfl,Mf,lb.cons (by rw[Sa])$ lb.cons (Sa.mono (ek a) _ _ ϋ) lb.nil⟩⟩
def Ĉ(K:ϗ)(b:TA):TI:=λe H R=>b e H λc a=>∃ l m xs d,c=[ϖ l,ϖ m]/\Ue K a l xs/\Ue K a m d/\R (rY K l m) a
def ň(A:Gl X "zip")(B:X.mg "zip" = V6)(z:PA X [a,b] t)(ό:va [a,b] X.env=[(Ε,Mb a X.env),(Ε,Mb b X.env)]:=by rfl)(g:va [b] X.env=[(Ε,Mb b X.env)]:=by rfl):PI X (ϱ elts kk p0) (ϡ (Ϝ "zip" p) [a,b] [] pos)$ Ĉ X.K t:=by
 intro e s M H R I h;refine Call_$ gy I A B Y9$ De (Ed (z pos e s M H _ I h) λus s1 ⟨vs,H1,c,J,F⟩=>?_) ⋯ (by rw[g];rfl);obtain⟨l,m,xs,S,rfl,C,f,q⟩:=F;cases J with
 |cons r j=>
  cases j with
  |cons G j=>
   cases j;cases r;cases G;obtain⟨E,Q,pl,P⟩:=c.list C;obtain⟨o,L,i,D⟩:=c.list f;refine call_zip_2 pl.isList i.isList λh' k u v w x N y=>IF k ⟨s1.heap.objs.size+4,[s1.heap.objs.size+4,s1.heap.objs.size+2,s1.heap.objs.size+3,s1.heap.objs.size,s1.heap.objs.size+1],_,_,H1,rfl,c.kept y,Ķ l m (s1.heap.objs.size+4) _ _ s1.heap.objs.size (s1.heap.objs.size+1) (show (s1.heap.objs.size+2)≠s1.heap.objs.size+3 by omega) (show s1.heap.objs.size≠s1.heap.objs.size+1 by lia),⟨k,u,⟨_,_,v⟩,w,x⟩,λb n=>?_,q⟩;have d:s1.heap.objs.size<=b:=by simp at n;rcases n with rfl|rfl|rfl|rfl|rfl<;>lia
   exact c.Bp d$ c.Fc.fresh d
def X5(hg:Gl X "zip")(hm:X.mg "zip" = V6)(h:FE T X e f)(h':FE T X b g)(hs:va [e,b] X.env=[(Ε,Mb e X.env),(Ε,Mb b X.env)]:=by rfl)(w:va [b] X.env=[(Ε,Mb b X.env)]:=by rfl) :
  Gs T X (ϱ elts kk p0) (ϡ (Ϝ "zip" p) [e,b] [] pos)$ rK f g:=by
 intro C s st H R I hw;refine ň hg hm (Zt h (Zt h' fx w)$ by simp_all) hs w C s st H R I ?_;obtain⟨μ,ρ,σ,Y,hr,hp⟩:=hw;refine⟨μ,ρ,σ,Y,hr,hp.bind λd Q P v H1 z e1 r1 q1 p1=>⟨P,ρ,Q,Y.mono e1,r1,p1.bind λϋ F a2 v2 H2 z e2 N q2 n=>?_⟩⟩;unfold wX at n;cases L:Lf F d with
 |none=>rw[L]at n;exact n.elim
 |some ds=>
  rw[L]at n;cases o:Lf F ϋ with
  |none=>rw[o]at n;exact n.elim
  |some a1=>
   rw[o]at n;have D:=Sa.mono e2 _ _ q1;obtain⟨l,vs,rfl,h1,h2⟩:=N.ls D L;obtain⟨m,ws,rfl,h3,h4⟩:=N.ls q2 o;refine⟨l,m,vs,ws,rfl,Ue.of h1,Ue.of h3,Rb.here n N λa3 S G i ex ό=>?_⟩;unfold hD;cases fl:Lf G d with
   |none=>trivial
   |some xs=>
    obtain⟨l',E,b,h5,V⟩:=ό.ls (Sa.mono ex _ _ D) fl;cases b;cases M:Lf G ϋ with
    |none=>trivial
    |some ys=>
     obtain⟨m',a,b,h7,W⟩:=ό.ls (Sa.mono ex _ _ q2) M;cases b;have j:Ue X.K S l E:=Ue.of h5;have k:Ue X.K S m a:=Ue.of h7;have l1:=V.length;have l2:=W.length;dsimp only;cases ei:xs[i]? with
     |none=>
      by_cases u:i=min xs.length ys.length
      ·rw[ka u];exact⟨E,a,j,k,by rw[u,l1,l2]⟩
      simp_all
     |some d'=>
      cases J:ys[i]? with
      |none=>
       by_cases u:i=min xs.length ys.length
       ·rw[ka u];exact⟨E,a,j,k,by rw[u,l1,l2]⟩
       all_goals simp_all
      |some a0=>
       obtain⟨x,ϊ,rx⟩:=V.get ei;obtain⟨y,hy,ry⟩:=W.get J;refine⟨⟨E,a,x,y,j,k,ϊ,hy⟩,λz H' yy=>?_⟩;obtain⟨q,x',y',c,rfl,t,r,rfl⟩:=yy;have A:=t E j;rw[ϊ]at A;cases A;have B:=r a k;rw[hy]at B;cases B;exact⟨ek c,ό.fresh c,⟨q,_,rfl,Mf,lb.cons (Sa.mono (ek c) _ _ rx)$ lb.cons (Sa.mono (ek c) _ _ ry) lb.nil⟩⟩
end
open PySem.Builtin.Str (occurrences partsBetween subAt)
end L4
namespace L4
open Spec L2
def bL(h:Ev)(c:Nat)(f:Str)(x:D)(a:Int)(y:D):M Fl:=λe=>match y with
 | Z b=>(match x with
  | U n=>(match e[n]? with
   |some (ϔ g d)=>if (g == c && decide (d.length<1000))=Ĳ then O (ϙ h) (e.set n$ ϔ c$ zl f (Z$ a+b) d)else Ϙ
   |_=>Ϙ)
  |_=>Ϙ)
 |_=>Ϙ
def Uz(b:Ev)(e:i')(f:Str)(h:Ev->M D)(x:D):M Fl:=λd=>match ak d x with
 |some (c,g)=>if e.contains c=Ĳ then (match g.lookup f with
  |some (Z a)=>xs b (h b) (bL b c f x a) d
  |_=>Ϙ)else Ϙ
 |none=>Ϙ
def eI(b:i')(f:Str)(d c:Ev->M D):Ev->M Fl:=λa=>xs a (c a)$ Uz a b f d
def tY{W V}(hK:T.K=X.K)(hc:ZG T F f)(ho:FE T X o V)(hv:FE T X e W):FS T X (.AugAssign (ϟ o f v) .Add e N)$ eI F f W V:=by
 intro u s st H D I hq;refine R7 ho hv à u s st H D I ?_;obtain⟨μ,ρ,σ,t,hr,hp⟩:=hq;refine⟨μ,ρ,σ,t,hr,hp.xs t λx C Q vo H1 M G r1 q1 d=>?_⟩;unfold Uz at d;cases J:ak C x with
 |none=>rw[J]at d;exact d.elim
 |some p=>
  obtain⟨c,fs⟩:=p;rw[J]at d;dsimp only at d;by_cases l:F.contains c=Ĳ
  ·rw[ka l]at d;obtain⟨a,dx,vs,rfl,h1,h2⟩:=mz r1 q1 J;cases L:fs.lookup f with
   |none=>rw[L]at d;exact d.elim
   |some y=>
    rw[L]at d;cases y with
    |int i=>
     obtain⟨w,h3,h4⟩:=(QA h2).1 _ L;obtain⟨k1,ϊ⟩:=hc c l;rw[hK]at k1 ϊ;refine⟨a,_,dx,vs,w,rfl,h1,k1,ϊ,h3,Q,ρ,C,t.mono G,r1,d.xs (t.mono G) λz R B vz S M ϋ r2 q2 b=>?_⟩;unfold bL at b;cases z with
     |int j=>
      refine⟨i,j,Mq h4,Mq q2,?_⟩;have ό:=Sa.mono ϋ _ _ q1;cases x with
      |ref n=>
       dsimp only at b;cases k:R[n]? with
       |none=>rw[k]at b;exact b.elim
       |some ob=>
        rw[k]at b;cases ob with
        |ra _=>exact b.elim
        |Xa _=>exact b.elim
        |He _=>exact b.elim
        |Vc _=>exact b.elim
        |ub E m=>
         dsimp only at b;by_cases g:(E == c && decide (m.length<1000))=Ĳ
         ·rw[ka g]at b;rw[Ga,Xb,Wh]at g;obtain⟨rfl,hl⟩:=g;obtain⟨a',ea,Y,h,A,q,r⟩:=r2.at ό k;cases ea;have ex:Cd B S B$ Wb S a$ .ub (T.ca E) h$ dn f (Ϥ$ i+j) A:=Ss (wa Y) q (λM z=>by cases z) (λM M z=>by cases z);have P:=r2.write (ob:=ϔ E$ zl f (Z _) m) Y ⟨h,_,Mf,qO (by rw[Sa])$ js.mono ex r⟩;exact⟨h,A,q,by rw[<-r.length];exact hl,b _ (Ϸ st) _ P.1 P.2$ (t.mono G).mono ϋ |>.mono P.1⟩
         ·rw[qa g]at b;exact b.elim
      |_=>exact b.elim
     |_=>exact b.elim
    |_=>exact d.elim
  ·rw[qa l]at d;exact d.elim
def Qq(y x:D):M D:=λb=>match Bi y with
 |some k=>(match Sg b x with
  |some a=>O (ϐ$ !(Qi a k).isSome) b
  |none=>Ϙ)
 |none=>Ϙ
noncomputable def RX:R2:=λy x H Q=>∃ a o,x=ϖ a/\Ui H a y o/\Q (ϫ$ !o.isSome) H
def ZQ(f:X.A.units+9<cLine):zh X (Gb .NotIn) RX:=by
 rintro b s j H y x h u Q I e d ⟨a,o,rfl,g,q⟩;obtain rfl:u=yb a:=d;exact zsg ⋯ I g e λi c=>⟨ϫ _,H,c,rfl,q⟩
theorem dW:pk T RX Qq:=by
 intro E n H l y x u v Q r q p h;unfold Qq at h;cases c:Bi y with
 |none=>rw[c]at h;exact h.elim
 |some k=>
  rw[c]at h;cases b:Sg l x with
  |none=>rw[b]at h;exact h.elim
  |some j=>
   rw[b]at h;obtain⟨a,vs,rfl,g,i⟩:=uy r p b;obtain rfl:=Cw q c;refine⟨a,Ek vs k,rfl,Ui.kr g,Rb.here h r ?_⟩;rcases kC i k with⟨e,f⟩|⟨d,w,e,f,m⟩
   ·rw[e,f];rfl
   ·rw[e,f];rfl
def Nt(T:Tb)(P:Ca)(w:Wa)(e:Str->Option Value)(a:Heap)(k:Nat)(f:Addr)(ps:ad)(c:gV)(d:B'->M D):Prop:=
 ∃ b,Er T.K b ps []/\Er T.K b ps c/\jh P w T.K e a (jl P w) k f b ps (Ho T ps.length d)
structure Yo(K:ϗ)(C:Addr)(x qual:Str)(st:Stmt)(ps:ad)(dv:gV)(f:Addr):Prop where
 ex:∃ fd,(∃ (oc:Value) (od:Option Addr) (dV kV doc pm:Value) (an:Option Addr) (cdv ct:Value) (osl:Array (Option Value)),
  fd=ϭ x qual (yl st) (Pj st) (yf st) dV kV doc pm an cdv ct/\K.lookup f=BD ⟨oc,od,.func fd,osl⟩/\W.codeIn K cdv qual=Ĳ)/\Er K fd ps []/\Er K fd ps dv
section
variable{P:Ca}{w:Wa}{K:ϗ}{mg:Str->Option Value}{base:Heap}{ca:Nat->Addr}{tx:Tx}
def eM{st}(h:Yo K C x a st ps e f)(S:nc N ps$ yf st)
  (m:∀ b A c s H E,Qd k (A.deeper$ ug a (yf st) s.heap.objs.size f b)->Dk ⟨K,ca,tx⟩ (xp (jl P w) P w K mg base N a (yf st) f b A c s H E) (Pj st) g) :
  Nt ⟨K,ca,tx⟩ P w mg base (k+1) f ps e$ dh N.length g:=by
 obtain⟨q,⟨r,t,p,kV,l,u,o,b,ct,n,rfl,lk,d⟩,i,j⟩:=h.ex;exact⟨_,i,j,qB lk d S$ m b⟩
def Nt.zd(h:Nt T P w mg base k f ps a b):Nt T P w mg base k f ps a$ L4.zd b:=by rw[Rs];exact h
def LO{st}{kV e i a ct}
  (w:∀ t kV e i h a ct s o n g,s.heap.get? t=BD o->o.data=Ϧ j.toArray n->((g++[]).length=ps.length->Xe s (ϭ x b (yl st) (Pj st) (yf st) (yb t) kV e i h a ct) ⟨g,[]⟩ (ps.zip$ g++[]))/\
   ((g++j).length=ps.length->Xe s (ϭ x b (yl st) (Pj st) (yf st) (yb t) kV e i h a ct) ⟨g,[]⟩ (ps.zip$ g++j)))
  (l:K.lookup f=BD ⟨y,z,.func$ ϭ x b (yl st) (Pj st) (yf st) (yb t) kV e i h a ct,k⟩)
  (c:W.codeIn K a b=Ĳ) (d:K.lookup t=BD ⟨r,u,Ϧ j.toArray q,v⟩):Yo K C x b st ps j f:=
 ⟨⟨_,⟨y,z,_,kV,e,i,h,a,ct,k,rfl,l,c⟩,λs g m p=>(w t kV e i h a ct s _ q g (m _ _ d) rfl).1 p,λs g m p=>(w t kV e i h a ct s _ q g (m _ _ d) rfl).2 p⟩⟩
end
noncomputable def xB(a:i')(b:Ev):Ev:=V6::V6::a.map λi=>(b[i]?).getD V6
noncomputable def Vz(a:i')(st:St):St:=V6::V6::a.map λi=>(st[i]?).getD V6
def zj8{st} a(h:fh T b H c st):fh T b H (xB a c)$ Vz a st:=by
 refine⟨by simp[xB,Vz],λi d e=>?_⟩;cases i with
 |zero=>cases e
 |succ j=>exact(XV a h).2 j d e
section
variable{pins:List$ Addr × Obj}{st:St}{H:Hp}{s:Shared}{x z0:Str}{M':ad}{ix:i'}{scope:Scope}{fp:dl}
def K3(I:db X pins st H s)(L:Zj X x M' ix scope)(g:∀ b∈fp,Sk X pins H b/\b<s.heap.objs.size)(M:h'.Ns s.heap.objs.size m)
  (D:∀ b o,s.heap.get? b=BD o->h'.get? b=BD o) :
  db (Do X (x::z0::M') scope (Oi X.env scope.names []) s.heap.objs.size s H fp) [] (Vz ix st) H { s with heap:=h',toks:=t' }:=by
 have d:∀ n c,(Oi X.env scope.names []).lookup n=BD c->X.env.cells.lookup n=BD c:=λn c e=>ZK X.env scope.names [] n c (λO O q=>by simp at q) e;have t:H s.heap.objs.size=V6:=I.Fc.fresh$ ua _;refine⟨⟨I.ok.mod,L.kind,I.ok.glob,I.ok.blt,ua _,λa b c A r=>I.ok.inj a b c (d a c A)$ d b c r,λa ha=>?_,λa c h=>(by cases h),I.ok.hd,I.ok.frames,ϑ rfl,λb w=>⟨Aa (g b w).2,λa c e=>?_⟩,λb o e=>I.bs b o e,ib I.ok.ku I.sz,λb o e w=>?_,λb w z=>?_,I.stack,I.nj⟩,
  rfl,I.bare,Un.kept D,⟨m,M,λi y v W F e3=>?_⟩,λa c e=>?_,t,λa c e=>I.dg a c$ d a c e,λp hp=>absurd (show p∈[]from hp) ⋯,I.Fc.kept D,?_⟩
 ·
  have G:(scope.names.map λ(n,k)=>if (k == xb && X.env.scope.kind == ϣ && X.env.kindOf n == BD Gc)then (n,Gc)else (n,k)).lookup a=BD Gc\/(scope.names.map λ(n,k)=>if (k == xb && X.env.scope.kind == ϣ && X.env.kindOf n == BD Gc)then (n,Gc)else (n,k)).lookup a=BD xb:=ha;have T:scope.names.lookup a=BD xb:=by
   rcases G with z|z
   ·obtain⟨k0,A,r⟩:=PN z;rcases r with r|⟨r,_⟩
    ·subst r;exact absurd rfl$ AD L _$ Yv A
    ·rw[r]at A;exact A
   ·obtain⟨k0,A,r⟩:=PN z;all_goals simp_all
  exact SE X.env scope.names [] a (Yv T)$ jA I L _ (Yv T) rfl
 ·exact(g b w).1.2.2.2.2.1 a c$ d a c e
 ·rcases(g b w).1.2.2.2.1 with z|z
  ·exact I.ok.Ds b o e z
  ·exact absurd (Ja (ya e)$ ib I.ok.ku z)$ Vd _
 ·rcases za.mp (I.Vq b z)with q|q
  ·exact(g b w).1.2.1 q
  ·exact(g b w).1.2.2.1 q
 ·
  cases i with
  |zero=>simp[Vz]at F
  |succ i=>
  cases i with
  |zero=>simp[Vz]at F
  |succ j=>
   have E:M'[j]?=BD y:=W;have f:(ix.map λi=>(st[i]?).getD V6)[j]?=BD _:=F;rw[Pa]at f;cases S:ix[j]? with
   |none=>rw[S]at f;cases f
   |some C=>
    rw[S]at f;have Q:(st[C]?).getD V6=BD v:=Nb f;have Y:st[C]?=BD (BD v):=by
     cases q:st[C]? with
     |none=>rw[q]at Q;cases Q
     |some o=>simp_all
    have ϊ:X.N[C]?=BD y:=by
     have z:=zb (λl=>l[j]?) L.at_
     simp_all
    have q:=Bb.mp L.GV y$ wa E;simp only[Ga,Hg]at q;have ϋ:X.env.scope.names.lookup y=BD Gc\/X.env.scope.names.lookup y=BD xb:=by
     all_goals simp_all
    have P:scope.names.lookup y=BD xb:=eq_of_beq q.2;obtain⟨m0,a0,K⟩:=I.loc;obtain⟨u,ru,lu⟩:=K C y v ϊ Y (by rcases ϋ with z|z;exact ϕ$ ϑ z;exact ϕ$ ϕ z);refine⟨u,ru,ϕ ⟨JX (env:=X.env) P,?_⟩⟩;rcases lu with⟨z,_⟩|⟨_,c,ec,zc⟩
    ·rcases ϋ with k|k
     ·rw[show X.env.kindOf y=X.env.scope.names.lookup y from rfl,k]at z;cases z
     ·rw[show X.env.kindOf y=X.env.scope.names.lookup y from rfl,k]at z;cases z
    ·obtain⟨V,B⟩:=SE X.env scope.names [] y (Yv P) (jA I L _ (Yv P) rfl);have R:=d y V B;rw[ec]at R;cases R;obtain⟨o,ό,J⟩:=zc;exact⟨c,B,o,D _ _ ό,J⟩
 ·obtain⟨v,o,ό,J⟩:=I.cell a c (d a c e);exact⟨v,o,D _ _ ό,J⟩
 ·simp[Vz,Do];simpa using (zb List.length L.at_)
end
noncomputable def Qn(l:h8):h8:=l.mergeSort λa b=>decide$ a<=b
def Sw l:(Qn l).Perm l:=List.mergeSort_perm l _
def mE l:(Qn l).Pairwise (·<=·):=by
 have:=List.pairwise_mergeSort (le:=λa b:Int=>decide$ a<=b) (λa b c d e=>by simp at *;lia) (λa b=>by simp;lia) l;exact this.imp λh=>by simpa using h
theorem bB:∀ {l m:h8},l.Perm m->l.Pairwise (·<=·)->m.Pairwise (·<=·)->l=m
 |[],m,h,_,_=>by rw[List.nil_perm]at h;exact h.symm
 |a::l,[],h,_,_=>by have:=h.length_eq;simp at this
 |a::l,b::m,h,c,d=>by
  rw[List.pairwise_cons]at c d;have f:=h.subset la;have g:=h.symm.subset la;have e:a=b:=by
   rcases za.mp f with e|f
   ·exact e
   ·rcases za.mp g with e|g
    ·exact e.symm
    ·have:=c.1 b g;have:=d.1 a f;lia
  subst e;rw[bB (zaE h) c.2 d.2]
def pO(K:ϗ):n'->Hp->VK->Prop:=λxs H Q=>∃ (p:Addr) (is:h8),xs=[ϖ p]/\Ue K H p (is.map Ϥ)/\is.length<64/\∀ l,H l=V6->Q (ϖ l) (Wb H l$ ϯ$ (Qn is).map Ϥ)
def YZ:Ao X (Ϣ "sorted")$ pO X.K:=by
 rintro f s v H xs t Q I r ⟨p,c,rfl,m,b,q⟩;obtain⟨u,rfl,rfl⟩:=Cs r;obtain⟨d,g,pl,o⟩:=I.list m;have a:=g.length;rw[Ea]at a;refine sorted_ints pl.isList (zev g) ⋯ λout n h i j=>?_;obtain⟨e,l⟩:=sortedAll_at s.heap d out;have k:=bB (i.trans (Sw c).symm) j$ mE c;subst k;exact⟨ϖ _,_,I.laid (λx x=>sortedAll_old) (re _) (show Cj X.prog X.w _ _ _ (ϯ _)from⟨by rw[Ea,((Sw c).length_eq)];exact ib (vd b) ⋯,out.toList,e,qE h,by rw[Ii];exact l⟩),rfl,q _$ I.Fc.fresh$ re _⟩
def QM(xs:B'):M D:=λa=>match xs with
 |[x]=>(match Lf a x with
  |some b=>(match Js b with
   |some is=>if is.length<64 then PB ((Qn is).map Z) a else Ϙ
   |none=>Ϙ)
  |none=>Ϙ)
 |_=>Ϙ
theorem GN{b:dl}{H:Hp}:∀ a:h8,lb T b H (a.map Z) (a.map Ϥ)
 |[]=>lb.nil
 |i::a=>lb.cons (by rw[Sa]) (GN a)
def zzr(m:T.K=X.K):Bs T (pO X.K) QM:=by
 intro E o H σ xs vs Q r p h
 match xs with
 |[]=>trivial
 |[x]=>
  obtain⟨v,w,rfl,j,d⟩:=p;rw[lb]at d;subst d;unfold QM at h;cases e:Lf σ x with
  |none=>simp[e]at h;exact h.elim
  |some k=>
   simp[e]at h;cases a:Js k with
   |none=>simp[a]at h;exact h.elim
   |some is=>
    simp[a]at h;by_cases c:is.length<64
    ·rw[ka c]at h;obtain⟨b,n,rfl,f,g⟩:=r.ls j e;obtain rfl:=GE g a;exact⟨b,is,rfl,Ue.of f,c,λl i=>jF h r (GN _) i⟩
    ·rw[qa c]at h;exact h.elim
 |_::_::_=>cases h
def Yt(c a:List$ Ic × V):List$ Ic × V:=a.foldl (λb d=>ik b d.1 d.2) c
def Bt(c a:List$ Ic × D):List$ Ic × D:=a.foldl (λb d=>ij b d.1 d.2) c
def yf0:∀ {a} {d} {b} {vs},KV a d->KV b vs->KV (Yt b a) (merged vs d):=by
 intro a;induction a with
 |nil=>intro d b vs c e;cases c;exact e
 |cons p a f=>
  intro d b vs c e;cases c with
  |cons q c=>
   obtain⟨g,h⟩:=q;have:=f c$ e.put p.1 h;simpa [Yt,merged,g]using this
def zv3:∀ a b,(Yt b a).length<=b.length+a.length:=by
 intro a;induction a with
 |nil=>intro b;simp[Yt]
 |cons p a d=>
  intro b;have e:=d$ ik b p.1 p.2;have f:=ND b p.1 p.2;have c:Yt b (p::a)=Yt _ a:=rfl;rw[c,gb]
  lia
def EW:V->n'->Hp->VK->Prop:=λx e H Q=>∃ a b d c,x=ϖ a/\e=[ϖ b]/\a≠b/\H a=BD (ϛ d)/\Rd H b (ϛ c)/\d.length+c.length<=sizeLine/\Q .Zb (Wb H a$ ϛ$ Yt d c)
def T5:Uw X "dict.update" EW:=by
 intro p s K H x vs v L Q I C B h;obtain⟨a,b,g,d,rfl,rfl,l,o,k,G,q⟩:=h;cases C;obtain⟨u,rfl,rfl⟩:=Cs B;obtain⟨z,r,ws,e,n⟩:=MB I.Fc o;obtain⟨M,m,i,c,j⟩:=Gv I.Fc k;have D:g.length=ws.length:=by unfold KV at e;exact Paired.length e
 have E:d.length=i.length:=by unfold KV at c;exact Paired.length c
 refine bj Rm n.typeIs PySem.F.entry_dict_update (PySem.F.args_dict_update_2 _ _) (meets_dict_update (fj X.prog X.w) a b l m) ⟨ws,i,n,j,by lia,λh' f N A=>?_⟩;have t:∃ q,h'.get? a=BD q:=let ⟨q,_,_,y,_⟩:=f;⟨q,y⟩;have J:=zv3 d g;exact⟨.Zb,_,ez I (by rw[o];exact Ϯ) A t$ Rz ⋯ r (yf0 c e) f,rfl,q⟩
noncomputable def apart(n:Nat):D->Bool
 | U m=>!(m == n)
 |_=>Ĳ
def cA(x:D)(xs:B'):M D:=λb=>match x,xs with
 | U n,[y]=>(match b[n]? with
  |some (Ϗ a)=>(match Sg b y with
   |some more=>if (apart n y && decide (a.length+more.length<=Dg))=Ĳ then O Ϛ (b.set n$ Ϗ$ Bt a more)else Ϙ
   |none=>Ϙ)
  |_=>Ϙ)
 |_,_=>Ϙ
def QW:∀ {a} {d} {b} {vs},eh T f H a d->eh T f H b vs->eh T f H (Bt b a) (Yt vs d):=by
 intro a;induction a with
 |nil=>intro d b vs c e;unfold eh at c;cases c;exact e
 |cons p a g=>
  intro d b vs c e;cases c with
  |cons q c=>
   have:=g c$ vL e p.1 q.2;simpa [Bt,Yt,q.1]using this
def M6:ly T EW cA:=by
 intro E D H σ x xs v K Q r p q h;cases x with
 |ref n=>
  match xs with
  |[]=>exact h.elim
  |[y]=>
   obtain⟨w,z,rfl,s,B⟩:=q;rw[lb]at B;subst B;unfold cA at h;cases d:σ[n]? with
   |none=>simp[d]at h;exact h.elim
   |some ob=>
    cases ob with
    |Xa g=>
     simp only[d]at h;cases i:Sg σ y with
     |none=>simp[i]at h;exact h.elim
     |some more=>
      simp only[i]at h;by_cases f:(apart n y && decide (g.length+more.length<=Dg))=Ĳ
      ·rw[ka f]at h;simp[Ga,Xb]at f;obtain⟨a,rfl,j,t,u,k⟩:=r.at p d;obtain⟨b,ws,rfl,F,l⟩:=uy r s i;have l1:t.length=g.length:=by unfold eh at k;exact(Paired.length k).symm
       have l2:ws.length=more.length:=by unfold eh at l;exact(Paired.length l).symm
       have o:a≠b:=by
        cases y with
        |ref m=>
         obtain⟨b',e,I⟩:=s;cases e;intro e;subst e;have:=f.1;simp[apart,(QG r.nd I j)]at this
        |Xa ks ds=>
         obtain⟨b',A,e,G,_⟩:=s;cases e;intro e;subst e;exact G$ wa j
        |_=>cases i
       refine⟨a,b,t,ws,rfl,rfl,o,u,F,by rw[l1,l2];exact ib f.2 ⋯,?_⟩;have C:=r.write (ob:=Ϗ _) j ⟨_,Mf,by
        have ex:Cd D H D$ Wb H a$ ϛ$ Yt t ws:=Ss (wa j) u (λM z=>by cases z) (λM M z=>by cases z);exact QW (eh.mono ex l)$ eh.mono ex k⟩
       exact h _ _ _ C.1 C.2 (by rw[Sa])
      ·rw[qa f]at h;exact h.elim
    |ra L=>simp only[d]at h;exact h.elim
    |ub c J=>simp[d]at h;exact h.elim
    |He _=>simp only[d]at h;exact h.elim
    |Vc _=>simp only[d]at h;exact h.elim
  |_::_::_=>exact h.elim
 |_=>exact h.elim
def WY:bootBuiltins "sorted" = BD (Ϣ "sorted"):=by decide +kernel
theorem hU:∀ {ks:List Ic} {vs:gV},vs.length=ks.length->(∀ (j:Nat) (v:Value) (k:Ic),vs[j]?=BD v->ks[j]?=BD k->jd (kV k) v)->ie (ks.map kV) vs
 |[],[],_,_=>Ϡ
 |[],_::_,h,_=>by simp at h
 |_::_,[],h,_=>by simp at h
 |k::ks,v::vs,h,a=>ϝ (a 0 v k rfl rfl) (hU ⋯ λj v k b c=>a (j+1) v k b c)
def Ä(h:(fj P w).is k v=Ĳ):jd (kV k) v:=by
 rcases Pq h with⟨i,t,rfl,rfl⟩|⟨x,t,rfl,rfl⟩<;>exact⟨t,rfl⟩
theorem MP:∀ {a:List$ Ic × V} {ws:List$ Ic × Value},KV a ws->ws.map (·.1)=a.map (·.1)
 |[],_,h=>by cases h;rfl
 |p::a,_,h=>by
  cases h with
  |cons q h=>simp only[Ta];rw[MP h,q.1]
def lI:Ic->D
 | .inl i=>Z i
 | .inr x=>ϓ x
end L4
namespace L4
open Spec Calls W PyProof.V
def n8
  (K:KdlSrc k w B r d n P v) (C:A.handled=V6) (p:v s.heap) (D:n<=sizeLine)
  (jg:∀ h j a,(∀ b o,s.heap.get? b=BD o->h.get? b=BD o)->s.heap.objs.size<=h.objs.size->Ym P a n->R a.toList { s with heap:=h,toks:=j }) :
  wpAny (model k w) A (collect$ yb r) R E s:=by
 have lt:=K.there _ p;let S:Addr:=s.heap.objs.size;let ϊ:ro->Shared->Prop:=λq u=>∃ (h:Heap) (j:Nat) (a:Array Value) (c:Nat),q=.ok (.ret$ yb S)/\u={ s with heap:=h,toks:=j }/\(∀ b o,s.heap.get? b=BD o->h.get? b=BD o)/\
  h.get? S=BD { cls:=Uh "list",dict:=V6,data:=Ϧ a c,slots:=#[] }/\Ym P a n
 have i:∀ {h:Heap} {j c:Nat} {a:Array Value},(∀ b o,s.heap.get? b=BD o->h.get? b=BD o)->h.get? S=BD { cls:=Uh "list",dict:=V6,data:=Ϧ a c,slots:=#[] }->Ym P a n->R a.toList { s with heap:=h,toks:=j }:=
  λm g l=>jg _ _ _ m (vd$ ya g) l
 have t:(s.heap.push { cls:=Uh "list",data:=Ϧ ([]:gV).toArray }).get? S=BD { cls:=Uh "list",data:=Ϧ #[] }:=Da _ rfl;have dh:=kdl_extend (A:=A) (s:={ s with heap:=s.heap.push { cls:=Uh "list",data:=Ϧ ([]:gV).toArray } }) (R:=ϊ) K C (K.keep _ _ p λb F o e=>ga _ e) S (Sd lt.1) (Sd lt.2) (yb S) 0 t
  (λh j a c m g l=>⟨h,j,a,c,rfl,rfl,λb o e=>m b o (Aa$ ya e)$ ga _ e,g,l⟩) D
 refine aa$ cr$ Rc ux$ aa$ ic$ da ⟨de Bn _,Rc JF$ dc dh (λf u x=>?_) (λe u x=>by obtain⟨_,_,_,_,z,_⟩:=x;cases z)⟩;cases f with
 |done f=>
  obtain⟨h,j,a,c,e,rfl,m,g,l⟩:=x;cases e;exact aa$ om g$ da$ i m g l
 |again G=>
  refine⟨x.1,Af x.2 λq s2 y=>?_⟩;obtain⟨h,j,a,c,rfl,rfl,m,g,l⟩:=y;exact aa$ om g$ da$ i m g l
end L4
namespace L4
open Spec L2
def tM:n'->Hp->VK->Prop:=λxs H Q=>∃ (a:Addr) (b:List (Ic × V)) (is:h8),xs=[ϖ a]/\Rd H a (ϛ b)/\b.map (·.1)=is.map Sum.inl/\is.length<64/\∀ l,H l=V6->Q (ϖ l) (Wb H l$ ϯ$ (Qn is).map Ϥ)
theorem HW:∀ {a:h8} {b:gV},ie ((a.map (Sum.inl:Int->Ic)).map kV) b->ph b a
 |[],_,h=>by cases h;exact .nil
 |i::a,_,h=>by
  cases h with
  |cons q h=>
   obtain⟨t,rfl⟩:=q;exact .cons i t$ HW h
def q8(V:X.qc=Ĳ):Ao X (Ϣ "sorted") tM:=by
 rintro M s σ H xs us Q I r ⟨a,g,l,rfl,ϋ,h,n,q⟩;obtain⟨u,rfl,rfl⟩:=Cs r;obtain⟨z,Y,ws,B,R⟩:=Gv I.Fc ϋ;obtain⟨E,p⟩:=R.dictAt;have F:=MP B;have a4:ws.length=g.length:=by have:=zb List.length F;simpa using this
 have a0:g.length=l.length:=by have:=zb List.length h;simpa using this
 have J:ws.length<=sizeLine:=by lia
 refine Dn kind_sorted plain_sorted entry_sorted (args_sorted1 _) ?_;unfold ai.«sorted»;refine aa (m:=checkCount "sorted" 1 1 _)$ da$ aa (n8 (A:=X.A.in1) (W.kdl_dict (knd:=fj X.prog X.w) (kvs:=ws) (ep:=E) Y) (I.ok.hd V) p J λh' tk d L i c=>?_);have G:d.toList.length=ws.length:=by rw[Pb];exact c.1
 have K:ie ((ws.map (·.1)).map kV) d.toList:=hU (by rw[Ea];exact G) λj v k S C=>by
  obtain⟨k',x,hx,t⟩:=c.2 j v (by rw[<-Yd];exact S);rw[Pa,hx]at C;cases C;exact Ä t
 rw[F,h]at K;refine aa$ wt ?_ (by rw[G];exact J);have f:(h'.push _).get? h'.objs.size=BD (wm "list" d.toList.toArray 0):=Da _ rfl;refine aa$ Yb$ Jc kP ⟨_,f,rfl⟩ nJ (lP f (HW K) ⋯ λout y N ό P=>⟨_,rfl,(da ⟨_,rfl,?_⟩)⟩)$ mP _;have T:y=Qn l:=bB (ό.trans (Sw l).symm) P$ mE l;subst T;obtain⟨e,ϊ⟩:=KZ (out:=out) f;exact⟨ϖ h'.objs.size,_,I.laid (t':=tk) (λb o D=>by
  have lt:b<h'.objs.size:=ya$ L b o D;rw[nP (Aa lt) (by rw[BA];exact Kb lt)];exact ga _$ L b o D) i (show Cj X.prog X.w _ _ _ (ϯ _)from⟨by rw[Ea,((Sw l).length_eq)];exact ib (vd n) ⋯,out.toList,e,qE N,by rw[Ii];exact ϊ⟩),rfl,q _$ I.Fc.fresh i⟩
noncomputable def Kw:List (Ic × D)->Option (h8)
 |[]=>BD []
 |(.inl i,_)::r=>(Kw r).map (i::·)
 |_::_=>V6
theorem HU{c:dl}{H:Hp}:∀ {a:List$ Ic × D} {us:List$ Ic × V} {is:h8},eh T c H a us->Kw a=BD is->us.map (·.1)=is.map Sum.inl
 |[],_,is,h,e=>by unfold eh at h;cases h;cases e;rfl
 |(k,d)::a,_,is,h,e=>by
  cases h with
  |cons q h=>
   cases k with
   |inr x=>cases e
   |inl i=>
    unfold Kw at e;cases b:Kw a with
    |none=>simp_all
    |some f=>
     rw[b]at e;cases e;simp only[Ta];rw[HU h b,<-q.1]
def rF(xs:B'):M D:=λb=>match xs with
 |[x]=>(match Sg b x with
  |some a=>(match Kw a with
   |some is=>if is.length<64 then PB ((Qn is).map Z) b else Ϙ
   |none=>Ϙ)
  |none=>Ϙ)
 |_=>Ϙ
def r6:Bs T tM rF:=by
 intro E n H σ xs vs Q r p h
 match xs with
 |[]=>trivial
 |[x]=>
  obtain⟨v,w,rfl,k,f⟩:=p;rw[lb]at f;subst f;unfold rF at h;cases e:Sg σ x with
  |none=>simp only[e]at h;exact h.elim
  |some d=>
   simp only[e]at h;cases b:Kw d with
   |none=>simp[b]at h;exact h.elim
   |some is=>
    simp only[b]at h;by_cases c:is.length<64
    ·rw[ka c]at h;obtain⟨a,m,rfl,g,i⟩:=uy r k e;exact⟨a,m,is,rfl,g,HU i b,c,λl j=>jF h r (GN _) j⟩
    ·rw[qa c]at h;exact h.elim
 |_::_::_=>exact h.elim
def CW(K:ϗ):n'->Hp->VK->Prop:=λxs H Q=>pO K xs H Q\/tM xs H Q
def j8(c:X.qc=Ĳ):Ao X (Ϣ "sorted")$ CW X.K:=by
 intro a s σ H xs b Q I r h;rcases h with h|h
 ·exact YZ a s σ H xs b Q I r h
 ·exact q8 c a s σ H xs b Q I r h
def kw(xs:B'):M D:=λa=>match xs with
 |[x]=>(match Lf a x with
  |some _=>QM [x] a
  |none=>rF [x] a)
 |_=>Ϙ
def zqd(d:T.K=X.K):Bs T (CW X.K) kw:=by
 intro E c H a xs b Q r p h
 match xs with
 |[]=>trivial
 |[x]=>
  unfold kw at h;cases e:Lf a x with
  |some f=>simp[e]at h;exact ϑ$ zzr d E c H a [x] b Q r p h
  |none=>simp[e]at h;exact ϕ$ r6 E c H a [x] b Q r p h
 |_::_::_=>trivial
def Ş{pl}(hK:T.K=X.K)(he:FE T X o f)(hC:Qr T.K$ T.ca c)(P:ju T.K (T.ca c) m fa)
  (h:Nt T X.prog X.w X.mg X.base k fa ps dv t) (hv:ie dvs dv) (S:∀ μ H,lb T μ H dds dvs) (hn:n+dds.length=ps.length) (hr:Qd k X.A) (ha:FA T X (e::p) ό)
  (ϊ:va (e::p) X.env=(Ε,Mb e X.env)::va p X.env:=by rfl) (ϋ:(lc b$ va p X.env).any (·.1)=Ε:=by rfl)
  (ht:Mb (ϡ (ϟ o m i) (e::p) [] b) X.env=(do
   let ov <-Mb o X.env
   oh i.atName
   let (f,first) <-qe [ov] (Ki ov m pl)
   lr b f first (lc b$ va (e::p) X.env) (Hh b$ uf [] X.env)):=by rfl) :
  FE T X (ϡ (ϟ o m i) (e::p) [] b)$ Yf [(c,λj=>t$ j++dds)] n m f ό:=by
 rintro l s st H Q I ⟨μ,ρ,σ,hE,Y,hp⟩;refine W.methodCall_KW (Ed (he l s st H (λx B=>∃ a G vs,x=ϖ a/\B a=BD (.ub (T.ca c) G vs)/\vs.lookup m=V6/\tL T X ό st B λus L=>Ho T ps.length t (x::(us++dvs)) L Q$ XE X st) I ⟨μ,ρ,σ,hE,Y,hp.bind λd F a0 v B D e1 r1 q1 g=>?_⟩) λu s1 ⟨x,B,I1,rx,a,G,vs,ex,ea,C,q⟩=>?_) ht
 ·unfold Gk at g;cases N:ak F d with
  |none=>rw[N]at g;exact g.elim
  |some z=>
   obtain⟨c',gs⟩:=z;rw[N]at g;dsimp only at g;by_cases R:c=c'
   ·subst R;have J:Br [(c,λj=>t$ j++dds)] c=BD (λj=>t$ j++dds):=by unfold Br;rw[ka$ JZ c]
    cases C:gs.lookup m with
    |some y=>rw[J,C]at g;exact g.elim
    |none=>
     rw[J,C]at g;dsimp only at g;obtain⟨a,G,vs,rfl,h1,h2⟩:=mz r1 q1 N;refine⟨a,G,vs,rfl,h1,(QA h2).2 C,a0,ρ,F,hE.mono e1,r1,g.bind λj a2 a1 us L D e2 r2 q2 E=>?_⟩;unfold Ri at E;by_cases hl:j.length+1=n
     ·rw[ka hl]at E;exact⟨a1,a2,d::(j++dds),lb.cons (Sa.mono e2 _ _ q1)$ lb.append q2$ S _ _,by rw[gb,Ub];lia,r2,E⟩
     ·rw[qa hl]at E;exact E.elim
   ·have J:Br [(c,λj=>t$ j++dds)] c'=V6:=by unfold Br;rw[qa ⋯];rfl
    rw[J]at g;exact g.elim
 ·subst ex;obtain rfl:u=yb a:=rx;obtain⟨fd,_,hb,hF⟩:=h;rw[hK]at hC P hF hb;exact bP I1 ea hC P C$ Ϲ I.ok.mod.Rw P.kp (Ed (ha b l s1 st B _ I1 q) λus s2 ⟨vs,L,I2,r,q2⟩=>⟨I2.Ai,(EI (vs:=ϖ a::vs) hF hr hb hv I2 (ϝ rfl r) q2)⟩) ϊ ϋ
end L4
namespace L2
open Spec
def FH:List (TE × TE)->St->Hp->(List (V × V)->Hp->Prop)->Prop
 |[],_,H,Q=>Q [] H
 |(d,e)::r,σ,H,Q=>d σ H λx a=>e σ a λy b=>FH r σ b λps c=>Q ((x,y)::ps) c
abbrev VV:List (V × V)->List (Value × Value)->Prop:=Paired λp q=>jd p.1 q.1/\jd p.2 q.2
def SC(X:Cx)(d:Td)(c:List$ Option Oa)(a:List Oa)(e:List$ TE × TE):Prop:=
 ∀ (b:List$ Addr × Obj) (s:Shared) (σ:St) (H:Hp) (Q:List (V × V)->Hp->Prop),db X b σ H s->FH e σ H Q->
  wpAny (model X.prog X.w) X.A (evalPairs$ pairTrees c a X.env d) (λi h=>∃ g f,db X b σ f h/\VV g i/\Q g f) X.xe s
def zxu:SC X a [] [] []:=λb s c H Q I h=>pairTrees_nil_walk ⟨[],H,I,Ϡ,h⟩
def zo5(n:PE X k e)(p:PE X v f)(o:SC X b ks vs c) :
  SC X b (BD k::ks) (v::vs)$ (e,f)::c:=λa s d H Q I h=>
 pairTrees_cons_walk (Ed (n a s d H _ I h) λu s1 ⟨x,H1,j,w,q⟩=>Ed (p a s1 d H1 _ j q) λA s2 ⟨y,g,l,z,r⟩=>
  Ed (o a s2 d g _ l r) λws s3 ⟨ps,i,m,rel,t⟩=>⟨(x,y)::ps,i,m,ϝ ⟨w,z⟩ rel,t⟩)
def sE(c a:List$ Ic × V):List$ Ic × V:=a.foldl (λb d=>ik b d.1 d.2) c
def KV.merge:∀ {b} {d} {a} {c},KV b d->KV a c->KV (sE a b) (merged c d):=by
 intro b d a c r;unfold KV at r;induction r generalizing a c with
 |nil=>intro q;exact q
 |@cons p q ps g h t f=>
  intro r0;have e:KV (ik a p.1 p.2)$ stored c q.1 q.2:=by
   have:=r0.put p.1 h.2;rw[<-h.1];exact this
  exact f e
theorem kY:∀ (b a:List$ Ic × V),(sE a b).length<=a.length+b.length
 |[],a=>by show a.length<=a.length+0;omega
 |p::r,a=>by
  have c:=kY r$ ik a p.1 p.2;have d:=ND a p.1 p.2;show (sE (ik a p.1 p.2) r).length<=_;rw[gb];omega
theorem qY{P:Ca}{w:Wa}:∀ {d:List$ Ic × V} {ws:List$ Value × Value},VV (d.map λf=>(kV f.1,f.2)) ws->∃ e,Carries (fj P w) ws e/\KV d e
 |[],_,r=>by rw[oe]at r;cases r;exact⟨[],Ϯ,Ϡ⟩
 |p::d,_,r=>by
  rw[Ta]at r;cases r with
  |@cons a b as bs h t=>
   obtain⟨e,c,q⟩:=qY (P:=P) (w:=w) t;obtain⟨i,g⟩:=b;exact⟨(p.1,g)::e,⟨Qv h.1,rfl,c⟩,ϝ ⟨rfl,h.2⟩ q⟩
def M8(b:List$ TE × TE):TE:=λf H Q=>∀ p,H p=V6->FH b f (Wb H p$ ϛ []) λe c=>c p=BD (ϛ [])/\∃ a:List (Ic × V),e=a.map (λd=>(kV d.1,d.2))/\a.length<=15/\Q (ϖ p) (Wb c p$ ϛ$ sE [] a)
def n7(h:SC X k b d l)(g:b.all (·.isSome)=Ĳ)(A:b.length=d.length)(u:b≠[])
  (m:b.length<=15):PE X (.Dict b d k)$ M8 l:=by
 intro j s L H Q I q;have B:=I.Fc.fresh$ ua s.heap.objs.size;have p:=I.laid (a:=s.heap.objs.size) (o:=ϛ []) (h':=s.heap.push { cls:=Uh "dict",data:=.dict #[] }) (t':=s.toks) (λN N q=>ga _ q) (ua _)$ pQ s.heap I.qH;refine wpAny_Dict_walk (knd:=fj X.prog X.w) g A u m (Ed (h j _ L _ _ p$ q _ B) λws s2 ſ=>?_);obtain⟨ps,M,n,rel,e,i,t,lk,F⟩:=ſ;subst t;obtain⟨J,c,G⟩:=qY (P:=X.prog) (w:=X.w) rel;obtain⟨z,x,K,r0,r⟩:=MB n.Fc e;cases r0;refine⟨J,c,r,λh' f D=>⟨ϖ s.heap.objs.size,_,?_,rfl,F⟩⟩;have E:(sE [] i).length<=sizeLine:=by
  have v:=kY i [];rw[Qe]at v;rw[kx];omega
 have y:∃ q,h'.get? s.heap.objs.size=BD q:=let ⟨q,_,_,C,_⟩:=f;⟨q,C⟩;exact ez n (by rw[e];exact Ϯ) D y$ Rz E x (G.merge Ϡ) f
end L2
namespace L4
def Ux(xs:Array Nat):Prop:=∀ i k:Nat,∀ a b:Nat,i<k->xs[i]?=BD a->xs[k]?=BD b->a<b
def Cut(xs:Array Nat)(j p:Nat):Prop:=p<=xs.size/\(∀ i a:Nat,i<p->xs[i]?=BD a->a<j)/\∀ i a:Nat,p<=i->xs[i]?=BD a->j<=a
def C0{xs}(p:Ux xs) j:∀ c lo b,b - lo<=c->lo<=b->b<=xs.size->(∀ i a:Nat,i<lo->xs[i]?=BD a->a<j)->(∀ i a:Nat,b<=i->xs[i]?=BD a->j<=a)->Cut xs j (Zm xs j c lo b):=by
 intro c;induction c with
 |zero=>
  intro lo b t u h k l;have e:lo=b:=by lia
  subst e;exact⟨h,k,l⟩
 |succ f r=>
  intro lo b t u h k l;unfold Zm;by_cases o:lo<b
  ·rw[ka o];dsimp only;have q:(lo+b) / 2<xs.size:=by lia
   have g:=Fb q;have s:xs.getD ((lo+b) / 2) j=xs[(lo+b) / 2]:=by simp[q]
   rw[s];by_cases m:xs[(lo+b) / 2]<j
   ·rw[ka m];refine r _ _ ⋯ ⋯ h (λi a n d=>?_) l;by_cases e:i=(lo+b) / 2
    ·subst e;rw[g]at d;cases d;exact m
    ·have:=p i _ a _ ⋯ d g;lia
   ·rw[qa m];refine r _ _ ⋯ ⋯ ⋯ k (λi a n d=>?_);by_cases e:i=(lo+b) / 2
    ·subst e;rw[g]at d;cases d;lia
    ·have:=p _ i _ a ⋯ g d;lia
  ·rw[qa o];have e:lo=b:=by lia
   subst e;exact⟨h,k,l⟩
def EX{xs}(c:Ux xs) j:Cut xs j$ Te xs j:=by
 exact C0 c j _ _ _ ⋯ ⋯ (ua _) (λi a h=>by lia) (λi a h b=>by
  have:=(Wc.mp b).1;lia)
def W3{xs}(a:Cut xs j p)(b:Cut xs j q):p=q:=by
 rcases ew p q with h|h|h
 ·have f:=Ja h b.1;have e:=Fb f;have c:=b.2.1 p _ h e;have d:=a.2.2 p _ (ua _) e
  lia
 ·exact h
 ·have g:=Ja h a.1;have e:=Fb g;have c:=a.2.1 q _ h e;have d:=b.2.2 q _ (ua _) e
  lia
def X0{xs:Array Nat}(d:p<=xs.size) i:(mj xs p x)[i]?=if i<p then xs[i]? else if i=p then BD x else xs[i - 1]?:=by
 unfold mj;have s1:(xs.extract 0 p).size=p:=by simp;lia
 rw[Array.getElem?_append,Array.size_push,s1];by_cases a:i<p
 ·rw[ka ⋯,ka a,Vr,qa (by rw[s1];lia),Pp];simp;lia
 ·rw[qa a];by_cases b:i=p
  ·subst b;rw[ka ⋯,ka rfl,Vr,ka (by rw[s1])]
  ·rw[qa ⋯,qa b,Pp];by_cases c:i - 1<xs.size
   ·rw[ka ⋯];congr 1;lia
   ·rw[qa ⋯,Qp ⋯]
def Ś{xs}(m:Ux xs)(l:Cut xs x p)(t:¬ xs[p]?=BD x):Ux$ mj xs p x:=by
 have r:∀ i a:Nat,p<=i->xs[i]?=BD a->x<a:=λi a s c=>by
  have g:=l.2.2 i a s c;rcases Nat.lt_or_ge x a with h|h
  ·exact h
  ·have e:a=x:=by lia
   subst e;by_cases o:i=p
   ·subst o;exact absurd c t
   ·have v:=(Wc.mp c).1;have u:p<xs.size:=by lia
    have q:=Fb u;have:=m p i _ _ ⋯ q c;have:=l.2.2 p _ (ua _) q
    lia
 intro i k a b n c d;rw[X0 l.1]at c d;by_cases g:i<p
 ·rw[ka g]at c;by_cases j:k<p
  ·rw[ka j]at d;exact m i k a b n c d
  ·rw[qa j]at d;by_cases f:k=p
   ·rw[ka f]at d;cases d;exact l.2.1 i a g c
   ·rw[qa f]at d;exact m i _ a b ⋯ c d
 ·rw[qa g]at c;have j:¬ k<p:=by lia
  rw[qa j,qa ⋯]at d;by_cases f:i=p
  ·rw[ka f]at c;cases c;exact r _ b ⋯ d
  ·rw[qa f]at c;exact m (i - 1) (k - 1) a b ⋯ c d
structure Aj(b:Bool)(t:Xd):Prop where
 led:t.led = !b
 AH:Ux t.place
 dM:t.dummies=#[]
def MY j:iw #[] j=Ε:=by
 unfold iw;simp
def Y7(h:Aj b t) j:t.slot j=.empty/\¬ t.place[Te t.place j]?=BD j\/∃ i,t.slot j=.live i:=by
 unfold SetTable.slot;by_cases e:(t.place[Te t.place j]? == BD j)=Ĳ
 ·rw[ka e];exact ϕ ⟨_,rfl⟩
 ·rw[qa e,h.dM,MY]
  simp_all
def zo6(h:Aj b t) d l:∀ a p m,p.dummy=V6->wg t d l a p=BD m->(∃ j,m=.empty j V6/\¬ t.place[Te t.place j]?=BD j)\/∃ j i nx,m=.candidate j i nx:=by
 intro a;induction a with
 |zero=>intro p m _ e;unfold wg at e;cases e
 |succ f o=>
  intro p m k e;unfold wg at e;rcases Y7 h p.j with⟨c,n⟩|⟨i,c⟩
  ·rw[c]at e;dsimp only at e;cases e;rw[k];exact ϑ ⟨_,rfl,n⟩
  ·rw[c]at e;dsimp only at e;by_cases g:(d i == l)=Ĳ
   ·rw[ka g]at e;cases e;exact ϕ ⟨_,_,_,rfl⟩
   ·rw[qa g]at e;refine o _ m ?_ e;unfold SetTable.advance;split<;>exact k
def y2(h:Aj b t)(e:t.freeSlot c=BD (j,f)):¬ t.place[Te t.place j]?=BD j:=by
 unfold SetTable.freeSlot SetTable.probe at e;cases a:wg t _ c _ _ with
 |none=>rw[a]at e;cases e
 |some m=>
  rcases zo6 h _ _ _ _ m rfl a with⟨d,rfl,g⟩|⟨d,i,nx,rfl⟩;all_goals simp_all
theorem Aj.put(h:Aj b t)(a:¬ t.place[Te t.place j]?=BD j):Aj b (t.put j).1:=by
 unfold SetTable.put;refine⟨h.led,Ś h.AH (EX h.AH j) a,?_⟩;rw[h.dM,MY];rfl
def Aj.plain(h:Aj b t):Aj b { t with plain:=p }:=⟨h.led,h.AH,h.dM⟩
def Λ n:Ux$ Array.range n:=by
 intro i k a c e b d;have l1:=(Wc.mp b).1;have l2:=(Wc.mp d).1
 simp_all
def Aj.Kr(h:Aj b t) n:Aj b$ t.standIn n:=⟨h.led,Λ n,rfl⟩
def Aj.or(h:Aj b t) n:Aj b$ t.orStandIn n:=by
 unfold SetTable.orStandIn;split
 ·exact h
 ·exact h.Kr n
def Aj.lay(h:Aj b t) c a x:Aj b (layNew t c a x).2.1:=by
 unfold layNew;cases e:t.freeSlot a with
 |none=>exact h.Kr _
 |some q=>
  obtain⟨j,d⟩:=q;dsimp only;exact(h.put$ y2 h e).or _
def v6 m(f:Nat->Option Nat):Ux ((((List.range m).filterMap λj=>(f j).map (j,·)).map (·.1)).toArray):=by
 have p:List.Pairwise (·<·) (((List.range m).filterMap λj=>(f j).map (j,·)).map (·.1)):=by
  have n:List.Pairwise (·<·)$ List.range m:=List.pairwise_lt_range;have e:((List.range m).filterMap λj=>(f j).map (j,·)).map (·.1)=(List.range m).filter λj=>(f j).isSome:=by
   rw[List.map_filterMap];rw[<-List.filterMap_eq_filter];congr 1;funext j;cases o:f j<;>simp[Option.guard,o]
  rw[e];exact n.sublist xt
 intro i k a c b d g;rw[yi]at d g;obtain⟨l1,h⟩:=ba.mp d;obtain⟨l2,l⟩:=ba.mp g;rw[<-h,<-l];exact oo.mp p i k l1 l2 b
def Aj.nF(h:Aj b t) d c:Aj b (bn t d c).2.1:=by
 unfold bn;cases e:t.relaid _ c with
 |none=>exact h.Kr _
 |some q=>
  obtain⟨g,f⟩:=q;dsimp only;split
  ·unfold SetTable.relaid SetTable.laid at e;cases a:SetTable.layClean _ _ with
   |none=>rw[a]at e;cases e
   |some ow=>
    rw[a]at e;cases e;exact⟨h.led,v6 _ _,rfl⟩
  ·exact h.Kr _
def Aj.fresh b:Aj b$ Wt 0 0$ !b:=⟨rfl,λi k a c e d e=>by simp[Wt]at d,rfl⟩
end L4
namespace L4
open Spec
section
variable{prog:Ca}{w:Wa}{K:Type}[DecidableEq K][BEq K][LawfulBEq K]{knd:KeyKind prog w K}{A:Ra}{E:Value->Shared->Prop}{s:Shared}{b:Bool}{a:Addr}{k:K}{x:Value}
def Zq(knd:KeyKind prog w K)(b:Bool)(h:Heap)(a:Addr)(S:K->Bool)(n:Nat):Prop:=
 ∃ o c d t,h.get? a=BD o/\o.ExactSet/\o.data=.set c d t/\QC knd c.toList/\(∀ k,S k=Ĳ ↔ ∃ e∈c.toList,knd.is k e.2=Ĳ)/\c.size<scanBound/\t.fits c.size=Ĳ/\c.size=n/\Aj b t
def zV{h:Heap}(q:h.get? a=BD o)(i:o.ExactSet)(r:o.data=.set p f t)(j:QC knd c.toList)
  (l:∀ k,S' k=Ĳ ↔ ∃ e∈c.toList,knd.is k e.2=Ĳ) (m:c.size<scanBound) (n:d.fits c.size=Ĳ) (s:Aj b d) :
  (h.update a$ jv c d).get? a=BD { o with data:=.set c (f+1) d }/\Zq knd b (h.update a$ jv c d) a S' c.size:=by
 obtain⟨g,_⟩:=SetOf_store q i r j l m n;exact⟨g,_,c,f+1,d,g,i,rfl,j,l,m,n,rfl,s⟩
def fW{g:Bool->Wm Unit}(N:∀ c s1 n,n () s1->wpAny (model prog w) A (g c) n E s1)
  (u:s.heap.get? a=BD o) (v:o.ExactSet) (x:o.data=.set L J t) (B:QC knd d.toList) (C:∀ k,j k=Ĳ ↔ ∃ e∈d.toList,knd.is k e.2=Ĳ) (D:d.size<scanBound) (M:f.fits d.size=Ĳ) (F:Aj b f)
  (q:∀ m,Zc a s.heap m->Zq knd b m a j d.size->R (BD Ĳ) { s with heap:=m }) :
  wpAny (model prog w) A (do
    storeSet a d f
    if (!ό && f.tooFull)=Ĳ then do
      g (bn f d$ Df d.size).2.2
      storeSet a (bn f d$ Df d.size).1 (bn f d$ Df d.size).2.1
      pure (BD Ĳ)
     else pure (BD Ĳ)) R E s:=by
 refine aa$ GC u x ?_$ qg D;obtain⟨r,I⟩:=zV u v x B C D M F;have h:=Sb s.heap a$ jv d f;split
 ·have i:=relayAll_perm f d$ Df d.size;have G:=relayAll_fits f d$ Df d.size;have H:=F.nF d$ Df d.size;generalize bn f d _=ϊ at i G H ⊢;obtain⟨l,Q,P⟩:=ϊ;have z:l.size=d.size:=by rw[<-Pb,i.length_eq,Pb]
  refine aa$ N _ _ _$ aa$ GC r rfl ?_$ qg ⋯;obtain⟨_,p⟩:=zV (S':=j) r v rfl (B.perm i) (λk=>(C k).trans ⟨λ⟨e,he,y⟩=>⟨e,i.mem_iff.mpr he,y⟩,λ⟨e,he,y⟩=>⟨e,i.mem_iff.mp he,y⟩⟩) ⋯ G H;rw[z]at p;exact da$ q _ (h.trans$ Sb _ a _) p
 ·exact da$ q _ h I
def Ν(L:knd.is k x=Ĳ)(M:x.scannable=Ĳ)(Y:Zq knd b s.heap a S n)(hn:n+1<scanBound)
  (q:∀ d,Zc a s.heap d->Zq knd b d a (λD=>S D || decide (D=k)) (if S k then n else n+1)->Q (!S k) { s with heap:=d }):wpAny (model prog w) A (setAddHashed a x$ knd.hash k) Q E s:=by
 obtain⟨o,f,X,t,l,I,m,B,C,R,J,T,ϋ⟩:=Y;refine Yb$ aa$ ff l m J ?_;dsimp only;rw[byScan_of M R B];refine aa$ aa$ mm$ aa$ wpAny_setScan_of L l m J B ?_;cases V:List.findIdx? (λe=>knd.is k e.2) f.toList with
 |some j=>
  obtain⟨hj,pj,_⟩:=List.findIdx?_eq_some_iff_getElem.mp V;have u:=(C k).mpr ⟨f.toList[j],Ph hj,pj⟩;refine da$ da ?_;have z:=q s.heap (oJ a s.heap) ⟨o,f,X,t,l,I,m,B,λD=>by
   rw[Hg,Xb,<-C D];exact⟨λy=>y.elim id λe=>e ▸ u,ϑ⟩,R,J,by rw[u];exact T,ϋ⟩
  rw[u]at z
  simp_all
 |none=>
  have u:S k=Ε:=by
   cases y:S k with
   |false=>rfl
   |true=>obtain⟨e,he,p⟩:=(C k).mp y;have:=List.findIdx?_eq_none_iff.mp V e he;rw[p]at this;cases this
  have H:∀ c {s1:Shared} {i:Unit->Shared->Prop},i () s1->wpAny (model prog w) A (match c with|true=>rule "set.scan.the-table-gave-way" | false=>pure ()) i E s1:=λc s1 i y=>by
   cases c
   ·exact da y
   ·exact mm y
  have r:=layNew_perm t f (knd.hash k) x;have F:=layNew_fits t f (knd.hash k) x;have G:=ϋ.lay f (knd.hash k) x;generalize layNew t f _ x=ϊ at r F G ⊢;obtain⟨g,t1,wd,gv⟩:=ϊ;rw[Array.toList_push]at r;have N:=(B.push L M).perm r;have ό:=mem_push_iff L C r;have W:g.size=n+1:=by rw[<-Pb,r.length_eq,Ub,Pb,T];rfl
  have P:g.size<scanBound:=by omega
  have jg:∀ d,Zc a s.heap d->Zq knd b d a _ g.size->Q Ĳ { s with heap:=d }:=λd v h=>by
   have:=q d v;rw[u]at this;rw[W]at h;exact this h
  refine aa$ H _ ?_;split
  ·refine aa ?_;rw[hashByValue_scannable 8 M];refine da$ fW (b:=b) ?_ l I m N ό P ?_ ?_ ?_
   ·exact λc s1 i y=>H c y
   ·split
    ·exact F
    ·exact SetTable.fits_plain_off F
   ·split
    ·exact G
    ·exact G.plain
   ·exact λd v h=>da$ jg d v h
  ·refine aa$ da ?_;refine fW ?_ l I m N ό P F G ?_
   ·exact λc s1 i y=>H c y
   ·exact λd v h=>da$ jg d v h
end
noncomputable def bT(w:Wa):Bool:=w.params.followText "set-order"
section
variable{prog:Ca}{w:Wa}{A:Ra}
def zqh(g:Zq (Qf prog w) b h a S n)(e:∀ k,S k=c k)(f:n=d):Zq (Qf prog w) b h a c d:=by
 obtain rfl:S=c:=funext e
 simp_all
def xK(f:Zq (Qf prog w) b h a S n)(k:∀ o,h.get? a=BD o->c.get? a=BD o):Zq (Qf prog w) b c a S n:=by
 obtain⟨o,e,d,t,g,r⟩:=f;exact⟨o,e,d,t,k o g,r⟩
def W5{St}(W:WalksS prog w A.in1 I u j G n P St) a(x:a ∉ u) f(H:∀ i v,P i v->∃ t,v=Fh (f i) t)(N:n+1<scanBound) :
  ∀ k i s,n - i=k->i<=n->St i s->Zq (Qf prog w) b s.heap a (λy=>(Kf f i).any (·== y)) (Kf f i).length->
   (∀ d,Moved (a::j) G s d->Zq (Qf prog w) b d.heap a (λy=>(Kf f n).any (·== y)) (Kf f n).length->R (.ok$ .ret Bc) d)->codeAny (model prog w) A (.builtin "set.update.loop" ⟨[yb a,yb I],[]⟩) R s:=by
 have r:a ∉ j:=λz=>x$ W.sub _ z;have h:∀ c∈j,c∈a::j:=λc g=>ja _ g;intro k;induction k with
 |zero=>
  intro i s K J st l q;obtain rfl:i=n:=by lia
  exact Rc Wr$ aa (W.done s _ _ st λd m=>(da$ q d (m.mono h)$ xK l λo e=>m.heap a _ r e))
 |succ k L=>
  intro i s K J st l q;have lt:i<n:=by lia
  refine Rc Wr$ aa (W.item i s _ _ lt st λv d E p m=>?_);obtain⟨t,rfl⟩:=H i v E;refine aa$ Yb$ Yb$ aa$ (Qf prog w).pyHash (intKind_is _ _ _ _) ?_;refine Ν (intKind_is _ _ _ _) rfl (xK l λo e=>m.heap a _ r e) (by have:=CA f i;lia) λh' sb B=>?_;have C:Zq _ b h' a (λy=>(Kf f$ i+1).any (·== y)) (Kf f$ i+1).length:=zqh B (λy=>by rw[LZ,step_any]) (by rw[LZ,step_length]);refine da ⟨de F.plain_set_update_loop _,L (i+1) _ ⋯ lt (W.frame _ d _ _ p (re _) λc g o e=>?_) C λs2 M D=>?_⟩
  ·rw[sb.2 c (λz:c=a=>x (by rw[<-z];exact g))];exact e
  ·refine q s2 (Moved.trans W.gtrans ((m.mono h).then_heap (re _) λc o g e=>?_) M) D;rw[sb.2 c (λz:c=a=>g (by rw[z];exact la))];exact e
variable{E:Value->Shared->Prop}{s:Shared}
def Q4 x(q:Q (yb s.heap.objs.size) { s with heap:=s.heap.push { cls:=Uh "set",dict:=V6,data:=.set #[] 0 (.fresh 0 0$ !bT w) } }) :
  codeAny (model prog w) A (.call (Ϣ "set.__new__") ⟨[Uh "set",x],[]⟩) (wants Q E) s:=by
 refine pJ$ aa$ vx (PySem.F.newCall_set_1 x)$ da ⟨de PySem.F.plain_set_new _,Rc PySem.F.entry_set_new ?_⟩;unfold ai.«set.__new__» xx;have a:=sub_set_self;obtain⟨b,g,d,e,c⟩:=s
 wp_walk
 exact Lg$ da$ aa$ wpAny_alloc$ da$ da q
end
section
variable{prog:Ca}{w:Wa}{A:Ra}{E:Value->Shared->Prop}{s:Shared}
abbrev Fw(w:Wa):Obj:={ cls:=Uh "set",dict:=V6,data:=.set #[] 0 (.fresh 0 0$ !bT w) }
set_option maxHeartbeats 3200000 in
def Υ{l}{a}{h}{Q}(V:A.handled=V6)(X:s.heap.IsList l a)(W:ph a.toList h)(T:a.size+1<scanBound)
  (q:∀ d t,Zq (Qf prog w) (bT w) d s.heap.objs.size (λy=>(Kf (λi=>h.getD i 0) a.size).any (·== y)) (Kf (λi=>h.getD i 0) a.size).length->
   (∀ b o,b<s.heap.objs.size->s.heap.get? b=BD o->d.get? b=BD o)->Q (yb s.heap.objs.size) { s with heap:=d,toks:=t }) :
  wpAny (model prog w) A (call (Uh "set") [yb l]) Q E s:=by
 obtain⟨c,tl,K⟩:=pd.mro;have f1:=pd.made;have f2:=pd.sub;refine aj$ pJ (show wpAny _ _ (callAny (Uh "set") _) _ _ _ from da ⟨Code.quiet_builtin _ (by decide +kernel),Rc PySem.F.entry_type_call ?_⟩);rw[Around.under_plain (weight_type_call_type "set" [yb l] []) rfl];have f3:=pd.notType;have f4:=pd.canCreate;have f5:=PySem.F.typeCall_set_1$ yb l;repeat (any_goals (first|assumption|wp_step))
 refine Af (Q4 (yb l) (E:=E) (Q:=λob s1=>ob=yb s.heap.objs.size/\s1={ s with heap:=s.heap.push (Fw w) }) ⟨rfl,rfl⟩) λr s1 C=>?_;cases r with
 |error e=>exact C
 |ok ό=>
  cases ό with
  |ret ob=>
   obtain⟨rfl,rfl⟩:=C;have I:(s.heap.push$ Fw w).get? s.heap.objs.size=BD (Fw w):=Da _ rfl;have tS:Jn { s with heap:=s.heap.push (Fw w) } (yb s.heap.objs.size) "set":=⟨_,I,rfl⟩
   have i1:=pd.init.lookup;have i2:=pd.init.bind$ yb s.heap.objs.size;repeat (any_goals (first|assumption|wp_step))
   refine Af (sk (R:=wants (λr s2=>r=Bc/\∃ d t,s2={ s with heap:=d,toks:=t }/\Zq (Qf prog w) (bT w) d s.heap.objs.size (λy=>(Kf (λi=>h.getD i 0) a.size).any (·== y)) (Kf (λi=>h.getD i 0) a.size).length/\
     (∀ b o,b<s.heap.objs.size->s.heap.get? b=BD o->d.get? b=BD o)) E) pd.init.plain PySem.F.entry_set_init$ check_set_init_1 tS ?_) λr2 s2 g=>?_
   ·obtain⟨⟨oc,od,a0,G⟩,J,j,M,m⟩:=X;simp only at j m;subst j;subst m;have x:(s.heap.push$ Fw w).get? l=BD { cls:=Uh "list",dict:=od,data:=Ϧ a M,slots:=G }:=ga _ J;have g1:=PySem.F.sub_list_set;have g2:=PySem.F.sub_list_frozenset;have g3:(Uh "list" == Uh "dict")=Ε:=by decide
    have n:(s.heap.push$ Fw w).IsList l a:=⟨_,x,rfl,M,rfl⟩
    unfold ai.«set.__init__» noKeywords yx;generalize z:pyIter=PI
    wp_walk
    subst z;refine Xh n$ aa$ cr ?_;have L:l<s.heap.objs.size:=ya J;have S:A.in1.in1.in1.handled=V6:=by simp[V]
    have ϊ:l≠(s.heap.push$ Fw w).objs.size:=by rw[Xc];exact Aa$ Kb L
    have nf:s.heap.objs.size ∉ [(s.heap.push$ Fw w).objs.size,l]:=by
     rw[Xc];simp only[za,df,Qo,not_or];exact⟨Aa$ Jb _,Sd L⟩
    refine W5 (b:=bT w) ((Ij S _ l ϊ a).toS) s.heap.objs.size nf (λi=>h.getD i 0) (λi v Y=>IntsAre.int_at W i v (by rw[Yd];exact Y)) T (a.size - 0) 0 _ ⋯ (rh _) ⟨⟨_,Da _ rfl,rfl,rfl⟩,(n.push _)⟩ ?S0 ?RR;case S0=>
     exact⟨Fw w,#[],0,_,ga _ I,⟨rfl,rfl,rfl⟩,rfl,λe ϋ=>by simp at ϋ,λk=>by simp[MZ],by decide,by rfl,by simp[MZ],Aj.fresh _⟩
    case RR=>
     intro s' p f;obtain⟨d,P,N,H,D⟩:=s';obtain rfl:P=s.gens:=p.gens;obtain rfl:N=s.drawn:=p.drawn;obtain rfl:D=s.os:=p.os;refine da$ da ⟨rfl,d,H,rfl,f,λb o lt e=>?_⟩;refine p.heap b o ?_$ ga _$ ga _ e;rw[Xc];simp only[za,df,Qo,not_or];exact⟨Aa lt,Aa$ Kb lt⟩
   ·cases r2 with
    |error e=>exact g
    |ok u=>
     cases u with
     |ret r=>
      obtain⟨rfl,d,t,rfl,f,B⟩:=g;repeat (any_goals (first|assumption|wp_step))
      exact q _ _ f B
     |_=>exact g
  |_=>exact C
end
def yu:vP "set_iterator" "__next__" "set_iterator.__next__":=.of (owner:="set_iterator") (n:="__next__") (by rw[qJ,fw];kernel_rfl) (by decide +kernel) (by decide +kernel) (by decide +kernel) (ϑ$ by decide +kernel) (by rw[dr];kernel_rfl)
def pG:yP table "set_iterator.__next__" = BD ai.«set_iterator.__next__»:=entryFor_of_tree (by kernel_rfl)
def SI a:pr "set_iterator.__next__" ⟨[a],[]⟩:=by unfold pr;kernel_rfl
def C3:yP table "set.__iter__" = BD ai.«frozenset.__iter__»:=oP (id':="frozenset.__iter__") (by kernel_rfl) (by first|rfl|decide +kernel) (by decide +kernel) (by kernel_rfl)
def jp(h:Heap)(a:Addr)(c:Array$ Int × Value)(b:Nat)(t:Xd):Prop:=∃ o,h.get? a=BD o/\o.ExactSet/\o.data=.set c b t
def qq(h:Heap)(I a:Addr)(first:Value)(i n b:Nat):Prop:=∃ o,h.get? I=BD o/\o.cls=Uh "set_iterator"/\o.data=ϩ #[first,yc i,yb a,yc n,yc b]
section
variable{prog:Ca}{w:Wa}{A:Ra}{E:Value->Shared->Prop}{s:Shared}{I a:Addr}{es:Array$ Int × Value}{ep:Nat}{t:Xd}{i:Nat}
def qq.ty(h:qq s.heap I a first i n ep):s.TypeIs (yb I) "set_iterator":=let ⟨o,b,c,_⟩:=h;⟨o,b,c⟩
def ō{f:Nat}(g:qq s.heap I a (yc f) i es.size ep)(m:jp s.heap a es ep t)(p:t.fits es.size=Ĳ)(u:a≠I)
  (r:∀ A E (Q:Option (Value × Nat)->Shared->Prop),Q (BD (v,b)) s->wpAny (model prog w) A (mv a f i ep) Q E s)
  (q:∀ e,qq e I a (yc b) (i+1) es.size ep->Zc I s.heap e->Q (BD v) { s with heap:=e }):wpAny (model prog w) A (pyNext$ yb I) Q E s:=by
 obtain⟨o,h,n,c⟩:=id g;obtain⟨x,l,y,k⟩:=id m;refine aa$ Ql$ Ld g.ty yu$ Jc yu g.ty pG ?_$ SI _;refine aa$ da$ aa$ uk h c$ aa$ Hf l k p ?_;rw[qa ⋯];refine aa$ r _ _ _$ aa$ rg h c ⋯ ?_;have j:=Mc (Vp (·.setIfInBounds 0$ Fh b 0)) h$ We$ jc c _;have d:=jc c (·.setIfInBounds 0$ Fh b 0);refine aa$ rg j d ⋯$ da ⟨_,rfl,da$ q _ ⟨_,(Mc _ j$ We$ jc d _),?_,?_⟩$ (Sb ..).trans$ Sb ..⟩
 ·rw[xl,xl];exact n
 ·rw[jc d];simp[yc]
def yU{Q}{first:Value}{n:Nat}{d}(f:A.handled=V6)(sb:Zc I s.heap d)(q:∀ b,xm I s.heap b->Q V6 { s with heap:=b }) :
  wpAny (model prog w) A.in1 (do let e <-newExc (Uh "StopIteration") [];raiseNew e:Wm PySem.Fin) (λjg a=>∃ v,jg=Fin.done (Flow.ret v)/\wpAny (model prog w) A (pure$ BD v) Q E a)
   (λe a=>wpAny (model prog w) A (do let c <-IA e (Uh "StopIteration");if c=Ĳ then pure V6 else throw e) Q E a) { s with heap:=d }:=by
 refine aa$ aa$ ic (aa$ vx (by rfl)$ ic (aa$ wpAny_handled ?_)$ by size_fits) (by size_fits);rw[f];refine aa$ da$ wpAny_throw ?_;refine aa$ ko ⟨_,Da _ rfl,rfl⟩ isSubtype_stop ?_;exact da$ q _$ (sb.extBut.push _).push _
def W2{f:Nat}(l:A.handled=V6)(b:qq s.heap I a (yc f) i es.size ep)(j:jp s.heap a es ep t)(k:t.fits es.size=Ĳ)
  (m:∀ A E Q,Q V6 s->wpAny (model prog w) A (mv a f i ep) Q E s)
  (q:∀ c,xm I s.heap c->Q V6 { s with heap:=c }):wpAny (model prog w) A (pyNext$ yb I) Q E s:=by
 obtain⟨o,e,p,d⟩:=id b;obtain⟨r,h,u,g⟩:=id j;refine aa$ Ql$ Ld b.ty yu$ Jc yu b.ty pG ?_$ SI _;refine aa$ da$ aa$ uk e d$ aa$ Hf h g k ?_;rw[qa ⋯];exact aa$ m _ _ _$ aa$ rg e d ⋯$ yU (first:=Bc) (n:=0) l (Sb ..) q
end
theorem AO{a:Type}:∀ (l:List a) (i:Nat) (h:i<l.length),(l[i]::l.eraseIdx i).Perm l
 |x::l,0,_=>.refl _
 |x::l,i+1,h=>by
  have:=AO l i ⋯;exact(List.Perm.swap _ _ _).trans$ this.cons x
theorem HX{d:Type}(nx:Nat->Nat):∀ (a k:Nat) (left:List d) (out:Array d),left.length=a->∃ b:List d,(cn nx a k left out).toList=out.toList++b/\b.Perm left
 |0,k,left,out,h=>by
  obtain rfl:=Rp.mp h;exact⟨[],by unfold cn;simp,.refl _⟩
 |a+1,k,left,out,h=>by
  have c:nx k % left.length<left.length:=pP _ ⋯;unfold cn;rw[Vb c];obtain⟨b,e,p⟩:=HX nx a (k+1) _ (out.push left[nx k % left.length]) (by rw[En c];lia);exact⟨left[nx k % left.length]::b,by rw[e];simp,((p.cons _).trans$ AO left _ c)⟩
def lZ nx(xs:Array a):(yo nx xs).toList.Perm xs.toList:=by
 obtain⟨b,e,p⟩:=HX nx xs.size 0 xs.toList #[] ⋯;unfold yo
 simp_all
def fB(pl:Array Nat)(i:Nat):Nat:=if i=0 then 0 else pl.getD (i - 1) 0+1
def ē{pl}(d:Ux pl)(k:i<=pl.size):Te pl (fB pl i)=i:=by
 refine W3 (EX d _) ⟨k,λj a l b=>?_,λj a l b=>?_⟩
 ·unfold fB;rw[qa ⋯];have c:i - 1<pl.size:=by lia
  have f:=Fb c;have h:pl.getD (i - 1) 0=pl[i - 1]:=by simp[c]
  by_cases e:j=i - 1
  ·subst e;rw[f]at b;cases b;lia
  ·have:=d j _ a _ ⋯ b f;lia
 ·unfold fB;by_cases g:i=0
  ·rw[ka g];lia
  ·rw[qa g];have c:i - 1<pl.size:=by lia
   have h:pl.getD (i - 1) 0=pl[i - 1]:=by simp[c]
   have:=d _ j _ a ⋯ (Fb c) b;lia
section
variable{prog:Ca}{w:Wa}{A:Ra}{E:Value->Shared->Prop}{s:Shared}{a:Addr}{es:Array$ Int × Value}{ep:Nat}{t:Xd}{i:Nat}
def RG(q:Q (bT w) s):wpAny (model prog w) A setsByText Q E s:=by
 exact aa$ Lg$ da q
def e8(b:bT w=Ĳ)(f:jp s.heap a es ep t)(c:t.fits es.size=Ĳ)(q:Q (((yo (w.params.setOrder a ep) es)[i]?).map λe=>(e.2,0)) s):wpAny (model prog w) A (mv a 0 i ep) Q E s:=by
 obtain⟨o,g,x,d⟩:=f;refine aa$ ff g d c$ aa$ RG ?_;rw[b];simp;refine aa$ aa$ ff g d c$ aa$ RG ?_;rw[b];exact aa$ Lg$ da$ da q
def T8(j:bT w=Ε)(h:Aj (bT w) t)(u:(!t.plain && decide (es.size > 1))=Ε)(r:i<=es.size)(p:jp s.heap a es ep t)(c:t.fits es.size=Ĳ)(q:Q ((es[i]?).map λe=>(e.2,fB t.place (i+1))) s):wpAny (model prog w) A (mv a (fB t.place i) i ep) Q E s:=by
 obtain⟨o,g,x,d⟩:=p;have l:t.place.size=es.size:=by simp[SetTable.fits,Ga]at c;exact c.1
 refine aa$ ff g d c$ aa$ RG ?_;rw[j];simp;refine Pf (λz=>?_) (λv=>?_)
 ·have:(!t.plain && decide (es.size > 1))=Ĳ:=z;rw[u]at this;cases this
 ·refine aa ?_;refine Pf (λz=>?_) (λv=>da ?_)
  ·have:=z;rw[h.led,j]at this;cases this
  ·rw[ē h.AH (by rw[l];exact r)];refine da ?_;by_cases k:i<es.size
   ·have f:es[i]?=BD es[i]:=Fb k;have b:i<t.place.size:=by rw[l];exact k
    have m:t.place[i]?=BD t.place[i]:=Fb b;rw[f]at q ⊢;rw[m];have n:fB t.place (i+1)=t.place[i]+1:=by unfold fB;simp[b]
    rwa [n]at q
   ·have f:es[i]?=V6:=Qp ⋯
    simp_all
end
section
variable{prog:Ca}{w:Wa}{A:Ra}{E:Value->Shared->Prop}{s:Shared}{I a p:Addr}{es:Array$ Int × Value}{ep:Nat}{t:Xd}{i:Nat}
def Ě{M}{a}(b:n≠0)(q:∀ i,i<n->∀ c,Q i { s with drawn:=c }):wpAny M A (choose a n) Q E s:=λd ps d=>⟨b,q _ (pP _$ Nat.pos_of_ne_zero b) _⟩
theorem yY{M:Ji}{d:Type}:∀ (n:Nat) (xs:List d) (s:Shared) (Q:List d->Shared->Prop),xs.length=n->(∀ b c,b.Perm xs->Q b { s with drawn:=c })->wpAny M A (drawOrder n xs) Q E s
 |0,xs,s,Q,h,q=>by
  obtain rfl:=Rp.mp h;exact da$ q [] s.drawn$ .refl _
 |n+1,[],s,Q,h,q=>by cases h
 |n+1,x::xs,s,Q,h,q=>by
  refine aa (Ě ⋯ λi a c=>?_);rw[Vb a];exact aa (yY n _ _ _ (by rw[En a];simpa using h) λb e p=>da$ q _ e$ (p.cons _).trans$ AO _ i a)
def nA(h:Heap)(p:Addr)(ps:i'):Prop:=∃ o n,h.get? p=BD o/\o.data=Ϧ (ps.map λ(i:Nat)=>yc i).toArray n
def ŋ(d:qq s.heap I a (yb p) i es.size ep)(m:jp s.heap a es ep t)(k:t.fits es.size=Ĳ)(n:nA s.heap p ps)(u:ps[i]?=BD j)(x:es[j]?=BD v)
  (q:∀ c,qq c I a (yb p) (i+1) es.size ep->Zc I s.heap c->Q (BD v.2) { s with heap:=c }):wpAny (model prog w) A (pyNext$ yb I) Q E s:=by
 obtain⟨o,f,r,b⟩:=id d;obtain⟨z,h,B,g⟩:=id m;obtain⟨oT,y,l,dT⟩:=n;refine aa$ Ql$ Ld d.ty yu$ Jc yu d.ty pG ?_$ SI _;refine aa$ da$ aa$ uk f b$ aa$ Hf h g k ?_;rw[qa ⋯];refine aa$ og l dT ?_;dsimp only;have e:(ps.map λ(i:Nat)=>yc i).toArray[(i:Int).toNat]?=BD (Fh j 0):=by
  rw[Int.toNat_natCast,yi,Pa,u];rfl
 rw[e];simp;refine aa$ aa$ ff h g k ?_;dsimp only;rw[qa ⋯];rw[x];refine da$ aa$ rg f b ⋯$ da ⟨_,rfl,da$ q _ ⟨_,(Mc _ f$ We$ jc b _),?_,?_⟩$ Sb ..⟩
 ·rw[xl];exact r
 ·rw[jc b];simp
def X3(r:A.handled=V6)(c:qq s.heap I a (yb p) i es.size ep)(k:jp s.heap a es ep t)(m:t.fits es.size=Ĳ)(l:nA s.heap p ps)(v:ps[i]?=V6)
  (q:∀ f,xm I s.heap f->Q V6 { s with heap:=f }):wpAny (model prog w) A (pyNext$ yb I) Q E s:=by
 obtain⟨o,d,u,b⟩:=id c;obtain⟨y,h,z,g⟩:=id k;obtain⟨oT,x,j,dT⟩:=l;refine aa$ Ql$ Ld c.ty yu$ Jc yu c.ty pG ?_$ SI _;refine aa$ da$ aa$ uk d b$ aa$ Hf h g m ?_;rw[qa ⋯];refine aa$ og j dT ?_;dsimp only;have e:(ps.map λ(i:Nat)=>yc i).toArray[(i:Int).toNat]?=V6:=by
  simp_all
 rw[e];refine aa (rg d b ⋯ (aa (rg (Mc _ d$ We$ jc b _) (jc b (·.setIfInBounds 0 _)) ⋯ ?_)));exact yU (s:=s) (first:=Bc) (n:=0) r ((Sb ..).trans$ Sb ..) q
noncomputable abbrev Oz(a:Addr)(first:Value)(n ep:Nat):Obj:={ cls:=Uh "set_iterator",data:=ϩ #[first,yc 0,yb a,yc n,yc ep] }
noncomputable abbrev ZO(ps:i'):Obj:={ cls:=Uh "tuple",data:=Ϧ (ps.map λ(i:Nat)=>yc i).toArray }
def á(l:jp s.heap a es ep t)(c:t.fits es.size=Ĳ)(n:es.size<scanBound)
  (j:(!bT w && (!t.plain && decide (es.size > 1)))=Ε->Q (yb s.heap.objs.size) { s with heap:=s.heap.push (Oz a (yc 0) es.size ep) })
  (k:(!bT w && (!t.plain && decide (es.size > 1)))=Ĳ->∀ b e,b.Perm (List.range es.size)->Q (yb$ s.heap.objs.size+1) { s with heap:=(s.heap.push$ ZO b).push (Oz a (yb s.heap.objs.size) es.size ep),drawn:=e }) :
  wpAny (model prog w) A (pyIter$ yb a) Q E s:=by
 obtain⟨o,g,x,d⟩:=id l;have h:s.TypeIs (yb a) "set":=⟨o,g,x.1⟩
 refine HC h Ro$ Jc Ro h C3 (aa$ da$ aa$ aa$ Hf g d c$ da$ aa$ aa$ ff g d c$ aa$ RG$ da$ Pf (λz=>?_)$ λz=>?_)$ PySem.F.args_set_iter_1 _
 ·have f:=z;refine aa (yY _ _ _ _ ⋯ λb e i=>?_);have m:b.length=es.size:=by rw[i.length_eq,lh]
  refine aa$ wpAny_newTuple (aa$ IC (ga _ g) d c ?_) (by rw[Ea,m];exact qg n);refine aa$ ic (da ⟨_,rfl, "set_iterator",_,⟨_,Da _ rfl,rfl⟩,yu.lookup,?_⟩) (by size_fits);have:=k f b e i;rw[<-Xc s.heap _]at this;omega
 ·have f:(!bT w && (!t.plain && decide (es.size > 1)))=Ε:=by
   cases y:(!bT w && (!t.plain && decide (es.size > 1)))with
   |false=>rfl
   |true=>exact absurd y z
  refine aa$ da$ aa$ IC g d c$ aa$ ic (da ⟨_,rfl, "set_iterator",_,⟨_,Da _ rfl,rfl⟩,yu.lookup,?_⟩) (by size_fits);exact j f
end
def LQ:vP "set_iterator" "__iter__" "set_iterator.__iter__":=.of (owner:="set_iterator") (n:="__iter__") (by rw[qJ,fw];kernel_rfl) (by decide +kernel) (by decide +kernel) (by decide +kernel) (by first|exact ϑ (by decide +kernel)|exact .inr _) (by rw[dr];kernel_rfl)
def Ø:yP table "set_iterator.__iter__" = BD ai.«dict_keyiterator.__iter__»:=oP (id':="dict_keyiterator.__iter__") (by kernel_rfl) (by first|rfl|decide +kernel) (by decide +kernel) (by kernel_rfl)
def ő a:pr "set_iterator.__iter__" ⟨[a],[]⟩:=by unfold pr;kernel_rfl
section
variable{prog:Ca}{w:Wa}{A:Ra}{I a p:Addr}{es:Array$ Int × Value}{ep:Nat}{t:Xd}
def zT(h:qq s.heap I a first i n ep)(q:Q (yb I) s):wpAny (model prog w) A (pyIter$ yb I) Q E s:=by
 exact HC h.ty LQ$ Jc LQ h.ty Ø (da ⟨_,rfl, "set_iterator",_,h.ty,yu.lookup,q⟩)$ ő _
def qq.keep(x:qq h I a first i n ep)(k:∀ o,h.get? I=BD o->b.get? I=BD o):qq b I a first i n ep:=let ⟨o,e,r⟩:=x;⟨o,k o e,r⟩
def jp.keep(x:jp h a es ep t)(k:∀ o,h.get? a=BD o->b.get? a=BD o):jp b a es ep t:=let ⟨o,e,r⟩:=x;⟨o,k o e,r⟩
def nA.keep{h a}(x:nA h p ps)(k:∀ o,h.get? p=BD o->a.get? p=BD o):nA a p ps:=let ⟨o,n,e,r⟩:=x;⟨o,n,k o e,r⟩
def WX{f:Nat->Nat}{ord:List$ Int × Value}(D:A.handled=V6)(p:t.fits es.size=Ĳ)(g:a≠I)(F:ord.length=es.size)
  (u:∀ (s:Shared) (i:Nat),jp s.heap a es ep t->i<=es.size->∀ (A:Ra) (E:Value->Shared->Prop) (Q:Option (Value × Nat)->Shared->Prop),Q ((ord[i]?).map λe=>(e.2,f (i+1))) s->wpAny (model prog w) A (mv a (f i) i ep) Q E s) :
  Walks prog w A I [I,a] [I] es.size (λi v=>(ord[i]?).map (·.2)=BD v) (λi h=>qq h I a (yc$ f i) i es.size ep/\jp h a es ep t) where
 sub:=λb c=>by simp at c;simp[c]
 frame:=λG G G st r=>⟨st.1.keep λo e=>r I ⋯ o e,st.2.keep λo e=>r a ⋯ o e⟩
 item:=λi s Q E q st d=>by
  have n:i<ord.length:=by rw[F];exact q
  have y:=Vb n;exact ō st.1 st.2 p g (λj k l x=>u s i st.2 (vd q) j k l (by rw[y];exact x)) λm B sb=>(d _ m s.toks ⋯ ⟨B,st.2.keep λo e=>by rw[sb.2 a g];exact e⟩ λb o c e=>by rw[sb.2 b (λz=>c (by simp[z]))];exact e)
 done:=λs Q E st d=>by
  exact W2 D st.1 st.2 p (λj k l x=>u s es.size st.2 (ua _) j k l ⋯) λm C=>d m s.toks λb o c e=>C b o (λz=>c (by simp[z])) e
 self:=λG G G G st d=>zT st.1 d
def Z1{ps:i'}(C:A.handled=V6)(x:t.fits es.size=Ĳ)(n:a≠I)(r:p≠I)(q:ps.Perm$ List.range es.size) :
  Walks prog w A I [I,a,p] [I] es.size (λi v=>((ps[i]?).bind λj=>es[j]?).map (·.2)=BD v) (λi h=>(qq h I a (yb p) i es.size ep/\jp h a es ep t)/\nA h p ps) where
 sub:=λb c=>by simp at c;simp[c]
 frame:=λF F F st l=>⟨⟨st.1.1.keep λo e=>l I ⋯ o e,st.1.2.keep λo e=>l a ⋯ o e⟩,st.2.keep λo e=>l p ⋯ o e⟩
 item:=λi s Q E D st d=>by
  have m:ps.length=es.size:=by rw[q.length_eq,lh]
  have f:i<ps.length:=by rw[m];exact D
  have g:=Vb f;have u:=Fb$ Pi.mp$ q.mem_iff.mp$ Ph f;exact ŋ st.1.1 st.1.2 x st.2 g u λk y sb=>(d _ k s.toks (by rw[g,sh,u];rfl) ⟨⟨y,st.1.2.keep λo e=>by rw[sb.2 a n];exact e⟩,st.2.keep λo e=>by rw[sb.2 p r];exact e⟩ λb o c e=>by rw[sb.2 b (λz=>c (by simp[z]))];exact e)
 done:=λs Q E st d=>by
  have m:ps.length=es.size:=by rw[q.length_eq,lh]
  have g:ps[es.size]?=V6:=by rw[<-m];simp
  exact X3 C st.1.1 st.1.2 x st.2 g λk B=>d k s.toks λb o c e=>B b o (λz=>c (by simp[z])) e
 self:=λF F F F st d=>zT st.1.1 d
def WZ(d:s.TypeIs (yb a) "set")(h:Q Ε s):wpAny (model prog w) A (Jj$ yb a) Q E s:=by
 refine aa$ Yg d PySem.F.slot_set_len.lookup ?_;generalize e:("set.__len__")=f;subst e;exact aa$ ko (b:=Ĳ) d (by rw[dr];kernel_rfl)$ Pf (λc=>absurd c ⋯) (λg=>(Pf (λg=>(aa$ Zi d$ da h))$ λc=>absurd (by decide +kernel) c))
end
end L4
namespace L4
open Spec Calls W PyProof.V
section
variable{prog:Ca}{w:Wa}{A:Ra}{E:Value->Shared->Prop}{s:Shared}{a:Addr}{es:Array$ Int × Value}{ep:Nat}{t:Xd}
def jK{St}(W:Walks prog w A.in1 I x [I] n P St)(L:n<=sizeLine)(k:S ∉ x)(H:s.TypeIs (yb a) "set")(st:St 0 s.heap)
  (r:s.heap.get? S=BD { cls:=Uh "list",data:=Ϧ #[] v })
  (G:∀ h' p g c,(∀ b o,b≠S->b≠I->s.heap.get? b=BD o->h'.get? b=BD o)->h'.get? S=BD { cls:=Uh "list",dict:=V6,data:=Ϧ g c,slots:=#[] }->Ym P g n->R (.ok$ .ret d) { s with heap:=h',toks:=p }) :
  wpAny (model prog w) A.in1 (do
    let m <-qe [yb I] (Jj$ yb a)
    if (m || C)=Ĳ then do
     rule "list.extend.makes-room"
     wJ (yb S)
     again (.builtin "list.extend.loop" ⟨[yb S,yb I,d],[]⟩)
    else again (.builtin "list.extend.loop" ⟨[yb S,yb I,d],[]⟩))
   (λjg j=>match jg with | .done f=>R (.ok f) j | .again u=>u.quiet=Ĳ/\codeAny (model prog w) A u R j) (λe j=>R (.error e) j) s:=by
 have l:∀ h q p,St 0 h->(∀ b o,b≠S->s.heap.get? b=BD o->h.get? b=BD o)->h.get? S=BD { cls:=Uh "list",data:=Ϧ #[] q }->codeAny (model prog w) A (.builtin "list.extend.loop" ⟨[yb S,yb I,d],[]⟩) R { s with heap:=h,toks:=p }:=by
  intro h q p t K D;refine codeAny_extend_loopS W.toS L S k d n 0 _ #[] q rfl (rh _) t D (ItemsOf.nil _) λj g c B g' J=>?_;rw[Moved.eq_with B];refine G j.heap j.toks g c (λb o i E e=>B.heap b o (λz=>?_)$ K b o i e) g' J;rcases za.mp z with z|z
  ·exact i z
  ·exact E$ Ia.mp z
 refine aa$ Yb$ WZ H$ Pf (λF=>(aa$ mm$ aa ?_)) (λF=>da ⟨de Fm _,l _ v _ st (λb o F e=>e) r⟩);refine aa$ bh r rfl ?_;have y:=Mc (Le (·.push Bc)) r rfl;refine bh y rfl ?_;have Li:∀ b o,b≠S->s.heap.get? b=BD o->((s.heap.update S (Le (·.push Bc))).update S (Le (·.pop))).get? b=BD o:=λb o i e=>(Ge _ _$ Jd i).trans$ (Ge _ _$ Jd i).trans e;exact da ⟨de Fm _,l _ _ _ (W.frame 0 _ _ st λb i o e=>Li b o (λz=>k$ z ▸ i) e) (λb o i e=>Li b o i e) (Mc (Le (·.pop)) y rfl)⟩
theorem iM{a b:Type}{f:a->Option b}{g:a->b}:∀ {l:List a},(∀ j∈l,f j=BD (g j))->l.filterMap f=l.map g
 |[],_=>rfl
 |x::l,h=>by rw[pf,h x la,Ta,iM λj c=>h j$ ja _ c]
def zhq{a}{b:List$ Int × Value}(c:b.length=n)(h:Ym (λi v=>(b[i]?).map (·.2)=BD v) a n):a.toList=b.map (·.2):=by
 apply Of;intro i;rw[Yd,Pa];cases e:a[i]? with
 |none=>
  have:n<=i:=by have:=Sm.mp e;rw[h.1]at this;exact this
  simp_all
 |some v=>exact(h.2 i v e).symm
def Ź(es:Array$ Int × Value):(List.range es.size).filterMap (λj=>(es[j]?).map (·.2))=es.toList.map (·.2):=by
 apply Of;intro i;have e:(List.range es.size).filterMap (λj=>(es[j]?).map (·.2))=(List.range es.size).map (λj=>((es[j]?).map (·.2)).getD Bc):=by
  refine iM λj b=>?_
  simp_all
 rw[e,Pa,Pa];by_cases a:i<es.size<;>simp[a]
def B8{a}{ps:i'}(b:ps.Perm$ List.range es.size)(h:Ym (λi v=>((ps[i]?).bind λj=>es[j]?).map (·.2)=BD v) a es.size):a.toList.Perm (es.toList.map (·.2)):=by
 have k:ps.length=es.size:=by rw[b.length_eq,lh]
 have e:a.toList=ps.filterMap (λj=>(es[j]?).map (·.2)):=by
  have d:ps.filterMap (λj=>(es[j]?).map (·.2))=ps.map (λj=>((es[j]?).map (·.2)).getD Bc):=by
   refine iM λj g=>?_;have:=Pi.mp$ b.mem_iff.mp g
   simp_all
  rw[d];apply Of;intro i;rw[Yd,Pa];cases c:a[i]? with
  |none=>
   have:es.size<=i:=by have:=Sm.mp c;rw[h.1]at this;exact this
   simp_all
  |some v=>
   have this:((ps[i]?).bind λj=>es[j]?).map (·.2)=BD v:=h.2 i v c;cases f:ps[i]? with
   |none=>simp_all
   |some j=>rw[f]at this;simp only[sh]at this;rw[Th,this];rfl
 rw[e,<-Ź];exact b.filterMap _
def S7(hh:A.handled=V6)(hA:jp s.heap a es ep t)(J:t.fits es.size=Ĳ)(hk:Aj (bT w) t)(hz:es.size<scanBound)
  (jg:∀ h m r (d:Array Value),(∀ b o,s.heap.get? b=BD o->h.get? b=BD o)->s.heap.objs.size<=h.objs.size->d.toList.Perm (es.toList.map (·.2))->R d.toList { s with heap:=h,toks:=m,drawn:=r }) :
  wpAny (model prog w) A (collect$ yb a) R E s:=by
 have hn:es.size<=sizeLine:=qg hz;have P:a<s.heap.objs.size:=let ⟨_,g,_⟩:=hA;ya g;let S:Addr:=s.heap.objs.size;let ϊ:ro->Shared->Prop:=λq u=>∃ (h:Heap) (m:Nat) (r:Uo) (d:Array Value) (c:Nat),q=.ok (.ret$ yb S)/\u={ s with heap:=h,toks:=m,drawn:=r }/\(∀ b o,s.heap.get? b=BD o->h.get? b=BD o)/\
  h.get? S=BD { cls:=Uh "list",dict:=V6,data:=Ϧ d c,slots:=#[] }/\d.toList.Perm (es.toList.map (·.2))
 let s1:Shared:={ s with heap:=s.heap.push { cls:=Uh "list",data:=Ϧ ([]:gV).toArray } }
 have V:s1.heap.get? S=BD { cls:=Uh "list",data:=Ϧ #[] }:=Da _ rfl;have B:jp s1.heap a es ep t:=hA.keep λo e=>ga _ e;have L:s1.heap.objs.size=S+1:=Xc ..;have dh:wpAny (model prog w) A.in1 (xJ (yb S) (yb a)$ yb S) (λjg u=>match jg with | .done f=>ϊ (.ok f) u | .again c'=>c'.quiet=Ĳ/\codeAny (model prog w) A c' ϊ u) (λe u=>ϊ (.error e) u) s1:=by
  have W:s1.TypeIs (yb a) "set":=let ⟨o,g,x,_⟩:=B;⟨o,g,x.1⟩;refine aa$ Zi (T:="set") W ?_;have ns:Qk (yb S) (yb a)=Ε:=by simp only[Qk,ce];exact Sd P
  have n1:(Uh "set" == Uh "list")=Ε:=by decide
  simp only[ns];refine aa$ á B J hz (λhc=>?_) (λhc ps r K=>?_)
  ·have ϋ:qq (s1.heap.push$ Oz a (yc 0) es.size ep) s1.heap.objs.size a (yc 0) 0 es.size ep:=⟨_,Da _ rfl,rfl,rfl⟩
   have j:jp (s1.heap.push$ Oz a (yc 0) es.size ep) a es ep t:=B.keep λo e=>ga _ e;have C:Jn { s1 with heap:=s1.heap.push (Oz a (yc 0) es.size ep) } (yb a) "set":=let ⟨o,g,x,_⟩:=j;⟨o,g,x.1⟩;have N:a≠s1.heap.objs.size:=by rw[L];exact Aa$ Kb P
   have M:S ∉ [s1.heap.objs.size,a]:=by rw[L];simp only[za,df,Qo,not_or];exact⟨Aa$ Jb _,Sd P⟩
   have out:∀ (l:List$ Int × Value),l.length=es.size->l.Perm es.toList->∀ h m d c,(∀ b o,b≠S->b≠s1.heap.objs.size->(s1.heap.push$ Oz a (yc 0) es.size ep).get? b=BD o->h.get? b=BD o)->h.get? S=BD { cls:=Uh "list",dict:=V6,data:=Ϧ d c,slots:=#[] }->
     Ym (λi v=>(l[i]?).map (·.2)=BD v) d es.size->ϊ _ { s1 with heap:=h,toks:=m }:=λl H K h m d c k g D=>⟨h,m,s.drawn,d,c,rfl,rfl,λb o e=>by
      have Q:=ya e;exact k b o (Aa Q) (by rw[L];exact Aa$ Kb Q)$ ga _$ ga _ e,g,by rw[zhq H D];exact K.map _⟩
   cases Y:bT w with
   |true=>
    have H:(yo (w.params.setOrder a ep) es).toList.length=es.size:=by rw[(lZ _ _).length_eq,Pb]
    exact jK (WX (f:=λF=>0) (ord:=(yo (w.params.setOrder a ep) es).toList) hh J N H λu i G F A' E' Q' q'=>e8 Y G J (by rw[<-Yd];exact q')) hn M C ⟨ϋ,j⟩ (ga _ V)$ out _ H$ lZ _ _
   |false=>
    have K:(!t.plain && decide (es.size > 1))=Ε:=by rw[Y]at hc;simpa using hc
    have H:es.toList.length=es.size:=Pb;exact jK (WX (f:=fB t.place) (ord:=es.toList) hh J N H λu i G hi A' E' Q' q'=>T8 Y hk K hi G J (by rw[<-Yd];exact q')) hn M C ⟨ϋ,j⟩ (ga _ V)$ out _ H$ .refl _
  ·let I:Heap:=(s1.heap.push$ ZO ps).push$ Oz a (yb s1.heap.objs.size) es.size ep;have k2:∀ b o,s1.heap.get? b=BD o->I.get? b=BD o:=λb o e=>ga _$ ga _ e;have z2:(s1.heap.push$ ZO ps).objs.size=s1.heap.objs.size+1:=Xc ..;have ϋ:qq I (s1.heap.objs.size+1) a (yb s1.heap.objs.size) 0 es.size ep:=⟨_,by rw[<-z2];exact Da _ rfl,rfl,rfl⟩
   have j:jp I a es ep t:=B.keep λo e=>k2 a o e;have X:nA I s1.heap.objs.size ps:=⟨_,_,ga _$ Da _ rfl,rfl⟩
   have C:Jn { s1 with heap:=I,drawn:=r } (yb a) "set":=let ⟨o,g,x,_⟩:=j;⟨o,g,x.1⟩;refine jK (s:={ s1 with heap:=I,drawn:=r }) (Z1 (p:=s1.heap.objs.size) hh J (by rw[L];exact Aa$ Kb$ Kb P) (Aa$ Jb _) K) hn (by rw[L];simp only[za,df,Qo,not_or];exact⟨Aa$ Kb$ Jb _,Sd P,Aa$ Jb _⟩) C ⟨⟨ϋ,j⟩,X⟩ (k2 _ _ V) λh m d c k g D=>⟨h,m,r,d,c,rfl,rfl,λb o e=>?_,g,B8 K D⟩
   have Q:=ya e;exact k b o (Aa Q) (by rw[L];exact Aa$ Kb$ Kb Q)$ k2 b o$ ga _ e
 have n:∀ {h:Heap} {m c:Nat} {r:Uo} {d:Array Value},(∀ b o,s.heap.get? b=BD o->h.get? b=BD o)->h.get? S=BD { cls:=Uh "list",dict:=V6,data:=Ϧ d c,slots:=#[] }->d.toList.Perm (es.toList.map (·.2))->R d.toList { s with heap:=h,toks:=m,drawn:=r }:=λό g D=>jg _ _ _ _ ό (vd$ ya g) D;refine aa$ cr$ Rc ux$ aa$ ic$ da ⟨de Bn _,Rc JF$ dc dh (λf u x=>?_) (λe u x=>by obtain⟨_,_,_,_,_,z,_⟩:=x;cases z)⟩;cases f with
 |done f=>
  obtain⟨h,m,r,d,c,e,rfl,ό,g,D⟩:=x;cases e;exact aa$ om g$ da$ n ό g D
 |again c1=>
  refine⟨x.1,Af x.2 λq s2 y=>?_⟩;obtain⟨h,m,r,d,c,rfl,rfl,ό,g,D⟩:=y;exact aa$ om g$ da$ n ό g D
end
end L4
namespace L4
open Spec L2
set_option tactic.hygienic true in
def Z3 d:(Om d).Nodup:=by
 have h:∀ (l c:h8),c.Nodup->(l.foldl GA c).Nodup:=by
  intro l;induction l with
  |nil=>simp_all
  |cons x l f=>
   intro c h;refine f _ ?_;unfold GA;split
   ·exact h
   ·rename_i j
    rw[Yc];refine⟨h,by simp,λa g b i=>?_⟩;intro e
    simp_all
 exact h d [] An
theorem VR{c:Type}[DecidableEq c]:∀ {l1 l2:List c},l1.Nodup->(∀ x∈l1,x∈l2)->l2.length<=l1.length->l1.Perm l2
 |[],l2,_,_,h=>by
  simp_all
 |x::l1,l2,a,b,f=>by
  rw[Fd]at a;exact((VR a.2 (λy d=>(List.mem_erase_of_ne$ show y≠x from λe=>a.1 ⋯).mpr$ b y$ ja _ d)$ by simp_all).cons x).trans (List.perm_cons_erase$ b x la).symm
theorem iY:∀ {a:Ca} {w:Wa} {l:List$ Int × Value},QC (Qf a w) l->∃ d,ph (l.map (·.2)) d/\d.length=l.length/\∀ k,k∈d ↔ ∃ e∈l,(Qf a w).is k e.2=Ĳ
 |a,w,[],_=>⟨[],.nil,rfl,λk=>by simp⟩
 |a,w,e::l,h=>by
  obtain⟨d,i,j,m⟩:=iY (λx b=>h x$ .tail _ b);obtain⟨⟨k,f,_⟩,_⟩:=h e (.head _);have c:=f;obtain⟨t,g⟩:=Qt f;refine⟨k::d,by rw[Ta,g];exact .cons k t i,by simp[j],λn=>?_⟩;rw[za,m n];constructor
  ·rintro (rfl|⟨x,b,q⟩)
   ·exact⟨e,.head _,c⟩
   ·exact⟨x,.tail _ b,q⟩
  ·rintro ⟨x,b,q⟩;rcases za.mp b with rfl|b
   ·exact ϑ$ (Qf a w).inj _ _ _ q c
   ·exact ϕ ⟨x,b,q⟩
def Ą(p:c.Perm l):∀ {b},ph l b->∃ a,ph c a/\a.Perm b:=by
 induction p with
 |nil=>intro b h;exact⟨b,h,.refl _⟩
 |cons x p f=>
  intro b h;cases h with
  |cons n t h=>obtain⟨a,d,e⟩:=f h;exact⟨n::a,.cons n t d,e.cons n⟩
 |swap x y l=>
  intro b h;cases h with
  |cons n t h=>
   cases h with
   |cons m u h=>exact⟨m::n::_,.cons m u$ .cons n t h,.swap _ _ _⟩
 |trans j k g i=>grind
def gG(P:Ca)(w:Wa)(b:h8)(a:Addr):Heap->Prop:=λh=>Zq (Qf P w) (bT w) h a (λk=>(Om b).any (·== k)) (Om b).length
def ė:∀ b c:Heap,gG P w d a b->(∀ u,b.get? a=BD u->c.get? a=BD u)->gG P w d a c:=λb c x k=>xK x k
def yq7(X:Cx):n'->Hp->VK->Prop:=λxs H Q=>∃ (p:Addr) (ns:h8),xs=[ϖ p]/\Ue X.K H p (ns.map Ϥ)/\ns.length<64/\∀ l,H l=V6->Q (ϖ l) (Wb H l$ Ϫ$ gG X.prog X.w ns l)
def T2(j:X.qc=Ĳ):Ao X (Uh "set")$ yq7 X:=by
 rintro h s v H xs x Q I r ⟨p,f,rfl,m,l,q⟩;obtain⟨u,rfl,n⟩:=Cs r;cases n;obtain⟨a,i,pl,t⟩:=I.list m;have d:a.length=f.length:=by rw[<-i.length,Ea]
 refine Υ (I.ok.hd j) pl.isList (zev i) (by rw[Ua,d];exact nQ$ ib (vd l) ⋯) λh' w c k=>?_;rw[show a.toArray.size=f.length by rw[Ua,d],NL]at c;refine⟨ϖ s.heap.objs.size,_,I.laid (λb o e=>k b o (ya e) e) (ua _) ?_,rfl,q _$ I.Fc.fresh$ ua _⟩;exact⟨c,let ⟨o,_,_,_,g,_⟩:=c;⟨o,g⟩,ė⟩
def zmx(I:db X a b H s) d':db X a b H { s with drawn:=d' }:=⟨I.ok,I.os,I.bare,I.base,I.loc,I.cell,I.free,I.dg,I.pin,I.Fc,I.len⟩
def ù(X:Cx):n'->Hp->VK->Prop:=λxs H Q=>∃ (a:Addr) (ns:h8),xs=[ϖ a]/\H a=BD (Ϫ$ gG X.prog X.w ns a)/\ns.length<64/\(Om ns).length<=ns.length/\∀ l,H l=V6->Q (ϖ l) (Wb H l$ ϯ$ (Qn$ Om ns).map Ϥ)
def ð(ϋ:X.qc=Ĳ):Ao X (Ϣ "sorted")$ ù X:=by
 intro B s σ H xs us Q I r h;obtain⟨a,g,rfl,S,R,W,q⟩:=h;obtain⟨u,rfl,rfl⟩:=Cs r;obtain⟨⟨o,k,ep,t,G,J,K,L,M,v,N,ό,P⟩,_,_⟩:=I.Fc a _ S;obtain⟨is,i1,i2,i3⟩:=iY L;have hp:is.Perm$ Om g:=(VR (Z3 g) (λx hx=>(i3 x).mpr$ (M x).mp$ Qc.mpr ⟨x,hx,by simp⟩)$ by rw[i2,Pb,ό];exact ua _).symm;have i:k.size<64:=by lia
 have ϊ:k.size<=sizeLine:=qg v;refine Dn kind_sorted plain_sorted entry_sorted (args_sorted1 _)$ aa (m:=checkCount "sorted" 1 1 _)$ da$ aa (S7 (A:=X.A.in1) (I.ok.hd ϋ) ⟨o,G,J,K⟩ N P v λh' tk d' d z j c=>?_);obtain⟨a0,T,l⟩:=Ą c i1;have y:d.toList.length=k.size:=by rw[c.length_eq,Ea,Pb]
 refine aa$ wt ?_ (by rw[y];exact ϊ);have f:(h'.push$ wm "list" d.toList.toArray 0).get? h'.objs.size=BD (wm "list" d.toList.toArray 0):=Da _ rfl;refine aa$ Yb$ Jc kP ⟨_,f,rfl⟩ nJ (lP f T (by rw[y];exact i) λout n C D E=>⟨_,rfl,(da ⟨_,rfl,?_⟩)⟩)$ mP _;have F:n=Qn (Om g):=bB (D.trans$ l.trans$ hp.trans (Sw _).symm) E$ mE _;subst F;obtain⟨e,Y⟩:=KZ (out:=out) f;exact⟨ϖ h'.objs.size,_,(zmx I d').laid (t':=tk) (λb o p=>by
  have lt:b<h'.objs.size:=ya$ z b o p;rw[nP (Aa lt) (by rw[BA];exact Kb lt)];exact ga _$ z b o p) j (show Cj X.prog X.w _ _ _ (ϯ$ (Qn$ Om g).map Ϥ)from⟨by rw[Ea,((Sw$ Om g).length_eq)];exact ib (show (Om g).length<=1000 by lia) ⋯,out.toList,e,qE C,by rw[Ii];exact Y⟩),rfl,q _$ I.Fc.fresh j⟩
def pB(x:D):M D:=λa=>match (Lf a x).bind Js with
 |some ns=>if ns.length<64 then PB ((Qn$ Om ns).map Z) a else Ϙ
 |none=>Ϙ
def Đ a:(Om a).length<=a.length:=by rw[<-NL];exact CA _ _
theorem iW{b:dl}{H:Hp}:∀ (a:h8),lb T b H (a.map Z) (a.map Ϥ)
 |[]=>lb.nil
 |i::a=>lb.cons (by rw[Sa]) (iW a)
def V9(hK:T.K=X.K)(y:X.qc=Ĳ)(ό:Gl X "sorted")(P:X.mg "sorted" = V6)(q:Gl X "set")(r:X.mg "set" = V6)(N:FE T X e f)
  (A:va [e] X.env=(Ε,Mb e X.env)::va [] X.env:=by rfl) (u:(lc b$ va [] X.env).any (·.1)=Ε:=by rfl)
  (i:va [ϡ (Ϝ "set" w) [e] [] b] X.env=(Ε,Mb (ϡ (Ϝ "set" w) [e] [] b) X.env)::va [] X.env:=by rfl) (g:(lc k$ va [] X.env).any (·.1)=Ε:=by rfl) :
  FE T X (ϡ (Ϝ "sorted" p) [ϡ (Ϝ "set" w) [e] [] b] [] k)$ gf pB f:=by
 intro j s V H Q I h;refine GG (ð y) ό P L4.WY (Zt (BM (T2 y) q r rfl (Zt N fx A) ⋯ ⋯ A u) fx i) ⋯ ⋯ i g j s V H Q I ?_;obtain⟨W,ϊ,σ,L,S,R⟩:=h;refine⟨W,ϊ,σ,L,S,R.bind λd x Y v H1 D e1 B ϋ c=>?_⟩;unfold pB at c;cases n:(Lf x d).bind Js with
 |none=>rw[n]at c;exact c.elim
 |some ns=>
  rw[n]at c;dsimp only at c;by_cases m:ns.length<64
  ·rw[ka m]at c;obtain⟨ys,C,E⟩:=Bf.mp n;obtain⟨a,vs,rfl,G,J⟩:=B.ls ϋ C;have F:=GE J E;subst F;exact⟨a,ns,rfl,Ue.of G,m,λl z=>⟨l,ns,rfl,Mf,m,Đ ns,λl2 t=>(jF (Rb.mono (ek (o:=Ϫ _) z) c) (B.fresh z) (iW _) t)⟩⟩
  ·rw[qa m]at c;exact c.elim
noncomputable def yge(x:D)(xs:B'):M D:=λa=>match x,xs with
 | U n,[]=>(match a[n]? with
  |some (Ϗ _)=>O Ϛ (a.set n$ Ϗ [])
  |_=>Ϙ)
 |_,_=>Ϙ
def CH(c:B'):M D:=λb=>match c with
 |[x]=>(match Sg b x with
  |some a=>O (U b.length) (b++[Ϗ a])
  |none=>Ϙ)
 |_=>Ϙ
def j7:Bs T HJ CH:=by
 intro E m H j d vs Q r p h
 match d with
 |[]=>cases h
 |[x]=>
  unfold CH at h;dsimp only at h;cases b:Sg j x with
  |none=>rw[b]at h;exact h.elim
  |some g=>
   rw[b]at h;obtain⟨v,k,rfl,i,rfl⟩:=p;obtain⟨a,ws,rfl,e,f⟩:=uy r i b;exact⟨a,ws,rfl,e,λl c=>(h _ _ _ (wu c) (r.push c ⟨ws,Mf,Paired.Jp f λl l z=>⟨z.1,Sa.mono (wu c) _ _ z.2⟩⟩)$ GB r)⟩
 |_::_::_=>trivial
section
variable{pins:List$ Addr × Obj}{σ:St}{H:Hp}{s:Shared}
def _root_.L2.db.freeze(I:db X pins σ H s)(g:H a=BD (ϛ d))(e:s.heap.get? a=BD i):db X pins σ (Wb H a$ Ϭ i$ ϛ d) s:=by
 have f:∀ b u,H b=BD u->u≠ ϛ d->b≠a:=λb u q n z=>by rw[z,g]at q;exact n (Nb q).symm
 refine I.step (ch:=[]) (λk z=>nomatch z) (λb o k k k q k=>q) (λb o k k k q k=>⟨o.slots,q⟩) (λb o k q n=>?_) (λb o k q=>⟨o,q⟩)
  (λb xs q=>by rw[Ad$ f b _ q (λz=>by cases z)];exact q) (λb u xs q=>by rw[Ad$ f b _ q (λz=>by cases z)];exact q) (λb ps q=>⟨#[],by rw[Ad$ f b _ q (λz=>by cases z),q];simp⟩) (λm j=>j) (λb u q=>?_) I.bare
 ·rw[Ad (λz=>by rw[z,g]at n;cases n)];exact n
 ·by_cases h:b=a
  ·subst h;rw[Mf]at q;cases q;exact⟨e,I.Fc b _ g⟩
  ·rw[Ad h]at q;exact(I.Fc b u q).yj (λc v k z=>z) (λc z=>by rw[Ad$ f c _ z (λy=>by cases y)];exact z) λc xs z=>by rw[Ad$ f c _ z (λy=>by cases y)];exact z
def Yi(I:db X pins σ H s)(j:H a=BD (Ϭ f$ ϛ b)):∃ vs d c,KV b vs/\f.data=.dict d c/\s.heap.DictAt (fj X.prog X.w) a vs c:=by
 obtain⟨e,_,_,vs,g,o,d,c,i,ex,h,r⟩:=I.Fc a _ j;rw[e]at i;cases i;exact⟨vs,d,c,g,h,f,d,e,ex,h,r⟩
end
def Itm(d:Addr)(b:Obj)(a:List$ Ic × V):It:=
 ⟨λi H=>H d=BD (Ϭ b$ ϛ a)/\∃ x,a[i]?=BD x,λi H v c=>∃ p k x,H p=V6/\v=ϖ p/\a[i]?=BD (k,x)/\c=Wb H p (.Qa [kV k,x]),λi H=>H d=BD (Ϭ b$ ϛ a)/\i=a.length⟩
theorem QS{d:Type}:∀ {c:List$ d × V} {g:List$ d × Value} (r:KV c g) (i:Nat) {k:d} {x:V},c[i]?=BD (k,x)->∃ u,g[i]?=BD (k,u)/\jd x u
 |_,_,Ϡ,i,_,_,h=>by simp at h
 |_,_,ϝ (b:=q) a b,0,k,x,h=>by
  simp at h;obtain⟨e,f⟩:=a;rw[h]at e f;exact⟨q.2,by simp[List.getElem?_cons_zero];exact tZ e.symm rfl,f⟩
 |_,_,ϝ a b,i+1,k,x,h=>by
  exact QS b i h
def γ(h:(fj P w).is k v=Ĳ):jd (kV k) v:=by
 rcases Pq h with⟨i,t,rfl,rfl⟩|⟨x,t,rfl,rfl⟩<;>exact⟨t,rfl⟩
def ċ{P:Ca}{w:Wa}{K:ϗ}{j:List Oa}{kk:Nat}{ό:Td}(d f:Addr)(ϋ:Obj)(t:List$ Ic × V)(a0:d≠f){ϊ:Array DictEntry}{R:Nat}(n:ϋ.data=.dict ϊ R) :
  lp P w K (ϱ j kk ό) (Itm d ϋ t) [f] f (λi h=>∃ ok e,IsItemIter h f d i t.length R ok e) where
 mem:=by simp
 obj:=λi h st b c=>by
  obtain⟨ok,e,s1⟩:=st
  simp_all
 keep:=λi h h' st k=>by
  obtain⟨ok,e,s1⟩:=st;exact⟨ok,e,k f ⋯ _ s1⟩
 item:=by
  intro X F N D S i v s σ H E I y st J;subst F N D;obtain⟨G,⟨k,x⟩,T⟩:=J;obtain⟨vs,C,B,a,g,M⟩:=Yi I G;rw[n]at g;cases g;obtain⟨u,hu,ru⟩:=QS a i T;obtain⟨ok,e,s1⟩:=st;rw[a.length]at s1;refine wpAny_pyNext_items_item s1 M hu λr h' m ho hT a1 hk=>?_;have l:=Sd$ ya s1;refine⟨yb s.heap.objs.size,rfl,wpAny_letOwnedTupleGo_items ho λh2 L p=>⟨ϖ s.heap.objs.size,Wb H s.heap.objs.size _,I.Eu (λb o c q=>p.extBut b o (λz=>c (by simp[z]))$ hk b o (λz=>c (by simp[z])) q) y (ua _) ?_,rfl,⟨_,k,x,(I.Fc.fresh$ ua _),rfl,T,rfl⟩,⟨r,u,by rw[a.length];exact L⟩,λb c=>?_⟩⟩
  ·exact⟨(show 2<=sizeLine by decide),[r,u],ϝ (γ m)$ ϝ ru Ϡ,⟨_,(p.extBut _ _ l hT),rfl,_,rfl⟩⟩
  ·obtain rfl:b=f:=by simpa using c
   rw[Ad (λz=>l z.symm)];exact(y b c).1
 done:=by
  intro X F N D S i v s σ H E I y st J;subst F N D;obtain⟨G,hi⟩:=J;obtain⟨vs,C,B,a,g,M⟩:=Yi I G;rw[n]at g;cases g;obtain⟨ok,e,s1⟩:=st;rw[a.length]at s1 hi;exact wpAny_pyNext_items_end (I.ok.hd S) s1 M ⋯ λh' Y=>⟨rfl,I.tu (λb o c q=>Y b o (λz=>c (by simp[z])) q) y⟩
 self:=λA i s Q E st h=>by
  obtain⟨ok,e,s1⟩:=st;exact W.kcp_self s1 h
def Hq(l a:Addr):Heap->Prop:=λh=>h.IsItemsView l a
def yh8:V->n'->Hp->VK->Prop:=λx xs H Q=>∃ a b,x=ϖ a/\xs=[]/\Rd H a (ϛ b)/\∀ l,H l=V6->Q (ϖ l) (Wb H l$ Ϫ$ Hq l a)
def sG(h:H a=BD o):Wb H a o=H:=by
 funext b;unfold Wb;split;all_goals simp_all
def sL(h:Heap) o(a:o.data≠.freed):(h.push o).get? h.objs.size=BD o:=by
 obtain⟨c,d,x,b⟩:=o;simp[Heap.get?,Heap.push]
 simp_all
section
variable{elts:List Oa}{kk:Nat}{p0:Td}
def sX:Uw X "dict.items" yh8:=by
 rintro f s st H x vs v t Q I m l ⟨a,i,rfl,rfl,g,q⟩;cases m;cases l;obtain⟨z,h,ws,j,d⟩:=Gv I.Fc g;refine bj mh d.typeIs PySem.F.entry_dict_items (PySem.F.args_dict_items_1 _) (meets_dict_items _ a h) ⟨⟨ws,d⟩,⟨ϖ s.heap.objs.size,_,I.laid (λb o e=>ga _ e) (ua _) ?_,rfl,q _$ I.Fc.fresh$ ua _⟩⟩;refine⟨⟨_,sL _ _ (λz=>by cases z),rfl,rfl⟩,⟨_,sL _ _ (λz=>by cases z)⟩,λn r p k=>?_⟩;obtain⟨o,e,c⟩:=p;exact⟨o,k o e,c⟩
def Å(e:TE):TI:=λf H R=>e f H λv c=>∃ l a b,v=ϖ l/\c l=BD (Ϫ$ Hq l a)/\Rd c a (ϛ b)/\∀ d,c a=BD (ϛ b)\/c a=BD (Ϭ d$ ϛ b)->R (Itm a d b) (Wb c a$ Ϭ d$ ϛ b)
def PX(B:PE X d r):PI X (ϱ elts kk p0) d$ Å r:=by
 intro g s t H R I h;refine Ed (B g s t H _ I h) λv s1 ſ=>?_;obtain⟨x,H1,k,E,D⟩:=ſ;obtain⟨l,a,i,rfl,C,c,q⟩:=D;cases E;obtain⟨f,n,m⟩:∃ f,(H1 a=BD _\/H1 a=BD (Ϭ f _))/\db X g t (Wb H1 a$ Ϭ f _) s1:=by
  rcases c with c|⟨f,c⟩
  ·obtain⟨_,_,vs,j,o,y,w,e,_⟩:=k.Fc a _ c;exact⟨o,ϑ c,k.freeze c e⟩
  ·exact⟨f,ϕ c,by rw[sG c];exact k⟩
 obtain⟨vs,y,w,j,u,p⟩:=Yi m Mf;refine wpAny_pyIter_items ((k.Fc l _ C).1) p ⟨s1.heap.objs.size,[s1.heap.objs.size],_,Itm a f i,_,rfl,m.kept (λb o e=>ga _ e),ċ a _ f i (Aa p.lt_size) u,⟨Bc,Bc,by rw[j.length];exact sL _ _ (λz=>by cases z)⟩,λb A=>?_,q f n⟩;obtain rfl:b=s1.heap.objs.size:=by simpa using A
 exact m.Bp (ua _)$ m.Fc.fresh$ ua _
noncomputable def Lq(a:List$ Ic × D):NX:=λi b=>match a[i]? with
 |some p=>BD (BD$ ώ [lI p.1,p.2])
 |none=>if i=a.length then BD V6 else V6
def eJ(d:D):M NX:=λa=>match d with
 | Ϩ ks xs=>if ks.length=xs.length then O (Lq$ ks.zip xs) a else Ϙ
 |_=>Ϙ
def Ew(f:Ev->M D):Ev->M NX:=λa=>Tc (f a) eJ
def JT k:Sa T a H (lI k)$ kV k:=by
 cases k<;>(unfold lI kV;rw[Sa])
def TR(d:H a=BD (ϛ c)):Cd μ H μ$ Wb H a$ Ϭ od$ ϛ c:=by
 have f:∀ b u,H b=BD u->u≠ ϛ c->b≠a:=λb u q n z=>by rw[z,d]at q;exact n (Nb q).symm
 refine⟨⟨[],by simp⟩,λp xs h=>by rw[Ad$ f p _ h (λz=>by cases z)];exact h,λp o u h=>by rw[Ad$ f p _ h (λz=>by cases z)];exact h,λp o h n=>⟨?_,n⟩⟩;by_cases e:p=a
 ·subst e;rw[d]at h;cases h;exact⟨_,Mf,ϕ$ ϑ ⟨od,c,rfl,rfl⟩⟩
 ·exact⟨o,by rw[Ad e];exact h,ϑ rfl⟩
theorem pN{c e:Type}{R:c->e->Prop}:∀ {xs:List c} {d:List e},Paired R xs d->∀ (i:Nat) {x:c},xs[i]?=BD x->∃ y,d[i]?=BD y/\R x y:=by
 intro _ _ h;induction h with
 |nil=>intro i _ h;simp at h
 |cons a _ k=>
  intro i x h;cases i with
  |zero=>clear k;simp_all
  |succ i=>exact k i h
def NM(h:FE T X e f)(m:Dd e "items" X.env (Mb e X.env)=Mb e X.env:=by rfl)(o:(j.endLine == k.line)=Ĳ:=by rfl) :
  Gs T X (ϱ elts kk p0) (ϡ (ϟ e "items" j) [] [] k)$ Ew f:=by
 intro G s st H R I hw;refine PX (GS se mh Fn sX h m o) G s st H R I ?_;obtain⟨μ,ρ,σ,hE,hr,hp⟩:=hw;refine⟨μ,ρ,σ,hE,hr,hp.bind λd J c v A b e1 r1 q1 w=>?_⟩;unfold eJ at w;cases d with
 |Xa ks xs=>
  dsimp only at w;by_cases Y:ks.length=xs.length
  ·rw[ka Y]at w;obtain⟨a,g,rfl,hn,n,ό,Q⟩:=q1;refine⟨⟨a,g,rfl,n⟩,a,g,rfl,rfl,n,λl t=>?_⟩;have S:a≠l:=by rcases n with n|⟨_,n⟩<;>exact Pn n t
   have N:Rd (Wb A l$ Ϫ$ Hq l a) a$ ϛ g:=by unfold Rd;rw[Ad S];exact n
   refine⟨l,a,g,rfl,Mf,N,λϋ B=>?_⟩;have x1:Cd c A c$ Wb A l$ Ϫ$ Hq l a:=ek t;have x:ud T c (Wb A l$ Ϫ$ Hq l a) J:=r1.fresh t;obtain⟨x2,V⟩:Cd c A c _/\ud T c _ J:=by
    rcases B with B|B
    ·have y:=TR (μ:=c) (od:=ϋ) B;exact⟨x1.trans y,x.keep y (λb K=>Ad (λz=>hn (by rw[<-z];exact K)))$ x.tb.out (λb K=>Ad K)$ ϕ ⟨_,B⟩⟩
    ·rw[sG B];exact⟨x1,x⟩
   have h3:Wb (Wb A l$ Ϫ$ Hq l a) a _ a=BD (Ϭ ϋ$ ϛ g):=Mf;refine Rb.here (Rb.mono x2 w) V λa0 H2 a1 i ex r2=>?_;have W:=ex.Ud _ _ _ h3;have E:=eh.mono (x2.trans ex)$ MG ό Q;unfold Lq;cases ei:(ks.zip xs)[i]? with
   |none=>
    by_cases L:i=(ks.zip xs).length
    ·rw[ka L];exact⟨W,by rw[L];exact Paired.length E⟩
    ·rw[qa L];trivial
   |some p=>
    obtain⟨q,ϊ,P,rx⟩:=pN E i ei;refine⟨⟨W,q,ϊ⟩,λz H' y=>?_⟩;obtain⟨r,k',x',u,rfl,C,rfl⟩:=y;rw[ϊ]at C;cases C;refine⟨ek u,r2.fresh u,?_⟩;rw[Sa,P];exact⟨r,_,rfl,Mf,lb.cons (JT _)$ lb.cons (Sa.mono (ek u) _ _ rx) lb.nil⟩
  ·rw[qa Y]at w;exact w.elim
 |_=>exact w.elim
end
def Di(nx:NX)(n:Nat)(e:D->Ev->Option Ev)(fi:Ev->M Bool)(b:Ev->M D):Nat->Nat->Ev->M Unit
 |0,_,_=>Eb
 |k+1,i,g=>λf=>match nx i f with
  |none=>Ϙ
  |some V6=>O () f
  |some (BD d)=>match e d g with
   |none=>Ϙ
   |some a=>Tc (Ft$ fi a) (λc=>if c=Ĳ then Tc (Ft$ b a) λy=>Tc (Kj (U n) [y]) λh=>Di nx n e fi b k (i+1) a else Di nx n e fi b k (i+1) a) f
def jV(d:D->Ev->Option Ev)(c:Ev->M Bool)(b:Ev->M D)(e:Ev)(nx:NX):M D:=λa=>
 Tc (Di nx a.length d c b 1001 0 e) (λf=>ret$ U a.length)$ a++[ϒ []]
def Nn(a:Ev->M NX)(e:i')(f:D->Ev->Option Ev)(d:Ev->M Bool)(c:Ev->M D):Ev->M D:=λb=>Tc (a b)$ jV f d c$ xB e b
def xS {st}
  (hc:X.qc=Ĳ) (L:Zj X x M' ix a)
  (d6:∀ cl C ό G ex,FG T (Do X (x::z0::M') a cl C ό G ex) a9 S)
  (d3:∀ cl C ό G ex,lw T (Do X (x::z0::M') a cl C ό G ex) b2 fi)
  (c6:∀ cl C ό G ex,FE T (Do X (x::z0::M') a cl C ό G ex) b1 H)
  (I3:db X b6 st H3 s3) (c7:∀ b∈fp,Sk X b6 H3 b/\b<s3.heap.objs.size) (d5:I.Ns s3.heap.objs.size m) (kp:∀ b o,s3.heap.get? b=BD o->I.get? b=BD o)
  (TT:lp X.prog X.w X.K a9 J fp it tn) (b5:tn 0 I) (so:lB T P H3 nx J) (hE:fh T P H3 ρ st) (r3:ud T P H3 c3) (hn:P[n]?=BD D0)
  (p3:Rb T E (Sa T) P H3 (Tc (Di nx n S fi H 1001 0$ xB ix ρ) (λr=>ret$ U n) c3) Q)
  (jg:∀ s6 q m6,s6.heap.Ns s3.heap.objs.size m6->q s3.heap.objs.size=V6->Un (Sj X.stack) fp H3 q s3.heap s6.heap->s6.os=s3.os->Jh X.prog X.w q s6.heap->nh s6.gens->Q (ϖ D0) q->RR (.ok .next) s6) :
  codeAny (model X.prog X.w) X.A (.compStart (ϴ b1 [⟨a9,a4,b2,0⟩] a b9) 0 (yb it) (yb D0)$ compEnvC a (Oi X.env a.names []) s3.heap.objs.size X.env)
   RR { s3 with heap:=I,toks:=t' }:=by
 have I4:=K3 (z0:=z0) (t':=t') I3 L c7 d5 kp;let Y:Cx:=Do X (x::z0::M') a (Oi X.env a.names []) s3.heap.objs.size s3 H3 fp;have a8:∀ {q:Hp},(∀ b∈fp,q b=V6)->∀ b∈fp,Sk Y [] q b:=fun {q} hn b hb=>⟨hn b hb,(I4.ok.sD b hb).1,I4.ok.Fs b hb,ϑ hb,(I4.ok.sD b hb).2,λp hp=>absurd (show p∈([]:lv)from hp) ⋯⟩
 have Nj:codeAny (model X.prog X.w) X.A (.compLoop (ϴ b1 [⟨a9,a4,b2,0⟩] a b9) 0 (yb it) (yb D0) Y.env) RR { s3 with heap:=I,toks:=t' }:=by
  refine codeAny_loop rfl (λk s'=>∃ i g q h t F,db Y [] F q s'/\tn i s'.heap/\(∀ b∈fp,q b=V6)/\Cd P H3 g q/\fh T g q t F/\ud T g q h/\
   Rb T E (Sa T) g q (Tc (Di nx n S fi H k i t) (λr=>ret$ U n) h) Q) ?_ 1001 ⟨0,P,H3,c3,xB ix ρ,Vz ix st,I4,b5,λb hb=>(c7 b hb).1.1,ϰ _ _,zj8 ix hE,r3,p3⟩
  rintro k s' ⟨i,g,q,h,t,F,I',c9,c4,ϊ,b8,r',p'⟩;show wpAny _ X.A ((compTurn (ϴ b1 [⟨a9,a4,b2,0⟩] a b9) 0 _ (yb D0) Y.env).onRaise$ λx=>do uh x Y.env;theTreesLotGoes x) _ _ s';refine wpAny_noted$ dc (E:=λr r=>False) ?_ (λr r z=>z) (λr r z=>z.elim);refine aa$ nt ?_;cases k with
  |zero=>exact p'.elim
  |succ k=>
   have b4:=so g q h i ϊ r';cases en:nx i h with
   |none=>
    have e1:Di nx n S fi H (k+1) i t h=Ϙ:=by unfold Di;simp only[en]
    rw[ZF (m':=Eb) e1]at p';exact p'.elim
   |some od=>
    rw[en]at b4;cases od with
    |none=>
     have e1:Di nx n S fi H (k+1) i t h=O () h:=by unfold Di;simp only[en]
     rw[ZF (m':=ret ()) e1]at p';refine aa (Ed (TT.done Y rfl rfl rfl hc i [] s' F q (λr r=>False) I' (a8 c4) c9 b4) λr s6 ⟨er,I6⟩=>?_);subst er;refine da ?_;obtain⟨m6,d4,_⟩:=I6.loc;exact jg s6 q m6 d4 I6.free I6.base I6.os I6.Fc I6.bare$ Rb.here p' r' (by rw[Sa];exact⟨_,rfl,ϊ.get hn⟩)
    |some d=>
     refine aa (Ed (TT.item Y rfl rfl rfl hc i [] s' F q (λr r=>False) I' (a8 c4) c9 b4.1) λr s6 ſ=>?_);obtain⟨u,er,h6⟩:=ſ;subst er;refine aa (Ed h6 λr s7 ſ=>?_);obtain⟨xv,H7,I7,r7,y7,c2,d2⟩:=ſ;obtain⟨b7,d7,hd⟩:=b4.2 xv H7 y7;replace p':=Rb.mono b7 p';replace b8:=b8.mono b7;replace ϊ:=ϊ.trans b7;replace r':=d7;cases et:S d t with
     |none=>
      have e1:Di nx n S fi H (k+1) i t h=Ϙ:=by unfold Di;simp only[en,et]
      rw[ZF (m':=Eb) e1]at p';exact p'.elim
     |some l=>
      have e1:Di nx n S fi H (k+1) i t h=Tc (Ft$ fi l) (λc=>if c=Ĳ then Tc (Ft$ H l) λy=>Tc (Kj (U n) [y]) λr=>Di nx n S fi H k (i+1) l else Di nx n S fi H k (i+1) l) h:=by
       conv=>lhs;unfold Di
       simp only[en,et]
      rw[ZF e1,qM]at p';refine aa (Ed (d6 _ _ _ _ _ _ s7 F H7 xv u (λN H8=>H8=H7/\fh T g H7 l N) (I7.pinned (a8 d2)$ TT.obj _ _ c2) r7 ⟨g,h,t,d,l,b8,r',hd,et,λN a3=>⟨rfl,a3⟩⟩) λr s8 ſ=>?_);obtain⟨N,H8,I8,d1,a3⟩:=ſ;subst d1;refine aa (Ed (d3 _ _ _ _ _ _ s8 N H8 (λc H9=>∃ V a0,Cd g H8 V H9/\ud T V H9 a0/\Rb T E (Sa T) V H9 (Tc (if c=Ĳ then Tc (Ft$ H l) λy=>Tc (Kj (U n) [y]) λr=>Di nx n S fi H k (i+1) l else Di nx n S fi H k (i+1) l) (λr=>ret$ U n) a0) Q) I8
       ⟨g,l,h,a3,r',p'.du λc a0 V c' H9 r e9 r9 q9 p9=>by cases q9;exact⟨V,a0,e9,r9,p9⟩⟩) λc s9 ⟨H9,I9,V,a0,e9,r9,p9⟩=>?_)
      have a2:∀ {a7:Shared} {s:Hp} {f:dl} {j:Fa},db Y ([]++YC fp s7.heap) N s a7->Cd g H8 f s->ud T f s j->Rb T E (Sa T) f s (Tc (Di nx n S fi H k (i+1) l) (λr=>ret$ U n) j) Q->
        ∃ m,m<k+1/\∃ i g q h t F,db Y [] F q a7/\tn i a7.heap/\(∀ b∈fp,q b=V6)/\Cd P H3 g q/\fh T g q t F/\ud T g q h/\Rb T E (Sa T) g q (Tc (Di nx n S fi H m i t) (λr=>ret$ U n) h) Q:=by
       intro a7 s f j a1 W a6 a5;refine⟨k,Jb _,i+1,f,s,j,l,N,a1.oj,TT.keep _ _ _ c2 (λb hb o e=>(a1.pin (b,o)$ Ya _$ Ya _$ SG hb e).1),λb hb=>?_,ϊ.trans W,a3.mono W,a6,a5⟩;obtain⟨o,e,_⟩:=TT.obj _ _ c2 b hb;exact(a1.pin (b,o)$ Ya _$ Ya _$ SG hb e).2.1
      cases c with
      |false=>
       exact da ⟨rfl,a2 I9 e9 r9 p9⟩
      |true=>
       rw[ka rfl,qM]at p9;refine aa$ aa (Ed (c6 _ _ _ _ _ _ s9 N H9 (λv ϋ=>∃ y B R,Cd g H8 B ϋ/\ud T B ϋ R/\Sa T B ϋ y v/\Rb T E (Sa T) B ϋ (Tc (Kj (U n) [y]) (λr=>Tc (Di nx n S fi H k (i+1) l) (λr=>ret$ U n)) R) Q) I9
        ⟨V,l,a0,a3.mono e9,r9,p9.du λy R B v ϋ r b0 c1 c0 b3=>⟨y,B,R,e9.trans b0,c1,c0,by rw[qM]at b3;exact b3⟩⟩) λw d8 ⟨v,ϋ,d0,c8,y,B,R,b0,c1,c0,b3⟩=>?_)
       have c5:=zrk (Q:=λr s=>∃ f j,Cd g H8 f s/\ud T f s j/\Rb T E (Sa T) f s (Tc (Di nx n S fi H k (i+1) l) (λr=>ret$ U n) j) Q) c1 ((ϊ.trans b0).get hn) c0
        (b3.bind λr j f d9 s r W a6 e0 a5=>⟨f,j,b0.trans W,a6,a5⟩)
       refine aa (Ed (uK (X:=Y) _ d8 N ϋ (ϖ D0) [v] (yb D0) [w] _ d0 rfl (ϝ c8 Ϡ) c5) λr a7 ſ=>?_);obtain⟨d9,s,a1,_,f,j,W,a6,a5⟩:=ſ;exact da$ da ⟨rfl,a2 a1 W a6 a5⟩
 exact codeAny_compStart_list Nj$ TT.self X.A 0 _ _ _ b5 Nj
def ydg
  (hc:X.qc=Ĳ) (L:Zj X x R ix a) (G:Gs T X u h ό)
  (a2:∀ cl C d c ex,FG T (Do X (x::z0::R) a cl C d c ex) u tg)
  (Y:∀ cl C d c ex,lw T (Do X (x::z0::R) a cl C d c ex) N fi)
  (B:∀ cl C d c ex,FE T (Do X (x::z0::R) a cl C d c ex) z fe)
  (hs:∀ y,ye h X.env y=pure y:=by intro _;rfl) :
  FE T X (ϴ z [⟨u,h,N,0⟩] a a4)$ Nn ό ix tg fi fe:=by
 rintro p s st H Q I ⟨S,ρ,σ,hE,hr,hp⟩;refine yt rfl hs (bK X.env a$ jA I L) L.kind (λy hy e=>?_) ?_
 ·have q:=Bb.mp L.names y hy;rw[e]at q;exact eq_of_beq q
 have h1:=G p s st H (λJ j=>∃ nx f w,Cd S H f j/\ud T f j w/\lB T f j nx J/\Rb T _ _ f j _ Q) I
  ⟨S,ρ,σ,hE,hr,hp.bind λnx a6 a5 J H1 v e1 r1 q1 p1=>⟨nx,a5,a6,e1,r1,q1,p1⟩⟩
 refine Ed h1 λv s1 h2=>Ed h2 λa7 s2 h3=>?_;obtain⟨it,fp,tn,J,j,rfl,I2,TT,P,f2,nx,f,w,ϋ,r2,so,p2⟩:=h3;refine ic$ vk (AD L) (by intro y hy;simp at hy) (λK l m=>?_) L.kind;have I3:=I2.gA (t':=s2.toks) Ϡ ⋯;have A:j s2.heap.objs.size=V6:=I2.Fc.fresh$ ua _;have t:Cd f j _$ Wb j s2.heap.objs.size$ ϯ []:=wu A;have a1:s2.heap.objs.size<(s2.heap.push { cls:=Uh "list",data:=Ϧ [].toArray }).objs.size:=by rw[Xc];exact Jb _
 have kp:∀ b o,(s2.heap.push { cls:=Uh "list",data:=Ϧ [].toArray }).get? b=BD o->K.get? b=BD o:=λb o e=>m.extBut b o (Aa$ ya e)$ ga _ e;have g:∀ b∈fp,Sk X p (Wb j s2.heap.objs.size$ ϯ []) b/\b<(s2.heap.push { cls:=Uh "list",data:=Ϧ [].toArray }).objs.size:=λb k=>by
  obtain⟨o,e,_⟩:=TT.obj 0 _ P b k;have lt:=ya e;exact⟨⟨by rw[Ad$ Aa lt];exact(f2 b k).1,(f2 b k).2⟩,br lt a1⟩
 refine xS (n:=w.length) hc L a2 Y B I3 g l kp TT (TT.keep 0 _ _ P λb k o e=>kp b o$ ga _ e)
  (λS H σ i ex r=>so S H σ i (t.trans ex) r) ((hE.mono ϋ).mono t) (r2.push (ob:=ϒ []) A ⟨[],Mf,lb.nil⟩) (by rw[<-r2.len];simp) (p2.mono t) (λs6 H' m6 ϊ V a3 a0 E W hq=>⟨m6,ϊ,λh7 F=>?_⟩)
 exact⟨ϖ s2.heap.objs.size,H',(L2.db.Ou (s':={ s6 with heap:=h7 }) (ch:=fp) I3 a0 (K5 a3 F$ ua _) (zms E F V) W$ λb k=>⟨(g b k).1.2.2.2.1,(g b k).1.2.1,(g b k).1.2.2.2.2.1,(g b k).1.2.2.2.2.2⟩),rfl,hq⟩
def NE(K:ϗ)(b:Str->Option Value)(x:Str)(c:ad):Prop:=∃ a,b x=BD (yb a)/\CB K a c
noncomputable def cz:gV->ad->Bool
 |[],[]=>Ĳ
 | .str y _::a,x::ss=>(y == x) && cz a ss
 |_,_=>Ε
def iO(K:ϗ)(a:Addr)(c:ad):Bool:=match K.lookup a with
 |some o=>(o.cls == Uh "tuple") && (match o.data with
  | Ϧ b _=>decide (b.size<=sizeLine) && cz b.toList c
  |_=>Ε)
 |none=>Ε
theorem CY:∀ {a:gV} {ss:ad},cz a ss=Ĳ->ie (ss.map V.str) a
 |[],[],_=>Ϡ
 |[],_::_,h=>by simp[cz]at h
 |v::a,[],h=>by cases v<;>simp[cz]at h
 |v::a,x::ss,h=>by
  cases v with
  |str y t=>
   simp only[cz,Ga]at h;obtain rfl:=eq_of_beq h.1;exact ϝ ⟨t,rfl⟩$ CY h.2
  |_=>simp[cz]at h
def CB.of{K}(h:iO K a f=Ĳ):CB K a f:=by
 unfold iO at h;cases e:K.lookup a with
 |none=>rw[e]at h;cases h
 |some o=>
  rw[e]at h;simp only[Ga]at h;obtain⟨g,b⟩:=h;cases d:o.data with
  |seq c n=>
   rw[d]at b;simp only[Ga,Xb]at b;exact⟨o,c,n,e,eq_of_beq g,d,b.1,CY b.2⟩
  |_=>simp_all
def rH(a:Bool)(b:ad)(x:D):M D:=λc=>match x with
 | ϓ z=>O (ϐ$ if a then !rC (.str z) (b.map V.str)else rC (.str z) (b.map V.str)) c
 |_=>Ϙ
section
variable{e:Oa}{f:Ev->M D}{x:Str}{p pos:Td}{ss:ad}
def Œ(ss:ad):(ss.map V.str).all ri=Ĳ:=by simp[ri]
def yak(j:CB X.K a ss)(h:tF T X (gf (rH b ss) f) g H Q):mB (kH X.K b) (tF T X f) (tC$ ϖ a) g H Q:=by
 obtain⟨n,p,q,i,l,k⟩:=h;refine⟨n,p,q,i,l,k.bind λd r o v s u t m e c=>?_⟩;cases d with
 |str z=>rw[Sa]at e;subst e;exact⟨a,ss.map V.str,rfl,ϕ$ ϕ j,rfl,Œ ss,Rb.here c m (by rw[Sa])⟩
 |_=>exact c.elim
def L7(m:Gl X x)(i:NE X.K X.mg x ss)(c:FE T X e f)(l:(x == ("__debug__" : Str))=Ε:=by decide):FT T X (.Compare e [.In] [Ϝ x p] pos)$ eT$ gf (rH Ε ss) f:=by
 obtain⟨a,n,j⟩:=i;intro b s st H Q I h;refine YO lK c (eK m n (v:=ϖ a) rfl l) rfl b s st H Q I$ yak j ?_;obtain⟨y,ρ,A,c,r,o⟩:=h;refine⟨y,ρ,A,c,r,o.bind λd B z v C d D w t u=>?_⟩;obtain⟨k,g,q⟩:=NO t u;exact⟨k,g,q.here w rfl⟩
end
noncomputable def pq(a:List$ Ic × D)(k:Ic):List$ Ic × D:=a.filter λb=>decide$ b.1≠k
theorem wW{e:dl}{H:Hp}(k:Ic):∀ {c:List$ Ic × D} {us:List$ Ic × V},eh T e H c us->eh T e H (pq c k) (vw us k)
 |[],_,h=>by unfold eh at h;cases h;exact Ϡ
 |p::c,_,h=>by
  cases h with
  |@cons _ q _ us a b=>
   have d:=wW k b;unfold pq vw at *;rw[Be,Be,a.1];split
   ·exact ϝ a d
   ·exact d
def aS:V->n'->Hp->VK->Prop:=λx c H Q=>∃ a b k v,x=ϖ a/\c=[kV k]/\H a=BD (ϛ b)/\Ek b k=BD v/\Q v (Wb H a$ ϛ$ vw b k)
def G8:Uw X "dict.pop" aS:=by
 rintro b s st H x vs v m Q I j i ⟨a,f,k,y,rfl,rfl,d,e,q⟩;cases j;obtain⟨u,rfl,h⟩:=i.one;exact A8 I d h e (ϑ rfl) λn l c g=>⟨y,_,c,g,q⟩
def jz(x:D)(xs:B'):M D:=λb=>match x,xs with
 | U n,[y]=>(match Bi y with
  |some k=>(match b[n]? with
   |some (Ϗ a)=>(match Qi a k with
    |some d=>O d (b.set n$ Ϗ$ pq a k)
    |none=>Ϙ)
   |_=>Ϙ)
  |none=>Ϙ)
 |_,_=>Ϙ
def Ē:ly T aS jz:=by
 intro E f H B x xs v D Q r p q h;cases x with
 |ref n=>
  match xs with
  |[]=>exact h.elim
  |[y]=>
   unfold jz at h;cases b:Bi y with
   |none=>simp[b]at h;exact h.elim
   |some k=>
    simp[b]at h;cases c:B[n]? with
    |none=>rw[c]at h;exact h.elim
    |some ob=>
     rw[c]at h;cases ob with
     |Xa s=>
      dsimp only at h;obtain⟨a,rfl,j,m,g,i⟩:=r.at p c;obtain⟨w,z,rfl,t,l⟩:=q;rw[lb]at l;subst l;obtain rfl:=Cw t b;rcases kC i k with⟨e,_⟩|⟨C,o,e,u,A⟩
      ·rw[e]at h;exact h.elim
      ·rw[e]at h;have ex:Cd f H f$ Wb H a$ ϛ$ vw m k:=Ss (wa j) g (λF z=>by cases z) (λF F z=>by cases z);have d:=r.write (ob:=Ϗ _) j ⟨_,Mf,eh.mono ex$ wW k i⟩;exact⟨a,m,k,o,rfl,rfl,g,u,h f o _ d.1 d.2$ Sa.mono d.1 _ _ A⟩
     |ra _=>exact h.elim
     |ub _ _=>exact h.elim
     |He _=>exact h.elim
     |Vc _=>exact h.elim
  |_::_::_=>trivial
 |_=>trivial
def ď{K:ϗ}(X:K.In h)(G:h.Ns mainGlobals c)(a:W.nsIn K mainGlobals x=BD (BD$ yb C))(b:iO K C d=Ĳ):NE K c x d:=⟨C,W.mg_of X G a,CB.of b⟩
section
variable{prog:Ca}{w:Wa}{A:Ra}{E:Value->Shared->Prop}{l q I S:Addr}{n:Nat}{P:Nat->Value->Prop}{R:ro->Shared->Prop}{Q:Value->Shared->Prop}
def zid(G:Nat->Value->Int->Shared->Prop)(hh:A.handled=V6)(X:l≠I)(E:S≠I)(a6:l≠S)
  (hl:∀ j d a s,G j d a s->∃ vs:gV,vs.length=n/\(∀ j v,vs[j]?=BD v->P j v)/\s.heap.IsList l vs.toArray)
  (u:∀ j d a s y tk,G j d a s->(∀ b o,b≠I->b≠S->s.heap.get? b=BD o->y.get? b=BD o)->G j d a { s with heap:=y,toks:=tk })
  (a3:∀ j d a s v oI oS,G j d a s->P j v->s.heap.get? I=BD oI->s.heap.get? S=BD oS->(∀ v,oI.data≠.cell v)->(∀ v,oS.data≠.cell v)->
   wpAny (model prog w) A.in1 (call (yb q) [v]) (λx s'=>∃ k t,x=Fh k t/\s'.heap.get? I=BD oI/\s'.heap.get? S=BD oS/\G (j+1) (if k<a then v else d) (if k<a then k else a) s') (λF F=>False) s)
  (hR:∀ d a s,G n d a s->R (.ok$ .ret d) s) :
  ∀ r j s d a tb c,n - j=r->j<=n->G j d a s->s.heap.get? S=BD (wm "list" #[d,Fh a tb] c)->s.heap.IsListIter I l j->
   codeAny (model prog w) A (.builtin "min.loop" ⟨[yb I,yb q,yb S],[]⟩) R s:=by
 have a5:(toString "min"++toString ".loop" : String) = "min.loop":=by decide
 intro r;induction r with
 |zero=>
  intro j s d a tb c hr hj g ϋ hit;have V:j=n:=by lia
  obtain⟨vs,N,a1,J⟩:=hl j d a s g;have M:vs.toArray.size=n:=(Ua ..).trans N;refine Rc Eh ?_;rw[Around.under_plainId Ee _];show wpAny _ A.in1 (seqItems? (yb S) >>= _) _ _ _;refine aa$ og ϋ rfl ?_;show wpAny _ A.in1 (tryCatch (pyNext$ yb I) _ >>= _) _ _ _;refine aa$ Ie ((Ij (prog:=prog) (w:=w) (A:=A.in1) hh I l X vs.toArray).done _ _ _ ⟨by rw[M,<-V];exact hit,J⟩ λy a2 H=>?_);have m:∀ b o,b≠I->s.heap.get? b=BD o->y.get? b=BD o:=λb o n e=>H b o (by simpa using n) e;have C:=m S _ E ϋ;have s1:=Sb y S (Le λF=>(#[]:Array Value));refine aa$ bh C rfl$ aa$ So$ da ?_;subst V;exact hR d a _ (u _ _ _ s _ _ g λb o n1 n2 e=>by rw[s1.2 b n2];exact m b o n1 e)
 |succ r ih=>
  intro j s d a tb c hr hj g ϋ hit;have K:j<n:=by lia
  obtain⟨vs,N,a1,J⟩:=hl j d a s g;have M:vs.toArray.size=n:=(Ua ..).trans N;refine Rc Eh ?_;refine aa$ og ϋ rfl ?_;refine aa$ Ie ((Ij (prog:=prog) (w:=w) (A:=A.in1) hh I l X vs.toArray).item j _ _ _ (by rw[M];exact K) ⟨hit,J⟩ λv y a2 hP a0 H=>?_);have m:∀ b o,b≠I->s.heap.get? b=BD o->y.get? b=BD o:=λb o n e=>H b o (by simpa using n) e;have hv:P j v:=a1 j v (by simpa using hP);obtain⟨ό,Y,ϊ,L⟩:=id a0.1;have C:=m S _ E ϋ;refine aa$ Ie$ Yb (dc (a3 j d a _ v ό _ (u _ _ _ s y a2 g λb o n1 n2 e=>m b o n1 e) hv Y C (λv z=>by rw[L]at z;cases z)$ λv z=>by cases z) (λx p he=>?_) λF F hF=>hF.elim);obtain⟨B,Q,rfl,T,D,g2⟩:=he;have W:p.heap.IsListIter I l$ j+1:=⟨ό,T,ϊ,L⟩
  refine aa$ Ie$ Yb$ aa$ CmpOf.ints_lt (prog:=prog) (w:=w) (A:=A.in1) (P:=λ(i:Nat) v=>∃ t,v=Fh (if i=0 then B else a) t) (λi=>if i=0 then B else a) (λi v h=>h) 0 1 _ _ _ _ _ ⟨Q,rfl⟩ ⟨tb,rfl⟩ ?_;refine aa$ Yb$ md ?_;refine aa$ So$ da ?_;by_cases f:B<a
  ·have s1:=Sb p.heap S (Le λF=>#[v,Fh B Q]);obtain⟨c2,a4⟩:∃ c2,(p.heap.update S$ Le λF=>#[v,Fh B Q]).get? S=BD (wm "list" #[v,Fh B Q] c2):=⟨_,rJ D λF=>#[v,Fh B Q]⟩
   rw[ka f,ka f]at g2;simp only[f,decide_true,Jf,Vy,Oo];refine aa ?_;refine bh D rfl$ aa$ So$ da ⟨de Ee _,ih (j+1) _ v B Q c2 ⋯ K (u _ _ _ p _ _ g2 λb o n1 n2 e=>by rw[s1.2 b n2];exact e) a4 ⟨ό,(s1.2 I E.symm).trans T,ϊ,L⟩⟩
  ·rw[qa f,qa f]at g2;simp only[f,decide_false,Tt,Oo,Jf,Vy];refine aa$ So ?_;exact da ⟨de Ee _,ih (j+1) _ d a tb c ⋯ K (u _ _ _ p _ _ g2 λb o F F e=>e) D W⟩
def v9(ό:Shared->Prop)(G:Addr->Addr->Nat->Value->Int->Shared->Prop)(hh:A.handled=V6)(g0:ό s){vs:gV}(a4:vs.length=n)(a3:∀ j v,vs[j]?=BD v->P j v)(f:s.heap.IsList l vs.toArray)(H:0<n)
  (V:∀ s h' tk,ό s->(∀ b o,s.heap.get? b=BD o->h'.get? b=BD o)->ό { s with heap:=h',toks:=tk })
  (first:∀ I S s1 v oI h,s.heap.objs.size<=I->s.heap.objs.size<=S->S≠I->(∃ s0,ό s0/\(∀ b o,b≠I->s0.heap.get? b=BD o->s1.heap.get? b=BD o)/\(s1={ s0 with heap:=s1.heap,toks:=s1.toks }))->P 0 v->s1.heap.get? I=BD oI->s1.heap.get? S=BD h->(∀ v,oI.data≠.cell v)->(∀ v,h.data≠.cell v)->
   wpAny (model prog w) A.in1 (call (yb q) [v]) (λx i=>∃ k t,x=Fh k t/\i.heap.get? I=BD oI/\i.heap.get? S=BD h/\G I S 1 v k i) (λO O=>False) s1)
  (hl:∀ I S j c a s,G I S j c a s->∃ vs:gV,vs.length=n/\(∀ j v,vs[j]?=BD v->P j v)/\s.heap.IsList l vs.toArray)
  (D:∀ I S j c a s h' tk,G I S j c a s->(∀ b o,b≠I->b≠S->s.heap.get? b=BD o->h'.get? b=BD o)->G I S j c a { s with heap:=h',toks:=tk })
  (N:∀ I S j c a s v oI h,G I S j c a s->P j v->s.heap.get? I=BD oI->s.heap.get? S=BD h->(∀ v,oI.data≠.cell v)->(∀ v,h.data≠.cell v)->
   wpAny (model prog w) A.in1 (call (yb q) [v]) (λx i=>∃ k t,x=Fh k t/\i.heap.get? I=BD oI/\i.heap.get? S=BD h/\G I S (j+1) (if k<a then v else c) (if k<a then k else a) i) (λO O=>False) s)
  (hQ:∀ I S c a s,G I S n c a s->Q c s) :
  wpAny (model prog w) A (call (Ϣ "min") [yb l] [(jr "key",yb q)]) Q E s:=by
 obtain⟨ol,a2,_⟩:=id f;have C:=ya a2;refine kmk_tree PySem.F.kind_min PySem.F.plain_min PySem.F.entry_min (kmk_min_key _ _)$ aa$ vx (rfl)$ aa$ da$ aa$ Xh f$ aa$ wt ?_$ rh _;have X:(s.heap.push { cls:=Uh "list_iterator",data:=ϩ #[yb l,Fh 0 0] }).objs.size=s.heap.objs.size+1:=BA ..;have B:=Aa C;have d:(s.heap.push { cls:=Uh "list_iterator",data:=ϩ #[yb l,Fh 0 0] }).objs.size≠s.heap.objs.size:=by rw[X];exact Sd$ Jb _
 have a0:l≠(s.heap.push { cls:=Uh "list_iterator",data:=ϩ #[yb l,Fh 0 0] }).objs.size:=by rw[X];exact Aa$ Kb C
 have r:s.heap.objs.size<=(s.heap.push { cls:=Uh "list_iterator",data:=ϩ #[yb l,Fh 0 0] }).objs.size:=by rw[X];exact re _
 refine da ⟨de Ee _,?_⟩;have gI:((s.heap.push { cls:=Uh "list_iterator",data:=ϩ #[yb l,Fh 0 0] }).push$ wm "list" #[] 0).get? s.heap.objs.size=BD { cls:=Uh "list_iterator",data:=ϩ #[yb l,Fh 0 0] }:=
  ga _$ Da _ rfl
 have gS:((s.heap.push { cls:=Uh "list_iterator",data:=ϩ #[yb l,Fh 0 0] }).push _).get? (s.heap.push { cls:=Uh "list_iterator",data:=ϩ #[yb l,Fh 0 0] }).objs.size=BD (wm "list" #[] 0):=Da _ rfl;have y:∀ b o,s.heap.get? b=BD o->((s.heap.push { cls:=Uh "list_iterator",data:=ϩ #[yb l,Fh 0 0] }).push$ wm "list" #[] 0).get? b=BD o:=λb o e=>ga _$ ga _ e;generalize (s.heap.push { cls:=Uh "list_iterator",data:=ϩ #[yb l,Fh 0 0] }).objs.size=S at *;generalize ((s.heap.push { cls:=Uh "list_iterator",data:=ϩ #[yb l,Fh 0 0] }).push _)=hp at *;refine Rc Eh$ aa$ og gS rfl$ aa$ Ie ((Ij (prog:=prog) (w:=w) (A:=A.in1) hh s.heap.objs.size l B vs.toArray).item 0 _ _ _ (by rw[((Ua ..).trans a4)];exact H) ⟨⟨_,gI,rfl,rfl⟩,f.at λo e=>y _ _ e⟩ λv h' a5 hP L ϊ=>?_);have u:=λb o n e=>ϊ b o (by simpa using n) e;obtain⟨M,J,a1,K⟩:=id L.1;refine aa$ Ie$ Yb (dc (first s.heap.objs.size S _ v M _ (ua _) r d ⟨{ s with heap:=hp,toks:=s.toks },V s hp _ g0 y,λb o n e=>u b o n e,rfl⟩ (a3 0 v$ by simpa using hP) J (u S _ d gS) (λv z=>by rw[K]at z;cases z)$ λv z=>by cases z) (λx m he=>?_) λO O hF=>hF.elim);obtain⟨R,T,rfl,W,p,g2⟩:=he;have s1:=Sb m.heap S (Le λO=>#[v,Fh R T]);obtain⟨ϋ,Y⟩:∃ ϋ,(m.heap.update S _).get? S=BD (wm "list" #[v,Fh R T] ϋ):=⟨_,rJ p λO=>#[v,Fh R T]⟩
 exact aa$ bh p rfl$ da ⟨de Ee _,zid (G _ _) hh B d a0 (hl _ _) (D _ _) (N _ _) (λc a s g=>hQ _ _ c a s g) _ 1 _ v R T ϋ rfl H (D _ _ _ _ _ m _ _ g2 λb o n1 n2 e=>by rw[s1.2 b n2];exact e) Y ⟨M,(s1.2 _ d.symm).trans W,a1,K⟩⟩
end
noncomputable def zD(X:Cx)(A:Ra)(d:ad)(b:Str)(a:Scope)(q:Addr)(c:Value)(cl:List$ Str × Addr)(s₀:Shared)(H₀:Hp):Cx:=
 { X with A:=A.deeper (W.envX b a s₀.heap.objs.size q c cl),N:=d,s₀:=s₀,H₀:=H₀,env:=W.envX b a s₀.heap.objs.size q c cl,outer:=X.stack,stack:=W.envX b a s₀.heap.objs.size q c cl::X.stack,ex:=[],fn:=λe=>Ε,qc:=Ĳ,pn:=[],xe:=λe e=>False }
noncomputable def AL(a:i')(d:D)(b:Ev):Ev:=BD d::a.map λi=>(b[i]?).getD V6
noncomputable def fH(a:i')(v:V)(st:St):St:=BD v::a.map λi=>(st[i]?).getD V6
def è a(h:fh T b H ρ c)(e:Sa T b H d v):fh T b H (AL a d ρ)$ fH a v c:=by
 exact((XV a h).set 0 e)
section
variable{pins:List$ Addr × Obj}{st:St}{H:Hp}{s:Shared}{x:Str}{M':ad}{ix:i'}{scope:Scope}{A:Ra}{qual:Str}{q:Addr}{cd:Value}{v:V}{u:Value}
def Ő(I:db X pins st H s)(L:Zj X x M' ix scope)(hx:scope.names.lookup x=BD .local)(hA:A.frames=BD X.stack)(M:A.handled=V6)(rv:jd v u)(P:h'.Ns s.heap.objs.size m)(hm:m x=BD u)
  (E:∀ b o,s.heap.get? b=BD o->h'.get? b=BD o) :
  db (zD X A (x::M') qual scope q cd (Oi X.env scope.names []) s H) [] (fH ix v st) H { s with heap:=h',toks:=t' }:=by
 have f:∀ n c,(Oi X.env scope.names []).lookup n=BD c->X.env.cells.lookup n=BD c:=λn c e=>ZK X.env scope.names [] n c (λO O q=>by simp at q) e;have r:=I.Fc.fresh$ ua _;have t:∀ b:Addr,b ∉ (zD X A (x::M') qual scope q cd (Oi X.env scope.names []) s H).ex:=λb z=>absurd (show b∈[]from z) ⋯;refine⟨⟨I.ok.mod,L.kind,rfl,rfl,ua _,λa b c h1 h2=>I.ok.inj a b c (f a c h1)$ f b c h2,λa ha=>?_,λa c h=>(by cases h),λO=>M,vq hA,ϕ ⟨rfl,rfl⟩,λb J=>absurd J$ t b,λb o e=>I.bs b o e,ib I.ok.ku I.sz,λb o e=>t b,λb J=>absurd J$ t b,I.stack,I.nj⟩,
  rfl,I.bare,Un.kept E,⟨m,P,λi y C S T e3=>?_⟩,λa c e=>?_,r,λa c e=>I.dg a c$ f a c e,λp hp=>absurd (show p∈[]from hp) ⋯,I.Fc.kept E,?_⟩
 ·have G:scope.names.lookup a=BD Gc\/scope.names.lookup a=BD xb:=ha;rcases G with z|z
  ·exact absurd rfl$ AD L _$ Yv z
  ·exact SE X.env scope.names [] a (Yv z)$ jA I L _ (Yv z) rfl
 ·cases i with
  |zero=>
   have g:BD x=BD y:=S;have d:BD (BD v)=BD (BD C):=T;cases g;cases d;exact⟨u,rv,ϑ ⟨hx,hm⟩⟩
  |succ j=>
   have g:M'[j]?=BD y:=S;have d:(ix.map λi=>(st[i]?).getD V6)[j]?=BD (BD C):=T;rw[Pa]at d;cases F:ix[j]? with
   |none=>rw[F]at d;cases d
   |some B=>
    rw[F]at d;have D:(st[B]?).getD V6=BD C:=Nb d;have Y:st[B]?=BD (BD C):=by
     cases q:st[B]? with
     |none=>rw[q]at D;cases D
     |some o=>rw[q]at D;exact zb BD D
    have ϊ:X.N[B]?=BD y:=by
     have z:=zb (λl=>l[j]?) L.at_;simp only[Pa,F,g]at z;exact Nb z
    have q:=Bb.mp L.GV y$ wa g;simp only[Ga,Hg]at q;have V:X.env.scope.names.lookup y=BD Gc\/X.env.scope.names.lookup y=BD xb:=by
     all_goals simp_all
    have R:scope.names.lookup y=BD xb:=eq_of_beq q.2;obtain⟨m0,a0,ό⟩:=I.loc;obtain⟨u2,ru,lu⟩:=ό B y C ϊ Y (by rcases V with z|z;exact ϕ$ ϑ z;exact ϕ$ ϕ z);refine⟨u2,ru,ϕ ⟨ϕ R,?_⟩⟩;rcases lu with⟨z,_⟩|⟨_,c,ec,zc⟩
    ·rcases V with k|k
     ·rw[show X.env.kindOf y=X.env.scope.names.lookup y from rfl,k]at z;cases z
     ·rw[show X.env.kindOf y=X.env.scope.names.lookup y from rfl,k]at z;cases z
    ·obtain⟨W,w⟩:=SE X.env scope.names [] y (Yv R) (jA I L _ (Yv R) rfl);have ϋ:=f y W w;rw[ec]at ϋ;cases ϋ;obtain⟨o,Q,K⟩:=zc;exact⟨c,w,o,E _ _ Q,K⟩
 ·obtain⟨v,o,Q,K⟩:=I.cell a c (f a c e);exact⟨v,o,E _ _ Q,K⟩
 ·have z:=zb List.length L.at_;simp[fH,zD];simpa using z
def G2(I:db X pins st H s)(L:Zj X x M' ix scope)(R:scope.names.lookup x=BD .local)(K:A.frames=BD X.stack)(p:A.handled=V6)(n:A.depth<recursionLimit)
  (N:s.heap.get? q=BD (ϳ d qual a c scope (Oi X.env scope.names []) E k h)) (l:s.heap.CodeRec (yb k) qual)
  (f:bindArgs (W.kla_fn d qual a c scope (Oi X.env scope.names []) E (yb k) h) ⟨[u],[]⟩=pure [(x,u)]) (m:scope.isCoroutine=Ε) (i:scope.isGenerator=Ε) (T:jd v u)
  (M:PE (zD X A (x::M') qual scope q (yb k) (Oi X.env scope.names []) s H) c t) (P:t (fH ix v st) H Q) :
  wpAny (model X.prog X.w) A (call (yb q) [u]) (λr F=>CE X.stack X.prog X.w H s Q r F) (λD D=>False) s:=by
 refine aj$ W.kla_callFunE n N rfl m i rfl l ?_;rw[f];refine da$ vk (AD L) (λy S=>?_) (λD B j=>⟨?_,?_⟩) L.kind
 ·have e:y=(x,u):=by simpa using S
  simp_all
 ·exact(I.nolimit).fresh _ j
 ·have g:=λb o e=>j.extBut b o (Aa$ ya e)$ ga _ e;refine W.kla_codeExpr (dc (M [] _ _ H Q (Ő I L R K p T B ⋯ g) P) (λV F z=>?_) λD D z=>z.elim);obtain⟨ϋ,G,J,C,ό⟩:=z;exact⟨ϋ,G,J.os,J.bare,J.base,J.Fc,C,ό⟩
end
noncomputable def TD(K:ϗ)(c P:Addr):Bool:=match K.lookup c with
 |some o=>(match o.cls,o.data with
  | Uh n,ϩ a=>n == "code" && (match (a[11]?:Option Value)with|some (yb p)=>p == P|_=>Ε) && (match a.getD 11 Bc with | yb p=>p == P|_=>Ε) && (match a.getD 18 Bc with | .str _ _=>Ĳ|_=>Ε) &&
   (match a.getD 7 Bc with | Fh _ _=>Ĳ|_=>Ε) && (match a.getD 9 Bc with | fg _=>Ĳ|_=>Ε) && (match a.getD 10 Bc with | Fh _ _=>Ĳ|_=>Ε) && (c != P)
  |_,_=>Ε)
 |none=>Ε
set_option tactic.hygienic true in
def Ĵ{K:ϗ}(X:K.In h)(e:TD K c P=Ĳ):W.CodeHd h c P:=by
 unfold TD at e;split at e
 ·next o v=>
  split at e
  ·next n vs t u=>
   simp only[Ga]at e;obtain⟨⟨⟨⟨⟨⟨⟨j,a⟩,b⟩,d⟩,f⟩,g⟩,i⟩,k⟩:=e;split at a;case h_2=>cases a
   next G l=>
   split at b;case h_2=>cases b
   next H m=>
   split at d;case h_2=>cases d
   next z D p=>
   split at f;case h_2=>cases f
   next A E q=>
   split at g;case h_2=>cases g
   next B r=>
   split at i;case h_2=>cases i
   next C F s=>
   have x:=eq_of_beq a;have y:=eq_of_beq b;subst x;subst y;have w:=eq_of_beq j;subst w;exact⟨o,vs,z,D,A,E,B,C,F,X _ _ v,t,u,l,m,p,q,r,s,by simpa using k⟩
  ·cases e
 ·cases e
def D3{st}(I:db X i st H s)(h:H P=BD (.Zk ps))(x:xm P s.heap h')(m:s.heap.objs.size<=f)(M:f<h'.objs.size)
  (p:Iu d f h') (r:h'.get? P=BD (W.tabObj$ ps++a)) :
  db X i st (Wb (Wb H P$ .Zk$ ps++a) f$ Ϫ$ Iu d f) { s with heap:=h',toks:=tk }:=by
 have j:=I.Fc.fresh m;have B:f≠P:=λz=>by rw[z,h]at j;cases j
 have A:∀ b,H b=V6->b≠P:=λb n z=>by rw[z,h]at n;cases n
 have w:∀ b u,H b=BD u->b≠P->Wb (Wb H P$ .Zk$ ps++a) f (Ϫ$ Iu d f) b=BD u:=λb u e n=>by
  rw[Ad$ Pn e j,Ad n];exact e
 have ό:Wb (Wb H P$ .Zk$ ps++a) f (Ϫ$ Iu d f) P=BD (.Zk$ ps++a):=by rw[Ad B.symm,Mf]
 refine I.un ⟨λb o e n O O=>x b o (A b n) e,λb o e n O O=>⟨o.slots,x b o (A b n) e⟩,λb o e n O=>?_,λb o e O=>?_,λb xs e=>w b _ e (λz=>by rw[z,h]at e;cases e),λb o u e=>w b _ e (λz=>by rw[z,h]at e;cases e),λb Q e=>?_⟩ λb u e=>?_
 ·have:b≠f:=λz=>by subst z;exact absurd (ya e)$ iP.mpr m
  rw[Ad this,Ad$ A b n];exact n
 ·by_cases g:b=P
  ·subst g;exact⟨_,r⟩
  ·exact⟨o,x b o g e⟩
 ·by_cases g:b=P
  ·subst g;rw[h]at e;cases e;exact⟨a,ό⟩
  ·exact⟨#[],by rw[Array.append_empty];exact w b _ e g⟩
 ·by_cases l:b=f
  ·subst l;rw[Mf]at e;cases e;obtain⟨o,vs,t,D,J,K⟩:=p;exact⟨⟨o,vs,t,D,J,K⟩,⟨o,D⟩,λa1 a2 ⟨N,C,t',E,F,G⟩ k=>⟨N,C,t',k _ E,F,G⟩⟩
  ·rw[Ad l]at e;by_cases g:b=P
   ·subst g;rw[Mf]at e;cases e;exact r
   ·rw[Ad g]at e;refine(I.Fc b u e).yj (λc v L q=>x c v ?_ q) (λc q=>w c _ q (λz=>by rw[z,h]at q;cases q)) λc xs q=>w c _ q (λz=>by rw[z,h]at q;cases q);rcases L with z|z
    ·rw[z];exact g
    ·intro y;rw[y,h]at z;cases z
section
variable{pins:List$ Addr × Obj}{st:St}{H:Hp}{s:Shared}{μ:dl}{σ:Fa}{x:Str}{M':ad}{ix:i'}{scope:Scope}{params:Arguments}{body:Oa}{pos:Td}{c:Addr}{t:Tab}
structure ay(T:Tb)(X:Cx)(t:Tab)(c:Addr)(pos:Td):Prop where
 mem:t∈T.tx.Ln
 inj:∀ t'∈T.tx.Ln,t'.P=t.P->t'=t
 code:X.env.code=yb c
 hd:TD X.K c t.P=Ĳ
 line:t.line=pos.line
 col:t.col=pos.col
 qual:t.qual=X.env.qual++"<lambda>"
 bm:X.mg "__builtins__" = BD (yb T.tx.bm)
 bb:T.tx.bm≠builtinsNs
def Β(I:db X pins st H s)(L:Zj X x M' ix scope)(r:ud T μ H σ)(g:ay T X t c pos)(M:defaultsOf params X.env=([],[])) :
  wpAny (model X.prog X.w) X.A (Mb (.Lambda params body scope pos) X.env) (λv s'=>∃ q d i B,v=yb q/\db X ((q,ϳ "<lambda>" t.qual params body scope (Oi X.env scope.names []) ((X.mg "__name__").getD Bc) d i)::pins) st B s'/\Cd μ H μ B/\ud T μ B σ/\d ∉ μ/\B d=BD (Ϫ$ Iu t.qual d)) X.xe s:=by
 obtain⟨⟨b2,b4,ϋ⟩,S,ps,E,a8⟩:=r.tb t g.mem;have j:s.heap.get? t.P=BD _:=I.Fc _ _ E;have l:s.heap.Ns mainGlobals X.mg:=I.ok.mod.glob.keeps I.bk;have a6:mainGlobals≠t.P:=λz=>by
  obtain⟨o,es,ep,e,hd,_⟩:=l;rw[z,j]at e;cases e;cases hd
 obtain⟨_,⟨ob,o1,o2,o3,o4⟩,_⟩:=I.Fc _ _ ϋ;have G:T.tx.bm≠t.P:=λz=>by rw[z,j]at o1;cases o1;cases o2
 have V:T.tx.bm≠mainGlobals:=λz=>by
  obtain⟨o,es,ep,e,hd,_⟩:=l
  simp_all
 have hB:s.heap.BuiltinsAt X.mg t.P:=⟨T.tx.bm,ob,g.bm,g.bb,V,G,o1,o2,o3,o4⟩
 have K:=bK X.env scope$ jA I L;have C:W.CodeHd s.heap c t.P:=(Ĵ I.ok.mod.Rw g.hd).keeps I.bk;have f:∀ {h':Heap} {y:Nat} {B:Hp} {o:Obj},db X pins st B { s with heap:=h',toks:=y }->o.isFreed=Ε->(∀ v,o.data≠.cell v)->db X ((h'.objs.size,o)::pins) st B { s with heap:=h'.push o,toks:=y }:=fun {h' y B o} J hf hc=>by
  have J2:=J.kept (h':=h'.push o) (t':=y) λb u e=>ga _ e;refine J2.qi λp m=>?_;rcases za.mp m with rfl|m
  ·exact⟨Da _ hf,J.Fc.fresh$ ua _,Sd J.lt,J.vF$ ua _,hc⟩
  ·exact J2.pin p$ Ya _ m
 refine W.kla_eval M ?_;rw[<-g.qual];rcases a8 with rfl|⟨c1,rfl,Y,ϊ⟩
 ·refine W.kla_makeFunction K I.ok.glob l g.code C j trivial rfl a6 hB λd i h' y hx N a7 ό a9=>?_;have a0:Iu t.qual d h':=by
   obtain⟨c2,o,vs,tt,e,h1,h2,h3⟩:=ό;cases e;exact⟨o,vs,tt,h1,h2,h3⟩
  have J:=D3 (tk:=y) I E hx N a7 a0 a9;have k:H d=V6:=I.Fc.fresh N;have b0:d≠t.P:=λz=>by rw[z,E]at k;cases k
  have D:d ∉ μ:=λz=>by obtain⟨u,R,_⟩:=r.mem z;rw[k]at R;cases R
  have F:∀ b u,H b=BD u->b≠t.P->Wb (Wb H t.P$ .Zk$ #[]++#[yc pos.line,yc pos.col,yb d]) d (Ϫ$ Iu t.qual d) b=BD u:=λb u e n=>by
   rw[Ad$ Pn e k,Ad n];exact e
  have uP:Wb (Wb H t.P$ .Zk$ #[]++#[yc pos.line,yc pos.col,yb d]) d (Ϫ$ Iu t.qual d) t.P=BD (.Zk$ #[]++#[yc pos.line,yc pos.col,yb d]):=by rw[Ad b0.symm,Mf]
  have uc:Wb (Wb H t.P$ .Zk$ #[]++#[yc pos.line,yc pos.col,yb d]) d _ d=BD (Ϫ$ Iu t.qual d):=Mf;have e:Cd μ H μ$ Wb (Wb H t.P$ .Zk$ #[]++#[yc pos.line,yc pos.col,yb d]) d$ Ϫ$ Iu t.qual d:=by
   refine⟨⟨[],by simp⟩,λp xs h=>F p _ h (λz=>by rw[z,E]at h;cases h),λp o u h=>F p _ h (λz=>by rw[z,E]at h;cases h),λp o h n=>⟨?_,n⟩⟩;by_cases m:p=t.P
   ·subst m;rw[E]at h;cases h;exact⟨_,uP,ϕ$ ϕ ⟨_,_,rfl,rfl⟩⟩
   ·exact⟨o,F p o h m,ϑ rfl⟩
  refine⟨_,d,i,_,rfl,f J rfl (λv z=>by cases z),e,r.keep e (λa ha=>?_) λt' Q=>?_,D,uc⟩
  ·obtain⟨u,R,_⟩:=r.mem ha;rw[R];exact F a u R λz=>S ⋯
  ·obtain⟨⟨a1,b1,a2⟩,a3,qs,a4,a5⟩:=r.tb t' Q;refine⟨⟨a1,b1,F _ _ a2 G⟩,a3,?_⟩;by_cases m:t'.P=t.P
   ·have et:=g.inj t' Q m;subst et;exact⟨_,uP,ϕ ⟨d,by rw[g.line,g.col];rfl,D,uc⟩⟩
   ·refine⟨qs,F _ _ a4 m,a5.imp id λ⟨c3,z1,z2,z3⟩=>⟨c3,z1,z2,F _ _ z3 (λz=>by rw[z,E]at z3;cases z3)⟩⟩
 ·refine W.kla_makeFunctionHit (cv:=yb c1) K I.ok.glob l g.code C j ?_ ?_ hB λi h' y hk b3=>?_
  ·exact trivial
  ·rw[g.line,g.col];simp[codeAmong,yc]
  ·have J:=I.kept (h':=h') (t':=y) hk;exact⟨_,c1,i,H,rfl,f J rfl (λv z=>by cases z),ϰ _ _,r,Y,ϊ⟩
end
def jw(a:Ev->M D)(rest:Ev):B'->D->Int->M D
 |[],b,_=>ret b
 |d::ds,b,c=>Tc (Ft$ a$ BD d::rest) λk=>match k with
  | Z k=>if k<c then jw a rest ds d k else jw a rest ds b c
  |_=>Eb
def dz(a:Ev->M D)(rest:Ev)(b:B'):M D:=match b with
 |[ύ (x::xs)]=>Tc (Ft$ a$ BD x::rest) λk=>match k with
  | Z k=>jw a rest xs x k
  |_=>Eb
 |_=>Eb
def YG(d:i')(b:Ev->M D)(c:Ev->M (B')):Ev->M D:=λa=>Tc (c a)$ dz b (d.map λi=>(a[i]?).getD V6)
def dR{st}(I:db X a st H s)(k:∀ b o,b≠i->b≠j->s.heap.get? b=BD o->h'.get? b=BD o)(f:Sk X a H i)(g:Sk X a H j):db X a st H { s with heap:=h',toks:=t' }:=by
 have A:∀ b u,H b=BD u->b≠i/\b≠j:=λb u e=>⟨(λz=>by rw[z,f.1]at e;cases e),(λz=>by rw[z,g.1]at e;cases e)⟩
 have l:∀ {b:Addr},b ∉ [i,j]->b≠i/\b≠j:=fun {b} h=>⟨λz=>h (by simp[z]),λz=>h (by simp[z])⟩
 refine I.step (λb w=>?_) (λb o c c d e c=>k b o (l d).1 (l d).2 e) (λb o c c d e c=>⟨o.slots,k b o (l d).1 (l d).2 e⟩) (λc c c c n=>n)
  (λb o d e=>⟨o,k b o (l d).1 (l d).2 e⟩) (λc c e=>e) (λc c c e=>e) (λb ps e=>⟨#[],by rw[e];simp⟩) (λm x=>?_) (λb u e=>?_) I.bare
 ·have e:b=i\/b=j:=by simpa using w
  rcases e with rfl|rfl
  ·exact⟨f.2.2.2.1,f.2.1,f.2.2.2.2.1,f.2.2.2.2.2⟩
  ·exact⟨g.2.2.2.1,g.2.1,g.2.2.2.2.1,g.2.2.2.2.2⟩
 ·obtain⟨o,t,p,y,r⟩:=x;exact⟨o,t,p,k _ o (Jd f.2.1) (Jd g.2.1) y,r⟩
 ·refine(I.Fc b u e).yj (λc v d q=>?_) (λc q=>q) λc c q=>q;rcases d with z|z;all_goals simp_all
def DU
  (ϋ:Qd (k+2) X.A) (L:Zj X x M' ix f) (hx:f.names.lookup x=BD .local) (Lm:ay T X t c b3) (hg:Gl X "min") (hm:X.mg "min" = V6)
  (c5:defaultsOf l X.env=([],[])) (d5:f.isCoroutine=Ε) (c6:f.isGenerator=Ε)
  (b8:∀ cl pm cd ό u,bindArgs (W.kla_fn "<lambda>" t.qual l F f cl pm cd ό) ⟨[u],[]⟩=pure [(x,u)])
  (ha:FA T X [e] fs)
  (hb:∀ A q cd b4 c2,Qd k (A.deeper$ W.envX t.qual f b4.heap.objs.size q cd$ Oi X.env f.names [])->FE T (zD X A (x::M') t.qual f q cd (Oi X.env f.names []) b4 c2) F fe)
  (he:lc a6 (va [e] X.env)=(Ε,Mb e X.env)::lc a6 (va [] X.env):=by rfl)
  (b0:(lc a6$ va [e] X.env).any (·.1)=Ε:=by rfl) :
  FE T X (ϡ (Ϝ "min" p) [e] [⟨BD "key",.Lambda l F f b3,kp⟩] a6)$ YG ix fe fs:=by
 intro m s st H Q I h;refine Ve$ gy I hg hm (show bootBuiltins "min" = BD (Ϣ "min")from rfl) ?_;obtain⟨μ,ρ,σ,hE,hr,hp⟩:=h;refine callWith_kw (Ed (ha a6 m s st H (λvs H1=>∃ K a9 ds,Cd μ H K H1/\ud T K H1 a9/\lb T K H1 ds vs/\Rb T (XE X st) (Sa T) K H1 (dz fe (ix.map λi=>(ρ[i]?).getD V6) ds a9) Q) I ⟨μ,ρ,σ,hE,hr,hp.bind λds a9 K vs H1 O e1 r1 q1 p1=>⟨K,a9,ds,e1,r1,q1,p1⟩⟩) λus s1 ⟨vs,H1,I1,rv,K,a9,ds,e1,r1,q1,p1⟩=>kws_cons (Ed (Β I1 L r1 Lm c5) λlv s2 ⟨q,c',ό,H2,c9,I2,e2,r2,d2,d3⟩=>kws_nil ?_)) he b0;subst c9;show wpAny _ _ (call (Ϣ "min") us [(jr "key",yb q)]) _ _ _;have d0:fh T K H2 ρ st:=(hE.mono e1).mono e2;generalize c0:(ix.map λi=>(ρ[i]?).getD V6)=rest at *;obtain⟨x0,xs,rfl⟩:∃ x0 xs,ds=[ύ$ x0::xs]:=by
  unfold dz at p1;split at p1
  ·exact⟨_,_,rfl⟩
  ·exact p1.elim
 rw[lb]at q1;obtain⟨v0,rr,rfl,q2,q3⟩:=q1;rw[lb]at q3;subst q3;obtain⟨a,ws,rfl,c4,d1,d7⟩:=q2;obtain⟨u0,rfl,d9⟩:=ie.one rv;obtain rfl:u0=yb a:=d9;have b2:H2 a=BD (ϯ ws):=(e2.Mh _ _ d1 c4).1;have a5:lb T K H2 (x0::xs) ws:=lb.mono e2 _ _ d7;have a3:(x0::xs).length=ws.length:=a5.length;have ra:∀ {G:Hp} {Y:Shared} {pn:List$ Addr × Obj},db X pn st G Y->G a=BD (ϯ ws)->∃ ϊ:gV,ϊ.length=ws.length/\(∀ (j:Nat) v,ϊ[j]?=BD v->∃ w,ws[j]?=BD w/\jd w v)/\Y.heap.IsList a ϊ.toArray:=fun {G Y pn} J z=>by
  obtain⟨_,ϊ,n,rv,ho⟩:=J.Fc _ _ z;refine⟨ϊ,rv.length.symm,λj v hv=>?_,⟨_,ho,rfl,⟨_,rfl⟩⟩⟩;have hj:j<ws.length:=by rw[rv.length];exact(ba.mp hv).1
  obtain⟨u,hu,ru⟩:=rv.get (i:=j) (x:=ws[j]) (by simp[hj]);rw[hv]at hu;cases hu;exact⟨ws[j],by simp[hj],ru⟩
 have c8:∀ {E:dl} {G:Hp} {N:Fa} {Y:Shared} {d:D} {w:V} {v:Value} {I S:Addr} {oI oS:Obj} {kk:Int->M D},db X ((q,ϳ "<lambda>" t.qual l F f (Oi X.env f.names []) ((X.mg "__name__").getD Bc) c' ό)::m) st G Y->Cd K H2 E G->ud T E G N->Sa T E G d w->jd w v->
   Sk X ((q,ϳ "<lambda>" t.qual l F f (Oi X.env f.names []) ((X.mg "__name__").getD Bc) c' ό)::m) G I->Sk X ((q,ϳ "<lambda>" t.qual l F f (Oi X.env f.names []) ((X.mg "__name__").getD Bc) c' ό)::m) G S->
   Y.heap.get? I=BD oI->Y.heap.get? S=BD oS->(∀ v,oI.data≠.cell v)->(∀ v,oS.data≠.cell v)->
   Rb T (XE X st) (Sa T) E G (Tc (Ft$ fe$ BD d::rest) (λk=>match k with | Z k=>kk k|_=>Eb) N) Q->
   wpAny (model X.prog X.w) X.A.in1 (call (yb q) [v]) (λy a8=>∃ k t',y=Fh k t'/\a8.heap.get? I=BD oI/\a8.heap.get? S=BD oS/\∃ r C B,db X ((q,ϳ "<lambda>" t.qual l F f (Oi X.env f.names []) ((X.mg "__name__").getD Bc) c' ό)::m) st C a8/\Cd E G r C/\ud T r C B/\
    Sk X ((q,ϳ "<lambda>" t.qual l F f (Oi X.env f.names []) ((X.mg "__name__").getD Bc) c' ό)::m) C I/\Sk X ((q,ϳ "<lambda>" t.qual l F f (Oi X.env f.names []) ((X.mg "__name__").getD Bc) c' ό)::m) C S/\Rb T (XE X st) (Sa T) r C (kk k B) Q) (λO O=>False) Y:=by
  intro E G N Y d w v I S oI oS kk J ex r' rd e0 fI fS gI gS cI cS po;generalize c7:ϳ "<lambda>" t.qual l F f (Oi X.env f.names []) ((X.mg "__name__").getD Bc) c' ό=ob at *;have b9:Y.heap.CodeRec (yb c') t.qual:=by
   obtain⟨⟨o,e3,tt,h1,h2,h3⟩,_⟩:=J.Fc _ _ (ex.Mh _ _ d3 d2).1;exact⟨c',o,e3,tt,rfl,h1,h2,h3⟩
  have hq:=(J.pin (q,ob)$ Ya _$ .head _).1;have J2:db X ((I,oI)::(S,oS)::(q,ob)::m) st G Y:=J.qi λp hp=>by
   rcases za.mp hp with rfl|hp
   ·exact⟨gI,fI.1,fI.2.1,fI.2.2.1,cI⟩
   ·rcases za.mp hp with rfl|hp
    ·exact⟨gS,fS.1,fS.2.1,fS.2.2.1,cS⟩
    ·exact J.pin p$ Ya _ hp
  have hd:X.A.in1.handled=V6:=ϋ.hd;refine dc (G2 (A:=X.A.in1) (t:=tF T _ fe) (v:=w) (Q:=λy C=>∃ k r B,y=Ϥ k/\Cd E G r C/\ud T r C B/\Rb T (XE X st) (Sa T) r C (kk k B) Q) J2 L hx J.ok.frames hd (Qd.in1 ϋ).depth (by rw[<-c7]at hq;exact hq) b9 (b8 _ _ _ _ _) d5 c6 e0 (hb _ _ _ _ _$ (Qd.in1 ϋ).deeper _) ⟨E,AL ix d ρ,N,è ix (d0.mono ex) rd,r',?_⟩) (λy a8 d4=>?_) λO O z=>z
  ·unfold AL;rw[c0];refine po.du λy B r g C O b5 c1 d8 b1=>?_;cases y with
   |int k=>
    exact⟨k,r,B,d8,b5,c1,b1⟩
   |_=>exact b1.elim
  ·obtain⟨yv,C,J3,ry,k,r,B,rfl,b5,c1,b1⟩:=J2.after d4;obtain⟨t',rfl⟩:=ry;have pI:=J3.pin (I,oI)$ Ya _$ .head _;have pS:=J3.pin (S,oS)$ Ya _$ .tail _$ .head _;have J4:db X ((q,ob)::m) st C a8:=J3.qi λp hp=>J3.pin p$ Ya _$ .tail _$ .tail _ hp;exact⟨k,t',rfl,pI.1,pS.1,r,C,B,J4,b5,c1,⟨pI.2.1,fI.2⟩,⟨pS.2.1,fS.2⟩,b1⟩
 obtain⟨ϊ,hn,hP,d6⟩:=ra I2 b2;generalize c7:ϳ "<lambda>" t.qual l F f (Oi X.env f.names []) ((X.mg "__name__").getD Bc) c' ό=ob at *;refine v9 (n:=ws.length) (P:=λj v=>∃ w,ws[j]?=BD w/\jd w v) (λY=>db X ((q,ob)::m) st H2 Y)
  (λI S j vb kb Y=>Sk X ((q,ob)::m) H2 I/\Sk X ((q,ob)::m) H2 S/\∃ E G N b wb,db X ((q,ob)::m) st G Y/\Cd K H2 E G/\ud T E G N/\Sa T E G b wb/\jd wb vb/\Sk X ((q,ob)::m) G I/\Sk X ((q,ob)::m) G S/\Rb T (XE X st) (Sa T) E G (jw fe rest ((x0::xs).drop j) b kb N) Q)
  ϋ.hd I2 hn hP d6 (by rw[<-a3];simp) (λs0 h' tk g k=>g.kept k) ?_ ?_ ?_ ?_ ?_
 ·
  intro I S s3 v oI oS hI hS e5 ⟨s0,g0,hk,es⟩ ⟨w,hw,a7⟩ gI gS cI cS;have fI:Sk X ((q,ob)::m) H2 I:=I2.Bp hI$ I2.Fc.fresh hI;have fS:Sk X ((q,ob)::m) H2 S:=I2.Bp hS$ I2.Fc.fresh hS;have J:db X ((q,ob)::m) st H2 s3:=by
   rw[es];exact dR g0 (λb o n O e=>hk b o n e) fI fS
  have rd:∃ w',ws[0]?=BD w'/\Sa T K H2 x0 w':=a5.get (i:=0) rfl;obtain⟨w',a4,rd⟩:=rd;rw[hw]at a4;cases a4;refine dc (c8 (kk:=λk=>jw fe rest xs x0 k) J (ϰ _ _) r2 rd a7 fI fS gI gS cI cS$ Rb.mono e2 p1) (λy s4 z=>?_) λO O z=>z;obtain⟨k,t',rfl,b6,b7,r,C,B,J4,e4,r4,f1,f2,p4⟩:=z;exact⟨k,t',rfl,b6,b7,fI,fS,r,C,B,x0,w,J4,e4,r4,Sa.mono e4 _ _ rd,a7,f1,f2,p4⟩
 ·intro I S j vb kb Y ⟨_,_,E,G,N,b,wb,J,ex,r',rb,a0,f1,f2,p'⟩;exact ra J (ex.Mh _ _ b2 c4).1
 ·intro I S j vb kb Y h' tk ⟨a1,a2,E,G,N,b,wb,J,ex,r',rb,a0,f1,f2,p'⟩ k;exact⟨a1,a2,E,G,N,b,wb,dR J k f1 f2,ex,r',rb,a0,f1,f2,p'⟩
 ·intro I S j vb kb Y v oI oS ⟨a1,a2,E,G,N,b,wb,J,ex,r',rb,a0,f1,f2,p'⟩ ⟨w,hw,a7⟩ gI gS cI cS;have hj:j<(x0::xs).length:=by rw[a3];exact(ba.mp hw).1
  obtain⟨w',a4,rd⟩:=a5.get (i:=j) (d:=(x0::xs)[j]) (by rw[Vb hj]);rw[hw]at a4;cases a4;rw[jf hj]at p';generalize (x0::xs)[j]=d at *;generalize e6:(x0::xs).drop (j+1)=c3 at *;refine dc (c8 (kk:=λk=>if k<kb then jw fe rest c3 d k else jw fe rest c3 b kb) J ex r' (Sa.mono ex _ _ rd) a7 f1 f2 gI gS cI cS p') (λy s4 z=>?_) λO O z=>z;obtain⟨k,t',rfl,b6,b7,r,C,B,J4,e4,r4,f3,f4,p4⟩:=z;refine⟨k,t',rfl,b6,b7,a1,a2,r,C,B,?_⟩;by_cases hk:k<kb
  ·rw[ka hk]at p4;rw[ka hk,ka hk];exact⟨d,w,J4,ex.trans e4,r4,Sa.mono (ex.trans e4) _ _ rd,a7,f3,f4,p4⟩
  ·rw[qa hk]at p4;rw[qa hk,qa hk];exact⟨b,wb,J4,ex.trans e4,r4,Sa.mono e4 _ _ rb,a0,f3,f4,p4⟩
 ·intro I S vb kb Y ⟨_,_,E,G,N,b,wb,J,ex,r',rb,a0,f1,f2,p'⟩;rw[<-a3,List.drop_length]at p';have q':Q wb G:=Rb.here (R:=Sa T) p' r' rb;exact⟨wb,G,J.qi (λp hp=>J.pin p$ Ya _$ .tail _ hp),a0,q'⟩
noncomputable def My(K:ϗ)(x:Str):Addr:=((W.tabIn K x).getD (0,0)).1
noncomputable def tw(K:ϗ)(x:Str):Addr:=((W.tabIn K x).getD (0,0)).2
noncomputable def Nx(K:ϗ):Addr:=match W.nsIn K mainGlobals "__builtins__" with
 |some (BD (yb a))=>a
 |_=>0
theorem F6{K}(h:(W.tabIn K x).isSome=Ĳ):W.tabIn K x=BD (My K x,tw K x):=by
 unfold My tw;cases e:W.tabIn K x with
 |none=>simp_all
 |some p=>rfl
def wL(K:ϗ)(xs:ad):Bool:=
 W.noTabs K && (match W.nsIn K mainGlobals "__builtins__" with
  |some (BD (yb a))=>(K.lookup a).isNone && (a != builtinsNs)
  |_=>Ε) && xs.all λx=>(W.tabIn K x).isSome && TD K (My K x) (tw K x)
structure Vw(K:ϗ)(xs:ad):Prop where
 no:W.noTabs K=Ĳ
 bm:W.nsIn K mainGlobals "__builtins__" = BD (BD (yb (Nx K)))
 bk:K.lookup (Nx K)=V6
 bb:Nx K≠builtinsNs
 tab:∀ x∈xs,W.tabIn K x=BD (My K x,tw K x)
 hd:∀ x∈xs,TD K (My K x) (tw K x)=Ĳ
set_option tactic.hygienic true in
def O2{K}{xs}(h:wL K xs=Ĳ):Vw K xs:=by
 unfold wL at h;rw[Ga,Ga]at h;obtain⟨⟨f,b⟩,g⟩:=h;split at b
 ·next a d=>
  have c:Nx K=a:=by unfold Nx;rw[d]
  rw[Ga]at b;refine⟨f,by rw[c];exact d,by rw[c];exact Option.isNone_iff_eq_none.mp b.1,by rw[c];simpa using b.2,λx e=>?_,λx e=>?_⟩
  ·have z:=Bb.mp g x e;rw[Ga]at z;exact F6 z.1
  all_goals simp_all
 ·cases b
def XI(K:ϗ)(d:Str->Option Value)(x:Str)(e:Stmt)(c:ad):Prop:=
 ∃ f a,d x=BD (yb f)/\bI K x x e f a/\(∀ b:gV,b.length=c.length->bindArgs a ⟨b,[]⟩=pure (c.zip b))/\a.code=yb (My K x)
def mkC{K:ϗ}{c xs}(X:K.In h)(G:h.Ns mainGlobals a)(i:Wp K a x d c)(l:Vw K xs)(m:x∈xs):XI K a x d c:=by
 obtain⟨f,p,b,F,j⟩:=i;obtain⟨q,r,kV,g,s,o,e,ct,n,rfl,lk,k⟩:=F.ex;exact⟨f,_,b,F,j,W.law_code X G (l.tab x m) b (X _ _ lk) rfl⟩
def qT{K}{st}(h:XI K i x st ps)(S:nc N ps$ yf st)
  (n:∀ f A b s H E,Qd k (A.deeper$ ug x (yf st) s.heap.objs.size f$ yb$ My K x)->Dk ⟨K,j,tx⟩ (xp (jl P w) P w K i a N x (yf st) f (yb$ My K x) A b s H E) (Pj st) g) :
  wh ⟨K,j,tx⟩ P w i a (k+1) x ps$ dh N.length g:=by
 obtain⟨f,t,p,F,c,o⟩:=h;obtain⟨u,v,kV,m,y,r,l,ct,q,rfl,lk,d⟩:=F.ex;have e:=o;subst e;exact⟨f,_,p,F.kp,c,qB lk d S$ n f⟩
set_option tactic.hygienic true in
def zhz{K}
  (KX:K.In f.heap) (a8:f.heap.Ns mainGlobals mg) (C:f.heap.Ns builtinsNs mb) (a4:∀ x:Str,x ≠ "__name__"->mb x=bootBuiltins x) (Y:f.heap.NoLimit) (hg:f.gens=#[])
  (I:f.heap.get? a=BD { cls:=Uh "list",data:=Ϧ vs.toArray }) (hi:ph vs p) (hl:p.length<=63) (hr:Qd k Xm)
  (hK:W.noTabs K=Ĳ) (j:f.heap.get? tx.bm=BD ob) (ϋ:ob.cls=Uh "module") (a5:ob.dict=BD builtinsNs) (ό:ob.data=.plain) (a3:K.lookup tx.bm=V6)
  (T:∀ t∈tx.Ln,∃ c,W.CodeHd f.heap c t.P/\f.heap.get? t.P=BD (W.tabObj #[]))
  (F:∀ base:Heap,jh P w K mg base (jl P w) k fa fd [x] (Ho ⟨K,ca,tx⟩ 1 fn)) (N:∀ s u,Xe s fd ⟨[u],[]⟩ [(x,u)])
  (tr:∀ p:h8,p.length<=63->∃ σ,fn [ϥ p] []=O (ϐ Ĳ) σ) :
  codeAny (model P w) Xm (.call (yb fa) ⟨[yb a],[]⟩) (λr B=>r=.ok (.ret$ fg Ĳ)/\OldK f.heap B.heap/\B.os=f.os/\nh B.gens) f:=by
 have rv:=qE hi;have X:p.length<=sizeLine:=ib hl ⋯;have E:∀ L:Bool,(L=Ĳ->K.lookup a=V6)->(L=Ε->K.lookup a=BD { cls:=Uh "list",data:=Ϧ vs.toArray })->
   codeAny (model P w) Xm (.call (yb fa) ⟨[yb a],[]⟩) (λr B=>r=.ok (.ret$ fg Ĳ)/\OldK f.heap B.heap/\B.os=f.os/\nh B.gens) f:=by
  intro L a6 a7;obtain⟨H,c1,c2,c3,ϊ⟩:∃ H:Hp,(∀ t∈tx.Ln,H t.P=BD (.Zk #[]))/\(H tx.bm=BD (Ϭ ob _))/\(L=Ĳ->H a=BD (Ϭ { cls:=Uh "list",data:=Ϧ vs.toArray }$ ϯ$ p.map Ϥ))/\
    ∀ b u,H b=BD u->(u=.Zk #[]/\∃ t∈tx.Ln,b=t.P)\/(b=tx.bm/\u=Ϭ ob _)\/(b=a/\L=Ĳ/\u=Ϭ { cls:=Uh "list",data:=Ϧ vs.toArray } (ϯ$ p.map Ϥ)):=by
   refine⟨λb=>if b=tx.bm then BD (Ϭ ob$ Ϫ$ HV tx.bm)else if b=a then (if L=Ĳ then BD (Ϭ { cls:=Uh "list",data:=Ϧ vs.toArray }$ ϯ$ p.map Ϥ)else V6)else if b∈tx.Ln.map (·.P)then BD (.Zk #[])else V6,λt g=>?_,ka rfl,λh=>?_,λb u e=>?_⟩
   ·obtain⟨c,_,l⟩:=T t g;have n1:t.P≠tx.bm:=λz=>by rw[z,j]at l;cases l;cases ϋ
    have n2:t.P≠a:=λz=>by rw[z,I]at l;cases l
    dsimp only;rw[qa n1,qa n2,ka$ na.mpr ⟨t,g,rfl⟩]
   ·have n1:a≠tx.bm:=λz=>by rw[z,j]at I;cases I;cases ό
    dsimp only;rw[qa n1,ka rfl,ka h]
   ·dsimp only at e;split at e
    ·next a1=>cases e;exact ϕ$ ϑ ⟨a1,rfl⟩
    ·split at e
     ·next a2=>
      split at e
      ·next h=>cases e;exact ϕ$ ϕ ⟨a2,h,rfl⟩
      ·cases e
     ·split at e
      ·next hm=>cases e;obtain⟨t,g,rfl⟩:=na.mp hm;exact ϑ ⟨rfl,t,g,rfl⟩
      ·cases e
  have a9:Jh P w H f.heap:=λb u e=>by
   rcases ϊ b u e with⟨rfl,t,g,rfl⟩|⟨rfl,rfl⟩|⟨rfl,_,rfl⟩
   ·obtain⟨c,_,l⟩:=T t g;exact l
   ·exact⟨j,⟨ob,j,ϋ,a5,ό⟩,⟨ob,j⟩,λh1 h2 ⟨o,e1,G⟩ k=>⟨o,k _ e1,G⟩⟩
   ·exact⟨I,by rw[Ea];exact X,vs,_,rv,I⟩
  have i:∀ {b:Addr} {o:Obj},f.heap.get? b=BD o->H b=V6->(Wx f.heap H).get? b=BD o:=λe n=>Ĳz e n;have b1:∀ {b:Addr} {o:Obj} {es:Array DictEntry} {ep:Nat},f.heap.get? b=BD o->o.data=.dict es ep->H b=V6:=fun {b o es ep} e d=>by
   cases q:H b with
   |none=>rfl
   |some u=>
    rcases ϊ b u q with⟨_,t,g,rfl⟩|⟨rfl,_⟩|⟨rfl,_,_⟩
    ·obtain⟨c,_,l⟩:=T t g;rw[l]at e;cases e;cases d
    ·rw[j]at e;cases e;rw[ό]at d;cases d
    ·rw[I]at e;cases e;cases d
  have R:∀ {b:Addr} {m:Str->Option Value},f.heap.Ns b m->(Wx f.heap H).Ns b m:=fun {b m} ⟨o,es,ep,e,d,r⟩=>⟨o,es,ep,i e$ b1 e d,d,r⟩
  have a0:=λb o e=>i (KX b o e) (by
   cases q:H b with
   |none=>rfl
   |some u=>
    rcases ϊ b u q with⟨_,t,g,rfl⟩|⟨rfl,_⟩|⟨rfl,h,_⟩
    ·obtain⟨c,_,l⟩:=T t g;have G:=KX _ _ e;rw[l]at G;cases G;have h2:=Bb.mp hK (t.P,_)$ W.mem_of_lookupK e;exact absurd (show Ε=Ĳ from h2) qb
    ·rw[a3]at e;cases e
    ·rw[a6 h]at e;cases e)
  have hM:Mod K mg$ Wx f.heap H:=⟨a0,R a8,⟨mb,R C,a4⟩,let ⟨mc,h1,h2⟩:=Y;⟨mc,R h1,h2⟩⟩
  have e0:Wq P w K mg (Wx f.heap H) Xm [] f H:=⟨rfl,hM,λb o e=>Εz e,DF$ Ġ _ _,trivial,λb C=>absurd (show b∈[]from C) ⋯,a9,.of_eq hg⟩
  have hS:gJ K H a p:=by
   cases L with
   |true=>exact ϑ ⟨_,c3 rfl⟩
   |false=>exact ϕ ⟨_,vs.toArray,_,a7 rfl,rfl,rfl,rfl,by rw[Ua,hi.length];exact X,by simpa using rv⟩
  obtain⟨σ,ef⟩:=tr p hl;have b0:Ho ⟨K,ca,tx⟩ 1 fn [ϖ a] H (λv _=>v=ϫ Ĳ) λ_ _ _=>False:=by
   refine⟨[],[],[ϥ p],lb.cons (by rw[Sa];exact⟨a,rfl,hS⟩) lb.nil,rfl,⟨rfl,An,λn o q=>by simp at q,λt g=>⟨⟨by simp,ob,c2⟩,by simp,#[],c1 t g,ϑ rfl⟩⟩,?_⟩;rw[ef];intro b3 v H' _ _ r;exact r
  refine Af ((F _).dh Xm [] f H _ [yb a] [ϖ a] _ _ hr e0 (N f$ yb a) (ϝ rfl Ϡ) b0) λr B h=>?_;cases r with
  |error e=>obtain⟨_,_,_,_,z⟩:=h;exact z.elim
  |ok f2=>
   cases f2 with
   |next=>exact ϲ h
   |brk=>exact ϲ h
   |cont=>exact ϲ h
   |ret u=>
    obtain⟨v,H',os,S,un,A,r',q⟩:=h;have q':v=ϫ Ĳ:=q;subst q';obtain rfl:u=fg Ĳ:=r';have J:∀ b o,f.heap.get? b=BD o->(¬ ∃ t∈tx.Ln,b=t.P)->B.heap.get? b=BD o:=λb o e n=>by
     cases q:H b with
     |none=>exact un.keep b o e q (by intro z;exact absurd (show b∈[]from z) ⋯) ⋯
     |some u=>
      rcases ϊ b u q with⟨_,z⟩|⟨rfl,rfl⟩|⟨rfl,_,rfl⟩
      ·exact absurd z n
      ·obtain⟨G,_⟩:=A _ _ (un.zi _ _ _ q);rw[j]at e;cases e;exact G
      ·obtain⟨G,_⟩:=A _ _ (un.zi _ _ _ q);rw[I]at e;cases e;exact G
    have y:∀ t∈tx.Ln,∃ ps,B.heap.get? t.P=BD (W.tabObj ps):=λt g=>by
     obtain⟨b2,z⟩:=un.Bj _ _ (c1 t g);exact⟨_,A _ _ z⟩
    refine⟨rfl,⟨λb o e=>?_,λb o e=>?_⟩,os,S⟩
    ·by_cases C:∃ t∈tx.Ln,b=t.P
     ·obtain⟨t,g,rfl⟩:=C;obtain⟨c,hc,l⟩:=T t g;obtain⟨ps,Q⟩:=y t g;rw[l]at e;cases e;exact ϕ$ ϑ ⟨(hc.tab l).isCodeTable,rfl,#[],ps,rfl,by rw[Array.empty_append];exact Q⟩
     ·exact ϑ$ J b o e C
    ·by_cases C:∃ t∈tx.Ln,b=t.P
     ·obtain⟨t,g,rfl⟩:=C;obtain⟨ps,Q⟩:=y t g;exact⟨_,Q⟩
     ·exact⟨o,J b o e C⟩
 cases hk:K.lookup a with
 |some o=>
  have e:=KX a o hk;rw[I]at e;cases e;exact E Ε (λh=>by cases h) λ_=>hk
 |none=>exact E Ĳ (λ_=>hk) λh=>by cases h
def ġ{l:W.OpenLaw}{K:Params->ϗ} xs
  (hn:l.most=BD 63) (B:d.params.defaults=[]) (hr:Qd k Xm) (hY:∀ w h,H w h->(K w.params).In h)
  (hK:∀ w:Wa,wL (K w.params) xs=Ĳ) (p:(xs.all λx=>((recsOf q).find? λe=>e.name == x).isSome)=Ĳ)
  (F:∀ w v h,(K w.params).In h->h.Ns mainGlobals v->Vw (K w.params) xs->∃ I j,(∀ t∈j,∃ x∈xs,t.P=tw (K w.params) x)/\kO ⟨K w.params,I,⟨j,Nx$ K w.params⟩⟩ l.prog w v k d.name [x] fn)
  (tr:∀ E:h8,E.length<=63->∃ σ,fn [ϥ E] []=O (ϐ Ĳ) σ) :
  W.WalkO q i R H l.row.toRowW d [] (λf vs=>PySem.call f vs):=by
 refine Att.vp hn B λw ό Q v mb fa o pm cd a0 a vs E G Y ho hd a2 C n c m hg=>?_;have r:=hY w _ Y;have TT:=O2$ hK w;obtain⟨I,j,hP,f0,a1,L,g3,g4⟩:=F w v _ r G.T.g TT;rw[C]at L;cases L;obtain⟨bm,ob,S,b2,ϋ,V,X,ϊ⟩:=G.T.bmain;have J:=W.mg_of r G.T.g TT.bm;rw[S]at J;cases J;refine zhz r G.T.g G.T.b G.T.builtins G.T.nolimit hg n c m hr TT.no ϋ V X ϊ TT.bk (λt ht=>?_) g4 (λs u=>.of_eq$ g3 [u] rfl) tr;obtain⟨y,N,e⟩:=hP t ht;have z:=Bb.mp p y N;obtain⟨d',A⟩:=ke.mp z;have:=W.tab_of G.T r A$ TT.tab y N;rw[e];exact⟨_,this.1,this.2⟩
def Ψ(h:(a.P == b.P)=Ε):∀ t∈(⟨[a,b],f⟩:Tx).Ln,∀ d∈(⟨[a,b],f⟩:Tx).Ln,d.P=t.P->d=t:=by
 intro t g d c e;simp at g c;rcases g with rfl|rfl<;>rcases c with rfl|rfl;all_goals simp_all
def tz(x:D)(xs:B'):M D:=λa=>match x,xs with
 | U n,[y]=>(match Cf a n with
  |some b=>(match Lf a y with
   |some zs=>if b.length+zs.length<=Dg then O Ϛ (a.set n$ ϒ$ b++zs)else Ϙ
   |none=>Ϙ)
  |none=>Ϙ)
 |_,_=>Ϙ
section
variable{T:Tb}
def Ο:ly T JY tz:=by
 intro E o H σ x xs v vs Q r p q h;cases x with
 |ref n=>
  match xs with
  |[]=>cases h
  |[y]=>
   obtain⟨w,z,rfl,t,k⟩:=q;rw[lb]at k;subst k;unfold tz at h;cases c:Cf σ n with
   |none=>simp[c]at h;exact h.elim
   |some u=>
    simp[c]at h;cases d:Lf σ y with
    |none=>simp only[d]at h;exact h.elim
    |some zs=>
     simp only[d]at h;by_cases e:u.length+zs.length<=Dg
     ·rw[ka e]at h;obtain⟨a,vs,rfl,j,f,g⟩:=r.ra p c;obtain⟨b,l,rfl,s,i⟩:=r.ls t d;have m:=r.write (ob:=ϒ _) j ⟨_,Mf,by
       have ex:Cd o H o$ Wb H a$ ϯ$ vs++l:=Ss (wa j) f (λA z=>by cases z) (λA A z=>by cases z);exact lb.append (lb.mono ex _ _ g)$ lb.mono ex _ _ i⟩
      exact⟨a,b,vs,l,rfl,rfl,f,s,by rw[<-g.length,<-i.length];exact wz e,h _ _ _ m.1 m.2 (by rw[Sa])⟩
     ·rw[qa e]at h;exact h.elim
  |_::_::_=>exact h.elim
 |_=>exact h.elim
end
section
variable{x y:Str}{p pos:Td}{ss:ad}
def SY(e:Gl X x)(b:NE T.K X.mg x ss)(d:(x == ("__debug__" : Str))=Ε:=by decide):FE T X (Ϝ x p)$ eC$ .gt ss:=by
 obtain⟨a,f,c⟩:=b;exact gC (eK e f (v:=ϖ a) rfl d) λg g=>by rw[Sa];exact⟨a,rfl,c⟩
def wh.alias(h:wh T P w b a k x ps c)(e:b y=b x):wh T P w b a k y ps c:=by
 obtain⟨f,d,g,i⟩:=h;exact⟨f,d,e.trans g,i⟩
end
section
variable{T:Tb}{μ μ':dl}{H H':Hp}{σ:Fa}{a:Addr}
mutual
theorem Sa.chg(j:∀ b,b≠a->H' b=H b)(l:a∈μ)(m:∀ xs,H a≠BD (.Qa xs))(r:∀ o xs,H a≠BD (Ϭ o$ ϯ xs)):∀ (d:D) (v:V),Sa T μ H d v->Sa T μ H' d v
 | Ϛ,v,h=>by simpa [Sa]using h
 | ϐ b,v,h=>by simpa [Sa]using h
 | Z i,v,h=>by simpa [Sa]using h
 | ϓ x,v,h=>by simpa [Sa]using h
 | ώ ds,v,h=>by
  rw[Sa]at h ⊢;obtain⟨p,vs,g,e,k⟩:=h;exact⟨p,vs,g,by rw[j p (λz=>m _ (by rw[<-z];exact e))];exact e,lb.chg j l m r ds vs k⟩
 | ϥ ns,v,h=>by
  rw[Sa]at h ⊢;obtain⟨p,g,e⟩:=h;refine⟨p,g,?_⟩;rcases e with⟨o,e⟩|e
  ·exact ϑ ⟨o,by rw[j p (λz=>r _ _ (by rw[<-z];exact e))];exact e⟩
  ·exact ϕ e
 | U n,v,h=>by rw[Sa]at h ⊢;exact h
 | ύ ds,v,h=>by
  rw[Sa]at h ⊢;obtain⟨p,vs,g,f,e,k⟩:=h;exact⟨p,vs,g,f,by rw[j p (λz=>f (by rw[z];exact l))];exact e,lb.chg j l m r ds vs k⟩
 | Ϩ ks ds,v,h=>by
  rw[Sa]at h ⊢;obtain⟨p,vs,g,f,e,s,k⟩:=h;exact⟨p,vs,g,f,by unfold Rd at e ⊢;rw[j p (λz=>f (by rw[z];exact l))];exact e,s,lb.chg j l m r ds _ k⟩
 | ϸ c ns ds,v,h=>by
  rw[Sa]at h ⊢;obtain⟨p,y,vs,g,f,e,s,k⟩:=h;exact⟨p,y,vs,g,f,by rw[j p (λz=>f (by rw[z];exact l))];exact e,s,lb.chg j l m r ds _ k⟩
 | .Us c,v,h=>by
  rw[Sa]at h ⊢;obtain⟨p,w,g,f,e,k⟩:=h;refine⟨p,w,g,f,by rw[j p (λz=>f (by rw[z];exact l))];exact e,λn q=>?_⟩;obtain⟨t,A,u,B⟩:=k n q;exact⟨t,A,u,by rw[j t (λz=>u (by rw[z];exact l))];exact B⟩
 | .gt ss,v,h=>by rw[Sa]at h ⊢;exact h
theorem lb.chg(i:∀ b,b≠a->H' b=H b)(g:a∈μ)(e:∀ xs,H a≠BD (.Qa xs))(f:∀ o xs,H a≠BD (Ϭ o$ ϯ xs)):∀ (c:B') (vs:n'),lb T μ H c vs->lb T μ H' c vs
 |[],vs,h=>by simpa [lb]using h
 |d::c,vs,h=>by
  rw[lb]at h ⊢;obtain⟨v,r,j,k,l⟩:=h;exact⟨v,r,j,Sa.chg i g e f d v k,lb.chg i g e f c r l⟩
end
def zI(i:∀ b,b≠a->H' b=H b)(g:a∈μ)(e:∀ xs,H a≠BD (.Qa xs))(f:∀ o xs,H a≠BD (Ϭ o$ ϯ xs)){xs}{d}(h:Paired (λ p q =>p.1=q.1/\Sa T μ H p.2 q.2) xs d) :
  Paired (λ(p:c × D) (q:c × V)=>p.1=q.1/\Sa T μ H' p.2 q.2) xs d:=L2.Paired.Jp h λp q z=>⟨z.1,Sa.chg i g e f _ _ z.2⟩
theorem Rn.chg(d:∀ b,b≠a->H' b=H b)(i:a∈μ)(f:∀ xs,H a≠Option.some (.Qa xs))(g:∀ o xs,H a≠Option.some (Ϭ o$ ϯ xs))(e:b≠a):∀ {o:Ob},Rn T μ H b o->Rn T μ H' b o
 | ϒ ds,⟨vs,h,r⟩=>⟨vs,(d b e).trans h,lb.chg d i f g _ _ r⟩
 | Ϗ j,⟨vs,h,r⟩=>⟨vs,(d b e).trans h,zI d i f g r⟩
 | ϔ c m,⟨k,vs,h,r⟩=>⟨k,vs,(d b e).trans h,zI d i f g r⟩
 | .He j,⟨l,vs,h,r⟩=>⟨l,vs,(d b e).trans h,zI d i f g r⟩
 | ϧ ks,⟨vs,h,r⟩=>⟨vs,(d b e).trans h,r⟩
def ud.chg(r:ud T μ H σ)(f:∀ b,b≠a->H' b=H b)(g:μ[n]?=BD a)(i:∀ xs,H a≠BD (.Qa xs))(j:∀ o xs,H a≠BD (Ϭ o$ ϯ xs))(l:Rn T μ H' a ob):ud T μ H'$ σ.set n ob:=by
 have e:=wa g;refine⟨by simp[r.len],r.nd,λm x h=>?_,r.tb.out f$ ϑ e⟩;rw[pe]at h;by_cases c:n=m
 ·subst c
  simp_all
 ·rw[qa c]at h;obtain⟨b,d,k⟩:=r.obs m x h;exact⟨b,d,k.chg f e i j (λz=>c (by subst z;exact QG r.nd g d))⟩
end
def _root_.L2.db.Pw{st}(I:db X d st H s)(f:H a=BD (Ϭ t$ ϛ g))(l:∀ o u,X.H₀ a≠BD (Ϭ o u)):db X d st (Wb H a$ ϛ g) s:=by
 have i:∀ b u,H b=BD u->(∀ o w,u≠ Ϭ o w)->b≠a:=λb u q n z=>by rw[z,f]at q;exact n _ _ (Nb q).symm
 refine⟨I.ok,I.os,I.bare,⟨I.base.keep,I.base.slot,λb o e n r=>?_,I.base.there,λb xs e=>?_,λb o u e=>?_,λb ps e=>?_⟩,I.loc,I.cell,?_,λx c e=>?_,λp m=>?_,λb u e=>?_,I.len⟩
 ·have:=I.base.free b o e n r;rw[Ad (λz=>by rw[z,f]at this;cases this)];exact this
 ·have:=I.base.Yj b xs e;rw[Ad$ i b _ this (λC C z=>by cases z)];exact this
 ·have:=I.base.zi b o u e;rw[Ad (λz=>l o u ⋯)];exact this
 ·obtain⟨h,this⟩:=I.base.Bj b ps e;exact⟨h,by rw[Ad$ i b _ this (λC C z=>by cases z)];exact this⟩
 ·rw[Ad (λz=>by have:=I.free;rw[z,f]at this;cases this)];exact I.free
 ·have:=I.dg x c e;rw[Ad (λz=>by rw[z,f]at this;cases this)];exact this
 ·obtain⟨A,j,B⟩:=I.pin p m;exact⟨A,by rw[Ad (λz=>by rw[z,f]at j;cases j)];exact j,B⟩
 ·by_cases k:b=a
  ·subst k;rw[Mf]at e;cases e;exact(I.Fc b _ f).2
  ·rw[Ad k]at e;refine(I.Fc b u e).yj (λc v C z=>z) (λc z=>?_) λc xs z=>?_
   ·rw[Ad$ i c _ z (λC C y=>by cases y)];exact z
   ·rw[Ad$ i c _ z (λC C y=>by cases y)];exact z
section
variable{elts:List Oa}{kk:Nat}{p0:Td}
def iL(o:H a=BD (Ϭ l$ ϛ c))(s:eh T m H f c):lB T m H (Lq f)$ Itm a l c:=by
 intro v A w i ex t;have h:=ex.Ud _ _ _ o;have e:=eh.mono ex s;unfold Lq;cases n:f[i]? with
 |none=>
  by_cases j:i=f.length
  ·rw[ka j];exact⟨h,by rw[j];exact Paired.length e⟩
  simp_all
 |some p=>
  obtain⟨q,k,g,u⟩:=pN e i n;refine⟨⟨h,q,k⟩,λz x y=>?_⟩;obtain⟨r,B,C,b,rfl,d,rfl⟩:=y;rw[k]at d;cases d;refine⟨ek b,t.fresh b,?_⟩;rw[Sa,g];exact⟨r,_,rfl,Mf,lb.cons (JT _)$ lb.cons (Sa.mono (ek b) _ _ u) lb.nil⟩
def RH(d:D):M NX:=λb=>match d with
 | Ϩ ks xs=>if ks.length=xs.length then O (Lq$ ks.zip xs) b else Ϙ
 | U n=>(match b[n]? with
  |some (Ϗ a)=>O (Lq a) (b.set n$ .He a)
  |some (.He a)=>O (Lq a) b
  |_=>Ϙ)
 |_=>Ϙ
def bH(f:Ev->M D):Ev->M NX:=λa=>Tc (f a) RH
def E5(h:FE T X e f)(E:Dd e "items" X.env (Mb e X.env)=Mb e X.env:=by rfl)(G:(w.endLine == x.line)=Ĳ:=by rfl) :
  Gs T X (ϱ elts kk p0) (ϡ (ϟ e "items" w) [] [] x)$ bH f:=by
 intro P s st H R I hw;refine PX (GS se mh Fn sX h E G) P s st H R I ?_;obtain⟨μ,ρ,σ,hE,hr,hp⟩:=hw;refine⟨μ,ρ,σ,hE,hr,hp.bind λd u c v i b e1 ϋ q1 p=>?_⟩;unfold RH at p;cases d with
 |Xa ks xs=>
  dsimp only at p;by_cases hl:ks.length=xs.length
  ·rw[ka hl]at p;obtain⟨a,j,rfl,S,q,Y,ϊ⟩:=q1;refine⟨⟨a,j,rfl,q⟩,a,j,rfl,rfl,q,λl g=>?_⟩;have t:a≠l:=by rcases q with q|⟨_,q⟩<;>exact Pn q g
   have W:Rd (Wb i l$ Ϫ$ Hq l a) a$ ϛ j:=by unfold Rd;rw[Ad t];exact q
   refine⟨l,a,j,rfl,Mf,W,λL m=>?_⟩;have B:Cd c i c$ Wb i l$ Ϫ$ Hq l a:=ek g;have k:ud T c (Wb i l$ Ϫ$ Hq l a) u:=ϋ.fresh g;obtain⟨x2,a0⟩:Cd c i c _/\ud T c _ u:=by
    rcases m with m|m
    ·have y:=TR (μ:=c) (od:=L) m;exact⟨B.trans y,k.keep y (λb V=>Ad (λz=>S (by rw[<-z];exact V)))$ k.tb.out (λb V=>Ad V)$ ϕ ⟨_,m⟩⟩
    ·rw[sG m];exact⟨B,k⟩
   exact Rb.here (Rb.mono x2 p) a0$ iL Mf$ eh.mono x2$ MG Y ϊ
  ·rw[qa hl]at p;exact p.elim
 |ref n=>
  dsimp only at p;cases Q:u[n]? with
  |none=>rw[Q]at p;exact p.elim
  |some o=>
   rw[Q]at p;obtain⟨a,rfl,S,ό⟩:=ϋ.at q1 Q;cases o with
   |Xa j=>
    obtain⟨vs,C,J⟩:=ό;have q:Rd i a _:=ϑ C;refine⟨⟨a,vs,rfl,q⟩,a,vs,rfl,rfl,q,λl g=>?_⟩;have t:=Pn C g;have r:Wb i l (Ϫ$ Hq l a) a=BD (ϛ vs):=by rw[Ad t];exact C
    refine⟨l,a,vs,rfl,Mf,ϑ r,λL b=>?_⟩;have B:Cd c i c$ Wb i l$ Ϫ$ Hq l a:=ek g;have k:ud T c (Wb i l$ Ϫ$ Hq l a) u:=ϋ.fresh g;have N:Cd c _ c$ Wb _ a$ Ϭ L$ ϛ vs:=Ss (wa S) r (λb z=>by cases z) (λb b z=>by cases z);have A:=eh.mono (B.trans N) J;exact Rb.here (Rb.mono (B.trans N) p) (k.write (ob:=.He j) S ⟨L,vs,Mf,A⟩$ λkv z=>by rw[Q]at z;cases z).2$ iL Mf A
   |He j=>
    obtain⟨K,vs,C,J⟩:=ό;have q:Rd i a _:=ϕ ⟨K,C⟩;refine⟨⟨a,vs,rfl,q⟩,a,vs,rfl,rfl,q,λl g=>?_⟩;have t:a≠l:=Pn C g;have r:Wb i l (Ϫ$ Hq l a) a=BD (Ϭ K$ ϛ vs):=by rw[Ad t];exact C
    refine⟨l,a,vs,rfl,Mf,ϕ ⟨K,r⟩,λL m=>?_⟩;have B:Cd c i c$ Wb i l$ Ϫ$ Hq l a:=ek g;have k:ud T c (Wb i l$ Ϫ$ Hq l a) u:=ϋ.fresh g;rcases m with m|m
    ·rw[r]at m;cases m
    ·rw[sG m];exact Rb.here (Rb.mono B p) k$ iL m$ eh.mono B J
   |_=>exact p.elim
 |_=>exact p.elim
def nD{c:Type}(ok:c->Bool)(n:Nat):Vi c->Vi c
 | O a σ=>if ok a=Ĳ then (match σ[n]? with
  |some (.He b)=>O a (σ.set n$ Ϗ b)
  |_=>Ϙ)else Ϙ
 |_=>Ϙ
def UI{b:Type}(ok:b->Bool)(m:M D)(g:M b):M b:=λa=>match m a with
 | O (U n) _=>(match a[n]? with
  |some (Ϗ _)=>nD ok n (g a)
  |_=>g a)
 |_=>g a
noncomputable def SN:Fl->Bool
 | .xc _ _=>Ε
 |_=>Ĳ
def aH(f:Ev->M D)(g:Ev->M Fl):Ev->M Fl:=λa=>UI SN (f a)$ g a
def î(ex:Cd e H b c)(i:a∈e)(f:H a=BD (ϛ d))(k:c a=BD (Ϭ j$ ϛ g)):Cd e H b$ Wb c a$ ϛ g:=by
 refine⟨ex.pre,λp xs h=>?_,λp o u h=>?_,λp o h n=>?_⟩
 ·rw[Ad (λz=>by rw[z,f]at h;cases h)];exact ex.Qa p xs h
 ·rw[Ad (λz=>by rw[z,f]at h;cases h)];exact ex.Ud p o u h
 ·rw[Ad (λz=>n ⋯)];exact ex.keep p o h n
def ĉ(D:y[n]?=BD a)(I:H a=BD (ϛ v))
  (G:∀ c e (d:s) (g:w) k f,a∈c->e a=BD (Ϭ k$ ϛ f)->ok d=Ĳ->R c e d g->R c (Wb e a$ ϛ f) d g) (h:Rb T E R y H (nD ok n o) Q) :
  Rb T E R y H o (λg e=>∃ k f,e a=BD (Ϭ k$ ϛ f)/\Q g (Wb e a$ ϛ f)/\∃ c d,ok d=Ĳ/\R c e d g):=by
 cases o with
 |Eb=>exact h
 |ex x q=>trivial
 |ok d q=>
  unfold nD at h;dsimp only at h;by_cases i:ok d=Ĳ
  ·rw[ka i]at h;cases t:q[n]? with
   |none=>rw[t]at h;exact h.elim
   |some ob=>
    rw[t]at h;cases ob with
    |He K=>
     intro c g e ex r F;obtain⟨a',m,k,f,p,u⟩:=r.obs n _ t;have j:=ex.get D;rw[j]at m;cases m;have l:=wa j;have C:∀ b,b≠a->Wb e a (ϛ f) b=e b:=λb J=>Ad J;have A:∀ xs,e a≠BD (.Qa xs):=λxs z=>by rw[p]at z;cases z
     have B:∀ o xs,e a≠BD (Ϭ o$ ϯ xs):=λo xs z=>by rw[p]at z;cases z
     exact⟨k,f,p,h c g _ (î ex (wa D) I p) (r.chg C j A B ⟨f,Mf,zI C l A B u⟩)$ G c e d g k f l p i F,c,d,i,F⟩
    |_=>exact h.elim
  ·rw[qa i]at h;exact h.elim
def EH(f:a∈c)(g:e a=BD (Ϭ k$ ϛ i)) d v(h:Sa T c e d v):Sa T c (Wb e a$ ϛ i) d v:=
 Sa.chg (λb j=>Ad j) f (λxs z=>by rw[g]at z;cases z) (λo xs z=>by rw[g]at z;cases z) d v h
set_option tactic.hygienic true in
def zt5(h:FS T X s g):FS T X s$ aH f g:=by
 intro r L st H D I k;obtain⟨N,ό,P,J,F,y⟩:=k;have m:=λq=>h r L st H D I ⟨N,ό,P,J,F,q⟩;unfold aH UI at y;split at y
 ·rename_i n _ _
  split at y
  ·rename_i ϋ Q
   obtain⟨a,S,W,K,_⟩:=F.obs n _ Q;have E:∀ o u,X.H₀ a≠BD _:=λo u z=>by have:=I.base.zi a o u z;rw[K]at this;cases this
   have q:=ĉ S K (λG c d x j vs p e w l=>by
    cases d with
    |xc _ _=>cases w
    |nx C=>cases x<;>first|exact l.elim|exact⟨l.1,λi d q=>let ⟨v,A,B⟩:=l.2 i d q;⟨v,A,EH p e _ _ B⟩⟩
    |bk C=>cases x<;>first|exact l.elim|exact⟨l.1,λi d q=>let ⟨v,A,B⟩:=l.2 i d q;⟨v,A,EH p e _ _ B⟩⟩
    |ct C=>cases x<;>first|exact l.elim|exact⟨l.1,λi d q=>let ⟨v,A,B⟩:=l.2 i d q;⟨v,A,EH p e _ _ B⟩⟩
    |rt Y=>cases x<;>first|exact l.elim|exact EH p e _ _ l) y
   refine dc (h r L st H ⟨λb c=>∃ j vs,c a=BD (Ϭ j$ ϛ vs)/\D.nx b (Wb c a$ ϛ vs),λv c=>∃ j vs,c a=BD (Ϭ j$ ϛ vs)/\D.rt v (Wb c a$ ϛ vs),λb c=>∃ j vs,c a=BD (Ϭ j$ ϛ vs)/\D.bk b (Wb c a$ ϛ vs),λb c=>∃ j vs,c a=BD (Ϭ j$ ϛ vs)/\D.ct b (Wb c a$ ϛ vs)⟩ I ⟨N,ό,P,J,F,q.imp λx c z=>?_⟩) (λR ϊ z=>?_) λ_ _ z=>z
   ·obtain⟨j,vs,e,k,G,d,w,l⟩:=z;cases x with
    |nx b=>exact⟨j,vs,e,k⟩
    |rt v=>exact⟨j,vs,e,k⟩
    |bk b=>exact⟨j,vs,e,k⟩
    |ct b=>exact⟨j,vs,e,k⟩
    |xc b cls fd=>cases d<;>first|exact l.elim|cases w
   ·cases R with
    |next=>obtain⟨b,c,t,j,vs,e,k⟩:=z;exact⟨b,_,t.Pw e E,k⟩
    |brk=>obtain⟨b,c,t,j,vs,e,k⟩:=z;exact⟨b,_,t.Pw e E,k⟩
    |cont=>obtain⟨b,c,t,j,vs,e,k⟩:=z;exact⟨b,_,t.Pw e E,k⟩
    |ret u=>obtain⟨v,b,c,t,V,j,vs,e,k⟩:=z;exact⟨v,b,_,t.Pw e E,V,k⟩
  ·exact m y
 ·exact m y
end
def MA:Dk T X a fq:=λpins s st H D I ⟨c,d,σ,_,_,b⟩=>b.elim
open Classical in
noncomputable def dH(a b:B'):M$ B':=ret$ b++a
def Fz(a:B')(b:Ev->M (B')):Ev->M (B'):=λc=>Tc (b c)$ dH a
def zlv(hm:X.mg x=BD (yb$ T.ca c))(z:Mk T.K (T.ca c) f)(ό:Er T.K L ps b)
  (N:jh X.prog X.w T.K X.mg X.base (jl X.prog X.w) k f L ps$ Ho T ps.length h) (hv:ie d b) (C:∀ y H,lb T y H a d) (S:T.K=X.K) (hr:Qd (k+1) X.A) (ϊ:Gl X x)
  (ϋ:FA T X (e::l) i) (B:(x == ("__debug__" : Str))=Ε:=by decide) (Y:va (e::l) X.env=(Ε,Mb e X.env)::va l X.env:=by rfl) (F:(lc g$ va l X.env).any (·.1)=Ε:=by rfl) :
  FE T X (ϡ (Ϝ x p) (e::l) [] g)$ Xp c ps.length h$ Fz a i:=by
 rw[S]at z N ό;rintro m s st H Q I ⟨y,n,o,R,G,hp⟩;have E:Rb T (XE X st) (Sa T) y H (Tc (i n) (λt=>Vk c ps.length h$ t++a) o) Q:=by
  have:Xp c ps.length h (Fz a i) n o=Tc (i n) (λt=>Vk c ps.length h$ t++a) o:=by
   unfold Xp Fz dH Tc;cases i n o<;>rfl
  simp_all
 refine Ve$ RB I ϊ hm (Ϲ I.ok.mod.Rw z.kp (Ed (ϋ g m s st H (λvs j=>∀ x u,j x=V6->j u=V6->u≠x->Ho T ps.length h (ϖ x::(vs++d)) (Wb (Wb j u$ .own x) x$ .ub (T.ca c) u []) (λv P=>v=.Zb/\Q (ϖ x) P) (XE X st)) I ⟨y,n,o,R,G,E.bind λt a1 a0 vs j D e1 r1 p1 q1=>?_⟩) λus s1 ⟨vs,j,J,r,q⟩=>⟨J.Ai,?_⟩) Y F) B
 ·have:=sQ r1 (lb.append p1$ C _ _) q1
  grind
 ·exact aQ z N hr ό hv J r q
def zR(C:X.mg x=BD (yb$ T.ca c))(t:Mk T.K (T.ca c) f)(h:Nt T X.prog X.w X.mg X.base k f ps n o)(y:a=[]\/a=n)(F:ie d a)(l:∀ G H,lb T G H b d)(s:T.K=X.K)(E:Qd (k+1) X.A)(B:Gl X x)
  (u:FA T X (e::g) q) (j:(x == ("__debug__" : Str))=Ε:=by decide) (z:va (e::g) X.env=(Ε,Mb e X.env)::va g X.env:=by rfl) (m:(lc i$ va g X.env).any (·.1)=Ε:=by rfl) :
  FE T X (ϡ (Ϝ x p) (e::g) [] i)$ Xp c ps.length o$ Fz b q:=by
 obtain⟨I,J,v,r⟩:=h;exact zlv C t (by rcases y with rfl|rfl<;>assumption) r F l s E B u j z m
def Rv{a:Type}(f:D->Option a):B'->Option (List a)
 |[]=>BD []
 |d::ds=>match f d,Rv f ds with
  |some k,BD ks=>BD (k::ks)
  |_,_=>V6
noncomputable def jZ:D->Option (B')
 | ώ ds=>BD ds
 |_=>V6
def wv:(n:Nat)->D->Option (NK n)
 |0=>Bi
 |n+1=>λd=>match jZ d with
  |some ds=>(Rv (wv n) ds).map Sum.inr
  |none=>(Bi d).map Sum.inl
theorem yO{i:dl}{H:Hp}{n:Nat}{f:D->Option (NK n)}(g:∀ {d:D} {v:V} {k:NK n},Sa T i H d v->f d=BD k->NR H n k v):∀ {a:B'} {vs:n'} {ks:List$ NK n},lb T i H a vs->Rv f a=BD ks->Paired (NR H n) ks vs
 |[],vs,ks,h,e=>by rw[lb]at h;cases e;subst h;exact Ϡ
 |d::a,vs,ks,h,e=>by
  obtain⟨v,r,rfl,j,l⟩:=h;unfold Rv at e;cases b:f d with
  |none=>rw[b]at e;cases e
  |some k=>
   cases c:Rv f a with
   |none=>rw[b,c]at e;cases e
   |some m=>rw[b,c]at e;cases e;exact ϝ (g j b)$ yO g l c
theorem UQ{h:dl}{H:Hp}:∀ (n:Nat) {d:D} {v:V} {k:NK n},Sa T h H d v->wv n d=BD k->NR H n k v
 |0,_,_,_,r,e=>Cw r e
 |n+1,d,v,k,r,e=>by
  cases c:jZ d with
  |some ds=>
   simp[wv,c]at e;obtain⟨ks,a,rfl⟩:=La.mp e;cases d<;>cases c;obtain⟨b,ws,rfl,g,f⟩:=r;exact⟨b,ws,rfl,g,yO (λr e=>UQ n r e) f a⟩
  |none=>
   simp only[wv,c]at e;obtain⟨i,a,rfl⟩:=La.mp e;exact Cw r a
def Ip:B'->Option TK:=Rv$ wv 4
def ZV(d:H b=BD (.Qa ws))(a:lb T f H c ws)(e:Ip c=BD k):NR H 5 (.inr k)$ ϖ b:=⟨b,ws,rfl,d,yO (λr e=>UQ 4 r e) a e⟩
noncomputable def LK:Ev->M D:=λb a=>O (U a.length)$ a++[ϧ []]
def Þ:FE T X (.Dict [] [] b) LK:=by
 rintro a s f H Q I ⟨h,i,j,g,d,e⟩;exact ó a s f H Q I λp c=>(e _ _ _ (wu c) (d.push c ⟨[],Mf,rfl⟩)$ GB d)
open Classical in
def aq(ks:List TK)(k:TK):List TK:=if k∈ks then ks else ks++[k]
open Classical in
theorem zi1 a(k:TK) v:(ik a k v).map (·.1)=if k∈a.map (·.1)then a.map (·.1)else a.map (·.1)++[k]:=by
 unfold ik;by_cases h:k∈a.map (·.1)
 ·have:(a.any λc=>decide$ c.1=k)=Ĳ:=by
   obtain⟨p,b,e⟩:=na.mp h;exact Qc.mpr ⟨p,b,by simpa using e⟩
  rw[ka this,ka h,Va];refine ve λp b=>?_;show (if p.1=k then (p.1,v)else p).1=p.1;split<;>rfl
 ·have:¬ (a.any λc=>decide$ c.1=k)=Ĳ:=λz=>by
   obtain⟨p,b,e⟩:=Qc.mp z;exact h$ na.mpr ⟨p,b,by simpa using e⟩
  rw[qa this,qa h,gd];rfl
def ME(c:Ev)(x y:D):M Fl:=λa=>match x,y with
 | U n,ώ b=>(match Ip b,a[n]? with
  |some k,BD (ϧ ks)=>if ks.length<Dg then O (ϙ c) (a.set n$ ϧ$ aq ks k)else Ϙ
  |_,_=>Ϙ)
 |_,_=>Ϙ
def MN(a:Ev)(b:Ev->M D)(x:D):M Fl:=xs a (b a)$ ME a x
def EM(a:Ev)(c b:Ev->M D)(_:D):M Fl:=xs a (c a)$ MN a b
def aI(f c b:Ev->M D):Ev->M Fl:=λa=>xs a (f a)$ EM a c b
def Ħ(hu:X.A.units+9<cLine)(ϊ:FE T X e f)(ho:FE T X o Q)(hi:FE T X i fi)
  (W:∀ v,dj (Ϟ o i c) X.env v=(do
   let r <-qe [v] (Mb o X.env);let E <-qe [v,r] (Mb i X.env)
   oh c
   qe [v,r,E] (yq r E v)
   NC [v,r,E] []):=by intro _;rfl)
  (hs:Sl [Ϟ o i c] e p.line X.env=pure Ε:=by rfl) (hw:Tl [Ϟ o i c] e X.env=pure V6:=by rfl)
  (V:(ge [Ϟ o i c] X.env).map (·.2)=[dj (Ϟ o i c) X.env]:=by rfl):FS T X (Ϻ [Ϟ o i c] e p)$ aI f Q fi:=by
 intro m s st H D I hq;refine cP ϊ (oM ho hi (cU hu) W) hs hw V m s st H D I ?_;obtain⟨μ,K,σ,h,hr,hp⟩:=hq;refine⟨μ,K,σ,h,hr,hp.xs h λd L G v H1 d j r1 q1 p1=>⟨G,K,L,h.mono j,r1,p1.xs (h.mono j) λx N J vo H2 d u r2 q2 p2=>⟨J,K,N,(h.mono j).mono u,r2,p2.xs ((h.mono j).mono u) λy ό a0 vi H3 d P S q3 g=>?_⟩⟩⟩;have hx:=Sa.mono P _ _ q2;unfold ME at g;cases x with
 |ref n=>
  cases y with
  |Qa ys=>
   dsimp only at g;cases w:Ip ys with
   |none=>rw[w]at g;exact g.elim
   |some k=>
    rw[w]at g;cases q:ό[n]? with
    |none=>rw[q]at g;exact g.elim
    |some ob=>
     rw[q]at g;cases ob with
     |Vc ks=>
      dsimp only at g;by_cases B:ks.length<Dg
      ·rw[ka B]at g;obtain⟨a,rfl,hn,vs,ϋ,R⟩:=S.at hx q;obtain⟨b,ws,rfl,Y,C⟩:=q3;have F:=S.write (o:=.dT$ ik vs k v) (ob:=ϧ$ aq ks k) hn ⟨_,Mf,by
        subst R;rw[zi1];rfl⟩ (λkv z=>by rw[q]at z;cases z)
       have l:vs.length=ks.length:=by rw[<-R,Ea]
       exact⟨a,_,rfl,Fx.t ϋ (ZV Y C w) (by rw[l];exact Ja B ⋯),g _ (Ϸ st) _ F.1 F.2$ ((h.mono j).mono u).mono P |>.mono F.1⟩
      ·rw[qa B]at g;exact g.elim
     |_=>exact g.elim
  |_=>exact g.elim
 |_=>exact g.elim
theorem FV(k:TK):∀ a:List$ TK × V,(Ek a k).isSome=Ĳ ↔ k∈a.map (·.1)
 |[]=>by rw[J0];simp
 |p::a=>by
  by_cases e:p.1=k
  ·rw[EE e];simp[e]
  ·rw[gF e,FV k a,Ta,za];exact⟨ϕ,λz=>z.elim (λy=>absurd y.symm e) id⟩
open Classical in
def Fy(y x:D):M D:=λa=>match y,x with
 | ώ b,U n=>(match Ip b,a[n]? with
  |some k,BD (ϧ ks)=>O (ϐ$ decide$ k∈ks) a
  |_,_=>Ϙ)
 |_,_=>Ϙ
def vU:pk T EL Fy:=by
 intro E s H m y x u v Q r q p h;unfold Fy at h;cases y with
 |Qa l=>
  cases x with
  |ref n=>
   dsimp only at h;cases c:Ip l with
   |none=>rw[c]at h;exact h.elim
   |some k=>
    rw[c]at h;cases d:m[n]? with
    |none=>rw[d]at h;exact h.elim
    |some ob=>
     rw[d]at h;cases ob with
     |Vc ks=>
      obtain⟨a,rfl,o,j,f,g⟩:=r.at p d;obtain⟨b,ws,rfl,i,e⟩:=q;refine⟨a,Ek j k,rfl,Ui.t f$ ZV i e c,Rb.here h r ?_⟩;congr 1;rw[zf,FV,g];simp
     |_=>exact h.elim
  |_=>exact h.elim
 |_=>exact h.elim
def Q9(h:mH T f g c J):lB T f g c.nx J:=λl H j i ex r=>by
 have q:=h l H j i ex r;cases e:c.nx i j with
 |none=>trivial
 |some o=>
  rw[e]at q;cases o with
  |none=>exact q
  |some d=>exact⟨q.1,λx k y=>let ⟨a,b⟩:=q.2 x k y;by subst a;exact⟨ϰ _ _,r,b⟩⟩
noncomputable def uN(s:Ej):M NX:=ret s.nx
def Ht(f:Ev->M Ej):Ev->M NX:=λa=>Tc (f a) uN
def n4(h:FI T X c a f):Gs T X c a$ Ht f:=by
 rintro b s m H R I ⟨n,p,q,d,g,e⟩;exact h b s m H R I ⟨n,p,q,d,g,e.bind λl r o J t l u k j i=>Rb.here i k$ Q9 j⟩
def F4{K}
  (hN:X.N.Nodup) (hi:X.N[i]?=BD y) (hx:Loc X.env.scope y)
  (hc:X.qc=Ĳ) (L:Zj X x M' ix f) (V:Gs T X A l ό)
  (b5:∀ cl C j h ex,FG T (Do X (x::z0::M') f cl C j h ex) A tg)
  (a8:∀ cl C j h ex,lw T (Do X (x::z0::M') f cl C j h ex) K fi)
  (S:∀ cl C j h ex,FE T (Do X (x::z0::M') f cl C j h ex) F fe)
  (hs:∀ y,ye l X.env y=pure y:=by intro _;rfl)
  (b3:Ng (ϴ F [⟨A,l,K,0⟩] f a0) (BD$ Ϝ y py) E.line X.env=pure Ĳ:=by rfl)
  (hf:X.fn y=Ĳ\/X.env.scope.names.lookup y=BD .local:=by first|exact .inl rfl|exact .inr rfl|assumption) :
  FS T X (Ϻ [Ϝ y py] (ϴ F [⟨A,l,K,0⟩] f a0) E)$ Tf i$ Nn ό ix tg fi fe:=by
 rintro B s st H D I ⟨μ,ρ,σ,hE,hr,b1⟩;have hp:Rb T _ _ μ H (Nn ό ix tg fi fe ρ σ) (λv Q=>D.nx _ Q):=b1.xs hE λd a3 a2 v Q d e1 r1 q1 p1=>Rb.here (g:=Ϸ$ st.set i$ BD v) p1 r1$ (hE.mono e1).set i q1;rw[exec_Assign_Name_used _ _ _ _ b3];refine aa$ nt$ aa ?_;refine aa (dc (yt rfl hs (bK X.env f$ jA I L) L.kind (λy hy e=>?_)
  ?_) (λd s' hq=>da$ da hq) λd d e=>e)
 ·have q:=Bb.mp L.names y hy;rw[e]at q;exact eq_of_beq q
 have h1:=V B s st H (λJ t=>∃ nx k a4,Cd μ H k t/\ud T k t a4/\lB T k t nx J/\Rb T (XE X st) (Sa T) k t _ (λv Q=>D.nx (st.set i$ BD v) Q)) I
  ⟨μ,ρ,σ,hE,hr,hp.bind λnx a3 a2 J Q d e1 r1 q1 p1=>⟨nx,a2,a3,e1,r1,q1,p1⟩⟩
 refine Ed h1 λv s1 h2=>Ed h2 λb8 s2 h3=>?_;obtain⟨it,fp,tn,J,t,rfl,I2,TT,a1,f2,nx,k,a4,a5,r2,so,p2⟩:=h3;refine ic$ vk (AD L) (by intro y hy;simp at hy) (λW u w=>?_) L.kind;have P:=I2.gA (t':=s2.toks) Ϡ ⋯;have R:t s2.heap.objs.size=V6:=I2.Fc.fresh$ ua _;have G:Cd k t (k++[s2.heap.objs.size])$ Wb t s2.heap.objs.size$ ϯ []:=wu R;have b4:s2.heap.objs.size<(s2.heap.push { cls:=Uh "list",data:=Ϧ [].toArray }).objs.size:=by rw[Xc];exact Jb _
 have kp:∀ b o,(s2.heap.push { cls:=Uh "list",data:=Ϧ [].toArray }).get? b=BD o->W.get? b=BD o:=λb o e=>w.extBut b o (Aa$ ya e)$ ga _ e;have n:∀ b∈fp,Sk X B (Wb t s2.heap.objs.size$ ϯ []) b/\b<(s2.heap.push { cls:=Uh "list",data:=Ϧ [].toArray }).objs.size:=λb m=>by
  obtain⟨o,e,_⟩:=TT.obj 0 _ a1 b m;have lt:=ya e;exact⟨⟨by rw[Ad$ Aa lt];exact(f2 b m).1,(f2 b m).2⟩,br lt b4⟩
 refine xS hc L b5 a8 S P n u kp TT (TT.keep 0 _ _ a1 λb m o e=>kp b o$ ga _ e)
  (λμ H σ i ex r=>so μ H σ i (G.trans ex) r) ((hE.mono a5).mono G) (r2.push (ob:=ϒ []) R ⟨[],Mf,lb.nil⟩) (by rw[<-r2.len];simp) (p2.mono G) (λs6 H' m6 a9 a6 b6 b0 ϋ a7 hq=>?_)
 have ϊ:X.env.locals<(s2.heap.push { cls:=Uh "list",data:=Ϧ ([]:gV).toArray }).objs.size:=P.lt;have Y:∀ z c,X.env.cells.lookup z=BD c->c<(s2.heap.push { cls:=Uh "list",data:=Ϧ ([]:gV).toArray }).objs.size:=λz c e=>by
  obtain⟨v,q⟩:=P.cell z c e;exact q.lt
 refine zC$ NQ (v:=ϖ s2.heap.objs.size) (L2.db.Ou (s':=s6) (ch:=fp) P b0 b6 ϋ a7$ λb m=>⟨(n b m).1.2.2.2.1,(n b m).1.2.1,(n b m).1.2.2.2.2.1,(n b m).1.2.2.2.2.2⟩) hN hi hx rfl (λs7 I7 ſ=>?_) hf;obtain⟨a,sb,ha⟩:=ſ;have b7:a≠(s2.heap.push { cls:=Uh "list",data:=Ϧ ([]:gV).toArray }).objs.size:=by
  rcases ha with rfl|ha
  ·exact Aa ϊ
  ·exact Aa$ Y _ _ ha
 refine⟨m6,a9.sameBut sb$ Jd b7,λh8 b2=>⟨st.set i$ BD$ ϖ s2.heap.objs.size,H',?_,hq⟩⟩;exact I7.turned (t':=s7.toks) (it:=(s2.heap.push { cls:=Uh "list",data:=Ϧ ([]:gV).toArray }).objs.size) (λb o m e=>(b2.2 b m).trans e) a6 (Sd ϊ) (ϕ$ ib P.sz$ ua _) (λz c e=>Aa$ Y z c e) (λp hp=>Aa$ ya (P.pin p hp).1)
structure Am(K:ϗ)(C:Addr):Prop where
 f:W.findIn K (yb C) "__eq__" = BD (BD (Ϣ "object.__eq__"))
 o:W.mroIn K C (Uh "object")=BD Ĳ
section
variable{prog:Ca}{w:Wa}{K:ϗ}{A:Ra}{E:Value->Shared->Prop}{h:Heap}{g:Array Gh}{d:Uo}{t:Nat}{os:iv}{x y C D:Addr}{ox oy:Obj}
def OX{M}(X:K.In h)(f:W.findIn K (yb C) a=BD r)(e:h.get? x=BD ox)(b:ox.cls=yb C)(c:Q r ⟨h,g,d,t,os⟩):wpAny M A (specialOf (yb x) a) Q E ⟨h,g,d,t,os⟩:=by
 unfold specialOf;repeat (first|(with_reducible refine Md e ?_;rw[b])|(with_reducible refine W.Looks.at (W.looks_findIn X f) ?_)|wp_step)
 exact c
def OV(X:K.In h)(c:Am K C)(n:h.get? x=BD ox)(l:ox.cls=yb C)(r:h.get? y=BD oy)(i:x≠y)(q:Q .notImplemented ⟨h,g,d,t,os⟩) :
  wpAny (model prog w) A (call (Ϣ "object.__eq__") [yb x,yb y]) Q E ⟨h,g,d,t,os⟩:=by
 refine aj$ sk qm.eq.plain sJ ?_;have j:=qP (yb x)$ yb y;have f:=W.looks_mroIn (M:=model prog w) X c.o;have b:ox.cls≠ Uh "tuple":=by rw[l];intro e;cases e
 simp only[UF,rP,tJ];refine aa ?_;unfold IA;have s:∀ (k:Unit->Shared->Prop),k () _->wpAny (model prog w) A (match xg "object.__eq__" with|some sig=>Rf "object.__eq__" sig ⟨[yb x,yb y],[]⟩|none=>pure ()) k E ⟨h,g,d,t,os⟩:=λk m=>by
  cases a:xg "object.__eq__" with
  |none=>exact da m
  |some sig=>
   simp only[pr,a]at j;have p:Rf "object.__eq__" sig ⟨[yb x,yb y],[]⟩=pure ():=j;show wpAny _ A (Rf "object.__eq__" sig ⟨[yb x,yb y],[]⟩) k E _;rw[p];exact da m
 repeat (first|(with_reducible refine Md n ?_;rw[l])|(with_reducible refine W.Looks.at f ?_)|(with_reducible refine cj i n r b ?_)|wp_step)
 exact q
def vG(X:K.In h)(c:Am K C)(e:h.get? x=BD ox)(b:ox.cls=yb C)(j:h.get? y=BD oy)(a:x≠y)(i:Q V6 ⟨h,g,d,t,os⟩) :
  wpAny (model prog w) A (JA (yb x) "__eq__"$ yb y) Q E ⟨h,g,d,t,os⟩:=by
 refine aa ?_;simp only[Yy,Zy];refine Yb$ aa$ aa$ OX X c.f e b ?_;simp only[qm.eq.bind];refine aa$ Lg$ wpAny_ite ?_;split
 ·exact aa$ da$ da$ aa$ OV X c e b j a$ da$ da i
 ·exact Ie$ aa$ da$ da$ aa$ OV X c e b j a$ da$ da i
def ŭ(X:K.In h)(c:Am K C)(o:Am K D)(q:W.mroIn K D (yb C)=BD Ε)(f:h.get? x=BD ox)(k:ox.cls=yb C)(i:h.get? y=BD oy)(b:oy.cls=yb D)(j:C≠D)(r:A.units<cLine)(p:Q (fg Ε) ⟨h,g,d,t,os⟩) :
  wpAny (model prog w) A (Gb .Eq (yb x)$ yb y) Q E ⟨h,g,d,t,os⟩:=by
 have a:x≠y:=λe=>by
  simp_all
 have m:ox.cls≠ Uh "tuple":=by rw[k];intro e;cases e
 have n:=W.looks_mroIn (M:=model prog w) X q;have l:(yb C != yb D)=Ĳ:=by simp[j]
 show wpAny _ A (zk .Eq (yb x)$ yb y) Q E _;simp only[zk,DA,Zu];repeat (first|with_reducible refine ir r ?_|(with_reducible refine Md f ?_;rw[k])|(with_reducible refine Md i ?_;rw[b])|(rw[l,ka rfl];with_reducible refine aa$ W.Looks.at n ?_)|(with_reducible refine W.Looks.at n ?_)|(with_reducible refine vG X c f k i a ?_)|(with_reducible refine vG X o i b f (Jd a) ?_)|(with_reducible refine cj a f i m ?_)|wp_step)
 exact p
end
def dZ(K:ϗ):R2:=λv u H Q=>∃ x y C D a b c gs,v=ϖ x/\u=ϖ y/\H x=BD (.ub C a c)/\H y=BD (.ub D b gs)/\Am K C/\Am K D/\W.mroIn K D (yb C)=BD Ε/\C≠D/\Q (ϫ Ε) H
def fJ(K:ϗ)(a:Nat->Addr)(l:List$ Nat × Nat):Prop:=∀ p∈l,Am K (a p.1)/\Am K (a p.2)/\W.mroIn K (a p.2) (yb$ a p.1)=BD Ε/\a p.1≠a p.2
def Û{K}:fJ K a []:=λb h=>nomatch h
def jL{K}(a:Am K$ e c)(b:Am K$ e d)(m:W.mroIn K (e d) (yb$ e c)=BD Ε)(n:e c≠e d)(r:fJ K e l):fJ K e$ (c,d)::l:=λp f=>by
 rcases za.mp f with rfl|f
 ·exact⟨a,b,m,n⟩
 ·exact r p f
def w6(E:X.A.units+9<cLine):zh X (Gb .Eq)$ dZ X.K:=by
 intro b s st H v u m p Q I o n h;obtain⟨x,y,C,D,r,z,B,gs,rfl,rfl,f,i,c,e,j,a,q⟩:=h;obtain rfl:m=yb x:=o;obtain rfl:p=yb y:=n;obtain⟨_,_,_,k,_⟩:=(show Cj X.prog X.w H s.heap x _ from I.Fc x _ f)
 obtain⟨_,_,_,l,_⟩:=(I.Fc y _ i)
 obtain⟨h,g,d,t,F⟩:=s;exact ŭ I.Ai c e j k rfl l rfl a ⋯ ⟨ϫ Ε,H,I,rfl,q⟩
def DJ(x y:D):M D:=λa=>match x,y with
 | .gt ss,.gt c=>(match vn (Mj a 0) (ss.map ϓ) (c.map ϓ)with
  |some b=>O (ϐ b) a
  |none=>Ϙ)
 |_,_=>Ϙ
def J9(F:T.K=X.K)(ϋ:X.A.units+9<cLine):zh X (Gb .Eq)$ rD T DJ:=by
 intro c s st H v u k Y Q I N M h;obtain⟨E,l,S,x,y,r,g,i,a⟩:=h;unfold DJ at a;cases x with
 |gt ss=>
  cases y with
  |gt j=>
   dsimp only at a;cases e:vn (Mj S 0) (ss.map ϓ) (j.map ϓ)with
   |none=>rw[e]at a;exact a.elim
   |some b=>
    rw[e]at a;rw[Sa]at g i;obtain⟨p,rfl,d⟩:=g;obtain⟨q,rfl,f⟩:=i;rw[F]at d f;cases N;cases M;obtain⟨V,G,ό,_⟩:=L2.db.tuple I (ϕ d);obtain⟨W,J,P,_⟩:=L2.db.tuple I (ϕ f);obtain⟨B,C⟩:=QN (A:=X.A.in1) (λx y v w k R b m n o t z=>dG I r 0 X.A.in1 x y v w k R b (by show X.A.units+1+0+1<cLine;lia) m n o t z) (RI (T:=T) (μ:=l) (H:=H) ss) (RI j) G J e;have L:Rg X.A s (yb p) (yb q) b:=by rw[C];exact .tuples ό P ⋯ B
    exact L X.prog X.w X.xe (EP X c st Q) ⟨ϫ b,H,I,rfl,Rb.here a r (by rw[Sa])⟩
  |_=>exact a.elim
 |_=>exact a.elim
section
variable{prog:Ca}{w:Wa}{K:ϗ}{A:Ra}{E:Value->Shared->Prop}{h:Heap}{g:Array Gh}{d:Uo}{t:Nat}{os:iv}{x y C:Addr}{ox oy:Obj}
def KW(X:K.In h)(c:Am K C)(m:h.get? x=BD ox)(j:ox.cls=yb C)(l:Q (fg Ĳ) ⟨h,g,d,t,os⟩) :
  wpAny (model prog w) A (call (Ϣ "object.__eq__") [yb x,yb x]) Q E ⟨h,g,d,t,os⟩:=by
 refine aj$ sk qm.eq.plain sJ ?_;have e:=qP (yb x)$ yb x;have b:=W.looks_mroIn (M:=model prog w) X c.o;simp only[UF,rP,tJ];refine aa ?_;unfold IA;have n:∀ (k:Unit->Shared->Prop),k () ⟨h,g,d,t,os⟩->wpAny (model prog w) A (match xg "object.__eq__" with|some sig=>Rf "object.__eq__" sig ⟨[yb x,yb x],[]⟩|none=>pure ()) k E ⟨h,g,d,t,os⟩:=λk f=>by
  cases a:xg "object.__eq__" with
  |none=>exact da f
  |some sig=>
   simp only[pr,a]at e;have i:Rf "object.__eq__" sig ⟨[yb x,yb x],[]⟩=pure ():=e;show wpAny _ A (Rf "object.__eq__" sig ⟨[yb x,yb x],[]⟩) k E _;rw[i];exact da f
 repeat (first|(with_reducible refine Md m ?_;rw[j])|(with_reducible refine W.Looks.at b ?_)|(with_reducible refine wpAny_isSame_ref_self ?_)|wp_step)
 exact l
def ū(X:K.In h)(c:Am K C)(b:h.get? x=BD ox)(a:ox.cls=yb C)(e:Q (BD$ fg Ĳ) ⟨h,g,d,t,os⟩) :
  wpAny (model prog w) A (JA (yb x) "__eq__"$ yb x) Q E ⟨h,g,d,t,os⟩:=by
 simp only[JA];refine aa ?_;simp only[Yy,Zy];refine Yb$ aa$ aa$ OX X c.f b a ?_;simp only[qm.eq.bind];refine aa$ Lg$ wpAny_ite ?_;split
 ·exact aa$ da$ da$ aa$ KW X c b a$ da$ da e
 ·exact Ie$ aa$ da$ da$ aa$ KW X c b a$ da$ da e
end
open Classical in
def R0{K}{a:Nat->Addr}:∀ c∈([]:i'),Am K (a c):=λb h=>nomatch h
def vN{K}{b:Nat->Addr}(a:Am K$ b c)(r:∀ x∈l,Am K (b x)):∀ x∈c::l,Am K (b x):=λx d=>by
 rcases za.mp d with rfl|d
 ·exact a
 ·exact r x d
def ZA(x:D)(xs:B'):M D:=λb=>match x,xs with
 | U n,[Z i]=>(match Cf b n with
  |some a=>if 0<=i/\i<1000 then (match a[i.toNat]? with
   |some y=>O y (b.set n$ ϒ$ a.take i.toNat++a.drop (i.toNat+1))
   |none=>Ϙ)else Ϙ
  |none=>Ϙ)
 |_,_=>Ϙ
def o9:ly T mS ZA:=by
 intro E B H σ x xs v vs Q r p q h;cases x with
 |ref n=>
  match xs with
  |[Z i]=>
   rw[lb]at q;obtain⟨w,z,rfl,s,t⟩:=q;rw[lb]at t;subst t;rw[Sa]at s;subst s;unfold ZA at h;cases b:Cf σ n with
   |none=>simp only[b]at h;exact h.elim
   |some I=>
    simp[b]at h;by_cases j:0<=i/\i<1000
    ·rw[ka j]at h;cases c:I[i.toNat]? with
     |none=>simp[c]at h;exact h.elim
     |some y=>
      simp only[c]at h;obtain⟨a,vs,rfl,k,g,f⟩:=r.ra p b;obtain⟨u,m,G⟩:=f.get c;have D:=(ba.mp m).1;have ex:∀ l,Cd B H B (Wb H a$ ϯ l):=λl=>Ss (wa k) g (λJ z=>by cases z) (λJ J z=>by cases z);have A:=r.write (o:=ϯ$ vs.take i.toNat++vs.drop (i.toNat+1)) (ob:=ϒ _) k ⟨_,Mf,lb.append (lb.take _$ lb.mono (ex _) _ _ f)$ lb.drop _$ lb.mono (ex _) _ _ f⟩;have C:vs.eraseIdx i.toNat=vs.take i.toNat++vs.drop _:=List.eraseIdx_eq_take_drop_succ ..;refine⟨a,vs,i,i.toNat,u,rfl,rfl,g,by lia,by lia,?_,m,?_⟩
      ·unfold Vt;have F:¬ i<0:=by lia
       simp[F]
       lia
      ·rw[C];exact h _ _ _ A.1 A.2$ Sa.mono (ex _) _ _ G
    ·rw[qa j]at h;exact h.elim
  |[]=>exact h.elim
  |d::e::l=>cases d<;>exact h.elim
  |[Ϛ]=>exact h.elim
  |[ϐ _]=>exact h.elim
  |[ϓ _]=>exact h.elim
  |[ώ _]=>exact h.elim
  |[ύ _]=>exact h.elim
  |[U _]=>exact h.elim
  |[ϥ _]=>exact h.elim
  |[ϸ ..]=>exact h.elim
  |[.Us ..]=>exact h.elim
  |[Ϩ ..]=>exact h.elim
  |[.gt ..]=>exact h.elim
 |_=>cases xs<;>exact h.elim
section
variable{prog:Ca}{w:Wa}{K:ϗ}{A:Ra}{E:Value->Shared->Prop}{h:Heap}{g:Array Gh}{d:Uo}{t:Nat}{os:iv}{x y C:Addr}{ox oy:Obj}
def zs1(X:K.In h)(c:Am K C)(f:h.get? x=BD ox)(i:ox.cls=yb C)(l:h.get? y=BD oy)(j:oy.cls=yb C)(o:A.units<cLine)(p:x=y->Q (fg Ĳ) ⟨h,g,d,t,os⟩)(b:x≠y->Q (fg Ε) ⟨h,g,d,t,os⟩) :
  wpAny (model prog w) A (Gb .Eq (yb x)$ yb y) Q E ⟨h,g,d,t,os⟩:=by
 have m:ox.cls≠ Uh "tuple":=by rw[i];intro e;cases e
 have k:(yb C != yb C)=Ε:=by simp
 show wpAny _ A (zk .Eq _ _) Q E _;by_cases a:x=y
 ·have n:=p a;subst a;simp only[zk,DA,Zu];repeat (first|with_reducible refine ir o ?_|(with_reducible refine Md f ?_;rw[i])|(rw[k,qa qb])|(with_reducible refine ū X c f i ?_)|wp_step)
  exact n
 ·have b:=b a;simp only[zk,DA,Zu];repeat (first|with_reducible refine ir o ?_|(with_reducible refine Md f ?_;rw[i])|(with_reducible refine Md l ?_;rw[j])|(rw[k,qa qb])|(with_reducible refine vG X c f i l a ?_)|(with_reducible refine vG X c l j f (Jd a) ?_)|(with_reducible refine cj a f l m ?_)|wp_step)
  exact b
end
def ř(K:ϗ):R2:=λv u H Q=>dZ K v u H Q\/∃ x y C a b c gs,v=ϖ x/\u=ϖ y/\H x=BD (.ub C a c)/\H y=BD (.ub C b gs)/\Am K C/\(x=y->Q (ϫ Ĳ) H)/\(x≠y->Q (ϫ Ε) H)
noncomputable def Τ:Vi Fl->Vi Fl
 | O (.rt v) σ=>O (.rt v) σ
 |_=>Ϙ
def fR(A R:M Fl):D->D->M Fl
 | U i,U j=>λa=>if i=j then Τ (A a)else R a
 |_,_=>λb=>Ϙ
def uM(l:List$ Nat × Nat)(b:i')(A R:M Fl)(x y:D):M Fl:=λa=>match ak a x,ak a y with
 |some (c,_),BD (d,_)=>if (c,d)∈l then R a else if c=d/\c∈b then fR A R x y a else Ϙ
 |_,_=>Ϙ
def dD(l:List$ Nat × Nat)(b:i')(c fr:Ev->M D)(d gr:Ev->M Fl):Ev->M Fl:=λa=>xs a (c a) λx=>xs a (fr a)$ uM l b (d a) (gr a) x
def O5(m:X.A.units+9<cLine):zh X (Gb .Eq)$ ř X.K:=by
 intro a s st H v u b j Q I i f h;rcases h with h|h
 ·exact w6 m a s st H v u b j Q I i f h
 ·obtain⟨x,y,C,r,w,z,gs,rfl,rfl,k,l,c,q,p⟩:=h;obtain rfl:b=yb x:=i;obtain rfl:j=yb y:=f;obtain⟨_,_,_,n,_⟩:=(I.Fc x _ k)
  obtain⟨_,_,_,o,_⟩:=(I.Fc y _ l)
  obtain⟨h,g,d,t,B⟩:=s;exact zs1 I.Ai c n rfl o rfl ⋯ (λe=>⟨ϫ Ĳ,H,I,rfl,q e⟩) (λe=>⟨ϫ Ε,H,I,rfl,p e⟩)
def l4{A rest}(hu:X.A.units+9<cLine)(ht:fJ X.K T.ca l)(hs:∀ c∈P,Am X.K (T.ca c))(hm:ee .Eq b=Ε)(hl:FE T X a fl)(hr:FE T X b fr)(ha:Dk T X A Q)(m:Dk T X rest gr) :
  Dk T X (.If (.Compare a [.Eq] [b] p) A [] Y::rest)$ dD l P fl fr Q gr:=by
 intro B s st H D I hw;refine iV (SQ (YO (O5 hu) hl hr hm) ha IV) m B s st H D I ?_;obtain⟨μ,q,σ,t,V,hp⟩:=hw;refine⟨μ,q,σ,t,V,Rb.xs t hp λx a4 a3 v H1 M L r1 p1 q1=>⟨a3,q,a4,t.mono L,r1,Rb.xs (t.mono L) q1 λy f n u H2 M e2 o p2 e=>?_⟩⟩;have w:=Sa.mono e2 _ _ p1;have h:=(t.mono L).mono e2;unfold uM at e;cases E:ak f x with
 |none=>rw[E]at e;exact e.elim
 |some cf=>
  cases ό:ak f y with
  |none=>rw[E,ό]at e;exact e.elim
  |some cg=>
   obtain⟨c,fs⟩:=cf;obtain⟨d,gs⟩:=cg;rw[E,ό]at e;dsimp only at e;obtain⟨C,G,vs,rfl,R,_⟩:=mz o w E;obtain⟨r,J,ws,rfl,S,_⟩:=mz o p2 ό;by_cases g:(c,d)∈l
   ·rw[ka g]at e;obtain⟨ϊ,z2,z3,z4⟩:=ht _ g;exact ϑ ⟨C,r,_,_,G,J,vs,ws,rfl,rfl,R,S,ϊ,z2,z3,z4,Ε,rfl,n,q,f,h,o,e⟩
   ·rw[qa g]at e;by_cases ϋ:c=d/\c∈P
    ·rw[ka ϋ]at e;obtain⟨rfl,hc⟩:=ϋ;cases x with
     |ref i=>
      cases y with
      |ref j=>
       obtain⟨a1,ϊ,m1⟩:=w;obtain⟨a2,z2,W⟩:=p2;cases ϊ;cases z2;unfold fR at e;dsimp only at e;by_cases k:i=j
       ·subst k;rw[m1]at W;cases W;rw[ka rfl]at e;refine ϕ ⟨C,C,_,G,J,vs,ws,rfl,rfl,R,S,hs c hc,λM=>⟨Ĳ,rfl,n,q,f,h,o,?_⟩,λz=>absurd rfl z⟩;cases N:Q q f with
        |ok F a5=>
         cases F with
         |rt v=>
          rw[N]at e;intro a0 F H' e' r' q';have:=e a0 F H' e' r' q';cases F with
          |rt v=>exact this
          |_=>exact q'.elim
         |_=>rw[N]at e;exact e.elim
        |_=>rw[N]at e;exact e.elim
       ·rw[qa k]at e;refine ϕ ⟨C,r,_,G,J,vs,ws,rfl,rfl,R,S,hs c hc,λz=>?_,λM=>⟨Ε,rfl,n,q,f,h,o,e⟩⟩;subst z;obtain⟨i1,i2⟩:=ba.mp m1;obtain⟨j1,j2⟩:=ba.mp W;exact absurd ((Zv o.nd).mp$ i2.trans j2.symm) k
      |_=>exact e.elim
     |_=>exact e.elim
    ·rw[qa ϋ]at e;exact e.elim
def vM(k v:D)(a:List$ Ic × D):M$ List$ Ic × D:=match Bi k with
 |some b=>ret ((b,v)::a)
 |none=>λc=>Ϙ
noncomputable def wE:Ev->M (List$ Ic × D):=λa=>ret []
def Ix(f g:Ev->M D)(r:Ev->M (List$ Ic × D)):Ev->M (List$ Ic × D):=λa=>Tc (f a) λk=>Tc (g a) λv=>Tc (r a)$ vM k v
def GK(n:Nat)(a:List$ Ic × D):M D:=λb=>match b[n]? with
 |some (Ϗ [])=>if a.length<=15 then O (U n) (b.set n$ Ϗ$ Bt [] a)else Ϙ
 |_=>Ϙ
def mF(r:Ev->M (List$ Ic × D)):Ev->M D:=λb a=>Tc (r b) (GK a.length)$ a++[Ϗ []]
inductive jo(T:Tb)(X:Cx):List (Option Oa)->List Oa->(Ev->M (List (Ic × D)))->Prop
 |nil:jo T X [] [] wE
 |cons {k v:Oa} {f g:Ev->M D} {ks:List (Option Oa)} {vs:List Oa} {fs:Ev->M (List (Ic × D))} (hk:FE T X k f) (hv:FE T X v g) (r:jo T X ks vs fs):jo T X (BD k::ks) (v::vs) (Ix f g fs)
def jo.U9(h:jo T X ks vs o) :
  ∃ a,SC X s ks vs a/\∀ c H Q i b l,fh T i H b c->ud T i H l->Rb T (XE X c) (eh T) i H (o b l) (λt G=>Q (t.map λE=>(kV E.1,E.2)) G)->FH a c H Q:=by
 induction h with
 |nil=>
  refine⟨[],zxu,λc H Q i b l m q p=>?_⟩;have z:=Rb.here (g:=[]) p q (by unfold eh;exact Ϡ);exact z
 |@cons k v f g ks vs o P R r S=>
  obtain⟨a,N,ό⟩:=S;refine⟨_,zo5 P R N,λc H Q i b l m q p=>⟨i,b,l,m,q,p.bind λJ A u x H1 d C r1 W ϊ=>⟨u,b,A,m.mono C,r1,ϊ.bind λd B w y I d K r2 Y q2=>?_⟩⟩⟩;refine ό c I _ w b B (m.mono$ C.trans K) r2 (q2.bind λds a1 a0 t H3 d L r3 F j=>?_);unfold vM at j;cases n:Bi J with
  |none=>rw[n]at j;exact j.elim
  |some ϋ=>
   rw[n]at j;have e:=Cw W n;subst e;have z:=Rb.here (g:=(ϋ,y)::t) j r3 (by unfold eh at F ⊢;exact ϝ ⟨rfl,Sa.mono L _ _ Y⟩ F);exact z
set_option tactic.hygienic true in
def z9(h:jo T X b c t)(g:b.all (·.isSome)=Ĳ)(N:b.length=c.length)(K:b≠[])(m:b.length<=15) :
  FE T X (.Dict b c q)$ mF t:=by
 intro i s V H Q I R;obtain⟨W,o,S⟩:=h.U9;refine n7 o g N K m i s V H Q I ?_;obtain⟨j,Y,σ,L,x,P⟩:=R;intro p w;have ex:Cd j H (j++[p])$ Wb H p$ ϛ []:=wu w;have ϋ:ud T _ (Wb H p$ ϛ [])$ σ++[Ϗ []]:=x.push w ⟨[],Mf,by unfold eh;exact Ϡ⟩;have n:(j++[p])[σ.length]?=BD p:=by rw[<-x.len];simp
 refine S _ _ _ (j++[p]) Y (σ++[Ϗ []]) (L.mono ex) ϋ ((Rb.mono ex P).bind λr ϊ f B k _ E A y e=>?_);have d:=E.get n;unfold GK at e;split at e
 ·next G=>
  have pl:=y.length;by_cases v:r.length<=15
  ·rw[ka v]at e;obtain⟨a,F,ό,ws,u,J⟩:=A.at (show Sa T f k (U σ.length) (ϖ p) by rw[Sa];exact⟨p,rfl,d⟩) G;cases F;cases J;refine⟨u,B,rfl,by lia,?_⟩;have C:=A.write (ob:=Ϗ$ Bt [] r) d ⟨_,Mf,by
    have l:Cd f k f$ Wb k p$ ϛ$ Yt [] B:=Ss (wa d) u (λ_ z=>by cases z) (λ_ _ z=>by cases z);exact QW (eh.mono l y) (by unfold eh;exact Ϡ)⟩
   exact e _ _ _ C.1 C.2 (by rw[Sa];exact⟨p,rfl,d⟩)
  ·rw[qa v]at e;exact e.elim
 ·exact e.elim
end L4
set_option maxHeartbeats 0
namespace K54
open Spec L2 L4
noncomputable def Rh(i:Nat):Stmt:=PySem.Challenge.pw_sidebook_k54_words_told.main.body.getD i$ .Pass ⟨0,0,0,0⟩
def KG(K:ϗ):Tab:=⟨tw K "least_fate",443,35, "least_fate.<locals>.<lambda>"⟩
def dI(K:ϗ):Tab:=⟨tw K "paper",458,27, "paper.<locals>.<lambda>"⟩
def tx(K:ϗ):Tx:=⟨[KG K,dI K],Nx K⟩
def bS K:KG K∈(tx K).Ln:=(.head _)
def jR K:dI K∈(tx K).Ln:=(.tail _$ .head _)
def G1 K:∀ t∈(tx K).Ln,∃ x∈[("least_fate" : Str),("paper" : Str)],t.P=tw K x:=by
 intro t a;have h:t∈[KG K,dI K]:=a;simp only[za,df,Qo]at h;rcases h with rfl|rfl
 ·exact⟨"least_fate",by simp,rfl⟩
 ·exact⟨"paper",by simp,rfl⟩
inductive Al{α:Type}(P:α->Prop):List α->Prop
 |n:Al P []
 |c {x:α} {l:List α} (h:P x) (t:Al P l):Al P (x::l)
def Al.get{P}{l:List a}(h:Al P l):∀ x∈l,P x:=by
 induction h with
 |n=>simp
 |c h _ i=>simp_all
inductive lC(E:ad):List Arg->ad->ad->Prop
 |nil:lC E [] [] E
 |cons {x:Str} {a:Option Oa} {p:Td} {as:List Arg} {ps N:ad} (t:lC E as ps N):lC E (⟨x,a,p⟩::as) (x::ps) (x::N)
def lC.map(h:lC E a ps N):a.map (·.arg)=ps:=by
 induction h<;>simp_all
def fX:Stmt->Str
 | .FunctionDef x _ _ _ _ _ _ _ _ _=>x
 |_=>""
inductive Hx(E:ad):Stmt->Str->ad->ad->Prop
 |mk {x as ps N a b c d e f g h i j k l m n} (t:lC E as ps N):Hx E (.FunctionDef x ⟨a,as,b,c,d,e,f⟩ g h i j k l m n) x ps N
def HF(K:ϗ)(b:Str->Option Value)(a:Stmt):Prop:=Wp K b (fX a) a ((yl a).args.map (·.arg))
def HM(K:ϗ)(f:Addr)(a:Stmt):Prop:=∃ q,iu K 0 (fX a) q a ((yl a).args.map (·.arg)) f
def X6{K mg x st st' ps}(a:st=st')(d:(fX st',(yl st').args.map (·.arg))=(x,ps))(h:Wp K mg x st ps):HF K mg st:=by
 subst a;cases d;exact h
def ω{K f x q st st' ps}(a:st=st')(d:(fX st',(yl st').args.map (·.arg))=(x,ps))(h:iu K 0 x q st ps f):HM K f st:=by
 subst a;cases d;exact⟨q,h⟩
def Hx.fn{K mg x E st ps N}(d:Hx E st x ps N)(h:HF K mg st):Wp K mg x st ps:=by
 cases d with|mk t=>cases t.map;exact h
def Hx.me{K f x E st ps N}(d:Hx E st x ps N)(h:HM K f st):∃ q,iu K 0 x q st ps f:=by
 cases d with|mk t=>cases t.map;exact h
def QF{b c:Type}:List c->(List b->Prop)->Prop
 |[],P=>P []
 |_::l,P=>∀ a,QF l λt=>P$ a::t
@[elab_as_elim] theorem QF.ap{b c:Type}:∀ (l:List c) {P:List b->Prop} (u:List b) (_:u.length=l.length) (_:QF l P),P u
 |[],_,[],_,z=>z
 |_::l,_,a::u,h,z=>QF.ap l u (Nat.succ.inj h) (z a)
abbrev QI(x q:Str)(st:Stmt)(ps:ad)(c:gV):Prop:=∀ (t:Addr) (kV b d:Value) (an:Option Addr) (a ct:Value) (s:Shared) (o:Obj) (n:Nat) (us:gV),s.heap.get? t=BD o->o.data=Ϧ c.toArray n->((us++[]).length=ps.length->Xe s (ϭ x q (yl st) (Pj st) (yf st) (yb t) kV b d an a ct) ⟨us,[]⟩ (ps.zip$ us++[]))/\((us++c).length=ps.length->Xe s (ϭ x q (yl st) (Pj st) (yf st) (yb t) kV b d an a ct) ⟨us,[]⟩ (ps.zip$ us++c))
noncomputable abbrev nR:i':=[113,8,9,11,57,58,59,100,13,12,15,10,27,29,28,14,30,32,110,16,46,47,65,64,66,67,68,33,34,40,80,81,82,83,84,85,87,88,89,90,92,93,86,95,101,70,39,104,17,41,36,35,42,43,38,105,106]
noncomputable abbrev hO:List$ Nat × List (Nat × Nat):=[(50,[(0,17)]),(62,[(0,30),(14,44),(13,43),(1,31),(4,34)]),(108,[(2,57),(1,56),(12,67),(3,58),(7,62),(8,63),(9,64),(11,66),(16,71),(17,72),(18,73),(15,70),(6,61),(14,69),(13,68)]),(71,[(0,45),(1,46),(2,47)]),(111,[(5,84),(16,95),(6,85),(8,87),(10,89),(9,88),(11,90),(17,96),(2,81),(12,91),(3,82),(13,92),(18,97),(1,80)]),(72,[(0,48),(1,49)]),(73,[(0,50),(1,51)]),(74,[(0,52),(1,53)]),(79,[(0,54)])]
noncomputable abbrev VL:i':=[5,6,7,8,9,10,11,12,13,14,15,16]
noncomputable abbrev pF:List$ Str × i':=[("pots",[9,14,16]),("day",[7,9]),("whole",[5,6,7,8]),("claims",[9,15]),("shown",[9]),("public",[16]),("every",[14,15,16]),("keepers",[16]),("under_way",[16]),("things",[16]),("hand",[15]),("last_look",[14,15]),("gave",[15]),("known",[14,15]),("accounts",[15]),("seen",[15]),("asked",[15]),("finishing",[15]),("pot",[10,11,12,13]),("side",[7,8,10,11,12,13]),("mine",[10,11,12,13]),("grant",[10,11,12,13]),("may",[10,11,12,13]),("strikes",[10,11,12,13])]
noncomputable abbrev ER:List$ Nat × List (Str × Nat):=[(9,[("made_of",44),("all_shown",43),("check_pot",31),("show",34)]),(15,[("learn",57),("hold",56),("holds",67),("words",58),("view_by",62),("view",63),("worth",64),("is_good",66),("take_ask",71),("is_as_asked",72),("take_step",73),("take",70),("account",61),("wish_for",69),("wish",68)]),(16,[("has_pot",84),("keeping_hands",95),("is_side_of_band",85),("band_can",87),("tell_band",89),("send",88),("hand_over",90),("band",96),("keeper",81),("wish",91),("road",82),("check_letter",92),("deliver",93),("show",97),("book",80)]),(13,[("word",52),("agree_of",46),("strike_of",47),("taken",53)]),(12,[("word",50),("agree_of",46),("strike_of",47),("taken",51)]),(11,[("word",48),("agree_of",46),("strike_of",47),("taken",49)]),(10,[("agree_of",46)])]
noncomputable abbrev nW:List$ Str × Int:=[("MOST_AMOUNT",1000000000000),("MOST_COIN",1000000000000),("MOST_DAY",1000000),("MOST_EVERY",50),("MOST_HAND",3),("MOST_NUMBER",1000000),("MOST_POT",2),("MOST_SHARE",2000000000000),("MOST_TIES",6),("MOST_WAIT",100),("MOST_WORD",59)]
structure eg(K:ϗ)(mg:Str->Option Value)(ca:Nat->Addr):Prop where
 Ch:ZM K mg "stand" (Rh 31) ["number","shares","ties"] [Bc]
 Zd:Wp K mg "first_account" (Rh 75) ["pot","side","left","right"]
 Fp:Yo K (ca 15) "__init__" "Keeper.__init__" (au (Rh 108) 0) ["self","hand","every","pots","words"] [Bc] (ca 55)
 Mm:Yo K (ca 16) "__init__" "Hall.__init__" (au (Rh 111) 0) ["self","pots","keeps","every","words"] [Bc] (ca 79)
 Vf:Wp K mg "offered" (Rh 76) ["account","shares","ties"]
 Ze:XI K mg "least_fate" (Rh 91) ["lots","every"]
 vj:XI K mg "paper" (Rh 94) ["view"]
 be:Wp K mg "_law_band_tie" (Rh 116) ["_law_hall","_law_side","_law_coins","_law_tie"]
 Uf:Wp K mg "step_to" (Rh 107) ["account","one"]
 Pd:Yo K (ca 16) "deliver" "Hall.deliver" (au (Rh 111) 14) ["self","k","stays"] [fg Ε] (ca 93)
 Nd:Wp K mg "_law_deliver" (Rh 115) ["_law_hall"]
 Hc:Wp K mg "_law_refused" (Rh 114) ["_law_hall","_law_pot","_law_word"]
 bc:Wp K mg "_law_settled_on_road" (Rh 118) ["_law_hall","_law_words"]
 cc:Wp K mg "_law_settled_to_band" (Rh 117) ["_law_hall","_law_words"]
 mn:Wp K mg "law" (Rh 119) ["_law_script"]
 di:mg "worth_worth" = mg "worth"
 tf:Al (λi=>HF K mg (Rh i)) nR
 tm:Al (λp=>Al (λq=>HM K (ca q.2) (au (Rh p.1) q.1)) p.2) hO
 tc:Al (λc=>L2.Qr K (ca c)) VL
 ta:Al (λp=>Al (λc=>L2.Bw K (ca c) p.1) p.2) pF
 te:Al (λp=>Al (λq=>L2.ju K (ca p.1) q.1 (ca q.2)) p.2) ER
 ti:Al (λp=>∃ t,mg p.1=BD (Fh p.2 t)) nW
 dE:mg "all" = V6
 Mz:mg "bool" = V6
 xu:mg "dict" = V6
 Mp:mg "enumerate" = V6
 pE:mg "int" = V6
 Bg:mg "isinstance" = V6
 By:mg "len" = V6
 Xz:mg "list" = V6
 dy:mg "min" = V6
 Gw:mg "range" = V6
 ny:mg "set" = V6
 Ep:mg "sorted" = V6
 AF:mg "str" = V6
 fF:mg "sum" = V6
 Sr:mg "tuple" = V6
 vE:mg "zip" = V6
 Qz:NE K mg "FIRM" ["won","sure","back"]
 su:NE K mg "HELD" ["held"]
 IB:mg "NoStand" = BD (yb (ca 1))
 WB:W.excIn K (ca 1) SS "ValueError.__new__" = Ĳ
 gp:mg "NoDeed" = BD (yb (ca 2))
 Hu:W.excIn K (ca 2) SS "ValueError.__new__" = Ĳ
 nl:W.exmOne K (yb (ca 2)) (yb (ca 2))=BD Ĳ
 dk:W.exmOne K (yb (ca 1)) (yb (ca 2))=BD Ε
 xz:mg "Held" = BD (yb (ca 6))
 Jw:L2.Mk K (ca 6) (ca 17)
 aA:mg "Book" = BD (yb (ca 9))
 yw:L2.Mk K (ca 9) (ca 30)
 Nz:mg "Calm" = BD (yb (ca 11))
 nw:L2.Mk K (ca 11) (ca 45)
 gu:mg "Keeper" = BD (yb (ca 15))
 Ws:L2.Mk K (ca 15) (ca 55)
 qz:mg "Hall" = BD (yb (ca 16))
 Qw:L2.Mk K (ca 16) (ca 79)
 Zr:mg "Offered" = BD (yb (ca 12))
 ar:L2.Mk K (ca 12) (ca 45)
 rA:mg "View" = BD (yb (ca 14))
 xw:L2.Mk K (ca 14) (ca 54)
 Ms:mg "Waiting" = BD (yb (ca 13))
 Aq:L2.Mk K (ca 13) (ca 45)
 wj:L4.Am K (ca 11)
 Ak:L4.Am K (ca 12)
 rl:W.mroIn K (ca 12) (yb (ca 11))=BD Ε
 ql:(ca 11)≠(ca 12)
 li:L4.Am K (ca 13)
 ll:W.mroIn K (ca 13) (yb (ca 11))=BD Ε
 Yk:(ca 11)≠(ca 13)
 il:W.mroIn K (ca 11) (yb (ca 13))=BD Ε
 ml:(ca 13)≠(ca 11)
 tb:Vw K ["least_fate","paper"]
 eY:mg "__builtins__" = BD (yb (Nx K))
 aD:∀ t∈(tx K).Ln,∀ t'∈(tx K).Ln,t'.P=t.P->t'=t
seal L2.PE L2.PS L2.Ov L2.PT L2.PW L2.PA L2.PI L2.PG
def sK{sc}(a:sc.kind=ϣ:=by rfl)(b:sc.isCoroutine=Ε:=by rfl)(c:sc.isGenerator=Ε:=by rfl)(h:N.Nodup/\N.take Q.length=Q/\(∀ x∈Q,sc.names.lookup x=BD .local\/sc.names.lookup x=BD Gc)/\∀ y∈sc.names,y.2≠ xb:=by decide +kernel):nc N Q sc:=⟨a,b,c,h.1,h.2.1,h.2.2.1,h.2.2.2⟩
def fO{K}(a:eg K f b)(h:(x,d)∈pF:=by repeat (first|with_reducible exact la|refine ja _ ?_)):ZG ⟨K,b,tx K⟩ d x:=λc e=>⟨a.tc.get _$ (by decide +kernel:∀ p∈pF,∀ c∈p.2,c∈VL) _ h _ (by simpa using e),(a.ta.get _ h).get _ (by simpa using e)⟩
class ZqF (k m:outParam Nat) (x:Str) (ps:outParam (ad)) where
 f:B'->M D
 ok:∀ {P:Ca} {w:Wa} {K:ϗ} {mg:Str->Option Value} {base:Heap} {ca:Nat->Addr},eg K mg ca->wh ⟨K,ca,tx K⟩ P w mg base k x ps f
 len:ps.length=m
structure XC(k m n:Nat)(ps:ad) where
 f:B'->M D
 ok:∀ {P:Ca} {w:Wa} {K:ϗ} {mg:Str->Option Value} {base:Heap} {ca:Nat->Addr},eg K mg ca->wr ⟨K,ca,tx K⟩ P w mg base k (ca n) ps f
 len:ps.length=m
class Fg (k m:outParam Nat) (x:Str) (ps:outParam (ad)) (tb:outParam Mt):Prop where
 ok:∀ {P:Ca} {w:Wa} {K:ϗ} {mg:Str->Option Value} {base:Heap} {ca:Nat->Addr},eg K mg ca->kI ⟨K,ca,tx K⟩ P w mg base k x ps tb
 len:ps.length=m
instance {k m:Nat} {x:Str} {ps:ad}:CoeFun (ZqF k m x ps) λa=>B'->M D:=⟨λq=>q.f⟩
instance {k m:Nat} {x:Str} {a:ad}:CoeOut (ZqF k m x a)$ B'->M D:=⟨λq=>q.f⟩
instance {k m n:Nat} {ps:ad}:CoeFun (XC k m n ps) λa=>B'->M D:=⟨λq=>q.f⟩
instance {k m n:Nat} {a:ad}:CoeOut (XC k m n a)$ B'->M D:=⟨λq=>q.f⟩
abbrev Hb(x:Str)(k:Nat)(N:ad)(st:Stmt)(g:Ev->M Fl):Prop:=∀ {P:Ca} {w:Wa} {K:ϗ} {b:Str->Option Value} {base:Heap} {ca:Nat->Addr} {f:Addr} {a:Value} {A:Ra} {outer:List Ag} {s:Shared} {H:Hp} {E:XK},eg K b ca->Qd k (A.deeper$ ug x (yf st) s.heap.objs.size f a)->N.Nodup->Dk ⟨K,ca,tx K⟩ (xp (jl P w) P w K b base N x (yf st) f a A outer s H E) (Pj st) g
def Pc(n m k i:Nat)(E:ad){x:Str}{st:Stmt}{ps N:ad}{g:Ev->M Fl}(j:Rh i=st:=by conv=>lhs;whnf)(f:Hx E st x ps N:=by repeat constructor)(hb:Hb x k N st g:=by walk_at "-")(S:nc N ps$ yf st:=by exact sK)(e:N.length=n:=by rfl)(d:ps.length=m:=by rfl)(c:i∈nR:=by decide +kernel):ZqF (k+1) m x ps:=⟨L4.zd λb=>L4.Ud$ dh n g b,λa=>e ▸ wh.zd (wh.Ud$ Xw (f.fn$ j ▸ a.tf.get i c) S λv v v v v v v h=>hb a h S.nd),d⟩
@[simp] theorem ypj{st}{hs hp hb S hn hm hi}:(Pc n m k i E (x:=x) (st:=st) (ps:=ps) (N:=N) (g:=g) hs hp hb S hn hm hi).f=L4.zd λa=>L4.Ud$ dh n g a:=rfl
def Xf(n m k j t i:Nat)(E:ad){x:Str}{st:Stmt}{ps N:ad}{g:Ev->M Fl}{l:List$ Nat × Nat}(r:au (Rh t) i=st:=by conv=>lhs;whnf)(o:Hx E st x ps N:=by repeat constructor)(hb:∀ {q:Str},Hb q k N st g:=by walk_at "-")(S:nc N ps$ yf st:=by exact sK)(f:N.length=n:=by rfl)(e:ps.length=m:=by rfl)(c:(t,l)∈hO:=by repeat (first|with_reducible exact la|refine ja _ ?_))(d:(i,j)∈l:=by repeat (first|with_reducible exact la|refine ja _ ?_)):XC (k+1) m j ps:=⟨L4.zd λb=>L4.Ud$ dh n g b,λa=>let ⟨_,h⟩:=o.me (r ▸ ((a.tm.get (t,l) c).get (i,j) d:HM _ _ (au (Rh t) i)));f ▸ wr.zd (wr.Ud$ cV h S λv v v v v v p=>hb a p S.nd),e⟩
@[simp] theorem ypi{st}{hs hp hb S hn hm hi hj}:(Xf n m k j t i E (x:=x) (st:=st) (ps:=ps) (N:=N) (g:=g) (l:=l) hs hp hb S hn hm hi hj).f=L4.zd λa=>L4.Ud$ dh n g a:=rfl
def yg(n m k j t i:Nat)(E:ad){x:Str}{st:Stmt}{ps N:ad}{g:Ev->M Fl}{l:List$ Nat × Nat}(p:au (Rh t) i=st:=by conv=>lhs;whnf)(f:Hx E st x ps N:=by repeat constructor)(hb:∀ {q:Str},Hb q k N st g:=by walk_at "-")(S:nc N ps$ yf st:=by exact sK)(e:N.length=n:=by rfl)(d:ps.length=m:=by rfl)(b:(t,l)∈hO:=by repeat (first|with_reducible exact la|refine ja _ ?_))(c:(i,j)∈l:=by repeat (first|with_reducible exact la|refine ja _ ?_)):XC (k+1) m j ps:=⟨L4.zd$ dh n g,λa=>let ⟨_,h⟩:=f.me (p ▸ ((a.tm.get (t,l) b).get (i,j) c:HM _ _ (au (Rh t) i)));e ▸ wr.zd (cV h S λv v v v v v o=>hb a o S.nd),d⟩
@[simp] theorem ypk{st}{hs hp hb S hn hm hi hj}:(yg n m k j t i E (x:=x) (st:=st) (ps:=ps) (N:=N) (g:=g) (l:=l) hs hp hb S hn hm hi hj).f=L4.zd (dh n g):=rfl
theorem Fg.Gg k c x(q:XC j m n ps)(r:Fg k m x ps b)(e:j<=k:=by decide)(h:(c,l)∈ER:=by repeat (first|with_reducible exact la|refine ja _ ?_))(g:(x,n)∈l:=by repeat (first|with_reducible exact la|refine ja _ ?_))(d:c∈VL:=by decide):Fg k m x ps$ (c,q.f)::b:=⟨λa=>ž (T:=⟨_,_,tx _⟩) (a.tc.get _ d) ((a.te.get _ h).get _ g) (q.ok a) e$ r.ok a,r.len⟩
def Fg.nil(h:ps.length=m:=by rfl):Fg k m x ps []:=⟨λa=>U1,h⟩
section
variable{ca:Nat->Addr}{k m n:Nat}{ps:ad}{x:Str}{p pos pos' apos:Td}{e o i v:Oa}{es:List Oa}{f g fo fi fv:Ev->M D}{fs:Ev->M (B')}{cs:i'}{pl:Wm Bool}
abbrev TX(X:Cx)(ca:Nat->Addr):Tb:=⟨X.K,ca,tx X.K⟩
def l3[q:ZqF k m x ps](o:Qd n X.A)(c:eg X.K X.mg ca)(d:FA (TX X ca) X (e::es) fs)(j:k<=n:=by decide)(i:Gl X x:=by exact rfl)(a:(x == ("__debug__" : Str))=Ε:=by decide)(g:va (e::es) X.env=(Ε,Mb e X.env)::va es X.env:=by rfl)(b:(lc pos$ va es X.env).any (·.1)=Ε:=by rfl):FE (TX X ca) X (ϡ (Ϝ x p) (e::es) [] pos)$ lf m q.f [] fs:=by
 have h:=q.ok (P:=X.prog) (w:=X.w) (base:=X.base) c;have l:=q.len;subst l;exact Nm h rfl (o.mono j) i d a g b
def C4{d}[q:Fg k m x ps d](r:Qd n X.A)(g:eg X.K X.mg ca)(p:FE (TX X ca) X o f)(i:FA (TX X ca) X (e::es) fs)(j:k<=n:=by decide)(b:va (e::es) X.env=(Ε,Mb e X.env)::va es X.env:=by rfl)(a:(lc pos$ va es X.env).any (·.1)=Ε:=by rfl) (s:Mb (ϡ (ϟ o x apos) (e::es) [] pos) X.env=(do
   let c <-Mb o X.env
   oh apos.atName
   let (f,first) <-qe [c] (Ki c x pl)
   lr pos f first (lc pos$ va (e::es) X.env) (Hh pos$ uf [] X.env)):=by rfl):FE (TX X ca) X (ϡ (ϟ o x apos) (e::es) [] pos)$ Yf d m x f fs:=by
 have h:=q.ok (P:=X.prog) (w:=X.w) (base:=X.base) g;have l:=q.len;subst l;exact rM rfl p h (r.mono j) i b a s
def VZ{b}[q:Fg k m x ps b](g:Qd n X.A)(c:eg X.K X.mg ca)(e:FE (TX X ca) X o f)(d:k<=n:=by decide) (i:Mb (ϡ (ϟ o x apos) [] [] pos) X.env=(do
   let a <-Mb o X.env
   oh apos.atName
   let (f,first) <-qe [a] (Ki a x pl)
   lr pos f first (lc pos$ va [] X.env) (Hh pos$ uf [] X.env)):=by rfl):FE (TX X ca) X (ϡ (ϟ o x apos) [] [] pos)$ Yf b m x f Db:=by
 have h:=q.ok (P:=X.prog) (w:=X.w) (base:=X.base) c;have l:=q.len;subst l;exact Ŵ rfl e h (g.mono d) i
def Y6(a:eg X.K X.mg ca)(c:FE (TX X ca) X e g)(b:Dd e x X.env (Mb e X.env)=Mb e X.env:=by rfl)(d:(x,cs)∈pF:=by repeat (first|with_reducible exact la|refine ja _ ?_)):FE (TX X ca) X (ϟ e x pos)$ gf (Lc cs x) g:=ydb rfl (fO a d) c b
def N7(a:eg X.K X.mg ca)(b:FE (TX X ca) X o fo)(e:FE (TX X ca) X v fv)(d:Ng v (BD$ ϟ o x pos') pos.line X.env=pure Ε:=by rfl)(c:(x,cs)∈pF:=by repeat (first|with_reducible exact la|refine ja _ ?_)):FS (TX X ca) X (Ϻ [ϟ o x pos'] v pos)$ im cs x fv fo:=œ rfl (fO a c) b e d
def č(a:eg X.K X.mg ca)(c:Gl X x:=by exact rfl)(b:(x == ("__debug__" : Str))=Ε:=by decide)(d:(x,z)∈nW:=by repeat (first|with_reducible exact la|refine ja _ ?_)):FE (TX X ca) X (Ϝ x pos)$ eC$ Z z:=by
 obtain⟨t,h⟩:=a.ti.get _ d;exact E1 c h ⟨_,rfl⟩ b
end
noncomputable def zt:Oa->Str
 | Ϝ x _=>x
 | ϱ (Ϝ x _::_) _ _=>x
 |_=>""
noncomputable def Sv:Oa->Str
 | ϱ (_::Ϝ x _::_) _ _=>x
 |_=>"0"
noncomputable def fr(s:Scope)(p:i'):ad:=p.map λi=>((s.names.filter λy=>y.2 == xb).map (·.1)).getD i ""
section
variable{elt iter tgt:Oa}{ifs:List Oa}{scope:Scope}{pos spos py:Td}{y:Str}{src:Ev->M NX}{tg:D->Ev->Option Ev}{fi:Ev->M Bool}{fe:Ev->M D}
def O6 h c(e:Gs T X tgt iter src)(g:(zt tgt::Sv tgt::fr scope c).Nodup->∀ cl C b a ex,FG T (Do X (zt tgt::Sv tgt::fr scope c) scope cl C b a ex) tgt tg)(f:∀ cl C b a ex,lw T (Do X (zt tgt::Sv tgt::fr scope c) scope cl C b a ex) ifs fi)(d:∀ cl C b a ex,FE T (Do X (zt tgt::Sv tgt::fr scope c) scope cl C b a ex) elt fe)(j:(zt tgt::Sv tgt::fr scope c).Nodup:=by decide +kernel)(L:Zj X (zt tgt) (fr scope c) h scope:=by exact⟨rfl,rfl,rfl,rfl,rfl,rfl⟩)(i:X.qc=Ĳ:=by rfl)(k:∀ y,ye iter X.env y=pure y:=by intro _;rfl):FE T X (ϴ elt [⟨tgt,iter,ifs,0⟩] scope pos)$ Nn src h tg fi fe:=ydg i L e (g j) f d k
def pT i j c(k:X.N.Nodup)(e:Gs T X tgt iter src)(h:(zt tgt::Sv tgt::fr scope c).Nodup->∀ cl C b a ex,FG T (Do X (zt tgt::Sv tgt::fr scope c) scope cl C b a ex) tgt tg)(f:∀ cl C b a ex,lw T (Do X (zt tgt::Sv tgt::fr scope c) scope cl C b a ex) ifs fi)(d:∀ cl C b a ex,FE T (Do X (zt tgt::Sv tgt::fr scope c) scope cl C b a ex) elt fe)(o:(zt tgt::Sv tgt::fr scope c).Nodup:=by decide +kernel)(n:X.N[i]?=BD y:=by rfl)(q:Loc X.env.scope y:=by first|exact Or.inl rfl|exact Or.inr rfl)(L:Zj X (zt tgt) (fr scope c) j scope:=by exact⟨rfl,rfl,rfl,rfl,rfl,rfl⟩)(l:X.qc=Ĳ:=by rfl)(p:∀ y,ye iter X.env y=pure y:=by intro _;rfl)(g:Ng (ϴ elt [⟨tgt,iter,ifs,0⟩] scope pos) (BD$ Ϝ y py) spos.line X.env=pure Ĳ:=by rfl)(m:X.fn y=Ĳ\/X.env.scope.names.lookup y=BD .local:=by first|exact .inl rfl|exact .inr rfl|assumption):FS T X (Ϻ [Ϝ y py] (ϴ elt [⟨tgt,iter,ifs,0⟩] scope pos) spos)$ Tf i$ Nn src j tg fi fe:=F4 k n q l L e (h o) f d p g m
end
class ZqC (c k m:outParam Nat) (x:Str) (ps:outParam (ad)) (fn:outParam (B'->M D)):Prop where
 ok:∀ {P:Ca} {w:Wa} {K:ϗ} {mg:Str->Option Value} {base:Heap} {ca:Nat->Addr},eg K mg ca->fT ⟨K,ca,tx K⟩ P w mg base k x c ps fn
 len:ps.length=m
def fmk{X}{d}{c k m n}{ps}{x}{i}{p b}{e}{a}{j}[q:ZqC c k m x ps i](v:Qd n X.A)(o:eg X.K X.mg d)(r:FA (TX X d) X (e::a) j)(u:k+1<=n:=by decide)(t:Gl X x:=by exact rfl)(f:(x == ("__debug__" : Str))=Ε:=by decide)(s:va (e::a) X.env=(Ε,Mb e X.env)::va a X.env:=by rfl)(g:(lc b$ va a X.env).any (·.1)=Ε:=by rfl):FE (TX X d) X (ϡ (Ϝ x p) (e::a) [] b)$ Xp c m i j:=by
 have h:=q.ok (P:=X.prog) (w:=X.w) (base:=X.base) o;have l:=q.len;subst l;exact p7 h rfl (v.mono u) t r f s g
set_option hygiene false
def wkA(k:String):Lean.MacroM Lean.Term:=
 if k == "_" then `(_) else if k == "?" then `(?_) else if k == "!" then `(by assumption) else if k == "λ" then `(λa a=>rfl) else let r:=(k.drop 1).toString
 if k.front == '\'' then return Lean.Syntax.mkStrLit r else if k.front.isDigit then return Lean.Syntax.mkNumLit k else let i:=λ(k:String)=>Lean.mkIdent ((k.splitOn ".").foldl Lean.Name.str .anonymous)
 if k.front == '.' then let i:=i r;`(.$i:ident) else if k == "@n" then `(by first|assumption|(show List.Nodup (_::_::_);decide +kernel)) else if k == "@o" then `(by first|exact Or.inl rfl|exact Or.inr rfl) else match k.splitOn "=" with
 |[a,b]=>return ⟨.node .none ``Lean.Parser.Term.namedArgument #[Lean.mkAtom "(",Lean.mkIdent (.mkSimple a),Lean.mkAtom ":=",Lean.Syntax.mkNumLit b,Lean.mkAtom ")"]⟩
 |_=>return i k
def wkT(s:String):Lean.MacroM Lean.Term:=do
 let m:=λ(a:List Lean.Term)=>match a.reverse with|f::l=>Lean.Syntax.mkApp f l.toArray|_=>⟨.missing⟩
 let mut t:List$ List Lean.Term:=[[]]
 for k in s.splitOn " " do
  if k == "(" || k == "[" then t:=[]::t
  else match k,t with
   |")",a::b::r=>t:=(m a::b)::r
   |"]",a::b::r=>let a:=a.reverse.toArray;t:=((<- `([$a,*]))::b)::r
   |_,b::r=>t:=((<- wkA k)::b)::r
   |_,_=>pure ()
 return m t.head!
def wkF:List (Lean.TSyntax `tactic)->Lean.MacroM (Lean.TSyntax `tactic)
 |[t]=>pure t
 |t::r=>do let r <- wkF r;`(tactic| first|$t:tactic|$r:tactic)
 |[]=>`(tactic| fail)
def wkR(s:String):Lean.MacroM (Lean.TSyntax `tactic):=do wkF (<- (s.splitOn "|").mapM λt=>do let t <- wkT t;`(tactic| refine' $t))
def wkG(s:String):Lean.MacroM (Lean.TSyntax `tactic):=do
 match s.splitOn ";" with
 |[g,r]=>let g <- wkT g;let r <- wkR r;`(tactic| (guard_target =~ $g;$r:tactic))
 |[g,n,r]=>let g <- wkT g;let n <- wkT n;let r <- wkR r;`(tactic| (guard_target =~ $g;(fail_if_success (guard_target =~ $n));$r:tactic))
 |_=>`(tactic| fail)
def wkL(s:String):Lean.MacroM (Lean.TSyntax `tactic):=do
 match s.splitOn "\n" with
 |g::l=>let g <- wkT g;let r <- wkF (<- l.mapM wkG);`(tactic| (guard_target =~ $g;$r:tactic))
 |_=>`(tactic| fail)
def wkS:=["FE _ _ _ _\nFE _ _ ( .Constant _ _ _ ) _;xD|cK|J5|ŗ\nFE _ _ ( .Subscript _ ( .Slice _ _ _ _ ) _ ) _;ĭ rfl ? ? ?\nFE _ _ ( .Subscript _ _ _ ) _;FE _ _ ( .Subscript ( .Attribute _ _ _ ) _ _ ) _;MO KN ( RN rfl ) ? ? λ\nFE _ _ ( .Call ( .Name 'len _ ) [ ( .Call ( .Name 'set _ ) _ _ _ ) ] _ _ ) _;K0 rfl rfl rfl ( eg.By ! ) rfl ( eg.ny ! ) ?\nFE _ _ ( .Call ( .Name 'len _ ) _ _ _ ) _;LG m3 ( zzm rfl ) rfl ( eg.By ! ) sx ?\nFE _ _ ( .Call ( .Name 'sum _ ) _ _ _ ) _;LG ( Χ rfl ) ( zzt rfl ) rfl ( eg.fF ! ) boot_sum ?\nFE _ _ ( .Call ( .Name 'all _ ) _ _ _ ) _;LG ( ŉ rfl ) ( ı rfl ) rfl ( eg.dE ! ) boot_all ?\nFE _ _ ( .Call ( .Name 'isinstance _ ) [ _ ( .Name 'tuple _ ) ] _ _ ) _;nI .tuple ? rfl ( eg.Bg ! ) rfl ( eg.Sr ! ) boot_tuple\nFE _ _ ( .Call ( .Name 'isinstance _ ) [ _ ( .Name 'str _ ) ] _ _ ) _;nI .str ? rfl ( eg.Bg ! ) rfl ( eg.AF ! ) boot_str\nFE _ _ ( .Call ( .Name 'isinstance _ ) [ _ ( .Name 'int _ ) ] _ _ ) _;nI .int ? rfl ( eg.Bg ! ) rfl ( eg.pE ! ) boot_int\nFE _ _ ( .Call ( .Name 'isinstance _ ) [ _ ( .Name 'bool _ ) ] _ _ ) _;nI .bool ? rfl ( eg.Bg ! ) rfl ( eg.Mz ! ) boot_bool\nFE _ _ ( .Call ( .Name _ _ ) _ _ _ ) _;l3 ! ! ?\nFE _ _ ( .Call ( .Attribute _ 'append _ ) _ _ _ ) _;DG xf Um Vm uK aK ? ?\nFE _ _ ( .Call ( .Attribute _ 'extend _ ) _ _ _ ) _;DG xf PySem.F.slot_list_extend PySem.F.type_list_extend zig Ο ? ?\nFE _ _ ( .Call ( .Attribute _ _ _ ) ( .cons _ _ ) _ _ ) _;C4 ! ! ? ?\nFE _ _ ( .Call ( .Attribute _ _ _ ) [ ] _ _ ) _;VZ ! ! ?\nFE _ _ ( .Attribute _ _ _ ) _;Y6 ! ?\nFE _ _ ( .Tuple _ _ _ ) _;ZW ?\nFE _ _ ( .BinOp _ .Add _ _ ) _;mC ( O1 rfl ) Mx ? ?\nFE _ _ ( .BinOp _ .Sub _ _ ) _;mC yg6 RZ ? ?\nFE _ _ ( .BinOp _ .Mod _ _ ) _;mC ũ U2 ? ?\nFE _ _ ( .BinOp _ .FloorDiv _ _ ) _;mC zxc G0 ? ?\nFE _ _ ( .BinOp _ .Mult _ _ ) _;mC ă i8 ? ?\nFE _ _ ( .BinOp _ .Pow _ _ ) _;mC yg5 E3 ? ?\nFE _ _ ( .Compare _ [ .Eq ] _ _ ) _;pp ( oX ( Km ! ) ) Mx ? ? ( Wn _ )\nFE _ _ ( .Compare _ [ .NotEq ] _ _ ) _;pp ( RT ( Km ! ) ) Mx ? ? ( Wn _ )\nFE _ _ ( .Compare _ [ .Lt ] _ _ ) _;pp BN ON ? ? ( Wn _ )\nFE _ _ ( .Compare _ [ .LtE ] _ _ ) _;pp hH WI ? ? ( Wn _ )\nFE _ _ ( .Compare _ [ .Gt ] _ _ ) _;pp DT IU ? ? ( Wn _ )\nFE _ _ ( .Compare _ [ .GtE ] _ _ ) _;pp ZN TL ? ? ( Wn _ )\nFE _ _ ( .Compare _ [ .Is ] _ _ ) _;pp UV oQ ? ? ( Wn _ )\nFE _ _ ( .Compare _ [ .IsNot ] _ _ ) _;pp GQ yV ? ? ( Wn _ )\nFE _ _ ( .Compare _ [ .LtE _ ] _ _ ) _;η hH WI hH WI ? ? ?\nFE _ _ ( .BoolOp .And ( .cons _ ( .cons _ _ ) ) _ ) _;SB ? ?\nFE _ _ ( .BoolOp .Or ( .cons _ ( .cons _ _ ) ) _ ) _;ť ? ?\nFE _ _ ( .BoolOp _ [ _ ] _ ) _;sF ?\nFE _ _ ( .UnaryOp .Not _ _ ) _;Z2 ?\nFE _ _ ( .UnaryOp .USub _ _ ) _;yna R4 i4 ?\nFE _ _ ( .IfExp _ _ _ _ ) _;g9 ? ? ?","FA _ _ _ _\nFA _ _ _ _;Rr|lm ? ?","Dk _ _ _ _\nDk _ _ _ _;Nr|ui ?|yd ? ?","FS _ _ _ _\nFS _ _ ( .Return _ _ ) _;Ar ?\nFS _ _ ( .Assign [ ( .Attribute _ _ _ ) ] _ _ ) _;N7 ! ? ?\nFS _ _ ( .Expr _ _ ) _;Cz ?\nFS _ _ ( .Raise ( some ( .Call ( .Name 'NoDeed _ ) _ _ _ ) ) _ _ ) _;S5 2 PySem.F.excBase_ValueError rfl ( eg.Hu ! ) ( eg.gp ! ) rfl rfl ( lm cK Rr )","FT _ _ _ _\nFT _ _ ( .BoolOp _ _ _ ) _;L2.PW.pt ?\nFT _ _ ( .UnaryOp .Not _ _ ) _;cy ?\nFT _ _ ( .Compare _ [ .Eq ] _ _ ) _;Jr ( oX ( Km ! ) ) Mx ? ? ( Wn _ )\nFT _ _ ( .Compare _ [ .NotEq ] _ _ ) _;Jr ( RT ( Km ! ) ) Mx ? ? ( Wn _ )\nFT _ _ ( .Compare _ [ .Lt ] _ _ ) _;Jr BN ON ? ? ( Wn _ )\nFT _ _ ( .Compare _ [ .LtE ] _ _ ) _;Jr hH WI ? ? ( Wn _ )\nFT _ _ ( .Compare _ [ .Gt ] _ _ ) _;Jr DT IU ? ? ( Wn _ )\nFT _ _ ( .Compare _ [ .GtE ] _ _ ) _;Jr ZN TL ? ? ( Wn _ )\nFT _ _ ( .Compare _ [ .Is ] _ _ ) _;Jr UV oQ ? ? ( Wn _ )\nFT _ _ ( .Compare _ [ .IsNot ] _ _ ) _;Jr GQ yV ? ? ( Wn _ )\nFT _ _ _ _;FT _ _ ( .Compare _ _ _ _ ) _;cx ?","FW _ _ _ _\nFW _ _ _ _;B3 ? ?|wF ? ?|ι ?|MH ?","FG _ _ _ _\nFG _ _ ( .Tuple _ _ _ ) _;xM n=2 rfl ?|xM n=3 rfl ?|xM n=4 rfl ?","bC _ _ _ _\nbC _ _ _ _;UZ|j5 ? ?","FI _ _ _ _ _\nFI _ _ _ ( .Call ( .Name 'range _ ) [ _ ] _ _ ) _;Z7 rfl ( eg.Gw ! ) ?\nFI _ _ _ _ _;LN rfl ?","Gs _ _ _ _ _\nGs _ _ _ ( .Call ( .Name 'enumerate _ ) _ _ _ ) _;ztl rfl ( eg.Mp ! ) ?\nGs _ _ _ ( .Call ( .Name 'zip _ ) _ _ _ ) _;X5 rfl ( eg.vE ! ) ? ?","lw _ _ _ _\nlw _ _ _ _;M7|ztn ?","L4.FO _ _ _ _\nL4.FO _ _ _ _;P0|l5 ?"]
def wkM:="A mI i6 ( C5 rfl ) rfl ( eg.Xz ! ) boot_list ?\nB mI X8 ( đ rfl ) rfl ( eg.Sr ! ) boot_tuple ?\nC mI DY t9 rfl ( eg.xu ! ) boot_dict ?\nD Jr ( qR rfl ( Km ! ) ) Mx ? ? rfl|pp ( qR rfl ( Km ! ) ) Mx ? ? rfl\nF iB vr rfl ? ? ?\nH mI DY j7 rfl ( eg.xu ! ) boot_dict ?\nI NM ?\nL E5 ?\nM Ζ ? ? ?\nN Þ\nO LG ( j8 rfl ) ( zqd rfl ) rfl ( eg.Ep ! ) L4.WY ?\nQ V9 rfl rfl rfl ( eg.Ep ! ) rfl ( eg.ny ! ) ?\nR fmk ! ! ?\nS Jr gW ( kG rfl true ) ? ? rfl|pp gW ( kG rfl true ) ? ? rfl\nT Ħ ( Km ! ) ? ? ?\na oq ? ? ?\nb oq ? MA ?\nd AK ( Km ! ) ? ? λ\nf Vx vr rfl ? ? ?\nh zt5 ?\ni Jr ( NH ( Km ! ) ) WP ? ? rfl|pp ( NH ( Km ! ) ) WP ? ? rfl\nj Jr ( ZQ ( Km ! ) ) dW ? ? rfl|pp ( ZQ ( Km ! ) ) dW ? ? rfl\nl æ ?\nm mL ( Km ! ) ? ? ?\nn Ĥ\no XU\ns Jr lK ( kG rfl false ) ? ? rfl|pp lK ( kG rfl false ) ? ? rfl\nt Jr ( NH ( Km ! ) ) vU ? ? rfl|pp ( NH ( Km ! ) ) vU ? ? rfl\nu č !\nv ym7 ?\nx MO KN ( RN rfl ) ? ? λ\ny n4 ?\nz CS ?"
local macro_rules
 |`(tactic| walk_at $s:str)=>do
  let c:=s.getString.front;let r:=(s.getString.drop 1).toString;let r':=Lean.Syntax.mkStrLit r
  if c == '-' then return <- `(tactic| ((repeat intro _);walk_at "";walk_at $r'))
  if c == '+' then return <- `(tactic| (walk_at "";walk_at $r'))
  let n:=λ(c:Char)=>toString (c.toNat - 48);let (t,r) <-(if c == 'c' || c == 'q' || c == 'r' then (do
   let d:=(r.takeWhile (·!= '.')).toString.toList;let o:=(r.drop (d.length+1)).toString;let j:=n (d.headD '0');let d:=d.drop (if c == 'c' then 0 else 1);let e:=(d.takeWhile (·!= '/')).map n;let p:=((d.dropWhile (·!= '/')).drop 1).map n;let p:=if p.isEmpty then (List.range e.length).map toString else p
   let b:=λ(l:List String)=>l.foldl (·++·++" ") "[ "++"] ";let l:=b e++b p
   return (<- wkR (if c == 'c' then "O6 "++l++"? ? ? ?" else if c == 'q' then "ł ( pT "++j++" "++l++"! ? ? ? ? )" else "pT "++j++" "++l++"! ? ? ? ?"),o)) else match (wkM.splitOn "\n").find? (·.front == c) with
    |some t=>return (<- wkR (t.drop 2).toString,r)
    |_=>return (<- wkF (<- (("FE _ _ _ _;si #\nFG _ _ _ _;Ł i=# @n rfl @o\nFS _ _ ( .Assign _ _ _ ) _;VE i=# @n rfl @o ?\n_;xW i=# lT @n rfl @o ?".replace "#" (n c)).splitOn "\n").mapM wkG),r))
  let r:=Lean.Syntax.mkStrLit r;let t <- `(tactic| ($t:tactic<;>walk_at ""));let f:=λu=>`(tactic| first|$t:tactic|(rotate_left;$u:tactic))
  let u <- f (<- f (<- f (<- f t)))
  `(tactic| ($u:tactic;walk_at $r))
local macro_rules
 |`(tactic| walk_at "")=>do
  let r <- wkF (<- wkS.mapM wkL)
  `(tactic| repeat' ((fail_if_success guard_target =~ Ev->_);first
  |$r:tactic
  |(guard_target =~ List.Nodup _->_;intro _ _ _ _ _ _)
  |(intro _ _ _ _ _)))
section
variable{P:Ca}{w:Wa}{K:ϗ}{mg:Str->Option Value}{base:Heap}{ca:Nat->Addr}(a:eg K mg ca)
include a
noncomputable instance jb:ZqF 1 2 "_law_cell_at" ["_law_script","_law_k"]:=Pc 2 2 0 113 [] (hb:=by walk_at "-a1001")
noncomputable instance Zl:ZqF 1 1 "is_whole" ["thing"]:=Pc 1 1 0 8 [] (hb:=by walk_at "-00")
noncomputable instance Ce:ZqF 2 3 "is_between" ["thing","least","most"]:=Pc 3 3 1 9 [] (hb:=by walk_at "-0102")
noncomputable instance on:ZqF 3 1 "is_hand" ["thing"]:=Pc 1 1 2 11 [] (hb:=by walk_at "-0u")
noncomputable instance Xg:ZqF 4 1 "makes_a_pot" ["thing"]:=Pc 1 1 3 57 [] (hb:=by walk_at "-0000000u0u0u")
abbrev II:Ev->M Fl:=(Vh (sv (eT$ Ab GY (Ba 1)$ eC$ Z 2)$ kn$ eT$ lf 1 Xg []$ Na (Ba 2) Db) fq Ei)
def AR:Ev->M Fl:=
 (Nc (Cu (qI$ Ba 0) (io 2$ bi (je 1)$ bi (je 2) Io) II)$ qh$ fk$ Go xr$ Na (Ba 0) Db)
noncomputable instance ki:ZqF 5 1 "checked_pots" ["pots"]:=Pc 3 1 4 58 ["number","made"] (g:=AR) (hb:=by exact λa b c=>
 (yd (iB vr rfl (by walk_at "+0") (by walk_at "+12")$ ui$ oq (by walk_at "+1u2") (ui W9) Nr)$ by walk_at "+zA0"))
def zz:=yg 2 2 0 17 50 0 [] (hb:=by walk_at "-01")
noncomputable instance Bh:ZqF 1 1 "whole_of" ["made"]:=Pc 1 1 0 59 [] (hb:=by walk_at "-00")
instance:ZqC 6 1 2 "Held" ["self","whole"] zz.f:=⟨λa=>⟨_,a.xz,a.Jw,zz.ok a⟩,rfl⟩
def Bx:=yg 2 2 5 30 62 0 [] (hb:=by walk_at "-0100c.y00zR00c.y00n")
def Tz:=Xf 1 1 0 44 62 14 [] (hb:=by walk_at "-zA0")
instance xy:Fg 1 1 "made_of" ["self"] [(9,Tz)]:=.Gg 1 9 "made_of" Tz .nil
abbrev wM:Ev->M Fl:=(Vh (yJ (eT$ Ab (Es Ε) (Ba 0)$ yF (Ba 3) V6$ BD$ eC$ Z 2)$ eT$ Ab oLt (Ab nb (Ba 3)$ eC$ Z 4)$ Ab Mi (Ba 1)$ eC$ Z 1) fq Ei)
def qU:Ev->M Fl:=
 (Nc (Vh (kn$ eT$ lf 3 Ce []$ Na (Ba 1)$ Na (eC$ Z 1)$ Na (eC$ Z 50) Db) fq Ei)$ xn (Gi$ Ba 2) (je 3) wM)
noncomputable instance yh:ZqF 3 3 "check_span" ["hand","every","pots"]:=Pc 4 3 2 100 ["made"] (g:=qU) (hb:=by walk_at "-b1uf23bs0331")
abbrev oW:Ev->M Fl:=(Jv (eC$ ϐ Ĳ) (gf (Lc [14,15] "known")$ Ba 0)$ Ba 2)
def pM:Ev->M Fl:=
 (xn (Gi$ Ba 1) (je 2) oW)
def uw:=yg 3 2 0 57 108 2 ["word"] (g:=pM) (hb:=by walk_at "-f12m02")
instance cB:Fg 1 2 "learn" ["self","words"] [(15,uw)]:=.Gg 1 15 "learn" uw .nil
def nC:=yg 4 4 0 56 108 1 [] (hb:=by walk_at "-m101m201m301")
instance Gu:Fg 1 4 "hold" ["self","account","claim","seen"] [(15,nC)]:=.Gg 1 15 "hold" nC .nil
noncomputable instance Zo:ZqF 3 1 "is_day" ["thing"]:=Pc 1 1 2 13 [] (hb:=by walk_at "-0u")
noncomputable instance gn:ZqF 3 1 "is_word" ["thing"]:=Pc 1 1 2 12 [] (hb:=by walk_at "-0u")
noncomputable instance Hk:ZqF 3 1 "is_amount" ["thing"]:=Pc 1 1 2 15 [] (hb:=by walk_at "-0u")
noncomputable instance jn:ZqF 3 1 "is_side" ["thing"]:=Pc 1 1 2 10 [] (hb:=by walk_at "-0")
noncomputable instance dm:ZqF 4 1 "is_tie" ["thing"]:=Pc 1 1 3 27 [] (hb:=by walk_at "-000000")
noncomputable instance Xq:ZqF 5 1 "are_ties" ["thing"]:=Pc 1 1 4 29 [] (hb:=by walk_at "-b00ubzc.y000zc.y0000")
noncomputable instance Zn:ZqF 3 1 "are_shares" ["thing"]:=Pc 1 1 2 28 [] (hb:=by walk_at "-000u0u")
noncomputable instance Jk:ZqF 3 1 "is_number" ["thing"]:=Pc 1 1 2 14 [] (hb:=by walk_at "-0u")
noncomputable instance Ah:ZqF 6 1 "is_stand" ["thing"]:=Pc 1 1 5 30 [] (hb:=by walk_at "-00000")
abbrev zBD(x q:Str)(s:Stmt)(c:ad):Prop:=∀ (kV b d:Value) (an:Option Addr) (a ct:Value) (us:gV),us.length=c.length->bindArgs (ϭ x q (yl s) (Pj s) (yf s) Bc kV b d an a ct) ⟨us,[]⟩=pure (c.zip us)
def Rq{N P}{sc}(a:sc.kind=ϣ)(b:sc.isCoroutine=Ε)(c:sc.isGenerator=Ε)(h:N.Nodup/\N.take P.length=P/\(∀ x∈P,sc.names.lookup x=BD .local\/sc.names.lookup x=BD Gc)/\∀ y∈sc.names,y.2≠ xb):nc N P sc:=⟨a,b,c,h.1,h.2.1,h.2.2.1,h.2.2.2⟩
abbrev aX:Stmt:=Rh 31
def dP:Ev->M Fl:=
 (Nc (Tf 3$ Pg$ Na (Ba 0)$ Na (Ba 1)$ Na (nv (eT$ Ab Jq (Ba 2)$ eC Ϛ) (Pg Db)$ Ba 2) Db)$ Nc (Vh (kn$ eT$ lf 1 Ah []$ Na (Ba 3) Db) fq Ei)$ qh$ Ba 3)
def Ch:B'->M D:=zd λa=>Ud$ dh 4 dP a
def HY:nc ["number","shares","ties","made"] ["number","shares","ties"]$ yf aX:=Rq rfl rfl rfl (by decide +kernel)
def C8:QI "stand" "stand" aX ["number","shares","ties"] [Bc]:=λe e e e e e e e e e d b c=>⟨λa=>QF.ap [0,0,0] d (by simpa using a) (by intro _ _ _;show Xe _ _ _ _;exact Uc rfl b c rfl rfl),λa=>QF.ap [0,0] d (by simpa using a) (by intro _ _;show Xe _ _ _ _;exact Uc rfl b c rfl rfl)⟩
def YV:Ct ⟨K,ca,tx K⟩ P w mg base 7 "stand" ["number","shares","ties"] [Bc] Ch:=
 Ct.zd$ Ct.Ud (ygr a.Ch HY λv v v v v v v b=>
  by have:=HY.nd;walk_at "+30122b33")
noncomputable instance Nl:ZqF 8 2 "first" ["left","right"]:=Pc 2 2 7 32 [] (hb:=by exact λa b c=>
 (ui$ Ar$ V7 (YV a) rfl (b.mono$ by decide) rfl ŕ l7$ by walk_at "+01"))
def Zp:=yg 7 7 0 45 71 0 [] (hb:=by walk_at "-010203040zA50zA6")
instance:ZqC 11 1 7 "Calm" ["self","pot","side","mine","grant","may","strikes"] Zp.f:=⟨λa=>⟨_,a.Nz,a.nw,Zp.ok a⟩,rfl⟩
abbrev ţ:Stmt:=Rh 75
def XR:Ev->M Fl:=
 (Nc (Tf 4$ lf 2 Nl []$ Na (Ba 2)$ Na (Ba 3) Db)$ qh$ Xp 11 7 Zp$ Na (Ba 0)$ Na (Ba 1)$ Na (Ba 4)$ Na (eC Ϛ)$ Na (kl$ Na (Ba 4) Db)$ Na (kl Db) Db)
def Zd:B'->M D:=zd$ dh 5 XR
def KR:nc ["pot","side","left","right","mine"] ["pot","side","left","right"]$ yf ţ:=Rq rfl rfl rfl (by decide +kernel)
def g7:wh ⟨K,ca,tx K⟩ P w mg base 9 "first_account" ["pot","side","left","right"] Zd:=
 wh.zd (Xw a.Zd KR λv v v v v v v b=>
  by have:=KR.nd;walk_at "+423R014v4v")
abbrev dU:Ev->M Fl:=(Vh (eT$ Ab rj (Ab nb (Ba 6)$ Ba 7)$ Ba 1) (Ml$ Yf [(15,nC)] 4 "hold" (Ba 0)$ Na (lf 4 Zd []$ Na (Ba 5)$ Na (Ba 7)$ Na (Ab nb (Ba 6)$ eC$ Z 2)$ Na (Ab nb (Ba 6)$ eC$ Z 3) Db)$ Na (eC$ .gt ["held"])$ Na (eC$ Ϩ [] []) Db) Ei)
abbrev zF:Ev->M Fl:=(xn (Gi$ Pg$ Na (eC$ Z 0)$ Na (eC$ Z 1) Db) (je 7) dU)
abbrev FP:Stmt:=au (Rh 108) 0
def sY:Ev->M Fl:=
 (Nc (Ml$ lf 3 yh []$ Na (Ba 1)$ Na (Ba 2)$ Na (Ba 3) Db)$ Nc (im [15] "hand" (Ba 1)$ Ba 0)$ Nc (im [14,15,16] "every" (Ba 2)$ Ba 0)$ Nc (im [14,15] "last_look" (eC$ Z 0)$ Ba 0)$ Nc (im [15] "gave" (eC$ Z 0)$ Ba 0)$ Nc (im [14,15] "known" rq$ Ba 0)$ Nc (im [15] "accounts" rq$ Ba 0)$ Nc (im [9,15] "claims" rq$ Ba 0)$ Nc (im [15] "seen" rq$ Ba 0)$ Nc (im [15] "asked" rq$ Ba 0)$ Nc (im [15] "finishing" rq$ Ba 0)$ Nc (Ml$ Yf [(15,uw)] 2 "learn" (Ba 0)$ Na (nv (eT$ Ab Jq (Ba 4)$ eC Ϛ) (kl Db)$ Ba 4) Db)$ Cu (qI$ Ba 3) (io 2$ bi (je 5)$ bi (je 6) Io) zF)
def Fp:B'->M D:=zd$ dh 8 sY
def BS:nc ["self","hand","every","pots","words","pot","made","side"] ["self","hand","every","pots","words"]$ yf FP:=Rq rfl rfl rfl (by decide +kernel)
def L9:QI "__init__" "Keeper.__init__" FP ["self","hand","every","pots","words"] [Bc]:=λe e e e e e e e e e d b c=>⟨λa=>QF.ap [0,0,0,0,0] d (by simpa using a) (by intro _ _ _ _ _;show Xe _ _ _ _;exact Uc rfl b c rfl rfl),λa=>QF.ap [0,0,0,0] d (by simpa using a) (by intro _ _ _ _;show Xe _ _ _ _;exact Uc rfl b c rfl rfl)⟩
def ā:Nt ⟨K,ca,tx K⟩ P w mg base 10 (ca 55) ["self","hand","every","pots","words"] [Bc] Fp:=
 Nt.zd (eM a.Fp BS λv v v v v v b=>
  by have c:=BS.nd;exact(yd (by walk_at "+123")$ yd (by walk_at "+01")$ yd (by walk_at "+02")$ yd (by walk_at "+0")$ yd (by walk_at "+0")$ yd (by walk_at "+0n")$ yd (by walk_at "+0n")$ yd (by walk_at "+0n")$ yd (by walk_at "+0n")$ yd (by walk_at "+0n")$ yd (by walk_at "+0n")$ yd (by walk_at "+04v4")$ ui$ iB vr rfl (by walk_at "+3") (by walk_at "+56")$ ui$ Vx vr rfl (by walk_at "") (by walk_at "+7")$ ui$ oq (by walk_at "+671") (ui$ Cz$ rM (k:=1) (ps:=["self","account","claim","seen"]) rfl (si 0) (Gu.ok a) (b.mono$ by decide)$ lm (Nm (g7 a) rfl (b.mono$ by decide) rfl$ by walk_at "+5766")$ lm (SY (ss:=["held"]) rfl a.su)$ lm XU Rr) Nr))
noncomputable instance Si:ZqF 1 2 "words_of" ["hand","words"]:=Pc 2 2 0 110 [] (hb:=by walk_at "-zc0.I101120")
abbrev yL:Ev->M Fl:=(Jv (Xp 15 5 Fp$ Fz []$ Na (Ba 6)$ Na (Ba 3)$ Na (gf (Lc [9,14,16] "pots")$ Ba 0)$ Na (lf 2 Si []$ Na (Ba 6)$ Na (Ba 5) Db) Db) (gf (Lc [16] "keepers")$ Ba 0)$ Ba 6)
abbrev KJ:Ev->M Fl:=(Vh (eT$ Ab Qq (Ba 8)$ gf (Lc [16] "keepers")$ Ba 0) (aI (eC$ ϐ Ĳ) (gf (Lc [16] "things")$ Ba 0)$ Pg$ Na (eC$ ϓ "word")$ Na (Ba 7) Db) Ei)
instance:ZqC 9 6 2 "Book" ["self","pots"] Bx.f:=⟨λa=>⟨_,a.aA,a.yw,Bx.ok a⟩,rfl⟩
abbrev uX:Stmt:=au (Rh 111) 0
def fY:Ev->M Fl:=
 (Nc (im [16] "public" (Xp 9 2 Bx$ Na (Ba 1) Db)$ Ba 0)$ Nc (im [9,14,16] "pots" (Yf [(9,Tz)] 1 "made_of" (gf (Lc [16] "public")$ Ba 0) Db)$ Ba 0)$ Nc (im [14,15,16] "every" (Ba 3)$ Ba 0)$ Nc (im [16] "keepers" rq$ Ba 0)$ Nc (im [16] "under_way" (Fv Db)$ Ba 0)$ Nc (im [16] "things" LK$ Ba 0)$ Nc (Tf 5$ nv (eT$ Ab Jq (Ba 4)$ eC Ϛ) (eC$ Ϩ [] [])$ Ba 4)$ Nc (xn (Gi$ fk$ gf pB$ Ba 2) (je 6) yL)$ Cu (Ew$ Ba 5) (io 2$ bi (je 7)$ bi (je 8) Io) KJ)
def Mm:B'->M D:=zd$ dh 9 fY
def kT:nc ["self","pots","keeps","every","words","owners","hand","word","owner"] ["self","pots","keeps","every","words"]$ yf uX:=Rq rfl rfl rfl (by decide +kernel)
def l8:QI "__init__" "Hall.__init__" uX ["self","pots","keeps","every","words"] [Bc]:=λe e e e e e e e e e d b c=>⟨λa=>QF.ap [0,0,0,0,0] d (by simpa using a) (by intro _ _ _ _ _;show Xe _ _ _ _;exact Uc rfl b c rfl rfl),λa=>QF.ap [0,0,0,0] d (by simpa using a) (by intro _ _ _ _;show Xe _ _ _ _;exact Uc rfl b c rfl rfl)⟩
def V4:Nt ⟨K,ca,tx K⟩ P w mg base 12 (ca 79) ["self","pots","keeps","every","words"] [Bc] Mm:=
 Nt.zd (eM a.Mm kT λv v v v v v b=>
  by have d:=kT.nd;exact(yd (by walk_at "+0R1")$ yd (by walk_at "+00")$ yd (by walk_at "+03")$ yd (by walk_at "+0n")$ yd (by walk_at "+0l")$ yd (by walk_at "+0N")$ yd (by walk_at "+54o4")$ yd (Vx vr rfl (by walk_at "+zQ2") (by walk_at "+6")$ ui$ mL (Km b) (zR (c:=15) (ps:=["self","hand","every","pots","words"]) a.gu a.Ws (ā a) (ϑ rfl) Ϡ (λv v=>lb.nil) rfl (b.mono$ by decide) rfl$ by walk_at "+63065") (by walk_at "+0")$ si 6)$ by walk_at "+FI578aj80T07"))
noncomputable instance ip:ZqF 3 1 "is_pot" ["thing"]:=Pc 1 1 2 16 [] (hb:=by walk_at "-0u")
noncomputable instance mi:ZqF 4 1 "is_of_a_side" ["thing"]:=Pc 1 1 3 46 [] (hb:=by walk_at "-000")
noncomputable instance xh:ZqF 7 1 "is_thing" ["thing"]:=Pc 1 1 6 47 [] (hb:=by exact λa b c=>
 (yd (by walk_at "+b000")$ yd (by walk_at "+b0")$ yd (by walk_at "+a000")$ yd (by walk_at "+a000") MA))
noncomputable instance Fk:ZqF 8 1 "is_strike" ["thing"]:=Pc 1 1 7 65 [] (hb:=by walk_at "-00")
noncomputable instance jm:ZqF 8 1 "is_agree" ["thing"]:=Pc 1 1 7 64 [] (hb:=by walk_at "-00")
noncomputable instance ae:ZqF 9 1 "has_its_parts" ["letter"]:=Pc 1 1 8 66 [] (hb:=by exact λa b c=>
 (yd (by walk_at "+a000")$ yd (by walk_at "+a0000")$ yd (by walk_at "+a000")$ yd (by walk_at "+a0000")$ yd (by walk_at "+a000") MA))
noncomputable instance qd:ZqF 10 1 "is_letter" ["thing"]:=Pc 1 1 9 67 [] (hb:=by walk_at "-b00000")
def kB:=Xf 2 2 2 84 111 5 [] (hb:=by walk_at "-10")
instance zy:Fg 3 2 "has_pot" ["self","pot"] [(16,kB)]:=.Gg 3 16 "has_pot" kB .nil
def YD:=Xf 2 2 3 95 111 16 [] (hb:=by walk_at "-a01vzc0.yx010i020")
instance sr:Fg 4 2 "keeping_hands" ["self","pot"] [(16,YD)]:=.Gg 4 16 "keeping_hands" YD .nil
noncomputable instance wc:ZqF 1 1 "things_in" ["letter"]:=Pc 1 1 0 68 [] (hb:=by walk_at "-a0va0v0zA0")
abbrev lG:Ev->M Fl:=(Ml$ qD cA (Ba 1)$ Na (Ba 2) Db)
def HQ:Ev->M Fl:=
 (Nc (Tf 1 rq)$ Nc (xn (Gi$ gf (Lc [9] "shown")$ Ba 0) (je 2) lG)$ qh$ fk$ Go kw$ Na (Ba 1) Db)
def qw:=Xf 3 1 0 43 62 13 ["words","shown"] (g:=HQ) (hb:=by exact λa b c=>
 (yd (by walk_at "+1n")$ yd (Vx vr rfl (by walk_at "+0") (by walk_at "+2")$ ui$ Cz$ CJ se Rm PySem.F.type_dict_update T5 M6 (si 1)$ lm (si 2) Rr)$ by walk_at "+zO1"))
instance Uv:Fg 1 1 "all_shown" ["self"] [(9,qw)]:=.Gg 1 9 "all_shown" qw .nil
def ID:=Xf 3 3 3 85 111 6 [] (hb:=by walk_at "-012jx0120")
instance uq:Fg 4 3 "is_side_of_band" ["self","pot","side"] [(16,ID)]:=.Gg 4 16 "is_side_of_band" ID .nil
def Dt:=Xf 2 2 4 87 111 8 [] (hb:=by walk_at "-at10a1s10011")
instance zw:Fg 5 2 "band_can" ["self","thing"] [(16,Dt)]:=.Gg 5 16 "band_can" Dt .nil
abbrev LX:Ev->M Fl:=(aI (eC$ ϐ Ĳ) (gf (Lc [16] "things")$ Ba 0)$ Ba 2)
def FQ:Ev->M Fl:=
 (xn (Gi$ lf 1 wc []$ Na (Ba 1) Db) (je 2) LX)
def QB:=yg 3 2 1 89 111 10 ["thing"] (g:=FQ) (hb:=by walk_at "-f12T02")
instance Lv:Fg 2 2 "tell_band" ["self","letter"] [(16,QB)]:=.Gg 2 16 "tell_band" QB .nil
abbrev eA:Ev->M Fl:=(Nc (Tf 4$ yF (Ab nb (gf (Lc [9,14,16] "pots")$ Ba 0)$ Ab nb (Ba 3)$ eC$ Z 1) V6$ BD$ eC$ Z 2)$ Nc (Tf 5$ nv (eT$ Ab rj (Ab nb (Ba 4)$ eC$ Z 0)$ Ba 1) (Ab nb (Ba 4)$ eC$ Z 1)$ Ab nb (Ba 4)$ eC$ Z 0)$ Vh (eT$ Ab Nu (Ba 5)$ gf (Lc [16] "keepers")$ Ba 0) (Ml$ vy Kj (gf (Lc [16] "under_way")$ Ba 0)$ Na (Pg$ Na (Ba 5)$ Na (Ba 3) Db) Db)$ Ml$ Yf [(16,QB)] 2 "tell_band" (Ba 0)$ Na (Ba 3) Db)
def EJ:Ev->M Fl:=
 (xn (Gi$ Ba 2) (je 3) eA)
def Lp:=yg 6 3 2 88 111 9 ["letter","hands","to"] (g:=EJ) (hb:=by walk_at "-f234x0354144ai5005303")
instance MD:Fg 3 3 "send" ["self","sender","letters"] [(16,Lp)]:=.Gg 3 16 "send" Lp .nil
def Ly:=Xf 2 2 0 67 108 12 [] (hb:=by exact λa b c=>
 (ui$ Ar$ SB (by walk_at "+i10")$ sF$ pp (J9 rfl$ Km b) Mx (by walk_at "+d01") (SY (ss:=["held"]) rfl a.su)$ Wn _))
instance qA:Fg 1 2 "holds" ["self","pot"] [(15,Ly)]:=.Gg 1 15 "holds" Ly .nil
def Bu:=Xf 1 1 0 48 72 0 []
def eB:=Xf 1 1 0 50 73 0 []
def WA:=Xf 1 1 0 52 74 0 []
instance yB:Fg 1 1 "word" ["self"] [(11,Bu),(12,eB),(13,WA)]:=.Gg 1 11 "word" Bu$ .Gg 1 12 "word" eB$ .Gg 1 13 "word" WA .nil
noncomputable instance Ll:ZqF 1 1 "deals" ["one"]:=Pc 1 1 0 33 [] (hb:=by walk_at "-0zc.y000")
noncomputable instance Wf:ZqF 7 2 "is_stand_of" ["thing","coin"]:=Pc 2 2 6 34 [] (hb:=by walk_at "-001")
def gh:=Xf 3 3 0 46 71 1 [] (hb:=by walk_at "-012")
instance Jm:Fg 1 3 "agree_of" ["self","side","one"] [(10,gh),(11,gh),(12,gh),(13,gh)]:=.Gg 1 10 "agree_of" gh$ .Gg 1 11 "agree_of" gh$ .Gg 1 12 "agree_of" gh$ .Gg 1 13 "agree_of" gh .nil
instance:ZqC 12 1 7 "Offered" ["self","pot","side","mine","grant","may","strikes"] Zp.f:=⟨λa=>⟨_,a.Zr,a.ar,Zp.ok a⟩,rfl⟩
abbrev χ:Stmt:=Rh 76
def uR:Ev->M Fl:=
 (Nc (Vh (sv (eT$ Ab Lj (gf (Lc [7,8,10,11,12,13] "side")$ Ba 0)$ eC$ Z 0)$ eT$ Ab Lj (Yf [(11,Bu),(12,eB),(13,WA)] 1 "word" (Ba 0) Db)$ eC$ ϓ "calm") fq Ei)$ Nc (Tf 3$ Pg$ Na (Ab Mi (Ab nb (gf (Lc [10,11,12,13] "mine")$ Ba 0)$ eC$ Z 0)$ eC$ Z 1)$ Na (Ba 1)$ Na (Ba 2) Db)$ Nc (Vh (kn$ eT$ lf 2 Wf []$ Na (Ba 3)$ Na (lf 1 Ll []$ Na (gf (Lc [10,11,12,13] "mine")$ Ba 0) Db) Db) fq Ei)$ Nc (Tf 4$ Xp 12 7 Zp$ Na (gf (Lc [10,11,12,13] "pot")$ Ba 0)$ Na (gf (Lc [7,8,10,11,12,13] "side")$ Ba 0)$ Na (gf (Lc [10,11,12,13] "mine")$ Ba 0)$ Na (gf (Lc [10,11,12,13] "grant")$ Ba 0)$ Na (kl$ Na (gf (Lc [10,11,12,13] "mine")$ Ba 0)$ Na (Ba 3) Db)$ Na (gf (Lc [10,11,12,13] "strikes")$ Ba 0) Db)$ qh$ Pg$ Na (Ba 4)$ Na (Pg$ Na (eC$ ϓ "offer")$ Na (gf (Lc [10,11,12,13] "pot")$ Ba 0)$ Na (Yf [(10,gh),(11,gh),(12,gh),(13,gh)] 3 "agree_of" (Ba 0)$ Na (eC$ Z 0)$ Na (Ba 3) Db) Db) Db)
def Vf:B'->M D:=zd$ dh 5 uR
def JV:nc ["account","shares","ties","one","behind"] ["account","shares","ties"]$ yf χ:=Rq rfl rfl rfl (by decide +kernel)
def JR:wh ⟨K,ca,tx K⟩ P w mg base 8 "offered" ["account","shares","ties"] Vf:=
 wh.zd (Xw a.Vf JV λv v v v v v v b=>
  by have:=JV.nd;walk_at "+b003x012b304R0000v0304003")
noncomputable instance Lh:ZqF 1 2 "shown_in_time" ["tie","shown"]:=Pc 2 2 0 40 [] (hb:=by exact λb a c=>
 (ui$ Ar$ SB (by walk_at "+i01")$ sF$ pp BN ON (AK (Km a) (si 1) (by walk_at "+0")$ λv v=>rfl) (by walk_at "+0")$ Wn _))
noncomputable instance Ni:ZqF 2 3 "lot_of_paid" ["view","seen","tie"]:=Pc 3 3 1 80 [] (hb:=by walk_at "-a21a02")
noncomputable instance tj:ZqF 2 3 "lot_of_due" ["view","seen","tie"]:=Pc 3 3 1 81 [] (hb:=by walk_at "-a21a02aD20002")
noncomputable instance Yl:ZqF 3 3 "lot_of" ["view","pot","tie"]:=Pc 3 3 2 82 [] (hb:=by walk_at "-a21012012")
abbrev OG:Ev->M Fl:=(Nc (Tf 6$ lf 3 Yl []$ Na (Ba 0)$ Na (Ba 1)$ Na (Ba 5) Db)$ Nc (Jv (Pg$ Na (Ba 6)$ Na (Ab nb (Ba 5)$ eC$ Z 1)$ Na (Ab nb (Ba 5)$ eC$ Z 3) Db) (Ba 4)$ Ab nb (Ba 5)$ eC$ Z 2)$ Vh (eT$ gf (rH Ε ["won","sure","back"])$ Ba 6) (ky (λa b=>a+b) 3$ Ab nb (Ba 5)$ eC$ Z 1) Ei)
def UP:Ev->M Fl:=
 (Nc (Tf 3$ Ab nb (Ab nb (Ba 2)$ eC$ Z 1)$ Ab nb (Ba 1)$ eC$ Z 0)$ Nc (Tf 4 rq)$ Nc (xn (Gi$ Ab nb (Ba 2)$ eC$ Z 2) (je 5) OG)$ qh$ Pg$ Na (Ba 3)$ Na (Ba 4) Db)
noncomputable instance Cg:ZqF 4 3 "read_stand" ["view","pot","one"]:=Pc 7 3 3 83 ["firm","lots","tie","lot"] (g:=UP) (hb:=by exact λa b c=>
 (yd (by walk_at "+321")$ yd (by walk_at "+4n")$ yd (Vx vr rfl (by walk_at "+2") (by walk_at "+5")$ yd (by walk_at "+6015")$ yd (by walk_at "+m65545")$ ui$ oq (L7 (ss:=["won","sure","back"]) rfl a.Qz$ si 6) (by walk_at "+35") Nr)$ by walk_at "+34"))
abbrev uL:Ev->M Fl:=(Ml$ vy Kj (Ba 1)$ Na (fk$ Nn (Ht$ Gi$ Ab nb (Ba 2)$ eC$ Z 1) [0,2] (je 0) On$ lf 3 Cg []$ Na (Ba 2)$ Na (Ba 3)$ Na (Ba 0) Db) Db)
def EQ:Ev->M Fl:=
 (Nc (Tf 1$ Fv Db)$ Nc (xn (Gi$ gf (Lc [9,14,16] "pots")$ Ba 0) (je 2) uL)$ qh$ Ba 1)
noncomputable instance ii:ZqF 5 1 "read_pots" ["view"]:=Pc 3 1 4 84 ["readings","pot"] (g:=EQ) (hb:=by walk_at "-1lf021zc02/10.y202301")
abbrev NI:Ev->M Fl:=(Ml$ vy tz (Ba 3)$ Na (fk$ Nn (Ht$ Gy$ Go Fo$ Na (Ba 2) Db) [4] (je 0) On$ Ab Mi (Ba 2)$ kl$ Na (Ba 0) Db) Db)
abbrev VD:Ev->M Fl:=(Nc (Tf 3$ Fv Db)$ Nc (xn (Gi$ Ba 1) (je 4) NI)$ Tf 1$ Ba 3)
def EV:Ev->M Fl:=
 (Nc (Tf 1$ kl$ Na (kl Db) Db)$ Nc (xn (Gi$ Ba 0) (je 2) VD)$ qh$ Ba 1)
noncomputable instance ag:ZqF 1 1 "all_choices" ["readings"]:=Pc 5 1 0 85 ["choices","stands","longer","chosen"] (g:=EV) (hb:=by walk_at "-1vvf023lf143zc4.y202v0131")
abbrev zM:Ev->M Fl:=(Ml$ vy Kj (qD Hw (Ba 1)$ Na (Ba 3)$ Na (Fv Db) Db)$ Na (Ba 4) Db)
abbrev lX:Ev->M Fl:=(Cu (Ew$ Ab nb (Ba 2)$ eC$ Z 1) (io 2$ bi (je 3)$ bi (je 4) Io) zM)
def PU:Ev->M Fl:=
 (Nc (Tf 1 rq)$ Nc (xn (Gi$ Ba 0) (je 2) lX)$ qh$ Ba 1)
noncomputable instance Jg:ZqF 1 1 "lots_by_word" ["reads"]:=Pc 5 1 0 87 ["by_word","read","word","lot"] (g:=PU) (hb:=by exact λa b c=>
 (yd (by walk_at "+1n")$ yd (Vx vr rfl (LN rfl$ si 0) (by walk_at "+2")$ ui$ iB vr rfl (by walk_at "+I2") (by walk_at "+34")$ ui$ Cz$ DG xf Um Vm uK aK (CJ se wl PySem.F.type_dict_setdefault Ã Ö (si 1)$ by walk_at "+3l")$ lm (si 4) Rr)$ by walk_at "+1"))
noncomputable instance Xi:ZqF 1 1 "fates_of" ["lots"]:=Pc 1 1 0 88 [] (hb:=by walk_at "-vzc.y0000")
noncomputable instance kg:ZqF 1 3 "comes_by_fate" ["lot","fate","every"]:=Pc 3 3 0 89 [] (hb:=by walk_at "-a011001120")
noncomputable instance Fe:ZqF 2 3 "sum_by_fate" ["lots","fate","every"]:=Pc 3 3 1 90 [] (hb:=by walk_at "-zc12/10.y000230")
abbrev Κ:Stmt:=Rh 91
def aT:Ev->M Fl:=
 (qh$ YG [0,1] (lf 3 Fe []$ Na (Ba 1)$ Na (Ba 0)$ Na (Ba 2) Db)$ Na (lf 1 Xi []$ Na (Ba 0) Db) Db)
def Ze:B'->M D:=zd λa=>Ud$ dh 2 aT a
def YP:nc ["lots","every"] ["lots","every"]$ yf Κ:=Rq rfl rfl rfl (by decide +kernel)
def S3:wh ⟨K,ca,tx K⟩ P w mg base 5 "least_fate" ["lots","every"] Ze:=
 wh.zd$ wh.Ud (qT a.Ze YP λv v v v v v c=>
  by have e:=YP.nd;exact(ui$ Ar$ DU (x:="fate") (M':=["lots","every"]) (ix:=[0,1]) (t:=KG K) (k:=2) (c.mono$ by decide) ⟨rfl,rfl,rfl,rfl,rfl,rfl⟩ rfl ⟨(bS K),λd b=>a.aD _ (bS K) d b,rfl,a.tb.hd _ ⋯,rfl,rfl,rfl,a.eY,a.tb.bb⟩ rfl a.dy rfl rfl rfl (λv v v v v=>rfl) (by walk_at "+0")$ λv v v v v c=>(by walk_at "+102")))
abbrev sS:Ev->M Fl:=(ky (λa b=>a+b) 4$ lf 3 Fe []$ Na (Ba 6)$ Na (Ab am (Ba 2)$ Ba 5)$ Na (Ba 3) Db)
def tX:Ev->M Fl:=
 (Nc (Tf 4$ Go Dz$ Na (fk$ Nn (Ht$ Gi$ Ba 0) [] (je 0) On$ Ab nb (Ba 0)$ eC$ Z 0) Db)$ Nc (Cu (Ew$ Ba 1) (io 2$ bi (je 5)$ bi (je 6) Io) sS)$ qh$ Ba 4)
noncomputable instance Vl:ZqF 3 4 "sum_of" ["reads","by_word","fates","every"]:=Pc 7 4 2 92 ["total","word","lots"] (g:=tX) (hb:=by exact λb a c=>
 (yd (by walk_at "+4zc.y000")$ yd (iB vr rfl (NM$ si 1) (by walk_at "+56")$ ui$ xW (i:=4) lT c rfl (ϑ rfl)$ Nm (Fe.ok b) rfl (a.mono$ by decide) rfl$ lm (si 6)$ lm (AK (Km a) (si 2) (si 5)$ λv v=>rfl)$ lm (si 3) Rr)$ by walk_at "+4"))
abbrev US:Ev->M Fl:=(Jv (lf 2 Ze []$ Na (Ba 6)$ Na (Ba 2) Db) (Ba 4)$ Ba 5)
def AX:Ev->M Fl:=
 (Nc (Tf 3$ lf 1 Jg []$ Na (Ba 0) Db)$ Nc (Tf 4 rq)$ Nc (Cu (Ew$ Ba 3) (io 2$ bi (je 5)$ bi (je 6) Io) US)$ qh$ Pg$ Na (lf 4 Vl []$ Na (Ba 0)$ Na (Ba 3)$ Na (Ba 4)$ Na (Ba 2) Db)$ Na (Ba 1)$ Na (Ba 4) Db)
noncomputable instance Zf:ZqF 6 3 "least_paper" ["reads","chosen","every"]:=Pc 7 3 5 93 ["by_word","fates","word","lots"] (g:=AX) (hb:=by exact λb a c=>
 (yd (by walk_at "+30")$ yd (by walk_at "+4n")$ yd (iB vr rfl (NM$ si 3) (by walk_at "+56")$ ui$ mL (Km a) (Nm (S3 b) rfl (a.mono$ by decide) rfl$ by walk_at "+62") (si 4)$ si 5)$ by walk_at "+034214"))
noncomputable instance Me:ZqF 1 2 "chosen_readings" ["readings","chosen"]:=Pc 2 2 0 86 [] (hb:=by walk_at "-zc.010101")
abbrev ĩ:Stmt:=Rh 94
def MX:Ev->M Fl:=
 (Nc (Tf 1$ lf 1 ii []$ Na (Ba 0) Db)$ Nc (Tf 2$ fk$ Nn (Ht$ Gi$ lf 1 ag []$ Na (Ba 1) Db) [1,0] (je 0) On$ lf 3 Zf []$ Na (lf 2 Me []$ Na (Ba 2)$ Na (Ba 0) Db)$ Na (Ba 0)$ Na (gf (Lc [14,15,16] "every")$ Ba 3) Db)$ qh$ YG [] (Ab nb (Ba 0)$ eC$ Z 0)$ Na (Ba 2) Db)
def vj:B'->M D:=zd λa=>Ud$ dh 3 MX a
def cR:nc ["view","readings","papers"] ["view"]$ yf ĩ:=Rq rfl rfl rfl (by decide +kernel)
def N6:wh ⟨K,ca,tx K⟩ P w mg base 7 "paper" ["view"] vj:=
 wh.zd$ wh.Ud (qT a.vj cR λv v v v v v c=>
  by have e:=cR.nd;exact(yd (by walk_at "+10")$ yd (by walk_at "+q210.y102003")$ ui$ Ar$ DU (x:="told") (M':=[]) (ix:=[]) (t:=dI K) (k:=0) (c.mono$ by decide) ⟨rfl,rfl,rfl,rfl,rfl,rfl⟩ rfl ⟨(jR K),λd b=>a.aD _ (jR K) d b,rfl,a.tb.hd _ ⋯,rfl,rfl,rfl,a.eY,a.tb.bb⟩ rfl a.dy rfl rfl rfl (λv v v v v=>rfl) (lm (si 2) Rr)$ λv v v v v c=>(by walk_at "+0")))
noncomputable instance pi:ZqF 8 1 "worth" ["view"]:=Pc 1 1 7 95 [] (hb:=by exact λa b c=>
 (ui$ Ar$ MO KN (RN rfl) (Nm (N6 a) rfl (b.mono$ by decide) rfl$ lm (si 0) Rr) xD$ λd d=>rfl))
noncomputable instance Wg:ZqF 1 2 "stands_told" ["account","claim"]:=Pc 2 2 0 101 [] (hb:=by exact λa b c=>
 (yd (by walk_at "+a10") MA))
def VB:=yg 5 5 0 54 79 0 [] (hb:=by walk_at "-01020zA30zc.y400zA0C0")
def mu:=Xf 1 1 0 58 108 3 [] (hb:=by walk_at "-zO0")
instance yz:Fg 1 1 "words" ["self"] [(15,mu)]:=.Gg 1 15 "words" mu .nil
abbrev mZ:Ev->M Fl:=(Ml$ vy Kj (Ba 2)$ Na (Pg$ Na (gf (Lc [7,8,10,11,12,13] "side")$ Ba 4)$ Na (lf 2 Wg []$ Na (Ba 4)$ Na (Ab am (gf (Lc [9,15] "claims")$ Ba 0)$ Ba 3) Db)$ Na (Ab am (gf (Lc [15] "seen")$ Ba 0)$ Ba 3) Db) Db)
instance:ZqC 14 1 5 "View" ["self","every","look","words","pots"] VB.f:=⟨λa=>⟨_,a.rA,a.xw,VB.ok a⟩,rfl⟩
def kS:Ev->M Fl:=
 (Nc (Tf 2$ Fv Db)$ Nc (aH (Ba 1)$ Cu (bH$ Ba 1) (io 2$ bi (je 3)$ bi (je 4) Io) mZ)$ qh$ fk$ Xp 14 5 VB$ Na (gf (Lc [14,15,16] "every")$ Ba 0)$ Na (gf (Lc [14,15] "last_look")$ Ba 0)$ Na (Yf [(15,mu)] 1 "words" (Ba 0) Db)$ Na (Ba 2) Db)
def vC:=Xf 5 2 2 62 108 7 ["pots","pot","account"] (g:=kS) (hb:=by walk_at "-2lhFL134244d03d03zR0002")
instance ax:Fg 3 2 "view_by" ["self","accounts"] [(15,vC)]:=.Gg 3 15 "view_by" vC .nil
def YE:=Xf 1 1 3 63 108 8 [] (hb:=by walk_at "-00")
instance VA:Fg 4 1 "view" ["self"] [(15,YE)]:=.Gg 4 15 "view" YE .nil
def yD:=Xf 1 1 8 64 108 9 [] (hb:=by exact λa b c=>
 (ui$ Ar$ Nm (wh.alias (pi.ok a) a.di) rfl (b.mono$ by decide) rfl$ by walk_at "+0"))
instance Yz:Fg 9 1 "worth" ["self"] [(15,yD)]:=.Gg 9 15 "worth" yD .nil
def Dv:=Xf 4 3 9 66 108 11 ["accounts"] (hb:=by exact λa b c=>
 (yd (by walk_at "+3H0")$ yd (by walk_at "+m131")$ ui$ Ar$ pp ZN TL (Nm (wh.alias (pi.ok a) a.di) rfl (b.mono$ by decide) rfl$ by walk_at "+03") (by walk_at "+02")$ Wn _))
instance Tw:Fg 10 3 "is_good" ["self","account","allowance"] [(15,Dv)]:=.Gg 10 15 "is_good" Dv .nil
abbrev qW:Ev->M Fl:=(iE (Tf 2$ lf 3 Vf []$ Na (Ab am (gf (Lc [15] "accounts")$ Ba 0)$ Ab nb (Ba 1)$ eC$ Z 1)$ Na (Ab nb (Ba 1)$ eC$ Z 2)$ Na (Ab nb (Ba 1)$ eC$ Z 3) Db) [])
abbrev QV:Ev->M Fl:=(Vh (kn$ eT$ Yf [(15,Dv)] 3 "is_good" (Ba 0)$ Na (Ab nb (Ba 2)$ eC$ Z 0)$ Na (eC$ Z 0) Db) fq Ei)
abbrev pY:Ev->M Fl:=(Jv (Ab nb (Ba 2)$ eC$ Z 0) (gf (Lc [15] "accounts")$ Ba 0)$ Ab nb (Ba 1)$ eC$ Z 1)
abbrev ZU:Ev->M Fl:=(qh$ kl$ Na (Ab nb (Ba 2)$ eC$ Z 1) Db)
def hX:Ev->M Fl:=
 (Nc qW$ Nc QV$ Nc pY ZU)
def LB:=yg 3 2 10 71 108 16 ["step"] (g:=hX) (hb:=by exact λa c d=>
 (yd (WM rfl rfl (λv v b=>(ui$ VE (i:=2) d rfl (ϑ rfl)$ Nm (JR a) rfl (c.mono$ by decide) rfl$ by walk_at "+d0111")) .nil)$ by walk_at "+b02m201v2"))
instance Wv:Fg 11 2 "take_ask" ["self","letter"] [(15,LB)]:=.Gg 11 15 "take_ask" LB .nil
instance (priority:=1001) mo19_agree_of:Fg 1 3 "agree_of" ["self","side","one"] [(11,gh)]:=.Gg 1 11 "agree_of" gh .nil
noncomputable instance ni:ZqF 8 2 "is_following" ["thing","one"]:=Pc 2 2 7 70 [] (hb:=by walk_at "-0101")
def ln:=Xf 3 3 0 47 71 2 [] (hb:=by walk_at "-012")
instance Ju:Fg 1 3 "strike_of" ["self","side","one"] [(11,ln)]:=.Gg 1 11 "strike_of" ln .nil
instance:ZqC 13 1 7 "Waiting" ["self","pot","side","mine","grant","may","strikes"] Zp.f:=⟨λa=>⟨_,a.Ms,a.Aq,Zp.ok a⟩,rfl⟩
def fy:=yg 5 2 10 49 72 1 ["one","agree","behind"] (hb:=by walk_at "-b01121302b103204R0023v020400200")
instance (priority:=1002) mo21_agree_of:Fg 1 3 "agree_of" ["self","side","one"] [(12,gh)]:=.Gg 1 12 "agree_of" gh .nil
instance (priority:=1001) mo22_strike_of:Fg 1 3 "strike_of" ["self","side","one"] [(12,ln)]:=.Gg 1 12 "strike_of" ln .nil
def Sx:=yg 5 2 10 51 73 1 ["one","agree","behind"] (hb:=by walk_at "-2x0302b1103004R0023v20vx04000")
instance (priority:=1002) mo23_strike_of:Fg 1 3 "strike_of" ["self","side","one"] [(13,ln)]:=.Gg 1 13 "strike_of" ln .nil
def Zx:=yg 4 2 10 53 74 1 ["old","behind"] (hb:=by walk_at "-2x0b110023R0000v00v23")
instance Gz:Fg 11 2 "taken" ["self","letter"] [(11,fy),(12,Sx),(13,Zx)]:=.Gg 11 11 "taken" fy$ .Gg 11 12 "taken" Sx$ .Gg 11 13 "taken" Zx .nil
def Kt:=Xf 2 2 0 72 108 17 [] (hb:=by walk_at "-a1j101d01")
instance Xs:Fg 1 2 "is_as_asked" ["self","letter"] [(15,Kt)]:=.Gg 1 15 "is_as_asked" Kt .nil
abbrev XM:Ev->M Fl:=(Tf 2$ Ab nb (Ba 1)$ eC$ Z 1)
abbrev wN:Ev->M Fl:=(Tf 3$ Yf [(11,fy),(12,Sx),(13,Zx)] 2 "taken" (Ab am (gf (Lc [15] "accounts")$ Ba 0)$ Ba 2)$ Na (Ba 1) Db)
abbrev aO:Ev->M Fl:=(Tf 4$ Yf [(15,Kt)] 2 "is_as_asked" (Ba 0)$ Na (Ba 1) Db)
abbrev rO:Ev->M Fl:=(Tf 5$ nv (eT$ Ba 4) (Ab nb (Ab am (gf (Lc [15] "asked")$ Ba 0)$ Ba 2)$ eC$ Z 0)$ eC$ Z 0)
abbrev WK:Ev->M Fl:=(Vh (kn$ eT$ Yf [(15,Dv)] 3 "is_good" (Ba 0)$ Na (Ab nb (Ba 3)$ eC$ Z 0)$ Na (Ba 5) Db) fq Ei)
abbrev cN:Ev->M Fl:=(Jv (Ab nb (Ba 3)$ eC$ Z 0) (gf (Lc [15] "accounts")$ Ba 0)$ Ba 2)
abbrev iK:Ev->M Fl:=(Vh (eT$ Ba 4) (Nc (Ml$ qD jz (gf (Lc [15] "asked")$ Ba 0)$ Na (Ba 2) Db)$ eI [15] "gave" (Ba 5)$ Ba 0) Ei)
abbrev FL:Ev->M Fl:=(qh$ nv (eT$ Ab Jq (Ab nb (Ba 3)$ eC$ Z 1)$ eC Ϛ) (kl Db)$ kl$ Na (Ab nb (Ba 3)$ eC$ Z 1) Db)
def HN:Ev->M Fl:=
 (Nc XM$ Nc wN$ dD [(13,11),(11,13),(11,12)] [11,12,13] (Ab nb (Ba 3)$ eC$ Z 0) (Ab am (gf (Lc [15] "accounts")$ Ba 0)$ Ba 2) fq$ Nc aO$ Nc rO$ Nc WK$ Nc cN$ Nc iK FL)
def bx:=yg 6 2 11 73 108 18 ["pot","step","as_asked","allowance"] (g:=HN) (hb:=by exact λa b c=>
 (yd (by walk_at "+21")$ yd (by walk_at "+3d021")$ l4 (Km b) (jL a.li a.wj a.il a.ml$ jL a.wj a.li a.ll a.Yk$ jL a.wj a.Ak a.rl a.ql Û) (vN a.wj$ vN a.Ak$ vN a.li R0) rfl (by walk_at "+3") (by walk_at "+d02") MA$ yd (by walk_at "+401")$ yd (by walk_at "+54d02")$ yd (by walk_at "+b035")$ yd (by walk_at "+m302")$ yd (oq (cx$ si 4) (yd (Cz$ CJ se Po PySem.F.type_dict_pop G8 Ē (by walk_at "+0")$ lm (si 2) Rr)$ ui$ tY rfl (fO a) (si 0)$ si 5) Nr)$ by walk_at "+3vv3"))
instance qu:Fg 12 2 "take_step" ["self","letter"] [(15,bx)]:=.Gg 12 15 "take_step" bx .nil
def Ci:=yg 2 2 12 70 108 15 [] (hb:=by walk_at "-b1a10v1vb01a10101")
instance LA:Fg 13 2 "take" ["self","letter"] [(15,Ci)]:=.Gg 13 15 "take" Ci .nil
def Bz:=yg 3 3 13 90 111 11 [] (hb:=by walk_at "-01d012")
instance vu:Fg 14 3 "hand_over" ["self","to","letter"] [(16,Bz)]:=.Gg 14 16 "hand_over" Bz .nil
def lq:=yg 3 2 14 96 111 17 ["keeping"] (hb:=by walk_at "-b1201b2bzc0.y1020021")
instance TB:Fg 15 2 "band" ["self","letter"] [(16,lq)]:=.Gg 15 16 "band" lq .nil
def Ps:=Xf 2 2 0 81 111 2 [] (hb:=by walk_at "-bj10d01")
instance sy:Fg 1 2 "keeper" ["self","hand"] [(16,Ps)]:=.Gg 1 16 "keeper" Ps .nil
def Dw:=Xf 2 2 0 61 108 6 [] (hb:=by walk_at "-bj10d01")
instance gx:Fg 1 2 "account" ["self","pot"] [(15,Dw)]:=.Gg 1 15 "account" Dw .nil
abbrev OP:Ev->M Fl:=(Tf 4$ Fv$ Na (Ab nb (Ba 2)$ eC$ Z 0)$ Na (Ab nb (Ba 2)$ eC$ Z 1) Db)
abbrev AW:Ev->M Fl:=(JH (Ab Hz (Ab nb (Ba 4)$ Ab Hz (eC$ Z 1)$ Ba 1)$ Ab nb (Ba 3)$ eC$ Z 1) (Ba 4)$ Ab Hz (eC$ Z 1)$ Ba 1)
abbrev MS:Ev->M Fl:=(Tf 5$ Pg$ Na (eC$ Z 1)$ Na (Go AE$ Na (Ba 4) Db)$ Na (Pg$ Na (Ba 3) Db) Db)
abbrev yG:Ev->M Fl:=(Vh (eT$ Ab rj (Ba 1)$ eC$ Z 1) (Nc (Ml$ Yf [(16,lq)] 2 "band" (Ba 0)$ Na (Pg$ Na (eC$ ϓ "offer")$ Na (eC$ Z 1)$ Na (Pg$ Na (eC$ ϓ "agree")$ Na (eC$ Z 1)$ Na (eC$ Z 0)$ Na (Ba 5) Db) Db) Db)$ Ml$ Yf [(16,lq)] 2 "band" (Ba 0)$ Na (Pg$ Na (eC$ ϓ "struck")$ Na (eC$ Z 1)$ Na (Pg$ Na (eC$ ϓ "strike")$ Na (eC$ Z 1)$ Na (eC$ Z 0)$ Na (eC$ Z 0) Db) Db) Db)$ Nc (Ml$ Yf [(16,lq)] 2 "band" (Ba 0)$ Na (Pg$ Na (eC$ ϓ "ask")$ Na (eC$ Z 1)$ Na (Ab nb (Ba 5)$ eC$ Z 1)$ Na (Ab nb (Ba 5)$ eC$ Z 2) Db) Db)$ Ml$ Yf [(16,lq)] 2 "band" (Ba 0)$ Na (Pg$ Na (eC$ ϓ "accept")$ Na (eC$ Z 1)$ Na (Pg$ Na (eC$ ϓ "agree")$ Na (eC$ Z 1)$ Na (eC$ Z 1)$ Na (Ba 5) Db)$ Na (Pg$ Na (eC$ ϓ "strike")$ Na (eC$ Z 1)$ Na (eC$ Z 1)$ Na (eC$ Z 0) Db) Db) Db)
abbrev JJ:Ev->M Fl:=(qh$ Ab rj (gf (Lc [10,11,12,13] "mine")$ Yf [(15,Dw)] 2 "account" (Yf [(16,Ps)] 2 "keeper" (Ba 0)$ Na (eC$ Z 1) Db)$ Na (eC$ Z 1) Db)$ Ba 5)
abbrev zbx:Stmt:=Rh 116
def DS:Ev->M Fl:=
 (Nc OP$ Nc AW$ Nc MS$ Nc yG JJ)
def be:B'->M D:=zd$ dh 6 DS
def RV:nc ["_law_hall","_law_side","_law_coins","_law_tie","_law_split","_law_new"] ["_law_hall","_law_side","_law_coins","_law_tie"]$ yf zbx:=Rq rfl rfl rfl (by decide +kernel)
def š:wh ⟨K,ca,tx K⟩ P w mg base 16 "_law_band_tie" ["_law_hall","_law_side","_law_coins","_law_tie"] be:=
 wh.zd (Xw a.be RV λv v v v v v v b=>
  by have:=RV.nd;walk_at "+4l22M413415B43a10500550505")
abbrev EK:Ev->M Fl:=(Vh (eT$ Ab rj (Ab nb (Ba 2)$ eC$ Z 2)$ Ba 1) (qh$ Ba 2) Ei)
def cW:Ev->M Fl:=
 (Nc (xn (Gi$ Ab nb (Ba 0)$ eC$ Z 2) (je 2) EK)$ qh$ eC Ϛ)
noncomputable instance ji:ZqF 1 2 "tie_of" ["one","word"]:=Pc 3 2 0 39 ["tie"] (g:=cW) (hb:=by walk_at "-f02a212")
noncomputable instance uj:ZqF 2 3 "is_paid_by" ["one","word","side"]:=Pc 4 3 1 104 ["tie"] (hb:=by walk_at "-301332")
noncomputable instance Dj:ZqF 1 1 "other_side" ["side"]:=Pc 1 1 0 17 [] (hb:=by walk_at "-0")
noncomputable instance zj:ZqF 2 2 "tie_to_end" ["one","word"]:=Pc 3 2 1 41 ["tie"] (hb:=by walk_at "-201b22")
noncomputable instance Ug:ZqF 8 3 "following" ["one","shares","ties"]:=Pc 3 3 7 36 [] (hb:=by exact λa b c=>
 (ui$ Ar$ W0 (YV a) rfl (b.mono$ by decide) rfl$ by walk_at "+012"))
noncomputable instance Ck:ZqF 1 3 "with_more" ["shares","side","amount"]:=Pc 3 3 0 35 [] (hb:=by walk_at "-a1020002")
noncomputable instance Pr:ZqF 9 3 "ended" ["one","tie","side"]:=Pc 4 3 8 42 ["ties"] (hb:=by walk_at "-3Bzc1.y0002000213")
noncomputable instance yn:ZqF 10 2 "settled" ["one","word"]:=Pc 3 2 9 43 ["tie"] (hb:=by walk_at "-201022")
noncomputable instance Du:ZqF 9 5 "tied" ["one","payer","amount","word","day"]:=Pc 6 5 8 38 ["tie"] (hb:=by walk_at "-51234b5001205")
noncomputable instance Gf:ZqF 11 3 "stand_wished" ["account","wish","known"]:=Pc 5 3 10 105 ["mine","side"] (hb:=by exact λa b c=>
 (yd (by walk_at "+30")$ yd (by walk_at "+40")$ yd (by walk_at "+b1")$ yd (by walk_at "+a1134111")$ yd (by walk_at "+a1314i1231") MA))
noncomputable instance Kg:ZqF 1 1 "allowance_of" ["wish"]:=Pc 1 1 0 106 [] (hb:=by walk_at "-000")
abbrev Ĩ:Stmt:=Rh 107
def jN:Ev->M Fl:=
 (Nc (Vh (eT$ Ab rj (gf (Lc [7,8,10,11,12,13] "side")$ Ba 0)$ eC$ Z 0) (qh$ lf 3 Vf []$ Na (Ba 0)$ Na (Ab nb (Ba 1)$ eC$ Z 1)$ Na (Ab nb (Ba 1)$ eC$ Z 2) Db) Ei)$ Nc (Tf 2$ Pg$ Na (eC$ ϓ "offer")$ Na (gf (Lc [10,11,12,13] "pot")$ Ba 0)$ Na (Yf [(10,gh),(11,gh),(12,gh),(13,gh)] 3 "agree_of" (Ba 0)$ Na (eC$ Z 0)$ Na (Ba 1) Db) Db)$ qh$ Pg$ Na (Ab nb (Yf [(11,fy),(12,Sx),(13,Zx)] 2 "taken" (Ba 0)$ Na (Ba 2) Db)$ eC$ Z 0)$ Na (Pg$ Na (eC$ ϓ "ask")$ Na (gf (Lc [10,11,12,13] "pot")$ Ba 0)$ Na (Ab nb (Ba 1)$ eC$ Z 1)$ Na (Ab nb (Ba 1)$ eC$ Z 2) Db) Db)
def Uf:B'->M D:=zd$ dh 3 jN
def IN:nc ["account","one","offer"] ["account","one"]$ yf Ĩ:=Rq rfl rfl rfl (by decide +kernel)
def Ů:wh ⟨K,ca,tx K⟩ P w mg base 12 "step_to" ["account","one"] Uf:=
 wh.zd (Xw a.Uf IN λv v v v v v v b=>
  by have c:=IN.nd;exact(yd (oq (by walk_at "+0") (ui$ Ar$ Nm (JR a) rfl (b.mono$ by decide) rfl$ by walk_at "+011") Nr)$ yd (VE (i:=2) IN.nd rfl (ϑ rfl)$ ZW$ lm cK$ lm (by walk_at "+0")$ lm (rM (k:=1) (ps:=["self","side","one"]) rfl (si 0) (Jm.ok a) (b.mono$ by decide)$ by walk_at "+1") Rr)$ by walk_at "+02011"))
abbrev cM:Ev->M Fl:=(Tf 3$ Ab nb (Ba 2)$ eC$ Z 1)
abbrev gL:Ev->M Fl:=(Tf 4$ gf (Lc [7,8,10,11,12,13] "side")$ Ab am (gf (Lc [15] "accounts")$ Ba 0)$ Ba 3)
abbrev aL:Ev->M Fl:=(Tf 5$ lf 1 Kg []$ Na (Ba 2) Db)
abbrev GM:Ev->M Fl:=(Tf 6$ lf 2 Uf []$ Na (Ab am (gf (Lc [15] "accounts")$ Ba 0)$ Ba 3)$ Na (Ba 1) Db)
abbrev mK:Ev->M Fl:=(Vh (kn$ eT$ Yf [(15,Dv)] 3 "is_good" (Ba 0)$ Na (Ab nb (Ba 6)$ eC$ Z 0)$ Na (Ba 5) Db) fq Ei)
abbrev KO:Ev->M Fl:=(Vh (eT$ Ab rj (Ba 4)$ eC$ Z 0) (Nc (Jv (Ab nb (Ba 6)$ eC$ Z 0) (gf (Lc [15] "accounts")$ Ba 0)$ Ba 3)$ eI [15] "gave" (Ba 5)$ Ba 0)$ Jv (Pg$ Na (Ba 5)$ Na (Ab nb (Ba 1)$ eC$ Z 1)$ Na (Ab nb (Ba 1)$ eC$ Z 2) Db) (gf (Lc [15] "asked")$ Ba 0)$ Ba 3)
abbrev xL:Ev->M Fl:=(Vh (eT$ Ab rj (Ab nb (Ba 2)$ eC$ Z 0)$ eC$ ϓ "settle") (qh$ Pg$ Na (eC$ ϐ Ĳ)$ Na (kl$ Na (Pg$ Na (eC$ ϓ "word")$ Na (Ba 3)$ Na (Ab nb (Ba 2)$ eC$ Z 2) Db)$ Na (Ab nb (Ba 6)$ eC$ Z 1) Db) Db) Ei)
abbrev CM:Ev->M Fl:=(qh$ Pg$ Na (eC$ ϐ Ĳ)$ Na (kl$ Na (Ab nb (Ba 6)$ eC$ Z 1) Db) Db)
def gK:Ev->M Fl:=
 (Nc cM$ Nc gL$ Nc aL$ Nc GM$ Nc mK$ Nc KO$ Nc xL CM)
def pz:=yg 7 3 12 69 108 14 ["pot","side","allowance","step"] (g:=gK) (hb:=by exact λa b c=>
 (yd (by walk_at "+32")$ yd (by walk_at "+4d03")$ yd (by walk_at "+52")$ yd (VE (i:=6) c rfl (ϑ rfl)$ Nm (Ů a) rfl (b.mono$ by decide) rfl$ by walk_at "+d031")$ yd (by walk_at "+b065")$ yd (oq (by walk_at "+4") (yd (by walk_at "+m603")$ ui$ tY rfl (fO a) (si 0)$ si 5)$ by walk_at "+m51103")$ by walk_at "+a2v326v6"))
instance Xv:Fg 13 3 "wish_for" ["self","one","wish"] [(15,pz)]:=.Gg 13 15 "wish_for" pz .nil
abbrev NT:Ev->M Fl:=(Vh (kn$ eT$ Yf [(15,Ly)] 2 "holds" (Ba 0)$ Na (Ab nb (Ba 1)$ eC$ Z 1) Db) fq Ei)
abbrev kW:Ev->M Fl:=(Vh (eT$ Ab rj (Ab nb (Ba 1)$ eC$ Z 0)$ eC$ ϓ "finish") fq Ei)
abbrev DP:Ev->M Fl:=(Tf 2$ Ab am (gf (Lc [15] "accounts")$ Ba 0)$ Ab nb (Ba 1)$ eC$ Z 1)
abbrev bY:Ev->M Fl:=(Vh (eT$ Ab Lj (Yf [(11,Bu),(12,eB),(13,WA)] 1 "word" (Ba 2) Db)$ eC$ ϓ "calm") fq Ei)
abbrev DV:Ev->M Fl:=(iE (Tf 3$ lf 3 Gf []$ Na (Ba 2)$ Na (Ba 1)$ Na (gf (Lc [14,15] "known")$ Ba 0) Db) [])
abbrev pU:Ev->M Fl:=(qh$ Yf [(15,pz)] 3 "wish_for" (Ba 0)$ Na (Ba 3)$ Na (Ba 1) Db)
def dQ:Ev->M Fl:=
 (Nc NT$ Nc kW$ Nc DP$ Nc bY$ Nc DV pU)
def bz:=yg 4 2 13 68 108 13 ["account","one"] (g:=dQ) (hb:=by exact λb c d=>
 (yd (by walk_at "+b01")$ yd (by walk_at "+b1")$ yd (by walk_at "+2d01")$ yd (by walk_at "+b2")$ yd (WM rfl rfl (λv v a=>(by walk_at "+3210")) .nil)$ by walk_at "+031"))
instance qC:Fg 14 2 "wish" ["self","wish"] [(15,bz)]:=.Gg 14 15 "wish" bz .nil
def zr:=yg 4 3 14 91 111 12 ["told"] (hb:=by walk_at "-30120133")
instance (priority:=1001) mo34_wish:Fg 15 3 "wish" ["self","hand","wish"] [(16,zr)]:=.Gg 15 16 "wish" zr .nil
def Jt:=Xf 1 1 0 82 111 3 [] (hb:=by walk_at "-zA0")
instance aB:Fg 1 1 "road" ["self"] [(16,Jt)]:=.Gg 1 16 "road" Jt .nil
def FB:=Xf 2 2 2 92 111 13 [] (hb:=by walk_at "-b10")
instance qr:Fg 3 2 "check_letter" ["self","k"] [(16,FB)]:=.Gg 3 16 "check_letter" FB .nil
abbrev FX:Stmt:=au (Rh 111) 14
def FR:Ev->M Fl:=
 (Nc (Ml$ Yf [(16,FB)] 2 "check_letter" (Ba 0)$ Na (Ba 1) Db)$ Nc (Tf 3$ Ab nb (gf (Lc [16] "under_way")$ Ba 0)$ Ba 1)$ Nc (Vh (kn$ eT$ Ba 2) (Ml$ vy ZA (gf (Lc [16] "under_way")$ Ba 0)$ Na (Ba 1) Db) Ei)$ Ml$ Yf [(16,Bz)] 3 "hand_over" (Ba 0)$ Na (Ab nb (Ba 3)$ eC$ Z 0)$ Na (Ab nb (Ba 3)$ eC$ Z 1) Db)
def Pd:B'->M D:=zd$ dh 4 FR
def XS:nc ["self","k","stays","sent"] ["self","k","stays"]$ yf FX:=Rq rfl rfl rfl (by decide +kernel)
def R8:QI "deliver" "Hall.deliver" FX ["self","k","stays"] [fg Ε]:=λe e e e e e e e e e d b c=>⟨λa=>QF.ap [0,0,0] d (by simpa using a) (by intro _ _ _;show Xe _ _ _ _;exact Uc rfl b c rfl rfl),λa=>QF.ap [0,0] d (by simpa using a) (by intro _ _;show Xe _ _ _ _;exact Uc rfl b c rfl rfl)⟩
def Ŗ:Nt ⟨K,ca,tx K⟩ P w mg base 15 (ca 93) ["self","k","stays"] [fg Ε] Pd:=
 Nt.zd (eM a.Pd XS λv v v v v v b=>
  by have c:=XS.nd;exact(yd (by walk_at "+01")$ yd (by walk_at "+3x01")$ yd (oq (cy$ cx$ si 2) (ui$ Cz$ DG xf PySem.F.slot_list_pop PySem.F.type_list_pop Ż o9 (by walk_at "+0")$ lm (si 1) Rr) Nr)$ by walk_at "+033"))
abbrev nz:Ev->M Fl:=(Vh (eT$ Ab Lj (Yf [(16,Jt)] 1 "road" (Ba 0) Db)$ kl Db) (Ml$ Yf [(16,λa=>Pd$ a++[ϐ Ε])] 2 "deliver" (Ba 0)$ Na (eC$ Z 0) Db) Ei)
abbrev ŝ:Stmt:=Rh 115
def rR:Ev->M Fl:=
 (Nc (xn (Gy$ eC$ Z 12) (je 1) nz)$ qh$ Ab rj (Yf [(16,Jt)] 1 "road" (Ba 0) Db)$ kl Db)
def Nd:B'->M D:=zd$ dh 2 rR
def qZ:nc ["_law_hall","_law_k"] ["_law_hall"]$ yf ŝ:=Rq rfl rfl rfl (by decide +kernel)
def gQ:wh ⟨K,ca,tx K⟩ P w mg base 16 "_law_deliver" ["_law_hall"] Nd:=
 wh.zd (Xw a.Nd qZ λz z z z z z z b=>
  by have d:=qZ.nd;exact(yd (Vx vr rfl (by walk_at "") (by walk_at "+1")$ ui$ oq (by walk_at "+0v") (ui$ Cz$ Ş (n:=2) (dds:=[ϐ Ε]) (dvs:=[ϫ Ε]) (k:=15) (c:=16) (ps:=["self","k","stays"]) rfl (si 0) (a.tc.get 16$ by decide) ((a.te.get (16,_)$ by repeat (first|with_reducible exact la|refine ja _ ?_)).get ("deliver",93)$ by repeat (first|with_reducible exact la|refine ja _ ?_)) (Ŗ a) (ϝ rfl Ϡ) (λz z=>(lb.cons (by rw[Sa]) lb.nil)) rfl (b.mono$ by decide)$ by walk_at "") Nr)$ by walk_at "+0v"))
def RE:=Xf 2 2 2 31 62 1 [] (hb:=by walk_at "-a10")
instance uu:Fg 3 2 "check_pot" ["self","pot"] [(9,RE)]:=.Gg 3 9 "check_pot" RE .nil
def bD:=yg 3 3 3 34 62 4 [] (hb:=by walk_at "-01b2aj2x01m0x012")
instance pC:Fg 4 3 "show" ["self","pot","word"] [(9,bD)]:=.Gg 4 9 "show" bD .nil
def Ir:=yg 3 3 5 97 111 18 [] (hb:=by walk_at "-a02012")
instance (priority:=1001) mo39_show:Fg 6 3 "show" ["self","P","W"] [(16,Ir)]:=.Gg 6 16 "show" Ir .nil
abbrev m8:Stmt:=Rh 114
def xV:Ev->M Fl:=
 (Nc (Tf 3$ eC$ ϐ Ε)$ Nc (iE (Ml$ Yf [(16,Ir)] 3 "show" (Ba 0)$ Na (Ba 1)$ Na (Ba 2) Db)$ ⟨(GH [(1,Ε),(2,Ĳ)]),V6,(Tf 3$ eC$ ϐ Ĳ)⟩::[])$ qh$ Ba 3)
def Hc:B'->M D:=zd$ dh 4 xV
def eZ:nc ["_law_hall","_law_pot","_law_word","_law_refused_here"] ["_law_hall","_law_pot","_law_word"]$ yf m8:=Rq rfl rfl rfl (by decide +kernel)
def HI:wh ⟨K,ca,tx K⟩ P w mg base 7 "_law_refused" ["_law_hall","_law_pot","_law_word"] Hc:=
 wh.zd (Xw a.Hc eZ λv v v v v v v c=>
  by have d:=eZ.nd;exact(yd (by walk_at "+3")$ yd (WM rfl rfl (λv v b=>(by walk_at "+012"))$ .cons rfl ⋯ (ϑ a.gp) (y4$ OU a.dk$ OU a.nl X1) (λv=>(by walk_at "+3")) .nil)$ by walk_at "+3"))
def Iv:=Xf 1 1 0 80 111 1 [] (hb:=by walk_at "-0")
instance wB:Fg 1 1 "book" ["self"] [(16,Iv)]:=.Gg 1 16 "book" Iv .nil
abbrev LL:Ev->M Fl:=(Vh (sv (kn$ eT$ Yf [(16,zr)] 3 "wish" (Ba 0)$ Na (eC$ Z 1)$ Na (Pg$ Na (eC$ ϓ "settle")$ Na (eC$ Z 0)$ Na (Ab nb (Ba 1)$ eC$ Z 1) Db) Db)$ eT$ Ab Lj (Ab nb (Yf [(16,Jt)] 1 "road" (Ba 0) Db)$ eC$ Z 0)$ Pg$ Na (eC$ Z 0)$ Na (Pg$ Na (eC$ ϓ "word")$ Na (eC$ Z 0)$ Na (Ab nb (Ba 1)$ eC$ Z 1) Db) Db) (qh$ eC$ ϐ Ε) Ei)
abbrev MK:Ev->M Fl:=(Vh (sv (eT$ Ab (Es Ε) (Ab nb (Ba 1)$ eC$ Z 1)$ Yf [(15,mu)] 1 "words" (Yf [(16,Ps)] 2 "keeper" (Ba 0)$ Na (eC$ Z 0) Db) Db)$ kn$ eT$ lf 3 Hc []$ Na (Ba 0)$ Na (eC$ Z 0)$ Na (Ab nb (Ba 1)$ eC$ Z 1) Db) (qh$ eC$ ϐ Ε) Ei)
abbrev nK:Ev->M Fl:=(Vh (sv (kn$ eT$ lf 1 Nd []$ Na (Ba 0) Db)$ eT$ Ab (Es Ĳ) (Ab nb (Ba 1)$ eC$ Z 1)$ Yf [(15,mu)] 1 "words" (Yf [(16,Ps)] 2 "keeper" (Ba 0)$ Na (eC$ Z 0) Db) Db) (qh$ eC$ ϐ Ε) Ei)
abbrev lO:Ev->M Fl:=(qh$ bF (lf 3 Hc []$ Na (Ba 0)$ Na (eC$ Z 1)$ Na (Ab nb (Ba 1)$ eC$ Z 1) Db)$ Ab (Es Ĳ) (Ab nb (Ba 1)$ eC$ Z 1)$ Yf [(9,qw)] 1 "all_shown" (Yf [(16,Iv)] 1 "book" (Ba 0) Db) Db)
abbrev W6:Stmt:=Rh 118
def xU:Ev->M Fl:=
 (Nc LL$ Nc MK$ Nc nK lO)
def bc:B'->M D:=zd$ dh 2 xU
def RU:nc ["_law_hall","_law_words"] ["_law_hall","_law_words"]$ yf W6:=Rq rfl rfl rfl (by decide +kernel)
def YW:wh ⟨K,ca,tx K⟩ P w mg base 17 "_law_settled_on_road" ["_law_hall","_law_words"] bc:=
 wh.zd (Xw a.bc RU λv v v v v v v b=>
  by have c:=RU.nd;exact(yd (by walk_at "+a0101")$ yd (oq (L2.PW.pt$ wF (by walk_at "+s10")$ MH$ cy$ cx$ Nm (HI a) rfl (b.mono$ by decide) rfl$ by walk_at "+01") (by walk_at "") Nr)$ yd (oq (L2.PW.pt$ wF (cy$ cx$ Nm (gQ a) rfl (b.mono$ by decide) rfl$ lm (si 0) Rr)$ by walk_at "+S10") (by walk_at "") Nr)$ ui$ Ar$ SB (Nm (HI a) rfl (b.mono$ by decide) rfl$ by walk_at "+01")$ by walk_at "+S10"))
abbrev YN:Ev->M Fl:=(Vh (sv (kn$ eT$ Yf [(16,zr)] 3 "wish" (Ba 0)$ Na (eC$ Z 1)$ Na (Pg$ Na (eC$ ϓ "settle")$ Na (eC$ Z 1)$ Na (Ab nb (Ba 1)$ eC$ Z 0) Db) Db)$ eT$ Ab Lj (Yf [(16,Jt)] 1 "road" (Ba 0) Db)$ kl Db) (qh$ eC$ ϐ Ε) Ei)
abbrev RK:Ev->M Fl:=(Ml$ Yf [(16,Ir)] 3 "show" (Ba 0)$ Na (eC$ Z 0)$ Na (Ab nb (Ba 1)$ eC$ Z 0) Db)
abbrev VJ:Ev->M Fl:=(Ml$ Yf [(16,Ir)] 3 "show" (Ba 0)$ Na (eC$ Z 1)$ Na (Ab nb (Ba 1)$ eC$ Z 0) Db)
abbrev iN:Ev->M Fl:=(qh$ Ab rj (Yf [(9,qw)] 1 "all_shown" (Yf [(16,Iv)] 1 "book" (Ba 0) Db) Db)$ kl$ Na (Ab nb (Ba 1)$ eC$ Z 0) Db)
abbrev ü:Stmt:=Rh 117
def DR:Ev->M Fl:=
 (Nc YN$ Nc RK$ Nc VJ iN)
def cc:B'->M D:=zd$ dh 2 DR
def GW:nc ["_law_hall","_law_words"] ["_law_hall","_law_words"]$ yf ü:=Rq rfl rfl rfl (by decide +kernel)
def VX:wh ⟨K,ca,tx K⟩ P w mg base 16 "_law_settled_to_band" ["_law_hall","_law_words"] cc:=
 wh.zd (Xw a.cc GW λv v v v v v v b=>
  by have:=GW.nd;walk_at "+a010v01010v1")
abbrev u1:Ev->M Fl:=(Tf 1$ lf 2 jb []$ Na (Ba 0)$ Na (eC$ Z 0) Db)
abbrev u2:Ev->M Fl:=(Tf 2$ kl$ Na (Ab Ap (Ba 1)$ eC$ Z 2)$ Na (Ab Ap (Ab XB (Ba 1)$ eC$ Z 2)$ eC$ Z 2) Db)
abbrev u3:Ev->M Fl:=(Tf 3$ Pg$ Na (Ab Mi (eC$ Z 1)$ Ab Ap (lf 2 jb []$ Na (Ba 0)$ Na (eC$ Z 1) Db)$ Ab Lx (eC$ Z 10)$ eC$ Z 12)$ Na (Ab Mi (eC$ Z 1)$ Ab Ap (lf 2 jb []$ Na (Ba 0)$ Na (eC$ Z 2) Db)$ Ab Lx (eC$ Z 10)$ eC$ Z 12) Db)
abbrev u4:Ev->M Fl:=(Tf 4$ Fv$ Na (Ab Mi (Ab Mi (Pg$ Na (eC$ Z 1)$ Na (eC$ Z 0) Db)$ Ba 3)$ Pg$ Na (eC$ Z 9) Db)$ Na (Ab Mi (Ab Mi (Pg$ Na (eC$ Z 1)$ Na (eC$ Z 2) Db)$ Ba 3)$ Pg$ Na (eC$ Z 9) Db) Db)
abbrev aE:Ev->M Fl:=(Vh (eT$ Ab rj (Ab nb (Ba 2)$ Ba 5)$ eC$ Z 1) (JH (Ab Mi (Ab Mi (Pg$ Na (Ab cG (eC$ Z 2)$ Ba 5)$ Na (eC$ Z 1) Db)$ Ba 3)$ Pg$ Na (eC$ Z 9) Db) (Ba 4)$ Ba 5) Ei)
abbrev u5:Ev->M Fl:=(xn (Gy$ eC$ Z 2) (je 5) aE)
abbrev u6:Ev->M Fl:=(Tf 6$ Ab Ap (lf 2 jb []$ Na (Ba 0)$ Na (eC$ Z 3) Db)$ eC$ Z 60)
abbrev u7:Ev->M Fl:=(Tf 7$ kl$ Na (Ba 6)$ Na (Ab Ap (Ab Mi (Ab Mi (Ba 6)$ eC$ Z 1)$ Ab Ap (Ab XB (lf 2 jb []$ Na (Ba 0)$ Na (eC$ Z 3) Db)$ eC$ Z 60)$ eC$ Z 59)$ eC$ Z 60) Db)
abbrev u8:Ev->M Fl:=(Tf 8$ Xp 16 5 Mm$ Fz []$ Na (Ba 4)$ Na (kl$ Na (eC$ Z 1)$ Na (eC$ Z 0) Db)$ Na (eC$ Z 8)$ Na (fk$ mF$ Ix (Ab nb (Ba 7)$ eC$ Z 0) (eC$ Z 1)$ Ix (Ab nb (Ba 7)$ eC$ Z 1) (eC$ Z 1) wE) Db)
abbrev u9:Ev->M Fl:=(Tf 9$ Ab Mi (eC$ Z 1)$ Ab Ap (lf 2 jb []$ Na (Ba 0)$ Na (eC$ Z 4) Db)$ Ab nb (Ba 3)$ Ab Hz (eC$ Z 1)$ Ab nb (Ba 2)$ eC$ Z 1)
abbrev RM:Ev->M Fl:=(Tf 10$ Ab Mi (eC$ Z 1)$ Ab Ap (lf 2 jb []$ Na (Ba 0)$ Na (eC$ Z 5) Db)$ Ab nb (Ba 3)$ Ab Hz (eC$ Z 1)$ Ab nb (Ba 2)$ eC$ Z 0)
abbrev AM:Ev->M Fl:=(Tf 11$ kl$ Na (Ab Mi (eC$ Z 9)$ Ab Ap (lf 2 jb []$ Na (Ba 0)$ Na (eC$ Z 6) Db)$ eC$ Z 50)$ Na (Ab Mi (eC$ Z 9)$ Ab Ap (lf 2 jb []$ Na (Ba 0)$ Na (eC$ Z 7) Db)$ eC$ Z 50) Db)
abbrev GT:Ev->M Fl:=(Vh (kn$ eT$ lf 4 be []$ Na (Ba 8)$ Na (Ab nb (Ba 2)$ eC$ Z 1)$ Na (Ba 3)$ Na (Pg$ Na (Ab Hz (eC$ Z 1)$ Ab nb (Ba 2)$ eC$ Z 1)$ Na (Ba 9)$ Na (Ab nb (Ba 7)$ eC$ Z 0)$ Na (Ab nb (Ba 11)$ eC$ Z 0) Db) Db) (qh$ eC$ ϐ Ε) Ei)
abbrev eS:Ev->M Fl:=(Vh (sv (kn$ eT$ Yf [(16,zr)] 3 "wish" (Ba 8)$ Na (eC$ Z 0)$ Na (Pg$ Na (eC$ ϓ "pay")$ Na (eC$ Z 0)$ Na (Ba 10)$ Na (Ab nb (Ba 7)$ eC$ Z 1)$ Na (Ab nb (Ba 11)$ eC$ Z 1) Db) Db)$ kn$ eT$ lf 1 Nd []$ Na (Ba 8) Db) (qh$ eC$ ϐ Ε) Ei)
abbrev WR:Ev->M Fl:=(Vh (eT$ Ab Lj (Go Fo$ Na (Ab nb (gf (Lc [10,11,12,13] "mine")$ Yf [(15,Dw)] 2 "account" (Yf [(16,Ps)] 2 "keeper" (Ba 8)$ Na (eC$ Z 1) Db)$ Na (eC$ Z 0) Db)$ eC$ Z 2) Db)$ eC$ Z 1) (qh$ eC$ ϐ Ε) Ei)
abbrev uW:Ev->M Fl:=(Vh (sv (kn$ eT$ lf 3 Hc []$ Na (Ba 8)$ Na (eC$ Z 0)$ Na (Ba 12) Db)$ kn$ eT$ lf 3 Hc []$ Na (Ba 8)$ Na (eC$ Z 1)$ Na (Ba 12) Db) (qh$ eC$ ϐ Ε) Ei)
abbrev jM:Ev->M Fl:=(xn (Gi$ Ba 7) (je 12) uW)
abbrev uC:Ev->M Fl:=(Vh (eT$ Ab rj (Ab Ap (Ab XB (Ba 1)$ eC$ Z 4)$ eC$ Z 2)$ eC$ Z 0) (qh$ bF (lf 2 cc []$ Na (Ba 8)$ Na (Ba 7) Db)$ lf 2 bc []$ Na (Ba 8)$ Na (Ba 7) Db) Ei)
abbrev lH:Ev->M Fl:=(qh$ bF (lf 2 bc []$ Na (Ba 8)$ Na (Ba 7) Db)$ lf 2 cc []$ Na (Ba 8)$ Na (Ba 7) Db)
abbrev t8:Stmt:=Rh 119
def QQ:Ev->M Fl:=
 (Nc u1$ Nc u2$ Nc u3$ Nc u4$ Nc u5$ Nc u6$ Nc u7$ Nc u8$ Nc u9$ Nc RM$ Nc AM$ Nc GT$ Nc eS$ Nc WR$ Nc jM$ Nc uC lH)
def mn:B'->M D:=dh 13 QQ
def oK:nc ["_law_script","_law_cell","_law_sides","_law_coins","_law_pots","_law_k","_law_number","_law_words","_law_hall","_law_amount","_law_beside","_law_days","_law_word"] ["_law_script"]$ yf t8:=Rq rfl rfl rfl (by decide +kernel)
def N1:kO ⟨K,ca,tx K⟩ P w mg 18 "law" ["_law_script"] mn:=
 P7 a.mn oK λz z z z z z z z b=>
  by have d:=oK.nd;exact(yd (by walk_at "+10")$ yd (by walk_at "+2v11")$ yd (by walk_at "+300")$ yd (by walk_at "+4l33")$ yd (by walk_at "+f5a25M5345")$ yd (by walk_at "+60")$ yd (by walk_at "+7v660")$ yd (VE (i:=8) oK.nd rfl (ϑ rfl)$ zR (c:=16) (ps:=["self","pots","keeps","every","words"]) a.qz a.Qw (V4 a) (ϑ rfl) Ϡ (λz z=>lb.nil) rfl (b.mono$ by decide) rfl$ lm (si 4)$ lm (by walk_at "+v")$ lm xD$ lm (CS$ z9 (jo.cons (by walk_at "+7") xD$ jo.cons (by walk_at "+7") xD jo.nil) rfl rfl (List.cons_ne_nil _ _)$ Ma rfl) Rr)$ yd (by walk_at "+9032")$ yd (by walk_at "+:032")$ yd (by walk_at "+;v00")$ yd (oq (cy$ cx$ Nm (š a) rfl (b.mono$ by decide) rfl$ by walk_at "+823297;") (by walk_at "") Nr)$ yd (oq (L2.PW.pt$ wF (by walk_at "+8:7;")$ MH$ cy$ cx$ Nm (gQ a) rfl (b.mono$ by decide) rfl$ lm (si 8) Rr) (by walk_at "") Nr)$ yd (by walk_at "+ax8")$ yd (Vx vr rfl (LN rfl$ si 7) (by walk_at "+<")$ ui$ oq (L2.PW.pt$ wF (cy$ cx$ Nm (HI a) rfl (b.mono$ by decide) rfl$ by walk_at "+8<")$ MH$ cy$ cx$ Nm (HI a) rfl (b.mono$ by decide) rfl$ by walk_at "+8<") (by walk_at "") Nr)$ yd (oq (by walk_at "+1") (ui$ Ar$ SB (Nm (VX a) rfl (b.mono$ by decide) rfl$ by walk_at "+87")$ sF$ Nm (YW a) rfl (b.mono$ by decide) rfl$ by walk_at "+87") Nr)$ ui$ Ar$ SB (Nm (YW a) rfl (b.mono$ by decide) rfl$ by walk_at "+87")$ sF$ Nm (VX a) rfl (b.mono$ by decide) rfl$ by walk_at "+87")
end
end K54
namespace K54
open L2 L4
set_option maxHeartbeats 4000000
section
variable{α:Type}{xs:List α}{σ:Fa}{fi:Ev->M Bool}{fe:Ev->M D}{tg:D->Ev->Option Ev}{nx:NX}{rest:Ev}
def IM(ό:Option D->Prop)(v a:α->D)(b:α->Option D) p y(u:∀ i j,i<=xs.length->nx i (σ++j)=BD ((xs[i]?).map v))(w:∀ x o c,ό c->tg (v x) (o::c::rest)=BD (BD (a x)::b x::rest)/\ό (b x))
  (step:∀ x∈xs,∀ j,fi (BD (a x)::b x::rest) (σ++j)=O (p x) (σ++j)/\(p x=Ĳ->fe (BD (a x)::b x::rest) (σ++j)=O (y x) (σ++j))) (A:xs.length<=1000) :
  ∀ k i o c f,ό c->xs.length<k+i->i<=xs.length->f.length<=i->
   Di nx σ.length tg fi fe k i (o::c::rest) (σ++[ϒ f])=O () (σ++[ϒ$ f++((xs.drop i).filter p).map y]):=by
 intro k;induction k with
 |zero=>intro i o c f _ s m;omega
 |succ k q=>
  intro i o c f t s m B;unfold Di;rw[u i _ m];cases e:xs[i]? with
  |none=>
   have h:=Qb.mp e;rw[xq h];simp
  |some d=>
   obtain⟨h,l⟩:=ba.mp e;have n:xs.drop i=d::xs.drop (i+1):=by rw[<-l];exact jf h
   obtain⟨s1,s2⟩:=step d (by rw[<-l];exact Ph h) [ϒ f];obtain⟨z,r⟩:=w d o c t;simp only[Th,z];rw[zm,NB s1,ze];by_cases g:p d=Ĳ
   ·rw[g,ka rfl,zm,NB$ s2 g,ze,zm,XD ⋯,ze,q (i+1) _ _ (f++[y d]) r ⋯ ⋯ (by simp;omega),n,Be,ka g];simp
   ·rw[qa g,q (i+1) _ _ f r ⋯ ⋯ ⋯,n,Be,qa g]
end
def rz{xs}(h:qf xs=Ĳ):ig a (O (U a.length)$ a++[ϒ xs])=O (ύ xs) a:=by
 have:=mR (σ:=a) (j:=[]) (j':=[]) h
 simp_all
def tE{c:Type}{xs:List c}{src}{s}{ix}{fi}{fe}{ρ}{σ} v y p(l:src ρ σ=O s σ)(k:∀ i j,s.nx i (σ++j)=BD ((xs[i]?).map v))(g:xs.length<=1000)
  (step:∀ x∈xs,∀ j,fi (BD (v x)::V6::(ix.map λi=>(ρ[i]?).getD V6)) (σ++j)=O (p x) (σ++j)/\(p x=Ĳ->fe (BD (v x)::V6::(ix.map λi=>(ρ[i]?).getD V6)) (σ++j)=O (y x) (σ++j))) (e:∀ x∈xs,p x=Ĳ->cl (y x)=Ĳ) :
  fk (Nn (Ht src) ix (je 0) fi fe) ρ σ=O (ύ$ (xs.filter p).map y) σ:=by
 show ig σ (Tc (Tc _ uN) _ σ)=_;rw[zm,zm,l,ze];show ig σ (Tc (Di s.nx σ.length _ fi fe 1001 0$ V6::V6::(ix.map λi=>(ρ[i]?).getD V6)) _$ σ++[ϒ []])=_;rw[zm,IM (λo=>o=V6) v v (λd=>V6) p y (λi j d=>k i j) (λx o n h=>by subst h;exact⟨rfl,rfl⟩) step g 1001 0 V6 V6 [] rfl ⋯ ⋯ ⋯,ze];refine Eq.trans (zb (ig σ) ?_)$ rz (Kn λd f=>by obtain⟨x,m,rfl⟩:=na.mp f;obtain⟨a,b⟩:=Pe.mp m;exact e x a b);simp
def ww{b:Type}{xs:List b}{src}{s}{ix}{fe}{ρ}{σ} v y(g:src ρ σ=O s σ)(f:∀ i j,s.nx i (σ++j)=BD ((xs[i]?).map v))(e:xs.length<=1000)
  (step:∀ x∈xs,∀ j,fe (BD (v x)::V6::(ix.map λi=>(ρ[i]?).getD V6)) (σ++j)=O (y x) (σ++j)) (c:∀ x∈xs,cl (y x)=Ĳ) :
  fk (Nn (Ht src) ix (je 0) On fe) ρ σ=O (ύ$ xs.map y) σ:=by
 have:=tE (p:=λh=>Ĳ) v y (fi:=On) g f e (λd a j=>⟨rfl,λh=>step d a j⟩) (λd a h=>c d a)
 rwa [Mg.mpr λh h=>rfl]at this
def π{f:Type}{xs:List f}{c}{nx}{ix}{fe}{ρ}{σ}(a b y:f->D)(m:c ρ σ=O nx σ)(l:∀ i j,i<=xs.length->nx i (σ++j)=BD ((xs[i]?).map λx=>ώ [a x,b x]))(k:xs.length<=1000)
  (step:∀ x∈xs,∀ j,fe (BD (a x)::BD (b x)::(ix.map λi=>(ρ[i]?).getD V6)) (σ++j)=O (y x) (σ++j)) (g:∀ x∈xs,cl (y x)=Ĳ) :
  fk (Nn c ix (io 2$ bi (je 0)$ bi (je 1) Io) On fe) ρ σ=O (ύ$ xs.map y) σ:=by
 show ig σ (Tc _ _ σ)=_;rw[zm,m,ze];show ig σ (Tc (Di nx σ.length _ On fe 1001 0$ V6::V6::(ix.map λi=>(ρ[i]?).getD V6)) _ _)=_;rw[zm,IM (λd=>True) _ a _ _ y l (λx o n d=>⟨rfl,trivial⟩) (λx e j=>⟨rfl,λd=>step x e j⟩) k 1001 0 V6 V6 [] trivial ⋯ ⋯ ⋯,ze];refine Eq.trans (zb _ ?_)$ rz (Kn λd h=>by obtain⟨x,e,rfl⟩:=na.mp h;exact g x e);have fe:List.filter _ xs=xs:=Mg.mpr λd d=>rfl;simp[fe]
noncomputable def Sc:D->Bool
 | Z _=>Ĳ
 | Ϛ=>Ĳ
 | ϐ _=>Ĳ
 | ϓ _=>Ĳ
 |_=>Ε
noncomputable def bd(d:D)(a b:Int):Bool:=match d with
 | Z i=>decide (a<=i) && decide (i<=b)
 |_=>Ε
theorem w9 x a:Cy .int (ϓ x) a=O (ϐ Ε) a:=nr rfl
def į(h:Sc d=Ĳ) a:Zl [d] a=O (ϐ$ match d with | Z _=>Ĳ|_=>Ε) a:=by
 unfold Zl Pc;cases d with
 |int i=>simp
 |Zb=>simp
 |bl b=>simp
 |str x=>simp[w9]
 |_=>cases h
def T7(h:Sc d=Ĳ) a b c:Ce [d,Z a,Z b] c=O (ϐ$ bd d a b) c:=by
 have w:=į h;unfold Ce Pc;cases d with
 |int i=>cases e:decide (a<=i)<;>simp[bd,e,w]
 |Zb=>simp[bd,w]
 |bl b=>simp[bd,w]
 |str x=>simp[bd,w]
 |_=>cases h
theorem Ÿ a b c d e r f:nb (ώ$ a::b::c::d::e::r) (Z 4) f=O e f:=Gx$ iq rfl
@[simp] theorem ycy f lo b a c:yF f lo b a c=(f a c).bind (kL (Zz lo a)$ Zz b a):=nr rfl
@[simp] theorem zza lo a x b:kL lo a x b=(lo b).bind (UJ x a):=nr rfl
@[simp] theorem zzb x a lo b:UJ x a lo b=(a b).bind (Ku x lo):=nr rfl
@[simp] theorem zsu b a:Zz V6 b a=O V6 a:=nr rfl
@[simp] theorem zsv f a b:Zz (BD f) a b=(f a b).bind gM:=nr rfl
@[simp] theorem zxg i a:gM (Z i) a=O (BD i) a:=nr rfl
@[simp] theorem Ww xs lo a b:Ku (ώ xs) lo a b=O (ώ$ nu xs lo a) b:=nr rfl
@[simp] theorem yoi a r b:nb (ύ$ a::r) (Z 0) b=O a b:=NJ$ iq rfl
@[simp] theorem yoj a b r c:nb (ύ$ a::b::r) (Z 1) c=O b c:=NJ$ iq rfl
theorem GD(h:nx i c=BD (BD d))(f:b d e=BD ρ1):Yp nx b a (k+1) i e c=(a ρ1 c).bind (bu$ Yp nx b a k$ i+1):=by
 rw[Yp];simp only[h,f];rfl
def EO(h:nx i b=BD V6):Yp nx d a (k+1) i c b=O (ϙ c) b:=by
 rw[Yp];simp only[h]
@[simp] theorem Õ f a b:qI f a b=(f a b).bind Ez:=nr rfl
@[simp] theorem lz b d a c e:Cu b d a c e=Ik c (xH d a c) (b c e):=Ul ..
theorem HG{xs}(b:gi a x=BD xs)(h:qf xs=Ĳ):ig a (xr [x] a)=O (ύ xs) a:=by
 have e:xr [x] a=O (U a.length) (a++[ϒ xs]):=by unfold xr;simp[b];rfl
 have:=mR (σ:=a) (j:=[]) (j':=[]) h
 simp_all
section
variable{σ:Fa}{x:D}{xs:B'}
def zP(h:Lf σ x=BD xs):Ez x σ=O (Lu x) σ:=by unfold Ez;rw[h]
def fG(h:Lf σ x=BD xs)(a:xs[i]?=BD d):Lu x i σ=BD (BD$ ώ [Z i,d]):=by unfold Lu;rw[h];simp[a]
def gY(h:Lf σ x=BD xs):Lu x xs.length σ=BD V6:=by unfold Lu;rw[h];simp
end
@[simp] theorem b_0:(("accept" : Str) == "offer")=Ε:=by decide
@[simp] theorem b_1:(("agree" : Str) == "strike")=Ε:=by decide
@[simp] theorem b_2:(("agree" : Str) == "word")=Ε:=by decide
@[simp] theorem b_3:(("ask" : Str) == "accept")=Ε:=by decide
@[simp] theorem b_4:(("ask" : Str) == "offer")=Ε:=by decide
@[simp] theorem b_5:(("ask" : Str) == "struck")=Ε:=by decide
@[simp] theorem b_6:(("ask" : Str) == "word")=Ε:=by decide
@[simp] theorem yuf:(("pass" : Str) == "give")=Ε:=by decide
@[simp] theorem yug:(("pass" : Str) == "pay")=Ε:=by decide
@[simp] theorem yuh:(("pass" : Str) == "settle")=Ε:=by decide
@[simp] theorem yui:(("pay" : Str) == "give")=Ε:=by decide
@[simp] theorem yuj:(("pay" : Str) == "settle")=Ε:=by decide
@[simp] theorem yuk:(("settle" : Str) == "finish")=Ε:=by decide
@[simp] theorem yul:(("settle" : Str) == "give")=Ε:=by decide
@[simp] theorem yum:(("settle" : Str) == "pass")=Ε:=by decide
@[simp] theorem yun:(("settle" : Str) == "pay")=Ε:=by decide
@[simp] theorem yuo:(("strike" : Str) == "word")=Ε:=by decide
@[simp] theorem yup:(("struck" : Str) == "accept")=Ε:=by decide
@[simp] theorem yuq:(("struck" : Str) == "offer")=Ε:=by decide
theorem JD{xs}(h:qf xs=Ĳ) a:ig a (xr [ύ xs] a)=O (ύ xs) a:=HG (Ý xs) h
def ft(xs:List a)(v:a->D)(i:Nat):(xs.map v)[i]?=(xs[i]?).map v:=Pa ..
def bt(h:a<=i/\i<=b) c:Ce [Z i,Z a,Z b] c=O (ϐ Ĳ) c:=by
 rw[T7 rfl];simp[bd,h]
def JM(h:s=0\/s=1) c:jn [Z s] c=O (ϐ Ĳ) c:=by
 unfold jn Pc;simp[(bt (i:=s) (a:=0) (b:=1) ⋯ c)]
def fL(h:0<=s/\s<=59) a:gn [Z s] a=O (ϐ Ĳ) a:=by
 unfold gn Pc;simp[(bt h a)]
def yR(h:0<=s/\s<=1000000) a:Jk [Z s] a=O (ϐ Ĳ) a:=by
 unfold Jk Pc;simp[(bt h a)]
def IQ(h:0<=p/\p<=2) a:ip [Z p] a=O (ϐ Ĳ) a:=by
 unfold ip Pc;simp[(bt h a)]
def gZ s a:Dj [Z s] a=O (Z$ 1 - s) a:=by
 unfold Dj Pc;simp
structure Ti where
 (p a w y:Int)
noncomputable def Ti.D(t:Ti):L4.D:=ώ [Z t.p,Z t.a,Z t.w,Z t.y]
structure Ti.Ok(t:Ti):Prop where
 p:t.p=0\/t.p=1
 a:1<=t.a/\t.a<=1000000000000
 w:0<=t.w/\t.w<=59
 y:0<=t.y/\t.y<=1000000
noncomputable def Yq(b:List Ti):Int:=(b.map Ti.a).sum
def Pm(n a b:Int)(c:List Ti):D:=ώ [Z n,ώ [Z a,Z b],ώ$ c.map Ti.D]
def mT{t:Ti}(h:t.Ok) b:dm [t.D] b=O (ϐ Ĳ) b:=by
 have c:Hk [Z t.a] b=O (ϐ Ĳ) b:=by
  unfold Hk Pc;simp[(bt h.a b)]
 have d:Zo [Z t.y] b=O (ϐ Ĳ) b:=by
  unfold Zo Pc;simp[(bt h.y b)]
 unfold Ti.D dm Pc;simp[(JM h.p b),c,(fL h.w b),d]
structure bo(n a b:Int)(ts:List Ti):Prop where
 n:0<=n/\n<=1000000
 a:0<=a/\a<=2000000000000
 b:0<=b/\b<=2000000000000
 t:∀ t∈ts,t.Ok
 l:ts.length<=6
 d:(ts.map Ti.w).Nodup
def QD(h:bo n a b ts) c:Ah [Pm n a b ts] c=O (ϐ Ĳ) c:=by
 have r:=h.l;have g:∀ c,Gi (Ba 0) [BD$ ώ$ ts.map Ti.D] c=O (.seq$ ts.map Ti.D) c:=λc=>by simp
 have l1:=ww (ix:=[]) (fe:=lf 1 dm []$ Na (Ba 0) Db) Ti.D (λs=>ϐ Ĳ) (g c) (λi s=>zb BD$ ft ts _ i) ⋯ (λt m j=>by
  have:=mT (h.t t m)$ c++j;simp[this]) (λs s=>by simp)
 have l2:=ww (ix:=[]) (fe:=Ab nb (Ba 0)$ eC$ Z 2) Ti.D (λt=>Z t.w) (g c) (λi s=>zb BD$ ft ts _ i) ⋯ (λt h j=>by simp[Ti.D]) (λd q=>by simp);rw[show ts.map (λt=>Z t.w)=(ts.map Ti.w).map Z by rw[Va];rfl]at l2;have e:=yQ (σ:=c) (f:=λs:Ti=>Ĳ) (l:=ts);rw[show ts.all (λs=>Ĳ)=Ĳ from Bb.mpr λs s=>rfl]at e;have s1:=R9 (σ:=c) (l:=ts.map Ti.w) (by simp;lia);rw[(Ë$ ts.map Ti.w).mpr h.d,Ea]at s1;have o:Fo [ώ$ ts.map Ti.D] c=O (Z (ts.length:Int)) c:=by
  have:=bU (σ:=c)$ ts.map Ti.D;simpa using this
 have k:decide ((ts.length:Int) > 6)=Ε:=by simp;lia
 unfold Pm Ah Pc;dsimp only;unfold Xq Pc;dsimp only;unfold Zn Pc;dsimp only;generalize (ts.length:Int)=N,ts.map (λs=>ϐ Ĳ)=p,ts.map Ti.D=TT,(ts.map Ti.w).map Z=W at *;simp[(yR h.n c),(bt h.a c),(bt h.b c),l1,l2,e,s1,o,k,-cp]
def iG(t:Ti):cl t.D=Ĳ:=by unfold Ti.D;simp
def aU(b:List Ti):qf (b.map Ti.D)=Ĳ:=Kn λd a=>by obtain⟨t,_,rfl⟩:=na.mp a;exact iG t
def vQ n a b c:cl (Pm n a b c)=Ĳ:=by
 unfold Pm;simp[aU]
def S2(f:0<=u/\u<=1000000000000)(g:0<=v/\v<=1000000000000) σ:Nl [Z u,Z v] σ=O (Pm 0 u v []) σ:=by
 have c:=QD (n:=0) (a:=u) (b:=v) (ts:=[]) ⟨by omega,by omega,by omega,by simp,by simp,by simp⟩ σ;have d:Ch [Z 0,ώ [Z u,Z v],Ϛ] σ=O (Pm 0 u v []) σ:=by
  unfold Pm at c ⊢;simp at c ⊢;unfold Ch dP;simp[c]
 have e:=vQ 0 u v [];unfold Nl Pc;simp[d,e]
def ygj a b c:Dz [ώ [Z a,Z b]] c=O (Z$ a+b) c:=by
 simp[Dz,Js]
def OJ(l:h8) a:Dz [ύ$ l.map Z] a=O (Z l.sum) a:=by
 simp[Dz]
def DN n a b(m:ts.length<=6) c:Ll [Pm n a b ts] c=O (Z$ a+b+Yq ts) c:=by
 have g:∀ c,nb (Pm n a b ts) (Z 2) c=O (ώ$ ts.map Ti.D) c:=λc=>by simp[Pm]
 have f:∀ c,nb (Pm n a b ts) (Z 1) c=O (ώ [Z a,Z b]) c:=λc=>by simp[Pm]
 have l:=ww (s:=.seq$ ts.map Ti.D) (ix:=[]) (fe:=Ab nb (Ba 0)$ eC$ Z 1) (ρ:=[BD$ Pm n a b ts]) (σ:=c) (src:=Gi$ Ab nb (Ba 0)$ eC$ Z 2) Ti.D (λt=>Z t.a) (by simp[g]) (λi d=>zb BD$ ft ts _ i) ⋯ (λt h j=>by simp[Ti.D]) (λd k=>by simp);have e:ts.map (λt=>Z t.a)=(ts.map Ti.a).map Z:=by rw[Va];rfl
 rw[e]at l;have o:=OJ (ts.map Ti.a) c;unfold Ll Pc;dsimp only;generalize (ts.map Ti.a).map Z=G,Pm n a b ts=S at *;simp[f,l,ygj,o,Yq,-cp]
def rX(h:bo n a b d) c:Wf [Pm n a b d,Z$ a+b+Yq d] c=O (ϐ Ĳ) c:=by
 unfold Wf Pc;simp[(QD h c),(DN n a b (by have:=h.l;omega) c)]
abbrev Kv:=List$ Ic × D
structure Sn where
 (n a b:Int)
 ts:List Ti
def Sn.D(s:Sn):L4.D:=Pm s.n s.a s.b s.ts
def ym(s:Sn):cl s.D=Ĳ:=vQ ..
def YI(b:List Sn):qf (b.map Sn.D)=Ĳ:=Kn λd a=>by obtain⟨s,_,rfl⟩:=na.mp a;exact ym s
def s0(s:Sn) a:nb s.D (Z 0) a=O (Z s.n) a:=by unfold Sn.D Pm;simp
def s1(s:Sn) c:nb s.D (Z 1) c=O (ώ [Z s.a,Z s.b]) c:=by unfold Sn.D Pm;simp
def s2(s:Sn) a:nb s.D (Z 2) a=O (ώ$ s.ts.map Ti.D) a:=by unfold Sn.D Pm;simp
noncomputable def ow(q:Int)(s:Sn):Int:=if q=0 then s.a else s.b
def l9(d:q=0\/q=1) s c:nb (ώ [Z s.a,Z s.b]) (Z q) c=O (Z$ ow q s) c:=by
 rcases d with rfl|rfl<;>simp[ow]
structure Sn.Ok(W:Int)(s:Sn):Prop where
 st:bo s.n s.a s.b s.ts
 w:s.a+s.b+Yq s.ts=W
abbrev Pv:=Int × List Sn
def af(p:Pv):D:=ώ [Z p.1,ύ$ p.2.map Sn.D,Ϩ [] []]
def Gj(e:Int)(K:h8)(P:B'):D:=ϸ 14 ["every","last_look","known","pots"] [Z e,Z 0,ύ$ K.map Z,ύ P]
theorem WF(K:h8):qf (K.map Z)=Ĳ:=Kn λd a=>by obtain⟨s,_,rfl⟩:=na.mp a;rfl
def yW p:cl (af p)=Ĳ:=by unfold af;simp[cl,YI]
def rW(ps:List Pv):qf (ps.map af)=Ĳ:=Kn λd a=>by obtain⟨p,_,rfl⟩:=na.mp a;exact yW p
def T6 e K(h:qf P=Ĳ):cl (Gj e K P)=Ĳ:=by unfold Gj;simp[h]
structure Lo where
 (w:Int)
 (k:Str)
 (v d:Int)
def Lo.D(l:Lo):L4.D:=ώ [ϓ l.k,Z l.v,Z l.d]
structure Rd where
 (f:Int)
 (x:List Lo)
def gj(x:List Lo):Kv:=x.map λl=>(.inl l.w,l.D)
def Rd.D(r:Rd):L4.D:=ώ [Z r.f,Ϩ ((gj r.x).map (·.1)) ((gj r.x).map (·.2))]
noncomputable def lk(e:Int)(K:h8)(q:Int)(t:Ti):Str:=if t.p=q then (if t.y<=0 then "back" else "open")else if t.y<=0 then "gone" else if t.w∈K/\e<t.y then "sure" else "hangs"
noncomputable def CD(k:Str):Bool:=k == "sure" || k == "back"
def fa(e:Int)(K:h8)(q:Int)(t:Ti):Int:=if CD (lk e K q t)then t.a else 0
def qy(e:Int)(K:h8)(q:Int)(a:List Ti):Int:=(a.map$ fa e K q).sum
def lo(e:Int)(K:h8)(q:Int)(t:Ti):Lo:=⟨t.w,lk e K q t,t.a,t.y⟩
def rd(e:Int)(K:h8)(q:Int)(s:Sn):Rd:=⟨ow q s+qy e K q s.ts,s.ts.map$ lo e K q⟩
def YT(l:Lo):cl l.D=Ĳ:=by unfold Lo.D;simp
def IX x:qf ((gj x).map (·.2))=Ĳ:=Kn λd a=>by
 unfold gj at a;rw[Va]at a;obtain⟨l,_,rfl⟩:=na.mp a;exact YT l
def VF(r:Rd):cl r.D=Ĳ:=by unfold Rd.D;simp[cl,IX]
def Č(b:List Rd):qf (b.map Rd.D)=Ĳ:=Kn λd a=>by obtain⟨s,_,rfl⟩:=na.mp a;exact VF s
@[simp] theorem TQ b a:rq b a=O (U a.length) (a++[Ϗ []]):=nr rfl
@[simp] theorem zg0 o f b a c:qD o f b a c=(f a c).bind (Zw o$ b a):=nr rfl
@[simp] theorem Z4 f c b a d:Jv f c b a d=Ik a (CL a c b) (f a d):=Ul ..
@[simp] theorem t3 c b d a e:CL a c b d e=Ik a (YL a b d) (c a e):=Ul ..
@[simp] theorem zpx b d x a c:YL a b d x c=Ik a (jq a d x) (b a c):=Ul ..
theorem At(h:σ[n]?=BD (Ϗ kvs))(a:kvs.length<1000):jq ρ d (U n) (Z w) σ=O (ϙ ρ) (σ.set n$ Ϗ$ ij kvs (.inl w) d):=by
 unfold jq;simp only[Bi,h];rw[ka (show kvs.length<Dg from a)]
theorem cH{f:D->Option D}(a:∀ d,cl d=Ĳ->f d=BD d):∀ {xs:B'},qf xs=Ĳ->El f xs=BD xs
 |[],_=>rfl
 |x::xs,h=>by
  rw[qf,Ga]at h;rw[El,a x h.1,cH a h.2]
theorem tN(h:qf (kvs.map (·.2))=Ĳ):fz σ.length (σ++Ϗ kvs::j) (m+1) (U σ.length)=BD (Ϩ (kvs.map (·.1)) (kvs.map (·.2))):=by
 have e:(σ++Ϗ kvs::j)[σ.length]?=BD (Ϗ kvs):=by simp
 unfold fz;dsimp only;rw[qa$ Vd _,e];dsimp only;rw[cH (λd a=>Ay a) h];rfl
theorem g6 b m(xs:h8):pw b (Z m) (xs.map Z)=BD (xs.map λx=>decide$ x=m):=by
 induction xs with
 |nil=>rfl
 |cons x xs a=>
  rw[Ta,Ta,pw,a];rfl
def M2(K:h8) w a:cJ Ε (Z w) (ύ$ K.map Z) a=O (ϐ$ decide$ w∈K) a:=by
 have:gi a (ύ _)=BD (K.map Z):=rfl;unfold cJ;simp only[this,g6];have e:((K.map λx=>decide$ x=w).any id)=decide (w∈K):=by
  rw[JC];by_cases h:w∈K
  ·rw[rc h,Qc];exact⟨w,h,by simp⟩
  ·rw[gc h,Kk];intro x b;simp;intro z;exact h$ z ▸ b
 simp[e]
def ų e K q t:lk e K q t = "back"\/lk e K q t = "open"\/lk e K q t = "gone"\/lk e K q t = "sure"\/lk e K q t = "hangs":=by
 unfold lk;repeat' split
 all_goals simp
theorem A6 e K q t a:rH Ε ["won","sure","back"] (ϓ$ lk e K q t) a=O (ϐ$ CD$ lk e K q t) a:=by
 rcases ų e K q t with h|h|h|h|h<;>rw[h]<;>exact nr rfl
section
variable(e:Int)(K:h8)(P:B')(σ:Fa)(q:Int)(ss:List Sn)
def ç t:Yl [Gj e K P,af (q,ss),t.D] σ=O (ϓ$ lk e K q t) σ:=by
 have k1:∀ σ,Lc [14,15] "last_look" (Gj e K P) σ=O (Z 0) σ:=λσ=>Oj (SD rfl) rfl rfl;have n:∀ σ,Lc [14,15] "known" (Gj e K P) σ=O (ύ$ K.map Z) σ:=λσ=>Oj (SD rfl) rfl rfl;have o:∀ σ,Lc [14,15,16] "every" (Gj e K P) σ=O (Z$ e) σ:=λσ=>Oj (SD rfl) rfl rfl;have s:∀ σ,nb (af (q,ss)) (Z 0) σ=O (Z q) σ:=λσ=>by unfold af;simp
 have u:∀ σ,nb (af (q,ss)) (Z 2) σ=O (Ϩ [] []) σ:=λσ=>by unfold af;simp
 have r:∀ σ,nb t.D (Z 0) σ=O (Z t.p) σ:=λσ=>by unfold Ti.D;simp
 have k:∀ σ,nb t.D (Z 2) σ=O (Z t.w) σ:=λσ=>by unfold Ti.D;simp
 have d:∀ σ,nb t.D (Z 3) σ=O (Z t.y) σ:=λσ=>by unfold Ti.D;simp
 have v:∀ σ,Nu (Z t.w) (Ϩ [] []) σ=O (ϐ Ε) σ:=λσ=>nr rfl;have g:=M2 K t.w;have f:∀ σ,Lh [t.D,Ϩ [] []] σ=O (ϐ Ε) σ:=λσ=>by
  unfold Lh Pc;simp[k,v]
 have x:∀ σ,tj [Gj e K P,Ϩ [] [],t.D] σ=O (ϓ$ if t.y<=0 then "gone" else if t.w∈K/\e<t.y then "sure" else "hangs") σ:=λσ=>by
  unfold tj Pc;by_cases a:t.y<=0
  ·have c:decide ((0:Int) ≥ t.y)=Ĳ:=rc a;simp[f,k1,d,c,a]
  ·have c:decide ((0:Int) ≥ t.y)=Ε:=gc a;by_cases i:t.w∈K
   ·have l:decide (t.w∈K)=Ĳ:=rc i;rw[l]at g;by_cases j:e<t.y
    ·have m:decide (e<t.y)=Ĳ:=rc j;rw[qa a,ka ⟨i,j⟩];simp[f,k1,n,o,k,d,c,g,m]
    ·have m:decide (e<t.y)=Ε:=gc j;rw[qa a,qa λz=>j z.2];simp[f,k1,n,o,k,d,c,g,m]
   ·have l:decide (t.w∈K)=Ε:=gc i;rw[l]at g;rw[qa a,qa λz=>i z.1];simp[f,k1,n,o,k,d,c,g]
 have A:∀ σ,Ni [Gj e K P,Ϩ [] [],t.D] σ=O (ϓ$ if t.y<=0 then "back" else "open") σ:=λσ=>by
  unfold Ni Pc;by_cases a:t.y<=0
  ·have c:decide ((0:Int) ≥ t.y)=Ĳ:=rc a;simp[f,k1,d,c,a]
  ·have c:decide ((0:Int) ≥ t.y)=Ε:=gc a;simp[f,k1,d,c,a]
 unfold Yl lk Pc;by_cases h:t.p=q
 ·simp only[h,Jf];rw[h]at r;simp[s,u,r,A]
 ·have b:(t.p == q)=Ε:=by simp[h]
  simp only[h,Oo];simp[s,u,r,x,b]
def XA d(h:∀ p∈a,p.1≠.inl w):ij a (.inl w) d=a++[(.inl w,d)]:=by
 unfold ij;rw[qa];intro z;obtain⟨p,b,e⟩:=Qc.mp z;exact h p b ⋯
theorem PY(S:D):∀ (ts c:List Ti) (f:Int) (s j:Option D),((c++ts).map Ti.w).Nodup->(c++ts).length<=9->∃ g h,Nj (je 5) OG (ts.map Ti.D) [BD$ Gj e K P,BD$ af (q,ss),BD S,BD$ Z f,BD$ U σ.length,s,j] (σ++[Ϗ$ gj$ c.map$ lo e K q])=O (ϙ [BD$ Gj e K P,BD$ af (q,ss),BD S,BD$ Z$ f+qy e K q ts,BD$ U σ.length,g,h]) (σ++[Ϗ$ gj$ (c++ts).map$ lo e K q])
 |[],c,f,s,j,_,_=>⟨s,j,by simp[qy]⟩
 |t::ts,c,f,s,j,hd,z=>by
  have l:=λσ=>ç e K P σ q ss t;have J:∀ σ,nb t.D (Z 1) σ=O (Z t.a) σ:=λσ=>by unfold Ti.D;simp
  have L:∀ σ,nb t.D (Z 2) σ=O (Z t.w) σ:=λσ=>by unfold Ti.D;simp
  have N:∀ σ,nb t.D (Z 3) σ=O (Z t.y) σ:=λσ=>by unfold Ti.D;simp
  have i:∀ p∈gj (c.map$ lo e K q),p.1≠.inl t.w:=λp u e=>by
   unfold gj at u;rw[Va]at u;obtain⟨B,v,rfl⟩:=na.mp u;have e:B.w=t.w:=by simpa [lo]using e
   rw[gd,Ta,Yc]at hd;exact hd.2.2 B.w (we v) t.w la e
  have A:=λC=>At (ρ:=C) (σ:=σ++[Ϗ$ gj$ c.map$ lo e K q]) (d:=ώ [ϓ$ lk e K q t,Z t.a,Z t.y]) (n:=σ.length) (w:=t.w) (kvs:=gj$ c.map$ lo e K q) ⋯ (by unfold gj;simp at z ⊢;lia);rw[ZB,XA _ i,show gj (c.map$ lo e K q)++[((.inl t.w),ώ [ϓ$ lk e K q t,Z t.a,Z t.y])]=gj ((c++[t]).map$ lo e K q) by simp[gj,lo,Lo.D]]at A;have I:=A6 e K q t;have G:∀ (f:Ev->M D) (k m o r g h:Option D) (x:D) (σ:Fa),ky (λa b=>a+b) 3 f [k,m,o,BD x,r,g,h] σ=Ik [k,m,o,BD x,r,g,h] (DD (λa b=>a+b) 3 [k,m,o,BD x,r,g,h] x) (f [k,m,o,BD x,r,g,h] σ):=λf k m o r g h x σ=>fV rfl;obtain⟨g,h,H⟩:=PY S ts (c++[t]) (f+fa e K q t) (BD t.D) (BD$ ϓ$ lk e K q t) (by rw[Kc];exact hd) (by rw[Kc];exact z);refine⟨g,h,?_⟩;rw[show f+qy e K q (t::ts)=f+fa e K q t+qy e K q ts by simp[qy];lia,show c++t::ts=c++[t]++ts by simp,<-H,Ta,Iq];simp only[Cb,Lb];have b:OG [BD$ Gj e K P,BD$ af (q,ss),BD S,BD$ Z f,BD$ U σ.length,BD t.D,j] (σ++[Ϗ$ gj$ c.map$ lo e K q])=O (ϙ [BD$ Gj e K P,BD$ af (q,ss),BD S,BD$ Z$ f+fa e K q t,BD$ U σ.length,BD t.D,BD$ ϓ$ lk e K q t]) (σ++[Ϗ$ gj$ (c++[t]).map$ lo e K q]):=by
   unfold OG fa;generalize σ++[Ϗ$ gj$ c.map$ lo e K q]=Y,σ++[Ϗ$ gj$ (c++[t]).map$ lo e K q]=ϊ,af (q,ss)=P,Gj e K P=V,t.D=ό,lk e K q t=F at *;generalize CD F=E at *;cases E<;>simp[l,J,L,N,A,I,G]
  rw[b,ze,Tk]
def L0(d:q=0\/q=1){s}(b:(s.ts.map Ti.w).Nodup)(c:s.ts.length<=9):Cg [Gj e K P,af (q,ss),s.D] σ=O (rd e K q s).D σ:=by
 have g:∀ σ,nb (af (q,ss)) (Z 0) σ=O (Z q) σ:=λσ=>by unfold af;simp
 obtain⟨h,i,a⟩:=PY e K P σ q ss s.D s.ts [] (ow q s) V6 V6 b c;have a:Nj _ _ _ _ (σ++[Ϗ []])=O (ϙ [BD _,BD _,BD s.D,BD$ Z (rd e K q s).f,BD$ U σ.length,h,i]) (σ++[Ϗ$ gj (rd e K q s).x]):=a;have fz:ig σ (O (ώ [Z (rd e K q s).f,U σ.length])$ σ++[Ϗ$ gj (rd e K q s).x])=O (rd e K q s).D σ:=by
  unfold ig;dsimp only;rw[ka ⋯];have:fz σ.length (σ++[Ϗ$ gj (rd e K q s).x]) 6 (ώ [Z (rd e K q s).f,U σ.length])=BD (rd e K q s).D:=by
   unfold fz;dsimp only;unfold El;unfold El;rw[(tN (σ:=σ) (j:=[]) (m:=4)$ IX (rd e K q s).x)];rfl
  rw[this]
 unfold Cg UP Pc;simp[g,(s1 s),(s2 s),(l9 d s),a,fz]
end
def o8(h:ys.length+zs.length<=1000):tz (U σ.length) [ύ zs] (σ++[ϒ ys])=O Ϛ (σ++[ϒ$ ys++zs]):=by
 have e:Lf (σ++[ϒ ys]) (ύ zs)=BD zs:=rfl;unfold tz;simp only[zB,e];rw[ka (show _<=Dg from h),ZB]
theorem G3{xs ys}(b:Ba i a σ=O (ύ xs) σ)(c:Ba j a σ=O (ύ ys) σ):rK (Ba i) (Ba j) a σ=O (hD (ύ xs)$ ύ ys) σ:=by
 unfold rK;rw[zm,b,ze];unfold qV;rw[zm,c,ze];rfl
def Cr{c:Type}(a:c->Int):List c->c->c
 |[],b=>b
 |x::xs,b=>if a x<a b then Cr a xs x else Cr a xs b
theorem CN{c:Type}(a:c->Int):∀ (xs:List c) (b:c),Cr a xs b∈b::xs
 |[],b=>by simp[Cr]
 |x::xs,b=>by
  unfold Cr;split
  ·have:=CN a xs x
   simp_all
  ·have:=CN a xs b;rcases za.mp this with h|h;all_goals simp_all
set_option tactic.hygienic true in
theorem rG{f:Type}(a:f->Int):∀ (xs:List f) (b:f),∀ y∈b::xs,a (Cr a xs b)<=a y
 |[],b,y,d=>by
  have:y=b:=by simpa using d
  rw[this];exact Int.le_refl _
 |x::xs,b,y,d=>by
  unfold Cr;split
  ·next h=>
   have c:=rG a xs x;rcases za.mp d with e|e
   ·have:=c x la;rw[e];lia
   ·exact c y e
  ·next h=>
   have c:=rG a xs b;rcases za.mp d with e|e
   ·rw[e];exact c b la
   ·rcases za.mp e with e|e
    ·have:=c b la;rw[e];lia
    all_goals simp_all
theorem tO{d:Type}{f:d->D}{a:d->Int}{g:Ev->M D}{rest:Ev}{e:Fa}:∀ (xs:List d) (b:d),(∀ x∈xs,g (BD (f x)::rest) e=O (Z$ a x) e)->jw g rest (xs.map f) (f b) (a b) e=O (f$ Cr a xs b) e
 |[],b,_=>rfl
 |x::xs,b,h=>by
  have j:=h x la;have i:=λy k=>h y$ ja _ k;rw[Ta];unfold jw Cr;rw[zm,NB j,ze];dsimp only;by_cases c:a x<a b
  ·rw[ka c,ka c];exact tO xs x i
  ·rw[qa c,qa c];exact tO xs b i
def TV{f}{key}{rest}{xs}{x:a}(h:∀ y∈x::xs,fe (BD (f y)::rest) σ=O (Z$ key y) σ):dz fe rest [ύ$ (x::xs).map f] σ=O (f$ Cr key xs x) σ:=by
 rw[Ta];unfold dz;dsimp only;rw[zm,NB$ h x la,ze];exact tO xs x λy b=>h y$ ja _ b
@[simp] theorem zk1 d b c a e:YG d b c a e=(c a e).bind (dz b$ d.map λi=>(a[i]?).getD V6):=nr rfl
theorem Ny{x:List b}{a:b}(h:x[i]?=BD a):x.take (i+1)=x.take i++[a]:=by
 rw[List.take_add_one,h];rfl
def AG{xs}(P:Nat->Ev->Fa->Prop)(C:xs.length<=1000)(z:S=.seq xs\/∃ n,S=.Xl n/\∀ i ρ σ,P i ρ σ->Cf σ n=BD xs)
  (w:∀ i d ρ σ,xs[i]?=BD d->P i ρ σ->∃ f c e,tg d ρ=BD f/\body f σ=O (ϙ c) e/\P (i+1) c e) (v:P 0 ρ σ):∃ a b,gE tg body ρ S σ=O (ϙ a) b/\P xs.length a b:=by
 rcases z with rfl|⟨n,rfl,B⟩
 ·have s:∀ (r:B') (i:Nat) (ρ:Ev) (σ:Fa),xs.drop i=r->i<=xs.length->P i ρ σ->∃ a b,Nj tg body r ρ σ=O (ϙ a) b/\P xs.length a b:=λr=>by
   induction r with
   |nil=>
    intro i ρ σ j A g;have:i=xs.length:=by have:=List.drop_eq_nil_iff.mp j;omega
    exact⟨ρ,σ,by simp,this ▸ g⟩
   |cons d r u=>
    intro i ρ σ j A g;have h:xs[i]?=BD d:=by have:=zb (·[0]?) j;simpa using this
    obtain⟨f,c,e,l,m,o⟩:=w i d ρ σ h g;obtain⟨a,b,p,q⟩:=u _ c e (by have:=zb List.tail j;simpa using this) (ba.mp h).1 o;exact⟨a,b,by rw[iZ l,m,ze,Tk,p],q⟩
  exact s xs 0 ρ σ rfl ⋯ v
 ·have s:∀ (k i:Nat) (ρ:Ev) (σ:Fa),xs.length<k+i->i<=xs.length->P i ρ σ->∃ a b,Bq tg body n k i ρ σ=O (ϙ a) b/\P xs.length a b:=λk=>by
   induction k with
   |zero=>intro i ρ σ x y;omega
   |succ k u=>
    intro i ρ σ x y g;have t:=B i ρ σ g;rw[Bq];simp only[t];cases h:xs[i]? with
    |none=>
     have:i=xs.length:=by have:=Qb.mp h;omega
     exact⟨ρ,σ,rfl,this ▸ g⟩
    |some d=>
     obtain⟨f,c,e,l,m,o⟩:=w i d ρ σ h g;obtain⟨a,b,p,q⟩:=u (i+1) c e ⋯ (ba.mp h).1 o;refine⟨a,b,?_,q⟩;simp only[l];show (body f σ).bind _=_;rw[m,ze,Tk,p]
  exact s 1001 0 ρ σ ⋯ ⋯ v
def RL(a:List$ List Rd):D:=ύ (a.map λb=>ύ$ b.map Rd.D)
def Rk(e:Int)(K:h8)(ps:List Pv):List$ List Rd:=ps.map λp=>p.2.map$ rd e K p.1
structure gm(ps:List Pv):Prop where
 n:ps.length<=3
 q:∀ p∈ps,p.1=0\/p.1=1
 f:∀ p∈ps,0<p.2.length/\p.2.length<=2
 d:∀ p∈ps,∀ s∈p.2,(s.ts.map Ti.w).Nodup/\s.ts.length<=9
 a:∀ p∈ps,∀ s∈p.2,∀ t∈s.ts,0<=t.a
def ζ a:cl (RL a)=Ĳ:=Kn λd b=>by obtain⟨c,_,rfl⟩:=na.mp b;exact Č c
def L1(h:gm ps) e K a:ii [Gj e K$ ps.map af] a=O (RL$ Rk e K ps) a:=by
 have z:∀ a,Lc [9,14,16] "pots" (Gj e K _) a=O (ύ$ ps.map af) a:=λa=>Oj (SD rfl) rfl rfl;obtain⟨C,E,o,y,rfl,rfl⟩:=AG (S:=.seq$ ps.map af) (xs:=ps.map af) (tg:=je 2) (body:=uL) (ρ:=[BD$ Gj e K _,BD$ U a.length,V6]) (σ:=a++[ϒ []]) (λi ρ g=>∃ y,ρ=[BD$ Gj e K$ ps.map af,BD$ U a.length,y]/\g=a++[ϒ ((Rk e K$ ps.take i).map λb=>ύ$ b.map Rd.D)]) (by have:=h.n;simp;lia) (ϑ rfl) (λi d ρ g u A=>by
  obtain⟨y,rfl,rfl⟩:=A;rw[Pa]at u;obtain⟨p,v,rfl⟩:=La.mp u;have k:=wa v;obtain⟨q,c⟩:=p;have l:∀ g,fk (Nn (Ht$ Gi$ Ab nb (Ba 2)$ eC$ Z 1) [0,2] (je 0) On$ lf 3 Cg []$ Na (Ba 2)$ Na (Ba 3)$ Na (Ba 0) Db) [BD$ Gj e K$ ps.map af,BD$ U a.length,BD$ af (q,c)] g=O (ύ$ (c.map$ rd e K q).map Rd.D) g:=λg=>by
   rw[Va];refine ww (s:=.seq$ c.map Sn.D) (ix:=[0,2]) Sn.D _ (by unfold af;simp) (λi I=>zb BD$ ft c _ i) (by have:=(h.f _ k).2;dsimp only at this;lia) (λs w j=>?_) (λs I=>VF _);have r:=L0 e K (ps.map af) (g++j) q c (h.q _ k) (h.d _ k s w).1 (h.d _ k s w).2;rw[show (Rd.D ∘ rd e K q) s=(rd e K q s).D from rfl];generalize g++j=Y,s.D=H,af (q,c)=x,Gj e K (ps.map af)=V,(rd e K q s).D=R at *;simp[r]
  have t:=XD (σ:=a) (xs:=(Rk e K$ ps.take i).map λb=>ύ$ b.map Rd.D) (d:=ύ$ (c.map$ rd e K q).map Rd.D) (by have:=h.n;unfold Rk;simp;lia);have B:∀ m,Pu Kj m (U a.length) (a++[ϒ ((Rk e K$ ps.take i).map λb=>ύ$ b.map Rd.D)])=(m$ a++[ϒ ((Rk e K$ ps.take i).map λb=>ύ$ b.map Rd.D)]).bind (Kj$ U a.length):=λm=>uB (xs:=(Rk e K$ ps.take i).map λb=>ύ$ b.map Rd.D) (by unfold Lf Cf;simp);rw[show ((Rk e K$ ps.take i).map λb=>ύ$ b.map Rd.D)++[ύ$ (c.map$ rd e K q).map Rd.D]=(Rk e K$ ps.take$ i+1).map λb=>ύ$ b.map Rd.D by rw[Ny v];unfold Rk;simp]at t;refine⟨[BD$ Gj e K$ ps.map af,BD$ U a.length,BD$ af (q,c)],[BD$ Gj e K$ ps.map af,BD$ U a.length,BD$ af (q,c)],_,rfl,?_,_,rfl,rfl⟩;generalize af (q,c)=x,Gj e K (ps.map af)=V,a++[ϒ ((Rk e K$ ps.take i).map λb=>ύ$ b.map Rd.D)]=Y,a++[ϒ ((Rk e K$ ps.take$ i+1).map λb=>ύ$ b.map Rd.D)]=ϊ,(c.map$ rd e K q).map Rd.D=F at *;simp[B,l,t,-cp]) ⟨V6,rfl,by simp[Rk]⟩
 rw[Ea,Ec]at o;have fz:ig a (O (U a.length)$ a++[ϒ ((Rk e K ps).map λb=>ύ$ b.map Rd.D)])=O (RL$ Rk e K ps) a:=rz$ ζ$ Rk e K ps;have o:Nj (je 2) uL (ps.map af) [BD$ Gj e K$ ps.map af,BD$ U a.length,V6] (a++[ϒ []])=_:=o;unfold ii EQ Pc;dsimp only;generalize ps.map af=P,Gj e K (ps.map af)=V,a++[ϒ ((Rk e K ps).map λb=>ύ$ b.map Rd.D)]=ϊ,RL (Rk e K ps)=G at *;simp[z,o,fz]
abbrev Rx:=Rd × Nat
def cD(c:List Rx):D:=ύ (c.map λp=>Z p.2)
theorem LI c:cl (cD c)=Ĳ:=Kn λd a=>by obtain⟨p,_,rfl⟩:=na.mp a;rfl
noncomputable def ext(a:List Rd)(c:List Rx):List$ List Rx:=a.zipIdx.map λp=>c++[p]
def Dl(a:List$ List Rd)(acc:List$ List Rx):List$ List Rx:=a.foldl (λacc b=>acc.flatMap$ ext b) acc
def Pk:List (List Rd)->List Rx->Prop
 |[],[]=>True
 |rs::a,p::c=>rs[p.2]?=BD p.1/\Pk a c
 |_,_=>False
theorem Pk.len:∀ {a:List$ List Rd} {c:List Rx},Pk a c->c.length=a.length
 |[],[],_=>rfl
 |_::a,_::c,h=>zb (·+ 1) (Pk.len h.2)
 |[],_::_,h=>h.elim
 |_::_,[],h=>h.elim
theorem PM:∀ (b:List$ List Rd) {acc:List$ List Rx} {c:List Rx},c∈Dl b acc->∃ a∈acc,∃ r,c=a++r/\Pk b r
 |[],acc,c,h=>⟨c,h,[],by simp,trivial⟩
 |rs::b,acc,c,h=>by
  obtain⟨a',d,r,rfl,g⟩:=PM b (acc:=acc.flatMap _) h;obtain⟨a,e,i⟩:=Rl.mp d;obtain⟨p,f,rfl⟩:=na.mp i;exact⟨a,e,p::r,by simp,Gm.mp f,g⟩
theorem OH(b:List Rd):∀ a:List$ List Rx,(a.flatMap$ ext b).length=a.length * b.length
 |[]=>by simp
 |c::a=>by
  rw[av,Ub,OH b a,gb,Nat.succ_mul];unfold ext;simp;lia
theorem PJ:∀ (a:List$ List Rd) (acc:List$ List Rx),(∀ b∈a,b.length<=2)->(Dl a acc).length<=acc.length * 2 ^ a.length
 |[],acc,_=>by simp[Dl]
 |b::a,acc,h=>by
  have:=PJ a (acc.flatMap$ ext b) λr c=>h r$ ja _ c;rw[OH]at this;refine ib this ?_;rw[gb,Nat.pow_succ,Tp,Nat.mul_comm _ 2,<-Tp,<-Tp];exact Nat.mul_le_mul_right _$ Nat.mul_le_mul_left _$ h b la
theorem oY:∀ (a:List$ List Rd) {acc:List$ List Rx},(∀ b∈a,0<b.length)->acc≠[]->Dl a acc≠[]
 |[],acc,_,h=>h
 |b::a,acc,h,d=>oY a (λr e=>h r$ ja _ e) λz=>by
  have:=zb List.length z;rw[OH]at this;have c:=List.length_pos_iff.mpr d;have:=Nat.mul_pos c$ h b la
  simp_all
def gX(h:n<=3):2 ^ n<=8:=by
 have:n=0\/n=1\/n=2\/n=3:=by lia
 rcases this with rfl|rfl|rfl|rfl<;>decide
def IsL(a:Nat)(b:Fa)(d:D)(xs:B'):Prop:=d=ύ xs\/∃ n,d=U n/\a<=n/\Cf b n=BD xs
def J1{xs}(h:IsL σ.length (σ++J) d xs)(a:qf xs=Ĳ):ig σ (O d$ σ++J)=O (ύ xs) σ:=by
 rcases h with rfl|⟨n,rfl,f,b⟩
 ·unfold ig;dsimp only;rw[ka ⋯,Ay (show cl _=Ĳ by rw[cl];exact a)]
 ·have c:=BG b;unfold ig;dsimp only;rw[ka ⋯];have:fz σ.length (σ++J) 6 (U n)=BD (ύ xs):=by
   unfold fz;rw[qa ⋯];dsimp only;rw[qa ⋯,c];dsimp only;rw[cH (λd e=>Ay e) a];rfl
  rw[this]
def Δ a c:(ext a c).map cD=(List.range a.length).map λ(i:Nat)=>ύ$ c.map (λp=>Z p.2)++[Z i]:=by
 have e:a.zipIdx.map (·.2)=List.range a.length:=by rw[List.zipIdx_map_snd,List.range_eq_range']
 rw[<-e];unfold ext cD;simp only[Va]
 simp_all
def Ā(r:a.length<=2)(q:c.length<=3)(s:ys.length<=100) R C σ:NI [R,C,BD$ ύ$ a.map Rd.D,BD$ U σ.length,BD$ cD c] (σ++[ϒ ys])=O (ϙ [R,C,BD$ ύ$ a.map Rd.D,BD$ U σ.length,BD$ cD c]) (σ++[ϒ$ ys++(ext a c).map cD]):=by
 have f:∀ (i:Nat) b,Mi (cD c) (ύ [Z i]) b=O (ύ$ c.map (λp=>Z p.2)++[Z i]) b:=λi b=>by unfold cD;rw[nH (by unfold Dg;simp;omega)]
 have g:∀ b,Fo [ύ$ a.map Rd.D] b=O (Z a.length) b:=λb=>by simp
 have l:∀ b,fk (Nn (Ht$ Gy$ Go Fo$ Na (Ba 2) Db) [4] (je 0) On$ Ab Mi (Ba 2)$ kl$ Na (Ba 0) Db) [R,C,BD$ ύ$ a.map Rd.D,BD$ U σ.length,BD$ cD c] b=O (ύ$ (ext a c).map cD) b:=λb=>by
  have k:Hy (Z a.length) b=O (.seq$ (List.range a.length).map λ(i:Nat)=>Z i) b:=by
   rw[NN ⋯ ⋯];rfl
  have n:Gy (Go Fo$ Na (Ba 2) Db) [R,C,BD$ ύ$ a.map Rd.D,BD$ U σ.length,BD$ cD c] b=O (.seq$ (List.range a.length).map λ(i:Nat)=>Z i) b:=by
   generalize a.map Rd.D=e at *;simp[g,k]
  rw[Δ];exact ww (ix:=[4]) (xs:=List.range a.length) (fe:=Ab Mi (Ba 2)$ kl$ Na (Ba 0) Db) (λ(i:Nat)=>Z i) (λ(i:Nat)=>ύ$ c.map (λp=>Z p.2)++[Z i]) n (λi t=>zb BD$ ft (List.range a.length) _ i) (by simp;omega) (λi t j=>by
   have:=f i$ b++j;generalize cD c=d at *;simp[this]) (λi t=>by rw[cl,uO,show qf (c.map λp=>Z p.2)=Ĳ from LI c];rfl)
 have ex:=o8 (σ:=σ) (ys:=ys) (zs:=(ext a c).map cD) (by unfold ext;simp;omega);have h:∀ m,Pu tz m (U σ.length) (σ++[ϒ ys])=(m$ σ++[ϒ ys]).bind (tz$ U σ.length):=λm=>uB (xs:=ys) (by unfold Lf Cf;simp);unfold NI;generalize a.map Rd.D=e,(ext a c).map cD=o,cD c=d at *;simp[h,l,ex,-cp]
def yzf{xs}(h:IsL f a d xs)(b:∀ a,Ba i ρ a=O d a) J:∃ S,Gi (Ba i) ρ (a++J)=O S (a++J)/\(S=.seq xs\/∃ n,S=.Xl n/\∀ J,Cf (a++J) n=BD xs):=by
 rcases h with rfl|⟨n,rfl,_,c⟩
 ·exact⟨.seq xs,by rw[UA,b];simp,ϑ rfl⟩
 ·have g:∀ J,Cf (a++J) n=BD xs:=λJ=>by
   have e:=BG c;unfold Cf;rw[Za (ba.mp e).1,e]
  refine⟨.Xl n,?_,ϕ ⟨n,rfl,g⟩⟩;rw[UA,b,ze];show (match Cf (a++J) n with|some _=>_|none=>_)=_;rw[g]
def A9(l:a.length<=2){acc:List$ List Rx}(t:acc.length<=8)(u:∀ c∈acc,c.length<=3)(p:σ0<=σ.length)(v:IsL σ0 σ d$ acc.map cD) R w f:∃ j,VD [R,BD d,BD$ ύ$ a.map Rd.D,w,f] σ=O (ϙ [R,BD$ U σ.length,BD$ ύ$ a.map Rd.D,BD$ U σ.length,j]) (σ++[ϒ$ (acc.flatMap$ ext a).map cD])/\IsL σ0 (σ++[ϒ$ (acc.flatMap$ ext a).map cD]) (U σ.length) ((acc.flatMap$ ext a).map cD):=by
 obtain⟨S,o,s⟩:=yzf v (ρ:=[R,BD d,BD$ ύ$ a.map Rd.D,BD$ U σ.length,f]) (i:=1) (λB=>rfl) [ϒ []];obtain⟨x,z,m,j,rfl,rfl⟩:=AG (S:=S) (xs:=acc.map cD) (tg:=je 4) (body:=NI) (ρ:=[R,BD d,BD$ ύ$ a.map Rd.D,BD$ U σ.length,f]) (σ:=σ++[ϒ []]) (λi ρ k=>∃ y,ρ=[R,BD d,BD$ ύ$ a.map Rd.D,BD$ U σ.length,y]/\k=σ++[ϒ$ ((acc.take i).flatMap$ ext a).map cD]) (by simp;lia) (by
   rcases s with h|⟨n,q,r⟩
   ·exact ϑ h
   ·exact ϕ ⟨n,q,λi ρ k g=>by obtain⟨_,_,rfl⟩:=g;exact r _⟩) (λi A ρ k e g=>by
  obtain⟨y,rfl,rfl⟩:=g;rw[Pa]at e;obtain⟨c,b,rfl⟩:=La.mp e;have st:=Ā l (u c$ wa b) (ys:=((acc.take i).flatMap$ ext a).map cD) (by rw[Ea,OH,Ae];exact ib (Nat.mul_le_mul (ib (Nat.min_le_right ..) t) l) ⋯) R (BD d) σ;rw[show ((acc.take i).flatMap$ ext a).map cD++(ext a c).map cD=((acc.take$ i+1).flatMap$ ext a).map cD by rw[Ny b];simp]at st;exact⟨_,_,_,rfl,st,_,rfl,rfl⟩) ⟨f,rfl,by simp⟩
 rw[Ea,Ec]at m;refine⟨j,?_,ϕ ⟨σ.length,rfl,p,zB _⟩⟩;unfold VD;simp[o,m,-UA]
def K7(G:b.length<=3)(t:∀ h∈b,h.length<=2) f:ag [RL b] f=O (ύ$ (Dl b [[]]).map cD) f:=by
 obtain⟨B,C,p,d,q,m,n,J,rfl,rfl,l⟩:=AG (S:=.seq _) (xs:=b.map λh=>ύ _) (tg:=je 2) (body:=VD) (ρ:=[BD _,BD _,V6,V6,V6]) (σ:=f) (λi ρ s=>∃ d q m n J,ρ=[BD _,BD d,q,m,n]/\s=f++J/\IsL f.length s d ((Dl (b.take i) [[]]).map cD)) (by simp;lia) (ϑ rfl) (λi E ρ s j u=>by
  obtain⟨d,q,m,n,J,rfl,rfl,l⟩:=u;rw[Pa]at j;obtain⟨h,g,rfl⟩:=La.mp j;have F:=(ba.mp g).1;have A:∀ r∈b.take i,r.length<=2:=λr y=>t r$ List.mem_of_mem_take y;obtain⟨H,st,k⟩:=A9 (t h$ wa g) (acc:=Dl (b.take i) [[]]) (ib (PJ _ _ A)$ by rw[gb,Qe,KF,uJ];exact gX (by rw[Ae];lia)) (λc o=>by
   obtain⟨a,v,r,rfl,w⟩:=PM _ o;have:a=[]:=by simpa using v
   subst this;rw[Hm,w.len,Ae];lia) (σ0:=f.length) ⋯ l (BD$ RL b) m n
  have e:(Dl (b.take i) [[]]).flatMap (ext h)=Dl (b.take$ i+1) [[]]:=by rw[Ny g];unfold Dl;rw[bv];rfl
  rw[e]at st k;exact⟨_,_,_,rfl,st,_,_,_,_,J++[ϒ _],rfl,by rw[Kc],k⟩) ⟨ύ [ύ []],V6,V6,V6,[],rfl,by simp,ϑ rfl⟩
 rw[Ea,Ec]at l;have p:Nj (je 2) VD (b.map λh=>ύ$ h.map Rd.D) [BD$ RL b,BD$ ύ [ύ []],V6,V6,V6] f=_:=p;unfold ag EV Pc;unfold RL at *;simp[p,(J1 l$ Kn λx z=>by obtain⟨c,_,rfl⟩:=na.mp z;exact LI c)]
theorem wT:∀ {a:List$ List Rd} {c:List Rx},Pk a c->∀ x∈a.zip c,x.1[x.2.2]?=BD x.2.1
 |[],[],_,x,h=>by cases h
 |rs::a,p::c,h,x,b=>by
  rcases za.mp b with rfl|b
  ·exact h.1
  ·exact wT h.2 x b
 |[],_::_,h,_,_=>h.elim
 |_::_,[],h,_,_=>h.elim
theorem uS:∀ {a:List$ List Rd} {c:List Rx},Pk a c->(a.zip c).map (λx=>x.2.1.D)=c.map λp=>p.1.D
 |[],[],_=>rfl
 |rs::a,p::c,h=>by rw[List.zip_cons_cons,Ta,Ta,uS h.2]
 |[],_::_,h=>h.elim
 |_::_,[],h=>h.elim
def Y0(v:e.length<=3)(m:Pk e c) σ:Me [RL e,cD c] σ=O (ύ$ c.map λp=>p.1.D) σ:=by
 have u:=m.len;have w:(e.zip c).length=e.length:=by rw[List.length_zip];omega
 have n:qf (c.map λp=>p.1.D)=Ĳ:=Kn λd q=>by obtain⟨p,_,rfl⟩:=na.mp q;exact VF _
 have l:=π (xs:=e.zip c) (ix:=[]) (fe:=Ab nb (Ba 0)$ Ba 1) (ρ:=[BD$ RL e,BD$ cD c]) (λx=>ύ$ x.1.map Rd.D) (λx=>Z x.2.2) (λx=>x.2.1.D) (G3 (i:=0) (j:=1) (σ:=σ) (xs:=e.map λf=>ύ$ f.map Rd.D) (ys:=c.map λp=>Z p.2) rfl rfl) (λi j h=>by
  show hD (ύ$ e.map λf=>ύ$ f.map Rd.D) (ύ$ c.map λp=>Z p.2) i (σ++j)=_;have a:Lf (σ++j) (ύ$ e.map λf=>ύ$ f.map Rd.D)=BD (e.map λf=>ύ$ f.map Rd.D):=rfl;have b:Lf (σ++j) (ύ$ c.map λp=>Z p.2)=BD (c.map λp=>Z p.2):=rfl;unfold hD;simp only[a,b,Pa];by_cases r:i<e.length
  ·have g:e[i]?=BD e[i]:=ba.mpr ⟨r,rfl⟩;have o:c[i]?=BD (c[i]'⋯):=ba.mpr ⟨by omega,rfl⟩;have k:(e.zip c)[i]?=BD (e[i],c[i]'⋯):=List.getElem?_zip_eq_some.mpr ⟨g,o⟩;rw[g,o,k];rfl
  ·have g:e[i]?=V6:=Qb.mpr ⋯;have k:(e.zip c)[i]?=V6:=Qb.mpr ⋯;rw[g,k];simp;omega) ⋯ (λx s j=>by
  have t:∀ σ,nb (ύ$ x.1.map Rd.D) (Z x.2.2) σ=O (x.2.1.D) σ:=λσ=>NJ$ iq (by rw[Pa,wT m x s];rfl);have:=t$ σ++j;simp[this]) (λx d=>VF _)
 rw[uS m]at l;unfold Me Pc;simp[l,n,-cp]
def QX A a:Lq A A.length a=BD V6:=by unfold Lq;simp
def uQ(h:f b a=O (Ϩ (A.map (·.1)) (A.map (·.2))) a):Ew f b a=O (Lq A) a:=by
 have z:∀ A:Kv,(A.map (·.1)).zip (A.map (·.2))=A:=λA=>by
  induction A with
  |nil=>rfl
  |cons x r c=>simp_all
 show Tc _ eJ a=_;rw[zm,h,ze];unfold eJ
 simp_all
theorem JN{nx:NX}{tg:D->Ev->Option Ev}{body:Ev->M Fl}{N:Nat}(P:Nat->Ev->Fa->Prop)(m:∀ i b a,i<N->P i b a->∃ d h e g,nx i a=BD (BD d)/\tg d b=BD h/\body h a=O (ϙ e) g/\P (i+1) e g)(l:∀ a,nx N a=BD V6):∀ (k i:Nat) (b:Ev) (a:Fa),N<k+i->i<=N->P i b a->∃ c f,Yp nx tg body k i b a=O (ϙ c) f/\P N c f
 |0,i,b,a,t,u,_=>by omega
 |k+1,i,b,a,t,u,j=>by
  by_cases v:i=N
  ·subst v;exact⟨b,a,EO$ l a,j⟩
  ·obtain⟨d,h,e,g,n,o,p,q⟩:=m i b a ⋯ j;obtain⟨c,f,r,s⟩:=JN P m l k (i+1) e g ⋯ ⋯ q;refine⟨c,f,?_,s⟩;rw[GD n o,p,ze,Tk,r]
def yH{A:Kv}(h:f ρ σ=O (Ϩ (A.map (·.1)) (A.map (·.2))) σ)(r:A.length<=1000)(P:Nat->Ev->Fa->Prop)(q:∀ i k v ρ σ,A[i]?=BD (k,v)->P i ρ σ->∃ a b c,tg (ώ [lI k,v]) ρ=BD a/\body a σ=O (ϙ b) c/\P (i+1) b c)(n:P 0 ρ σ):∃ d g,Cu (Ew f) tg body ρ σ=O (ϙ d) g/\P A.length d g:=by
 rw[lz,uQ h,Co];refine JN P (λi ρ σ p o=>?_) (QX A) 1001 0 ρ σ ⋯ ⋯ n;have e:A[i]?=BD _:=ba.mpr ⟨p,rfl⟩;obtain⟨a,b,c,j,l,m⟩:=q i _ _ ρ σ e o;refine⟨_,a,b,c,?_,j,l,m⟩;unfold Lq;simp[e]
abbrev Gr:=List$ Int × List Lo
def gD(g:Gr):D:=Ϩ (g.map λp=>.inl p.1) (g.map λp=>ύ$ p.2.map Lo.D)
def Ř(b:List Lo):qf (b.map Lo.D)=Ĳ:=Kn λd a=>by obtain⟨t,_,rfl⟩:=na.mp a;exact YT t
theorem ε(h:∀ p∈a,p.1≠.inl w):Qi a (.inl w)=V6:=by
 unfold Qi;rw[Vg.mpr λp b=>by simpa using h p b];rfl
def Ù(g:List$ Int × Nat × List Lo)(h:∀ p∈g,σ.length<=p.2.1/\(σ++Ϗ (g.map λp=>(.inl p.1,U p.2.1))::j)[p.2.1]?=BD (ϒ$ p.2.2.map Lo.D)):ig σ (O (U σ.length)$ σ++Ϗ (g.map λp=>(.inl p.1,U p.2.1))::j)=O (gD$ g.map λp=>(p.1,p.2.2)) σ:=by
 have e:(σ++Ϗ (g.map λp=>(.inl p.1,U p.2.1))::j)[σ.length]?=BD (Ϗ$ g.map λp=>(.inl p.1,U p.2.1)):=by simp
 have b:∀ T (q:List$ Int × Nat × List Lo),(∀ p∈q,σ.length<=p.2.1/\T[p.2.1]?=BD (ϒ$ p.2.2.map Lo.D))->El (fz σ.length T 5) (q.map λp=>U p.2.1)=BD (q.map λp=>ύ$ p.2.2.map Lo.D):=λT q=>by
  induction q with
  |nil=>intro _;rfl
  |cons p q l=>
   intro a;obtain⟨m,c⟩:=a p la;have f:fz σ.length T 5 (U p.2.1)=BD (ύ$ p.2.2.map Lo.D):=by
    unfold fz;rw[qa ⋯];dsimp only;rw[qa ⋯,c];dsimp only;rw[cH (λd i=>Ay i)$ Ř _];rfl
   rw[Ta,El,f,l λp k=>a p$ ja _ k];rfl
 unfold ig;dsimp only;rw[ka ⋯];have:fz σ.length (σ++Ϗ (g.map λp=>(.inl p.1,U p.2.1))::j) 6 (U σ.length)=BD (gD$ g.map λp=>(p.1,p.2.2)):=by
  unfold fz;dsimp only;rw[qa$ Vd _,e];dsimp only;rw[show (g.map λp=>((Sum.inl p.1),U p.2.1)).map _=g.map (λp=>U p.2.1) by rw[Va];rfl,b _ g h];unfold gD;rw[Va,Va,Va];rfl
 rw[this]
abbrev Gn:=List$ Int × Nat × List Lo
def has{a:Type}(g:List$ Int × a)(w:Int):Bool:=g.any λp=>decide$ p.1=w
def t2{g:List$ Int × b}(h:has g w=Ĳ):∃ p∈g,p.1=w:=by
 obtain⟨p,a,e⟩:=Qc.mp h;exact⟨p,a,by simpa using e⟩
def UN{g:List$ Int × b}(h:has g w=Ε):∀ p∈g,p.1≠w:=λp a e=>by
 have:=Kk.mp h p a
 simp_all
noncomputable def Lz(g:Gn)(n:Nat)(l:Lo):Gn:=if has g l.w then g.map (λp=>if p.1=l.w then (p.1,p.2.1,p.2.2++[l])else p)else g++[(l.w,n,[l])]
noncomputable def ub(g:Gr)(l:Lo):Gr:=if has g l.w then g.map (λp=>if p.1=l.w then (p.1,p.2++[l])else p)else g++[(l.w,[l])]
noncomputable def out(g:Gn):Gr:=g.map λp=>(p.1,p.2.2)
def W4 g n l:out (Lz g n l)=ub (out g) l:=by
 have e:has (out g) l.w=has g l.w:=by unfold has out;rw[JC];rfl
 unfold Lz ub;rw[e];split
 ·unfold out;rw[Va,Va];refine ve λp a=>?_;simp;split<;>rfl
 ·unfold out;simp
set_option tactic.hygienic true in
def Ŀ g l(h:(g.map (·.1)).Nodup):((ub g l).map (·.1)).Nodup:=by
 unfold ub;split
 ·rw[Va,show ((λp:Int × List Lo=>p.1) ∘ λp=>if p.1=l.w then (p.1,p.2++[l])else p)=λp=>p.1 from funext λp=>by simp;split<;>rfl];exact h
 ·next f=>
  have:=UN (by simpa using f);rw[gd,Yc];exact⟨h,by simp,λa c b d e=>by
   obtain⟨p,i,rfl⟩:=na.mp c;have:b=l.w:=by simpa using d
   exact(UN ⋯ p i)$ e.trans this⟩
theorem uniq{d:Type}{i:Type}{f:d->i}:∀ {g:List d},(g.map f).Nodup->∀ p∈g,∀ b∈g,f p=f b->p=b
 |[],_,p,h,_,_,_=>by cases h
 |x::g,hd,p,c,b,a,e=>by
  rw[Ta,Fd]at hd;rcases za.mp c with rfl|c<;>rcases za.mp a with rfl|a
  ·rfl
  ·exact absurd (na.mpr ⟨b,a,e.symm⟩) hd.1
  ·exact absurd (na.mpr ⟨p,by assumption,e⟩) hd.1
  ·exact uniq hd.2 p c b a e
noncomputable def jj(g:Gn):Kv:=g.map λp=>(.inl p.1,U p.2.1)
structure LW(σ:Fa)(g:Gn)(k:Nat)(τ:Fa):Prop where
 j:∃ j,τ=σ++Ϗ (jj g)::j
 r:∀ p∈g,σ.length<p.2.1/\τ[p.2.1]?=BD (ϒ (p.2.2.map Lo.D))/\p.2.2.length<=k
 w:(g.map (·.1)).Nodup
 n:(g.map (·.2.1)).Nodup
 l:g.length<=k
def YK{xs}(h:a[n]?=BD (ϒ xs))(b:xs.length<1000):Kj (U n) [d] a=O Ϛ (a.set n$ ϒ$ xs++[d]):=by
 unfold Kj Cf;simp only[h];rw[ka (show _<Dg from b)]
def C7(h:LW c g k ϋ)(hk:k<=100) l R rd:∃ C,zM [R,BD$ U c.length,rd,BD$ Z l.w,BD l.D] ϋ=O (ϙ [R,BD$ U c.length,rd,BD$ Z l.w,BD l.D]) C/\LW c (Lz g ϋ.length l) (k+1) C:=by
 obtain⟨⟨j,rfl⟩,r,I,H,hl⟩:=h;have V:∀ (i:Kv) (j:Fa),(c++Ϗ i::j)[c.length]?=BD (Ϗ i):=λi j=>by simp
 have W:∀ q,Zw Hw q (U c.length) (c++Ϗ (jj g)::j)=(q$ c++Ϗ (jj g)::j).bind (Hw$ U c.length):=λq=>by
  have:Sg (c++Ϗ (jj g)::j) (U c.length)=BD (jj g):=by unfold Sg;simp
  unfold Zw;rw[this];rfl
 have P:(c++Ϗ (jj g)::j)++[ϒ []]=c++Ϗ (jj g)::(j++[ϒ []]):=by simp
 have G:(c++Ϗ (jj g)::j).length=c.length+1+j.length:=by simp;omega
 have lt:∀ p∈g,p.2.1<c.length+1+j.length:=λp f=>by
  have:=(ba.mp (r p f).2.1).1;omega
 have m:∀ p∈g,(c++Ϗ (jj g)::(j++[ϒ []]))[p.2.1]?=BD (ϒ$ p.2.2.map Lo.D):=λp f=>by
  rw[<-P,Za (by rw[G];exact lt p f)];exact(r p f).2.1
 have A:∀ (i u:Kv) (j:Fa),(c++Ϗ i::j).set c.length (Ϗ u)=c++Ϗ u::j:=λi u j=>by
  rw[Re _ _$ ua _,LF];rfl
 have B:∀ (i:Kv) (j:Fa) (n:Nat) (o:Ob),c.length<n->∃ J,(c++Ϗ i::j).set n o=c++Ϗ i::J:=λi j n o H=>by
  rw[Re _ _ ⋯,show n - c.length=(n - c.length - 1)+1 by omega,Cb];exact⟨_,rfl⟩
 by_cases v:has g l.w=Ĳ
 ·obtain⟨p,f,E⟩:=t2 v;have M:Qi (jj g) (.inl l.w)=BD (U p.2.1):=by
   unfold Qi jj;cases e:(g.map λp=>((.inl p.1:Ic),U p.2.1)).find? (λi=>decide$ i.1=.inl l.w)with
   |none=>exact absurd (Vg.mp e _$ na.mpr ⟨p,f,rfl⟩) (by simp[E])
   |some z=>
    obtain⟨T,t,rfl⟩:=na.mp (kf e);have ϊ:=Im e;have e3:T.1=l.w:=by simpa using ϊ
    rw[uniq I T t p f$ e3.trans E.symm];rfl
  have N:Hw (U c.length) [Z l.w,U$ c.length+1+j.length] (c++Ϗ (jj g)::(j++[ϒ []]))=O (U p.2.1) (c++Ϗ (jj g)::(j++[ϒ []])):=by
   unfold Hw;simp only[Bi,V];rw[ka (by unfold Dg jj;simp;omega)];simp[M]
  have ό:∀ q,Pu Kj q (U p.2.1) (c++Ϗ (jj g)::(j++[ϒ []]))=(q$ c++Ϗ (jj g)::(j++[ϒ []])).bind (Kj$ U p.2.1):=λq=>uB (xs:=p.2.2.map Lo.D) (by unfold Lf Cf;simp[m p f]);have F:=YK (d:=l.D) (m p f) (by have:=(r p f).2.2;simp;omega);obtain⟨J,L⟩:=B (jj g) (j++[ϒ []]) p.2.1 (ϒ$ p.2.2.map Lo.D++[l.D]) (r p f).1;rw[L]at F;have K:Lz g (c++Ϗ (jj g)::j).length l=g.map (λp=>if p.1=l.w then (p.1,p.2.1,p.2.2++[l])else p):=by unfold Lz;rw[ka v]
  have em:jj (g.map$ λp=>if p.1=l.w then (p.1,p.2.1,p.2.2++[l])else p)=jj g:=by
   unfold jj;rw[Va];exact ve λp _=>by simp only[Function.comp];split<;>rfl
  refine⟨c++Ϗ (jj g)::J,?_,?_⟩
  ·simp[W,N,ό,F,G,P]
  ·rw[K];refine⟨⟨J,by rw[em]⟩,λT t=>?_,?_,?_,by rw[Ea];omega⟩
   ·obtain⟨x,s,rfl⟩:=na.mp t;by_cases ex:x.1=l.w
    ·have:x=p:=uniq I x s p f$ ex.trans E.symm;subst this;rw[ka ex];refine⟨(r x s).1,?_,by have:=(r x s).2.2;simp;omega⟩;rw[<-L,Dc (ba.mp$ m x s).1];simp
    ·rw[qa ex];refine⟨(r x s).1,?_,by have:=(r x s).2.2;omega⟩;rw[<-L,zg λz=>ex (by rw[<-E,uniq H p f x s z]),m x s]
   ·rw[Va,show ((λp:Int × Nat × List Lo=>p.1) ∘ λp=>if p.1=l.w then (p.1,p.2.1,p.2.2++[l])else p)=λp=>p.1 from funext λp=>by simp only[Function.comp];split<;>rfl];exact I
   ·rw[Va,show ((λp:Int × Nat × List Lo=>p.2.1) ∘ λp=>if p.1=l.w then (p.1,p.2.1,p.2.2++[l])else p)=λp=>p.2.1 from funext λp=>by simp only[Function.comp];split<;>rfl];exact H
 ·have v:has g l.w=Ε:=by simpa using v
  have Y:=UN v;have X:∀ p∈jj g,p.1≠.inl l.w:=λp f e=>by
   obtain⟨x,s,rfl⟩:=na.mp f;exact Y x s (by simpa using e)
  have M:=ε X;have N:Hw (U c.length) [Z l.w,U$ c.length+1+j.length] (c++Ϗ (jj g)::(j++[ϒ []]))=O (U$ c.length+1+j.length) (c++Ϗ (jj$ g++[(l.w,c.length+1+j.length,[l])])::(j++[ϒ []])):=by
   unfold Hw;simp only[Bi,V];rw[ka (by unfold Dg jj;simp;omega)];simp only[M,A];rw[XA _ X];unfold jj;rw[gd];rfl
  have y:∀ i:Kv,(c++Ϗ i::(j++[ϒ []]))[c.length+1+j.length]?=BD (ϒ []):=λi=>by
   rw[Cc ⋯,show c.length+1+j.length - c.length=j.length+1 by omega];simp
  have ό:∀ (i:Kv) q,Pu Kj q (U$ c.length+1+j.length) (c++Ϗ i::(j++[ϒ []]))=(q$ c++Ϗ i::(j++[ϒ []])).bind (Kj$ U$ c.length+1+j.length):=λi q=>uB (xs:=[]) (by unfold Lf Cf;simp[y]);have F:∀ i:Kv,Kj (U$ c.length+1+j.length) [l.D] (c++Ϗ i::(j++[ϒ []]))=O Ϛ (c++Ϗ i::(j++[ϒ [l.D]])):=λi=>by
   rw[YK (y i) ⋯,Re _ _ ⋯,show c.length+1+j.length - c.length=j.length+1 by omega,Cb,Re _ _ ⋯,LF];rfl
  have K:Lz g (c++Ϗ (jj g)::j).length l=g++[(l.w,c.length+1+j.length,[l])]:=by unfold Lz;rw[v,G];rfl
  refine⟨c++Ϗ (jj$ g++[(l.w,c.length+1+j.length,[l])])::(j++[ϒ [l.D]]),?_,?_⟩
  ·simp[W,N,ό,F,G,P]
  ·rw[K];refine⟨⟨_,rfl⟩,λp f=>?_,?_,?_,by simp;omega⟩
   ·rcases kc.mp f with f|f
    ·refine⟨(r p f).1,?_,by have:=(r p f).2.2;omega⟩;have a:=(r p f).1;have b:=lt p f;have:=m p f;rw[Cc ⋯,show p.2.1 - c.length=(p.2.1 - c.length - 1)+1 by omega,List.getElem?_cons_succ]at this ⊢;rw[Za ⋯]at this ⊢;exact this
    ·have:p=(l.w,c.length+1+j.length,[l]):=by simpa using f
     subst this;refine⟨by dsimp only;omega,?_,by simp⟩;dsimp only;rw[Cc ⋯,show c.length+1+j.length - c.length=j.length+1 by omega];simp
   ·rw[gd,Yc];exact⟨I,by simp,λa Q b S e=>by
     obtain⟨p,f,rfl⟩:=na.mp Q;have:b=l.w:=by simpa using S
     exact Y p f$ e.trans this⟩
   ·rw[gd,Yc];exact⟨H,by simp,λa Q b S e=>by
     obtain⟨p,f,rfl⟩:=na.mp Q;have:b=c.length+1+j.length:=by simpa using S
     have:=lt p f;omega⟩
def Cp(a:List Rd):Gr:=(a.flatMap Rd.x).foldl ub []
def ů(T:rs.length<=3)(P:∀ r∈rs,r.x.length<=9) a:Jg [ύ$ rs.map Rd.D] a=O (gD$ Cp rs) a:=by
 obtain⟨J,B,z,G,q,s,g,rfl,c,m⟩:=AG (xs:=rs.map Rd.D) (tg:=je 2) (ρ:=[BD _,BD$ U a.length,V6,V6,V6]) (σ:=a++[Ϗ []]) (λi ρ t=>∃ G q s g,ρ=[BD$ ύ$ rs.map Rd.D,BD _,G,q,s]/\LW a g (9 * i) t/\out g=Cp (rs.take i)) (by simp;lia) (ϑ rfl) (λi d ρ t L C=>by
  obtain⟨G,q,s,g,rfl,c,m⟩:=C;rw[Pa]at L;obtain⟨r,e,rfl⟩:=La.mp L;have R:=P r$ wa e;have S:=(ba.mp e).1;have M:∀ a,nb r.D (Z 1) a=O (Ϩ ((gj r.x).map (·.1)) ((gj r.x).map (·.2))) a:=λa=>by unfold Rd.D;simp
  obtain⟨J,B,z,H,I,Q,rfl,b,u⟩:=yH (f:=Ab nb (Ba 2)$ eC$ Z 1) (A:=gj r.x) (ρ:=[BD$ ύ$ rs.map Rd.D,BD$ U a.length,BD r.D,q,s]) (σ:=t) (tg:=io 2$ bi (je 3)$ bi (je 4) Io) (body:=zM) (by
    simp[M]) (by unfold gj;rw[Ea];lia) (λk ρ t=>∃ H I g,ρ=[BD$ ύ$ rs.map Rd.D,BD$ U a.length,BD r.D,H,I]/\LW a g (9 * i+k) t/\out g=((rs.take i).flatMap Rd.x++r.x.take k).foldl ub []) (λk ϋ v ρ t F C=>by
   obtain⟨H,I,g,rfl,c,m⟩:=C;unfold gj at F;rw[Pa]at F;obtain⟨l,y,ό⟩:=La.mp F;obtain⟨rfl,rfl⟩:=Up ό;have:=(ba.mp y).1;obtain⟨K,N,E⟩:=C7 c ⋯ l (BD$ ύ$ rs.map Rd.D) (BD r.D);exact⟨_,_,K,rfl,N,_,_,_,rfl,E,by rw[W4,m,Ny y,<-Kc];simp only[bv];rfl⟩) ⟨q,s,g,rfl,c,by rw[m];simp[Cp]⟩
  rw[show (gj r.x).length=r.x.length by unfold gj;simp,Ec]at u;rw[show (gj r.x).length=r.x.length by unfold gj;simp]at b;refine⟨[BD$ ύ$ rs.map Rd.D,BD$ U a.length,BD r.D,q,s],_,B,rfl,z,_,_,_,_,rfl,⟨b.j,λp o=>⟨(b.r p o).1,(b.r p o).2.1,by have:=(b.r p o).2.2;lia⟩,b.w,b.n,by have:=b.l;lia⟩,?_⟩;rw[u,Ny e];unfold Cp;simp) ⟨V6,V6,V6,[],rfl,⟨⟨[],rfl⟩,λp h=>(by cases h),by simp,by simp,by simp⟩,rfl⟩
 rw[Ea,Ec]at m;obtain⟨j,rfl⟩:=c.j;have fz:ig a (O (U a.length)$ a++Ϗ (jj g)::j)=_:=Ù (σ:=a) (j:=j) g (λp o=>⟨vd (c.r p o).1,(c.r p o).2.1⟩);rw[show g.map (λp=>(p.1,p.2.2))=Cp rs from m]at fz;have z:Nj (je 2) lX (rs.map Rd.D) [BD$ ύ$ rs.map Rd.D,BD$ U a.length,V6,V6,V6] (a++[Ϗ []])=_:=z;unfold Jg PU Pc;simp[z,fz,-lz]
noncomputable def qv(l:Lo):Bool:=l.k == "open"
def oD:Option Int->D
 |none=>Ϛ
 |some i=>Z i
theorem lM F:cl (oD F)=Ĳ:=by cases F<;>rfl
def Et(a:List Lo):List$ Option Int:=(a.filter qv).map λl=>BD l.d
def cm(F:Option Int)(e:Int)(l:Lo):Bool:=if qv l then (match F with
 |none=>Ĳ
 |some f=>decide (f > l.d))else (l.k == "hangs") && (match F with
 |none=>Ε
 |some f=>decide (f - 1+e<l.d))
def Kq(a:List Lo)(F:Option Int)(e:Int):Int:=((a.filter$ cm F e).map Lo.v).sum
def mf(a:List Lo)(e:Int):Option Int:=Cr (λx=>Kq a x e) (Et a) V6
section
variable(l:Lo)(σ:Fa)
def l0:nb l.D (Z 0) σ=O (ϓ l.k) σ:=by unfold Lo.D;simp
def l1:nb l.D (Z 1) σ=O (Z l.v) σ:=by unfold Lo.D;simp
def l2:nb l.D (Z 2) σ=O (Z l.d) σ:=by unfold Lo.D;simp
end
section
variable{ls:List Lo}(hl:ls.length<=100)(e:Int)(σ:Fa)
def v5 l F:kg [l.D,oD F,Z e] σ=O (ϐ$ cm F e l) σ:=by
 have b:=l0 l;have c:=l2 l;have o:(l.k == ("open"))=qv l:=rfl;unfold kg cm Pc;dsimp only;generalize qv l=B,l.D=L at *;generalize a:(l.k == ("hangs"))=H at *;cases F with
 |none=>cases B<;>cases H<;>simp[b,o,a,oD]
 |some f=>
  cases B<;>cases H<;>simp[b,c,o,a,oD]
include hl
theorem Ñ:Xi [ύ$ ls.map Lo.D] σ=O (ύ$ (V6::Et ls).map oD) σ:=by
 have l:=tE (src:=Gi$ Ba 0) (ρ:=[BD$ ύ$ ls.map Lo.D]) (σ:=σ) (s:=.seq _) (ix:=[]) (fi:=eT$ Ab rj (Ab nb (Ba 0)$ eC$ Z 0)$ eC$ ϓ "open") (fe:=Ab nb (Ba 0)$ eC$ Z 2) Lo.D (λl=>Z l.d) qv ⋯ (λi f=>zb BD$ ft ls _ i) ⋯ (λl f j=>by
  have o:(l.k == ("open"))=qv l:=rfl;exact⟨by simp[(l0 l _),o],λf=>by simp[(l2 l _)]⟩) (λf f f=>rfl)
 rw[show (ls.filter qv).map _=(Et ls).map oD by unfold Et;rw[Va];rfl]at l;have e:(Et ls).length<=100:=by unfold Et;rw[Ea];exact ib (Se ..) hl
 have b:∀ σ,Mi (ύ [Ϛ]) (ύ$ (Et ls).map oD) σ=O (ύ$ (V6::Et ls).map oD) σ:=λσ=>by rw[nH (by unfold Dg;simp;lia)];rfl
 have c:qf ((V6::Et ls).map oD)=Ĳ:=Kn λd a=>by obtain⟨t,_,rfl⟩:=na.mp a;exact lM t
 unfold Xi Pc;dsimp only
 simp_all
theorem vT F:Fe [ύ$ ls.map Lo.D,oD F,Z e] σ=O (Z$ Kq ls F e) σ:=by
 have l:=tE (src:=Gi$ Ba 0) (ρ:=[BD$ ύ$ ls.map Lo.D,BD$ oD F,BD$ Z e]) (σ:=σ) (s:=.seq _) (ix:=[1,2]) (fi:=eT$ lf 3 kg []$ Na (Ba 0)$ Na (Ba 2)$ Na (Ba 3) Db) (fe:=Ab nb (Ba 0)$ eC$ Z 1) Lo.D (λl=>Z l.v) (cm F e) ⋯ (λi c=>zb BD$ ft ls _ i) ⋯ (λl c j=>by
  exact⟨by simp[(v5 e _ l F)],λc=>by simp[(l1 l _)]⟩) (λc c c=>rfl)
 rw[show (ls.filter _).map _=((ls.filter _).map Lo.v).map Z by rw[Va];rfl]at l;have s:=OJ ((ls.filter$ cm F e).map Lo.v) σ;unfold Fe Kq Pc;dsimp only;generalize oD F=a,ls.map Lo.D=L,((ls.filter _).map Lo.v).map Z=b at *;simp[l,s,-cp]
theorem k6:Ze [ύ$ ls.map Lo.D,Z e] σ=O (oD$ mf ls e) σ:=by
 have a:=Ñ hl;have m:=TV (f:=oD) (key:=λx=>Kq ls x e) (x:=V6) (xs:=Et ls) (fe:=lf 3 Fe []$ Na (Ba 1)$ Na (Ba 0)$ Na (Ba 2) Db) (rest:=[BD$ ύ$ ls.map Lo.D,BD$ Z e]) (σ:=σ) (λx c=>by
  simp[(λσ=>vT hl e σ x)])
 rw[show Cr _ _ V6=mf ls e from rfl]at m;have b:=lM$ mf ls e;unfold Ze aT
 simp_all
end
def E2 a e(h:x∈V6::Et a):Kq a (mf a e) e<=Kq a x e:=rG (λx=>Kq a x e) _ V6 x h
def r0(r:Rd) a:nb r.D (Z 0) a=O (Z r.f) a:=by unfold Rd.D;simp
def Ts(g:Gr):Kv:=g.map λp=>(.inl p.1,ύ (p.2.map Lo.D))
theorem SW g:gD g=Ϩ ((Ts g).map (·.1)) ((Ts g).map (·.2)):=by
 unfold gD Ts;simp only[Va];rfl
def FK(e:Int)(g:Gr):Kv:=g.map λp=>(.inl p.1,oD (mf p.2 e))
def iS e g:qf ((FK e g).map (·.2))=Ĳ:=Kn λd a=>by
 unfold FK at a;rw[Va]at a;obtain⟨p,_,rfl⟩:=na.mp a;exact lM _
structure VN(g:Gr):Prop where
 d:(g.map (·.1)).Nodup
 l:g.length<=100
 x:∀ p∈g,p.2.length<=100
theorem B4(f:(g.map (·.1)).Nodup):∀ p∈g,Qi (FK e g) (.inl p.1)=BD (oD$ mf p.2 e):=λp b=>by
 unfold Qi FK;cases h:(g.map λp=>((.inl p.1:Ic),oD _)).find? (λi=>decide$ i.1=.inl p.1)with
 |none=>exact absurd (Vg.mp h _$ na.mpr ⟨p,b,rfl⟩) ⋯
 |some z=>
  obtain⟨c,a,rfl⟩:=na.mp (kf h);have d:c.1=p.1:=by simpa using Im h
  rw[uniq f c a p b d];rfl
def gs(e:Int)(g:Gr):Int:=(g.map λp=>Kq p.2 (mf p.2 e) e).sum
def val(e:Int)(a:List Rd):Int:=(a.map Rd.f).sum+gs e (Cp a)
def Q1{c:List Rd}(ϋ:c.length<=3)(z:VN g) e d F(M:∀ p∈g,am F (Z p.1) d=O (oD$ mf p.2 e) d):Vl [ύ$ c.map Rd.D,gD g,F,Z e] d=O (Z$ (c.map Rd.f).sum+gs e g) d:=by
 have l:=ww (src:=Gi$ Ba 0) (ρ:=[BD$ ύ$ c.map Rd.D,BD$ gD g,BD F,BD$ Z e,V6,V6,V6]) (σ:=d) (s:=.seq _) (ix:=[]) (fe:=Ab nb (Ba 0)$ eC$ Z 0) Rd.D (λr=>Z r.f) ⋯ (λi U=>zb BD$ ft c _ i) ⋯ (λr U j=>by
  have:=r0 r$ d++j;simp[this]) (λU U=>rfl)
 rw[show c.map (λr=>Z r.f)=(c.map Rd.f).map Z by rw[Va];rfl]at l;have s1:=OJ (c.map Rd.f) d;have Q:∀ f t u w y h m (x:D) (d:Fa),ky _ 4 f [t,u,w,y,BD x,h,m] d=Ik [t,u,w,y,BD x,h,m] (DD (λa b=>a+b) 4 [t,u,w,y,BD x,h,m] x) _:=λU U U U U U U U U=>fV rfl;obtain⟨R,S,G,h,m,rfl,rfl⟩:=yH (f:=Ba 1) (A:=Ts g) (ρ:=[BD$ ύ$ c.map Rd.D,BD$ gD g,BD F,BD$ Z e,BD$ Z (c.map Rd.f).sum,V6,V6]) (σ:=d) (tg:=io 2$ bi (je 5)$ bi (je 6) Io) (body:=sS) (by rw[<-SW];rfl) (by unfold Ts;rw[Ea];have:=z.l;lia) (λi n o=>∃ h m,n=[BD$ ύ$ c.map Rd.D,BD$ gD g,BD F,BD$ Z e,BD$ Z$ (c.map Rd.f).sum+gs e (g.take i),h,m]/\o=d) (λi k v n o q ό=>by
  obtain⟨h,m,rfl,rfl⟩:=ό;unfold Ts at q;rw[Pa]at q;obtain⟨p,E,K⟩:=La.mp q;obtain⟨rfl,rfl⟩:=Up K;have C:=wa E;have sb:=vT (z.x p C) e o$ mf p.2 e;have P:=M p C;have L:(c.map Rd.f).sum+gs e (g.take$ i+1)=(c.map Rd.f).sum+gs e (g.take i)+Kq p.2 (mf p.2 e) e:=by rw[Ny E];unfold gs;simp;lia
  refine⟨[BD$ ύ$ c.map Rd.D,BD$ gD g,BD F,BD$ Z e,BD$ Z$ (c.map Rd.f).sum+gs e (g.take i),BD$ Z p.1,BD$ ύ$ p.2.map Lo.D],[BD$ ύ$ c.map Rd.D,BD$ gD g,BD F,BD$ Z e,BD$ Z$ (c.map Rd.f).sum+gs e (g.take$ i+1),BD$ Z p.1,BD$ ύ$ p.2.map Lo.D],o,rfl,?_,BD$ Z p.1,BD$ ύ$ p.2.map Lo.D,rfl,rfl⟩;rw[L];generalize c.map Rd.D=J,gD g=I,p.2.map Lo.D=T,(c.map Rd.f).sum+gs e (g.take i)=N,Kq p.2 (mf p.2 e) e=B,oD (mf p.2 e)=H at *;simp[Q,sb,P]) ⟨V6,V6,by simp[gs],rfl⟩
 rw[show (Ts g).length=g.length by unfold Ts;simp,Ec]at G;unfold Vl tX Pc;dsimp only;generalize c.map Rd.D=J,gD g=I,(c.map Rd.f).map Z=H at *;simp[l,s1,G,-cp,-lz]
def bq(e:Int)(c:List Rx):D:=ώ [Z (val e (c.map (·.1))),cD c,Ϩ ((FK e (Cp (c.map (·.1)))).map (·.1)) ((FK e (Cp (c.map (·.1)))).map (·.2))]
def qX e c:cl (bq e c)=Ĳ:=by
 have:=LI c;unfold bq;simp[cl,iS,this]
def e7 e(s:c.length<=3)(X:∀ p∈c,p.1.x.length<=9)(q:VN (Cp (c.map (·.1)))) a:Zf [ύ (c.map λp=>p.1.D),cD c,Z e] a=O (bq e c) a:=by
 have R:(c.map λp=>p.1.D)=(c.map (·.1)).map Rd.D:=by rw[Va];rfl
 have l:=ů (rs:=c.map (·.1)) (by simpa using s) (λr W=>by obtain⟨p,o,rfl⟩:=na.mp W;exact X p o);rw[R];unfold bq val;generalize B:c.map (·.1)=b at *;have s:b.length<=3:=by rw[<-B];simpa using s
 generalize ϋ:Cp b=g at *;obtain⟨a0,a1,H,C,E,rfl,rfl⟩:=yH (f:=Ba 3) (A:=Ts g) (ρ:=[BD$ ύ$ b.map Rd.D,BD$ cD c,BD$ Z e,BD$ gD g,BD$ U a.length,V6,V6]) (σ:=a++[Ϗ []]) (tg:=io 2$ bi (je 5)$ bi (je 6) Io) (body:=US) (by rw[<-SW];rfl) (by unfold Ts;rw[Ea];have:=q.l;lia) (λi ρ I=>∃ C E,ρ=[BD$ ύ$ b.map Rd.D,BD$ cD c,BD$ Z e,BD$ gD g,BD$ U a.length,C,E]/\I=a++[Ϗ$ FK e$ g.take i]) (λi k v ρ I u T=>by
  obtain⟨C,E,rfl,rfl⟩:=T;unfold Ts at u;rw[Pa]at u;obtain⟨p,o,Q⟩:=La.mp u;obtain⟨rfl,rfl⟩:=Up Q;have Y:=k6 (q.x p$ wa o) e;have st:=λρ=>At (ρ:=ρ) (σ:=a++[Ϗ$ FK e$ g.take i]) (d:=oD$ mf p.2 e) (n:=a.length) (w:=p.1) (kvs:=FK e$ g.take i) ⋯ (by unfold FK;rw[Ea,Ae];have:=q.l;lia);have ϊ:∀ z∈FK e (g.take i),z.1≠.inl p.1:=λz G t=>by
   unfold FK at G;obtain⟨m,y,rfl⟩:=na.mp G;have t:m.1=p.1:=by simpa using t
   have M:=(List.take_append_drop i g).symm;obtain⟨V,P⟩:=ba.mp o;have ό:g.drop i=p::g.drop (i+1):=by rw[<-P];exact jf V
   have F:=q.d;rw[M,ό,gd,Ta,Yc]at F;exact F.2.2 _ (we y) _ la t
  rw[ZB,XA _ ϊ,show FK e (g.take i)++[((.inl p.1:Ic),oD (mf p.2 e))]=FK e (g.take$ i+1) by rw[Ny o];unfold FK;rw[gd];rfl]at st;refine⟨[BD$ ύ$ b.map Rd.D,BD$ cD c,BD$ Z e,BD$ gD g,BD$ U a.length,BD$ Z p.1,BD$ ύ$ p.2.map Lo.D],[BD$ ύ$ b.map Rd.D,BD$ cD c,BD$ Z e,BD$ gD g,BD$ U a.length,BD$ Z p.1,BD$ ύ$ p.2.map Lo.D],_,rfl,?_,BD$ Z p.1,BD$ ύ$ p.2.map Lo.D,rfl,rfl⟩;generalize b.map Rd.D=L,gD g=K,p.2.map Lo.D=PD,cD c=J,oD (mf p.2 e)=FD at *;simp[Y,st]) ⟨V6,V6,rfl,rfl⟩
 rw[show (Ts g).length=g.length by unfold Ts;simp,Ec]at H;have gt:∀ p∈g,am (U a.length) (Z p.1) (a++[Ϗ$ FK e g])=O (oD$ mf p.2 e) (a++[Ϗ$ FK e g]):=λp o=>by
  have h:=B4 (e:=e) q.d p o;unfold am Sg;simp[Bi,h]
 have sm:=Q1 s q e (a++[Ϗ$ FK e g]) (U a.length) gt;have fz:ig a (O (ώ [Z$ (b.map Rd.f).sum+gs e g,cD c,U a.length])$ a++[Ϗ$ FK e g])=O (ώ [Z$ (b.map Rd.f).sum+gs e g,cD c,Ϩ ((FK e g).map (·.1)) ((FK e g).map (·.2))]) a:=by
  unfold ig;dsimp only;rw[ka ⋯];have h:=tN (σ:=a) (kvs:=FK e g) (j:=[]) (m:=4)$ iS ..;have S:=Ay (k:=a.length) (σ:=a++[Ϗ$ FK e g]) (m:=5)$ LI c;have:fz a.length (a++[Ϗ$ FK e g]) 6 (ώ [Z$ (b.map Rd.f).sum+gs e g,cD c,U a.length])=BD (ώ [Z$ (b.map Rd.f).sum+gs e g,cD c,Ϩ ((FK e g).map (·.1)) ((FK e g).map (·.2))]):=by
   unfold fz;rw[qa ⋯];dsimp only;unfold El;unfold El;unfold El;rw[h,S];rfl
  rw[this]
 unfold Zf AX Pc;dsimp only;generalize b.map Rd.D=L,gD g=K,cD c=J,(b.map Rd.f).sum+gs e g=N at *;simp[l,H,sm,fz,-lz]
theorem jU:∀ (b:List Lo) {g:Gr} {k:Nat},(g.map (·.1)).Nodup->g.length<=k->(∀ p∈g,p.2.length<=k)->((b.foldl ub g).map (·.1)).Nodup/\(b.foldl ub g).length<=k+b.length/\∀ p∈b.foldl ub g,p.2.length<=k+b.length
 |[],g,k,e,f,d=>⟨e,f,d⟩
 |l::b,g,k,e,f,d=>by
  have a:=jU b (g:=ub g l) (k:=k+1) (Ŀ g l e) (by unfold ub;split<;>simp<;>lia) (λp c=>by
   unfold ub at c;split at c
   ·obtain⟨x,h,rfl⟩:=na.mp c;have:=d x h;split
    ·simp;lia
    ·lia
   ·rcases kc.mp c with c|c
    ·have:=d p c;lia
    ·have:p=(l.w,[l]):=by simpa using c
     subst this;simp)
  rw[gb,show k+(b.length+1)=k+1+b.length by lia];exact a
theorem RQ:∀ {a:List Rd},(∀ r∈a,r.x.length<=9)->(a.flatMap Rd.x).length<=9 * a.length
 |[],_=>by simp
 |r::a,h=>by
  have c:=h r la;have d:=RQ λx b=>h x$ ja _ b;rw[av,Ub,gb];lia
def T0(f:c.length<=3)(e:∀ r∈c,r.x.length<=9):VN$ Cp c:=by
 have a:=jU (c.flatMap Rd.x) (g:=[]) (k:=0) ⋯ ⋯ (λp h=>by cases h);have b:=RQ e;exact⟨a.1,by have:=a.2.1;unfold Cp;lia,λp d=>by have:=a.2.2 p d;lia⟩
theorem dL:∀ {a:List$ List Rd} {c:List Rx},Pk a c->∀ p∈c,∃ d∈a,p.1∈d
 |[],[],_,p,h=>by cases h
 |d::a,x::c,h,p,b=>by
  rcases za.mp b with rfl|b
  ·exact⟨d,la,wa h.1⟩
  ·obtain⟨r,e,f⟩:=dL h.2 p b;exact⟨r,ja _ e,f⟩
 |[],_::_,h,_,_=>h.elim
 |_::_,[],h,_,_=>h.elim
structure UH(RR:List (List Rd)):Prop where
 n:RR.length<=3
 f:∀ rs∈RR,0<rs.length/\rs.length<=2
 x:∀ rs∈RR,∀ r∈rs,r.x.length<=9
def vO(h:gm ps) e K:UH$ Rk e K ps:=by
 refine⟨by unfold Rk;rw[Ea];exact h.n,λi b=>?_,λi b r c=>?_⟩
 ·obtain⟨p,a,rfl⟩:=na.mp b;rw[Ea];exact h.f p a
 ·obtain⟨p,a,rfl⟩:=na.mp b;obtain⟨s,g,rfl⟩:=na.mp c;unfold rd;rw[Ea];exact(h.d p a s g).2
def vc(e:Int)(c:List Rx):Int:=val e (c.map (·.1))
def Av(e:Int)(a:List$ List Rd):List Rx:=match Dl a [[]]with
 |[]=>[]
 |c::cs=>Cr (vc e) cs c
def Dy(e:Int)(a:List$ List Rd):Int:=vc e$ Av e a
def GX(h:c∈Dl b [[]]):Pk b c:=by
 obtain⟨a,d,r,rfl,e⟩:=PM b h
 simp_all
def zS(h:UH a):∃ c b,Dl a [[]]=c::b:=by
 cases e:Dl a [[]]with
 |nil=>exact absurd e$ oY a (λg d=>(h.f g d).1) ⋯
 |cons c b=>simp_all
def ż(h:UH a) e:Av e a∈Dl a [[]]:=by
 obtain⟨c,d,b⟩:=zS h;unfold Av;rw[b];exact CN _ _ _
def ykl e(b:c∈Dl a [[]]):Dy e a<=vc e c:=by
 unfold Dy Av;cases d:Dl a [[]]with
 |nil=>simp_all
 |cons x xs=>
  rw[d]at b;exact rG _ xs x c b
def G5(h:gm ps) e K σ:pi [Gj e K$ ps.map af] σ=O (Z$ Dy e$ Rk e K ps) σ:=by
 have I:=L1 h e K;have b:=vO h e K;have z:∀ σ,Lc [14,15,16] "every" (Gj e K$ ps.map af) σ=O (Z e) σ:=λσ=>Oj (SD rfl) rfl rfl;generalize Rk e K ps=a,Gj e K (ps.map af)=V at *;have c:=K7 b.n (λl k=>(b.f l k).2);have g:=PJ a [[]] (λl k=>(b.f l k).2);have g:(Dl a [[]]).length<=8:=ib g (by rw[gb,Qe,KF,uJ];exact gX b.n);have q:∀ σ,fk (Nn (Ht$ Gi$ lf 1 ag []$ Na (Ba 1) Db) [1,0] (je 0) On$ lf 3 Zf []$ Na (lf 2 Me []$ Na (Ba 2)$ Na (Ba 0) Db)$ Na (Ba 0)$ Na (gf (Lc [14,15,16] "every")$ Ba 3) Db) [BD V,BD$ RL a,V6] σ=O (ύ _) σ:=λσ=>by
  refine ww (s:=.seq$ (Dl a [[]]).map cD) cD (bq e) ?_ (λi r=>zb BD$ ft _ _ i) ⋯ (λp m j=>?_) (λp r=>qX e p)
  ·generalize RL a=R,(Dl a [[]]).map cD=J at *;simp[c]
  ·have u:=GX m;have ό:=u.len;have o:∀ x∈p,x.1.x.length<=9:=λx o=>by obtain⟨l,A,B⟩:=dL u x o;exact b.x l A _ B
   have v:=Y0 b.n u;have G:=e7 e (c:=p) (by have:=b.n;omega) o (T0 (by have:=b.n;simp;lia) λr k=>by obtain⟨x,E,rfl⟩:=na.mp k;exact o x E);generalize cD p=L,RL a=R,(p.map λp=>p.1.D)=M,bq e p=d at *;simp[v,G,z]
 have t:∀ σ,dz (Ab nb (Ba 0)$ eC$ Z 0) [] [ύ$ (Dl a [[]]).map$ bq e] σ=O (bq e$ Av e a) σ:=λσ=>by
  obtain⟨p,w,m⟩:=zS b;rw[show Av e a=Cr (vc e) w p by unfold Av;rw[m],m];refine TV (f:=bq e) λy r=>?_;have:∀ σ,nb (bq e y) (Z 0) σ=O (Z$ vc e y) σ:=λσ=>by unfold bq vc;simp
  generalize bq e y=N at *;simp[this]
 have C:=qX e$ Av e a;have F:∀ σ,nb (bq e$ Av e a) (Z 0) σ=O (Z$ Dy e a) σ:=λσ=>by unfold bq Dy vc;simp
 generalize bq e (Av e a)=d,(Dl a [[]]).map (bq e)=PL at *;have H:∀ σ,vj [V] σ=O d σ:=λσ=>by
  have q:=q σ;have t:=t σ;unfold vj MX;generalize RL a=R at *;simp[I,q,t,C,-cp]
 unfold pi Pc;simp[H,F]
def Bm{a j:Fa}{k:Nat}(h:a[k]?=BD o):(a++j)[k]?=BD o:=by
 rw[Za (ba.mp h).1,h]
structure Ac where
 (p q:Int)
 c:Nat
 m:Sn
 G:D
 y:List Sn
 L:B'
def Ac.fs(a:Ac):List$ Str × D:=[("pot",Z a.p),("side",Z a.q),("mine",a.m.D),("grant",a.G),("may",ύ (a.y.map Sn.D)),("strikes",ύ a.L)]
def qk(b:Fa)(n:Nat)(a:Ac):Prop:=b[n]?=BD (ϔ a.c a.fs)
def qk.app(h:qk b n a) j:qk (b++j) n a:=Bm h
def VQ(h:[10,11,12,13].contains c=Ĳ):[7,8,10,11,12,13].contains c=Ĳ:=by
 simp at h ⊢;omega
structure Ac.Ok(a:Ac):Prop where
 p:0<=a.p/\a.p<=2
 q:a.q=0\/a.q=1
 c:[10,11,12,13].contains a.c=Ĳ
 g:cl a.G=Ĳ
 l:qf a.L=Ĳ
section
variable{σ:Fa}{n:Nat}{a:Ac}(h:qk σ n a)(o:a.Ok)
include h
theorem Eo:ak σ (U n)=BD (a.c,a.fs):=by
 have h:σ[n]?=BD _:=h;unfold ak;simp[h]
include o
theorem Zs:Lc [10,11,12,13] "pot" (U n) σ=O (Z a.p) σ:=Oj (Eo h) o.c rfl
theorem Oy:Lc [7,8,10,11,12,13] "side" (U n) σ=O (Z a.q) σ:=Oj (Eo h) (VQ o.c) rfl
theorem Px:Lc [10,11,12,13] "mine" (U n) σ=O a.m.D σ:=Oj (Eo h) o.c rfl
theorem nV:Lc [10,11,12,13] "grant" (U n) σ=O a.G σ:=Oj (Eo h) o.c rfl
theorem SJ:Lc [10,11,12,13] "may" (U n) σ=O (ύ$ a.y.map Sn.D) σ:=Oj (Eo h) o.c rfl
theorem OI:Lc [10,11,12,13] "strikes" (U n) σ=O (ύ a.L) σ:=Oj (Eo h) o.c rfl
end
theorem D1 c i a b d e f g h:Vk c 7 i [a,b,d,e,f,g] h=Jy h.length (i [U h.length,a,b,d,e,f,g]$ h++[ϔ c []]):=xN rfl
def vD{a:Ac}(h:a.Ok) σ:Vk a.c 7 Zp [Z a.p,Z a.q,a.m.D,a.G,ύ$ a.y.map Sn.D,ύ a.L] σ=O (U σ.length) (σ++[ϔ a.c a.fs]):=by
 have o:=YI a.y;have r:=h.l;have n:=h.c;unfold Ac.fs;generalize a.p=e,a.q=j,a.c=c,a.m.D=m,a.G=g,a.L=z,a.y.map Sn.D=y at *;have t:∀ p:D,zl "pot" p []=([("pot",p)]:List (Str × D)):=λB=>rfl;have u:∀ p s:D,zl "side" s [("pot",p)]=([("pot",p),("side",s)]:List (Str × D)):=λB B=>rfl;have w:∀ p s:D,zl "mine" m [("pot",p),("side",s)]=([("pot",p),("side",s),("mine",m)]:List (Str × D)):=λB B=>rfl;have x:∀ p s:D,zl "grant" g [("pot",p),("side",s),("mine",m)]=([("pot",p),("side",s),("mine",m),("grant",g)]:List (Str × D)):=λB B=>rfl;have p4:∀ p s:D,zl "may" (ύ y) [("pot",p),("side",s),("mine",m),("grant",g)]=([("pot",p),("side",s),("mine",m),("grant",g),("may",ύ y)]:List (Str × D)):=λB B=>rfl;have A:∀ p s:D,zl "strikes" (ύ z) [("pot",p),("side",s),("mine",m),("grant",g),("may",ύ y)]=([("pot",p),("side",s),("mine",m),("grant",g),("may",ύ y),("strikes",ύ z)]:List (Str × D)):=λB B=>rfl;have i:Zp [U σ.length,Z e,Z j,m,g,ύ y,ύ z] (σ++[ϔ c []])=O Ϛ (σ++[ϔ c [("pot",Z e),("side",Z j),("mine",m),("grant",g),("may",ύ y),("strikes",ύ z)]]):=by
  unfold Zp yg;simp[(λf v (b:List (Str × D)) (k:b.length<1000)=>XH (ρ:=[BD$ U σ.length,BD$ Z e,BD$ Z j,BD m,BD g,BD$ ύ y,BD$ ύ z]) (σ:=σ) (cs:=[10,11,12,13]) (f:=f) (d:=v) (c:=c) (fs:=b) n k),(λf v (b:List (Str × D)) (k:b.length<1000)=>XH (ρ:=[BD$ U σ.length,BD$ Z e,BD$ Z j,BD m,BD g,BD$ ύ y,BD$ ύ z]) (σ:=σ) (cs:=[7,8,10,11,12,13]) (f:=f) (d:=v) (c:=c) (fs:=b) (VQ n) k),t,u,w,x,p4,A,(JD o),(JD r)]
 rw[D1,i,iC]
def qc(p q:Int)(m:Sn)(G:D)(L:B'):Ac:=⟨p,q,11,m,G,[m],L⟩
def Ih(p q:Int)(m o:Sn)(G:D)(L:B'):Ac:=⟨p,q,12,m,G,[m,o],L⟩
def wait(p q:Int)(o m:Sn)(G:D)(L:B'):Ac:=⟨p,q,13,m,G,[o,m],L⟩
def bg(p s:Int)(X:D):D:=ώ [ϓ "agree",Z p,Z s,X]
def Bk(p s n:Int):D:=ώ [ϓ "strike",Z p,Z s,Z n]
def ng(p s:Int)(X:Sn):D:=ώ [ϓ "offer",Z p,bg p s X.D]
def ci(p s n:Int):D:=ώ [ϓ "struck",Z p,Bk p s n]
def Fi(p:Int)(m s:Sn):D:=ώ [ϓ "accept",Z p,bg p 1 s.D,Bk p 1 m.n]
def vh(p:Int)(s:Sn):D:=ώ [ϓ "ask",Z p,ώ [Z s.a,Z s.b],ώ$ s.ts.map Ti.D]
def Ol(p w:Int):D:=ώ [ϓ "word",Z p,Z w]
def Kz{xs}(h:∀ x∈xs,pl n x=Ĳ):pl (n+1) (ώ xs)=Ĳ:=Bb.mpr h
def X7 n(t:Ti):pl (n+1) t.D=Ĳ:=by simp[pl,Ti.D]
def mO n(b:List Ti):pl (n+2) (ώ$ b.map Ti.D)=Ĳ:=Kz λx a=>by obtain⟨t,_,rfl⟩:=na.mp a;exact X7 n t
def BR n(s:Sn):pl (n+3) s.D=Ĳ:=Kz λx c=>by
 have c:x=Z s.n\/x=ώ [Z s.a,Z s.b]\/x=ώ (s.ts.map Ti.D):=by simpa using c
 rcases c with rfl|rfl|rfl
 ·simp[pl]
 ·simp[pl]
 ·exact mO n s.ts
def jS n p q(s:Sn):pl (n+4) (bg p q s.D)=Ĳ:=Kz λx a=>by
 have a:x=ϓ "agree"\/x=Z p\/x=Z q\/x=s.D:=by simpa using a
 rcases a with rfl|rfl|rfl|rfl
 ·simp[pl]
 ·simp[pl]
 ·simp[pl]
 ·exact BR n s
def N0 p q s:pl 8 (ng p q s)=Ĳ:=Kz λx a=>by
 have a:x=ϓ "offer"\/x=Z p\/x=bg p q s.D:=by simpa using a
 rcases a with rfl|rfl|rfl
 ·simp[pl]
 ·simp[pl]
 ·exact jS 3 p q s
def ī p m s:pl 8 (Fi p m s)=Ĳ:=Kz λx a=>by
 have a:x=ϓ "accept"\/x=Z p\/x=bg p 1 s.D\/x=Bk p 1 m.n:=by simpa using a
 rcases a with rfl|rfl|rfl|rfl
 ·simp[pl]
 ·simp[pl]
 ·exact jS 3 p 1 s
 ·simp[pl,Bk]
def t7 p q n:pl 8 (ci p q n)=Ĳ:=by simp[pl,ci,Bk]
def ou{X}(h:cl X=Ĳ):cl (bg p s X)=Ĳ:=by unfold bg;simp[h]
def XJ p q s:cl (ng p q s)=Ĳ:=by unfold ng;simp[ou$ ym s]
def Y5 p q n:cl (ci p q n)=Ĳ:=by unfold ci Bk;simp
def ę p m s:cl (Fi p m s)=Ĳ:=by unfold Fi Bk;simp[ou$ ym s]
def nO p s:cl (vh p s)=Ĳ:=by unfold vh;simp[aU]
section
variable{p:Int}(hp:0<=p/\p<=2)(σ:Fa)
include hp
theorem iX{q}(a:q=0\/q=1) k X:mi [ώ [k,Z p,Z q,X]] σ=O (ϐ Ĳ) σ:=by
 unfold mi Pc;simp[(JM a σ),(IQ hp σ)]
theorem WW{q}(c:q=0\/q=1){s:Sn}(h:bo s.n s.a s.b s.ts):jm [bg p q s.D] σ=O (ϐ Ĳ) σ:=by
 have t:xh [bg p q s.D] σ=O (ϐ Ĳ) σ:=by
  unfold Sn.D bg xh Pc;simp[(QD h σ),(λX=>iX hp σ c (ϓ "agree") X)]
 have i:nb (bg p q s.D) (Z 0) σ=O (ϓ "agree") σ:=by unfold bg;simp
 unfold jm Pc
 simp_all
theorem LS{q n}(a:q=0\/q=1)(h:0<=n/\n<=1000000):Fk [Bk p q n] σ=O (ϐ Ĳ) σ:=by
 have t:xh [Bk p q n] σ=O (ϐ Ĳ) σ:=by
  unfold Bk xh Pc;simp[(yR h σ),(λX=>iX hp σ a (ϓ "strike") X)]
 have i:nb (Bk p q n) (Z 0) σ=O (ϓ "strike") σ:=by unfold Bk;simp
 unfold Fk Pc
 simp_all
theorem HE{k}{x}{r}(b:r.length<=3)(h:ae [ώ$ ϓ k::Z p::x::r] σ=O (ϐ Ĳ) σ):qd [ώ$ ϓ k::Z p::x::r] σ=O (ϐ Ĳ) σ:=by
 have a:Fo [ώ$ ϓ k::Z p::x::r] σ=O (Z$ r.length+3) σ:=by
  have:=bU (σ:=σ)$ ϓ k::Z p::x::r;rw[this];congr 2
 have lt:decide ((r.length:Int)+3<3)=Ε:=gc ⋯;unfold qd Pc;simp[h,(IQ hp σ),a,lt]
theorem wO{q}(c:q=0\/q=1){s}(h:bo s.n s.a s.b s.ts):qd [ng p q s] σ=O (ϐ Ĳ) σ:=by
 refine HE hp σ ⋯ ?_;unfold ae Pc;simp[(WW hp σ c h)]
theorem RO{m s}(h:bo s.n s.a s.b s.ts)(c:0<=m.n/\m.n<=1000000):qd [Fi p m s] σ=O (ϐ Ĳ) σ:=by
 refine HE hp σ ⋯ ?_;unfold ae Pc;simp[(WW hp σ _ h),(LS hp σ _ c)]
theorem QK{q}(a:q=0\/q=1){n}(h:0<=n/\n<=1000000):qd [ci p q n] σ=O (ϐ Ĳ) σ:=by
 refine HE hp σ ⋯ ?_;unfold ae Pc;simp[(LS hp σ a h)]
theorem cY{s}(h:bo s.n s.a s.b s.ts):qd [vh p s] σ=O (ϐ Ĳ) σ:=by
 have a:=QD (n:=0) ⟨by lia,h.a,h.b,h.t,h.l,h.d⟩ σ;unfold Pm at a;refine HE hp σ ⋯ ?_;unfold ae Pc;simp[a]
theorem t5{w}(h:0<=w/\w<=59):qd [Ol p w] σ=O (ϐ Ĳ) σ:=by
 refine HE hp σ ⋯ ?_;have a:(("word") == ("offer" : Str))=Ε:=by decide
 have b:(("word") == ("accept" : Str))=Ε:=by decide
 have c:(("word") == ("struck" : Str))=Ε:=by decide
 have d:(("word") == ("ask" : Str))=Ε:=by decide
 unfold ae Pc;simp[(fL h σ),a,b,c,d]
end
def Ð{s m:Sn}(h:s.Ok W)(f:m.Ok W)(i:s.n=m.n+1) c:ni [s.D,m.D] c=O (ϐ Ĳ) c:=by
 have d:=rX h.st c;have e:=DN m.n m.a m.b (by have:=f.st.l;omega) c;rw[h.w]at d;rw[f.w]at e;have j:=s0 s c;have k:=s0 m c;have g:(s.n == m.n+1)=Ĳ:=by simp[i]
 unfold ni Pc;unfold Sn.D at *;simp[d,e,j,k,g]
section
variable{σ:Fa}{n:Nat}{a:Ac}(h:qk σ n a)(o:a.Ok)
include h o
theorem LD s{X}(b:cl X=Ĳ):gh [U n,Z s,X] σ=O (bg a.p s X) σ:=by
 unfold gh bg Xf;simp[(Zs h o),b]
theorem HH s(m:Sn):ln [U n,Z s,m.D] σ=O (Bk a.p s m.n) σ:=by
 unfold ln Bk Xf;simp[(Zs h o),(s0 m)]
end
theorem neS k a b:Lj (ϓ k) (ϓ a) b=O (ϐ$ !(k == a)) b:=aG (by rfl)
def Ι a b c:Lj (Z a) (Z b) c=O (ϐ$ decide$ a≠b) c:=by
 by_cases h:a=b<;>simp[h]
def Ls(c:0<=p/\p<=2)(d:q=0\/q=1)(a:cl G=Ĳ)(b:qf L=Ĳ):(qc p q m G L).Ok:=⟨c,d,rfl,a,b⟩
def zL(c:0<=p/\p<=2)(d:q=0\/q=1)(a:cl G=Ĳ)(b:qf L=Ĳ):(Ih p q m o G L).Ok:=⟨c,d,rfl,a,b⟩
def SL(c:0<=p/\p<=2)(d:q=0\/q=1)(a:cl G=Ĳ)(b:qf L=Ĳ):(wait p q m o G L).Ok:=⟨c,d,rfl,a,b⟩
section
variable{σ:Fa}{n:Nat}{p:Int}(hp:0<=p/\p<=2){m s:Sn}{W:Int}(hm:m.Ok W)(hs:s.Ok W)(hn:s.n=m.n+1){G:D}{L:B'}(hg:cl G=Ĳ)(hl:qf L=Ĳ)(hLk:L.length<=100)
include hp hg hl
include hm hs hn
theorem BQ(h:qk a n$ qc p 1 m G L):fy [U n,ng p 0 s] a=O (ώ [U a.length,Fi p m s]) (a++[ϔ 13 (wait p 1 m s (bg p 0 s.D) L).fs]):=by
 have o:=Ls (m:=m) hp (ϕ rfl) hg hl;have d:=h.app [ϔ 13 (wait p 1 m s (bg p 0 s.D) L).fs];have mk:Vk 13 7 Zp [Z p,Z 1,s.D,bg p 0 s.D,ύ [m.D,s.D],ύ L] a=O _ (a++[ϔ 13 (wait p 1 m s _ L).fs]):=vD (SL (p:=p) (q:=1) (m:=m) (o:=s) hp (ϕ rfl) (ou (p:=p) (s:=0)$ ym s) hl) a;generalize a++[ϔ 13 (wait p 1 m s _ L).fs]=b at *;have k:Lc [7,8,10,11,12,13] "side" (U n) a=O (Z 1) a:=Oy h o;have l:Lc [10,11,12,13] "pot" (U n) a=O (Z p) a:=Zs h o;have f:Lc [10,11,12,13] "pot" (U n) b=O (Z p) b:=Zs d o;have r:Lc [10,11,12,13] "mine" (U n) a=O m.D a:=Px h o;have g:Lc [10,11,12,13] "mine" (U n) b=O m.D b:=Px d o;have t:Lc [10,11,12,13] "strikes" (U n) a=O (ύ L) a:=OI h o;have u:∀ a,nb (ng p 0 s) (Z 0) a=O (ϓ "offer") a:=λa=>by unfold ng;simp
 have v:∀ a,nb (ng p 0 s) (Z 2) a=O (bg p 0 s.D) a:=λa=>by unfold ng;simp
 have w:∀ a,nb (bg p 0 s.D) (Z 3) a=O s.D a:=λa=>by unfold bg;simp
 have j:gh [U n,Z 0,s.D] a=O (bg p 0 s.D) a:=LD h o 0$ ym s;have e:gh [U n,Z 1,s.D] b=O (bg p 1 s.D) b:=LD d o 1$ ym s;have B:ln [U n,Z 1,m.D] b=O (Bk p 1 m.n) b:=HH d o 1 m;have A:Lj (ϓ "offer") (ϓ "offer") a=O (ϐ Ε) a:=uv (by simp[pl]);have y:∀ c,Gk [(11,gh)] 3 "agree_of" c (U n) a=(c a).bind (Ri 3 gh$ U n):=λc=>Oq (Eo h) rfl rfl;have i:∀ c,Gk [(11,gh)] 3 "agree_of" c (U n) b=(c b).bind (Ri 3 gh$ U n):=λc=>Oq (Eo d) rfl rfl;have x:∀ c,Gk [(11,ln)] 3 "strike_of" c (U n) b=(c b).bind (Ri 3 ln$ U n):=λc=>Oq (Eo d) rfl rfl;have z:Lj (ng p 0 s) (ώ [ϓ "offer",Z p,bg p 0 s.D]) a=O (ϐ Ε) a:=uv$ N0 p 0 s;unfold Fi;unfold fy yg;simp[(wO hp a (ϑ rfl) hs.st),k,l,f,r,g,t,u,v,w,j,e,B,y,i,x,z,A,(Ð hs hm hn a),mk]
theorem kU(h:qk c n$ qc p 0 m G L):Vf [U n,ώ [Z s.a,Z s.b],ώ$ s.ts.map Ti.D] c=O (ώ [U c.length,ng p 0 s]) (c++[ϔ 12 (Ih p 0 m s G L).fs]):=by
 have o:=Ls (q:=0) (m:=m) hp (ϑ rfl) hg hl;have g:=h.app [ϔ 12 (Ih p 0 m s G L).fs];have mk:Vk 12 7 Zp [Z p,Z 0,m.D,G,ύ [m.D,s.D],ύ L] c=O _ (c++[ϔ 12 (Ih p 0 m s G L).fs]):=vD (zL (p:=p) (q:=0) (m:=m) (o:=s) hp (ϑ rfl) hg hl) c;generalize c++[ϔ 12 (Ih p 0 m s G L).fs]=e at *;have r:Lc [7,8,10,11,12,13] "side" (U n) c=O (Z 0) c:=Oy h o;have t:Lc [10,11,12,13] "pot" (U n) c=O (Z p) c:=Zs h o;have f:Lc [10,11,12,13] "pot" (U n) e=O (Z p) e:=Zs g o;have u:Lc [10,11,12,13] "mine" (U n) c=O m.D c:=Px h o;have v:Lc [10,11,12,13] "strikes" (U n) c=O (ύ L) c:=OI h o;have y:Lc [10,11,12,13] "grant" (U n) c=O G c:=nV h o;have k:Ll [m.D] c=O (Z W) c:=by rw[<-hm.w];exact DN _ _ _ (by have:=hm.st.l;omega) c
 have E:Wf [s.D,Z W] c=O (ϐ Ĳ) c:=by rw[<-hs.w];exact rX hs.st c
 have C:ώ [Z$ m.n+1,ώ [Z s.a,Z s.b],ώ$ s.ts.map Ti.D]=s.D:=by rw[<-hn];rfl
 have B:Lj (ϓ "calm") (ϓ "calm") c=O (ϐ Ε) c:=uv (by simp[pl]);have j:∀ x c,Bu [x] c=O (ϓ "calm") c:=λx c=>by unfold Bu Xf;simp
 have A:∀ d,Gk [(11,Bu),(12,eB),(13,WA)] 1 "word" d (U n) c=(d c).bind (Ri 1 Bu$ U n):=λd=>Oq (Eo h) rfl rfl;have i:gh [U n,Z 0,s.D] e=O (bg p 0 s.D) e:=LD g o 0$ ym s;have z:∀ d,Gk [(10,gh),(11,gh),(12,gh),(13,gh)] 3 "agree_of" d (U n) e=(d e).bind (Ri 3 gh$ U n):=λd=>Oq (Eo g) rfl rfl;unfold ng;unfold Vf uR;simp[r,t,f,u,v,y,(s0 m),k,E,C,B,j,A,i,z,mk]
omit hn
include hLk
theorem ŷ(h:qk σ n$ Ih p 0 m s G L):Sx [U n,Fi p m s] σ=O (ώ [U σ.length,ci p 0 m.n]) (σ++[ϔ 11 (qc p 0 s (bg p 1 s.D)$ L++[Z m.n]).fs]):=by
 have o:=zL (m:=m) (o:=s) hp (ϑ rfl) hg hl;have f:qf (L++[Z m.n])=Ĳ:=by rw[uO,hl];rfl
 have c:=h.app [ϔ 11 (qc p 0 s (bg p 1 s.D)$ L++[Z m.n]).fs];have mk:Vk 11 7 Zp [Z p,Z 0,s.D,bg p 1 s.D,ύ [s.D],ύ$ L++[Z m.n]] σ=O (U σ.length) (σ++[ϔ 11 (qc p 0 s (bg p 1 s.D)$ L++[Z m.n]).fs]):=vD (Ls (p:=p) (q:=0) (m:=s) hp (ϑ rfl) (ou (p:=p) (s:=1)$ ym s) f) σ;generalize σ++[ϔ 11 (qc p 0 s (bg p 1 s.D)$ L++[Z m.n]).fs]=b at *;have l:Lc [7,8,10,11,12,13] "side" (U n) σ=O (Z 0) σ:=Oy h o;have r:Lc [10,11,12,13] "pot" (U n) σ=O (Z p) σ:=Zs h o;have d:Lc [10,11,12,13] "pot" (U n) b=O (Z p) b:=Zs c o;have t:Lc [10,11,12,13] "mine" (U n) σ=O m.D σ:=Px h o;have e:Lc [10,11,12,13] "mine" (U n) b=O m.D b:=Px c o;have u:Lc [10,11,12,13] "strikes" (U n) σ=O (ύ L) σ:=OI h o;have v:Lc [10,11,12,13] "may" (U n) σ=O (ύ [m.D,s.D]) σ:=SJ h o;have k:gh [U n,Z 1,s.D] σ=O (bg p 1 s.D) σ:=LD h o 1$ ym s;have z:ln [U n,Z 1,m.D] σ=O (Bk p 1 m.n) σ:=HH h o 1 m;have i:ln [U n,Z 0,m.D] b=O (Bk p 0 m.n) b:=HH c o 0 m;have x:∀ a,Gk [(12,gh)] 3 "agree_of" a (U n) σ=(a σ).bind (Ri 3 gh$ U n):=λa=>Oq (Eo h) rfl rfl;have w:∀ a,Gk [(12,ln)] 3 "strike_of" a (U n) σ=(a σ).bind (Ri 3 ln$ U n):=λa=>Oq (Eo h) rfl rfl;have g:∀ a,Gk [(12,ln)] 3 "strike_of" a (U n) b=(a b).bind (Ri 3 ln$ U n):=λa=>Oq (Eo c) rfl rfl;have y:Lj (Fi p m s) (ώ [ϓ "accept",Z p,bg p 1 s.D,Bk p 1 m.n]) σ=O (ϐ Ε) σ:=uv$ ī p m s;have j:Mi (ύ L) (ύ [Z m.n]) σ=O (ύ$ L++[Z m.n]) σ:=nH (by unfold Dg;simp;lia);unfold ci;unfold Sx yg;simp[(RO hp σ (m:=m) hs.st hm.st.n),l,r,d,t,e,u,v,k,z,i,(s0 m),x,w,g,y,j,mk]
theorem zf3(h:qk σ n$ wait p 1 m s G L):Zx [U n,ci p 0 m.n] σ=O (ώ [U σ.length,Ϛ]) (σ++[ϔ 11 (qc p 1 s G$ L++[Z m.n]).fs]):=by
 have o:=SL (m:=m) (o:=s) hp (ϕ rfl) hg hl;have b:qf (L++[Z m.n])=Ĳ:=by rw[uO,hl];rfl
 have mk:Vk 11 7 Zp [Z p,Z 1,s.D,G,ύ [s.D],ύ$ L++[Z m.n]] σ=O (U σ.length) (σ++[ϔ 11 (qc p 1 s G$ L++[Z m.n]).fs]):=vD (Ls (q:=1) (m:=s) hp (ϕ rfl) hg b) σ;have d:Lc [7,8,10,11,12,13] "side" (U n) σ=O (Z 1) σ:=Oy h o;have e:Lc [10,11,12,13] "pot" (U n) σ=O (Z p) σ:=Zs h o;have f:Lc [10,11,12,13] "mine" (U n) σ=O s.D σ:=Px h o;have g:Lc [10,11,12,13] "strikes" (U n) σ=O (ύ L) σ:=OI h o;have i:Lc [10,11,12,13] "may" (U n) σ=O (ύ [m.D,s.D]) σ:=SJ h o;have j:Lc [10,11,12,13] "grant" (U n) σ=O G σ:=nV h o;have r:ln [U n,Z 0,m.D] σ=O (Bk p 0 m.n) σ:=HH h o 0 m;have k:∀ a,Gk [(13,ln)] 3 "strike_of" a (U n) σ=(a σ).bind (Ri 3 ln$ U n):=λa=>Oq (Eo h) rfl rfl;have l:Lj (ci p 0 m.n) (ώ [ϓ "struck",Z p,Bk p 0 m.n]) σ=O (ϐ Ε) σ:=uv$ t7 ..;have c:Mi (ύ L) (ύ [Z m.n]) σ=O (ύ$ L++[Z m.n]) σ:=nH (by unfold Dg;simp;lia);unfold Zx yg;simp[(QK hp σ (q:=0) (ϑ rfl) hm.st.n),d,e,f,g,i,j,(s0 m),r,k,l,c,mk]
end
abbrev Ka:=Nat × Ac
noncomputable def HD(b:Nat):Int:=if b<15 then 0 else 1
def Qj(b:Nat)(e g:Int):List$ Str × D:=[("hand",Z (HD b)),("every",Z e),("last_look",Z 0),("gave",Z g),("known",U (b+1)),("accounts",U (b+2)),("claims",U (b+3)),("seen",U (b+4)),("asked",U (b+5)),("finishing",U (b+6))]
def Rj(K:h8):Kv:=K.map λw=>(.inl w,ϐ Ĳ)
def AV(a:List Ka):Kv:=a.map λx=>(.inl x.2.p,U x.1)
def CV(a:List Ka):Kv:=a.map λx=>(.inl x.2.p,.gt ["held"])
def SV(a:List Ka):Kv:=a.map λx=>(.inl x.2.p,Ϩ [] [])
def As(a:List Ka)(b:Fa):Prop:=∀ x∈a,qk b x.1 x.2/\x.2.Ok
structure Vs(b:Nat)(e g:Int)(K:h8)(as:List Ka)(σ:Fa):Prop where
 h0:σ[b]?=BD (ϔ 15 (Qj b e g))
 h1:σ[b+1]?=BD (Ϗ (Rj K))
 h3:σ[b+3]?=BD (Ϗ (CV as))
 h4:σ[b+4]?=BD (Ϗ (SV as))
def Vs.app{K}(h:Vs b e g K a c) j:Vs b e g K a$ c++j:=⟨Bm h.h0,Bm h.h1,Bm h.h3,Bm h.h4⟩
def lg{a:Fa}(n:r≠k)(h:a[k]?=BD o):(a.set r x)[k]?=BD o:=by
 rw[zg n,h]
def Vs.set{K}(h:Vs b e g K a c)(d:r=b+2\/b+4<r) x:Vs b e g K a$ c.set r x:=⟨lg ⋯ h.h0,lg ⋯ h.h1,lg ⋯ h.h3,lg ⋯ h.h4⟩
def As.app(h:As a c) j:As a$ c++j:=λx b=>⟨(h x b).1.app j,(h x b).2⟩
def As.set(h:As c b)(d:b[r]?=BD (Ϗ f)) o:As c$ b.set r o:=λx a=>⟨lg (λe=>by
 have:=(h x a).1;unfold qk at this;rw[<-e,d]at this;cases this) (h x a).1,(h x a).2⟩
def DB(h:a[n]?=BD (Ϗ b))(c:Qi b (.inl w)=BD d):am (U n) (Z w) a=O d a:=by
 unfold am Sg;simp[Bi,h];simp[c]
theorem YM(c:D):∀ {b:List Ka} {p:Int},(∃ x∈b,x.2.p=p)->Qi (b.map λx=>((.inl x.2.p:Ic),c)) (.inl p)=BD c
 |[],p,h=>by obtain⟨x,a,_⟩:=h;cases a
 |y::b,p,h=>by
  by_cases e:y.2.p=p
  ·simp[Qi,e]
  ·have:=YM c (by
    obtain⟨x,a,ex⟩:=h;rcases za.mp a with rfl|a
    ·exact absurd ex e
    ·exact⟨x,a,ex⟩)
   unfold Qi at this ⊢
   simp_all
section
variable{b:Nat}{e g:Int}{K:h8}{as:List Ka}{σ:Fa}(h:Vs b e g K as σ)
include h
theorem sw:ak σ (U b)=BD (15,Qj b e g):=by unfold ak;simp[h.h0]
theorem zm8:Lc [14,15,16] "every" (U b) σ=O (Z e) σ:=Oj (sw h) rfl rfl
theorem n6:Lc [14,15] "last_look" (U b) σ=O (Z 0) σ:=Oj (sw h) rfl rfl
theorem sN:Lc [14,15] "known" (U b) σ=O (U$ b+1) σ:=Oj (sw h) rfl rfl
theorem zu:Lc [15] "accounts" (U b) σ=O (U$ b+2) σ:=Oj (sw h) rfl rfl
theorem qS:Lc [9,15] "claims" (U b) σ=O (U$ b+3) σ:=Oj (sw h) rfl rfl
theorem ģ:Lc [15] "seen" (U b) σ=O (U$ b+4) σ:=Oj (sw h) rfl rfl
theorem tG:Lc [15] "asked" (U b) σ=O (U$ b+5) σ:=Oj (sw h) rfl rfl
theorem Xo{m} n a c(d:(Qj b e g).lookup m=V6):Gk [(15,a)] n m c (U b) σ=(c σ).bind (Ri n a$ U b):=Oq (sw h) rfl d
theorem bW{p}(a:∃ x∈as,x.2.p=p):am (U$ b+3) (Z p) σ=O (.gt ["held"]) σ:=DB h.h3$ YM _ a
theorem k7{p}(a:∃ x∈as,x.2.p=p):am (U$ b+4) (Z p) σ=O (Ϩ [] []) σ:=DB h.h4$ YM _ a
end
theorem iQ:∀ K:h8,Kw (Rj K)=BD K
 |[]=>rfl
 |w::K=>by
  have a:=iQ K;unfold Rj at a ⊢;unfold Kw;simp[a]
abbrev ks(K:h8):h8:=Qn K
def ZR{K}:w∈ks K ↔ w∈K:=(Sw K).mem_iff
def sU{K}(h:Vs b e g K c a)(i:K.length<=60):mu [U b] a=O (ύ$ (ks K).map Z) a:=by
 have o:kw [U$ b+1] a=O (U a.length) (a++[ϒ$ (ks K).map Z]):=by
  have l:Lf a (U$ b+1)=V6:=by unfold Lf Cf;simp[h.h1]
  have d:Sg a (U$ b+1)=BD (Rj K):=by unfold Sg;simp[h.h1]
  unfold kw;simp[l];unfold rF;simp only[d,iQ];rw[ka ⋯];rfl
 have f:ig a (kw [U$ b+1] a)=O (ύ$ (ks K).map Z) a:=by rw[o];exact rz$ WF _
 unfold mu Xf;simp[(sN h),f]
def N5(h:qk σ n a)(b:a.Ok):Wg [U n,.gt ["held"]] σ=O (ύ$ a.y.map Sn.D) σ:=by
 have m:=SJ h b;have d:∀ σ,nb (.gt ["held"]) (Z 0) σ=O (ϓ "held") σ:=λσ=>nr rfl;have c:=YI a.y;unfold Wg Pc;simp[d,m,c]
def KM{xs}(h:Cf a n=BD xs) j:Cf (a++j) n=BD xs:=by
 unfold Cf;rw[Bm$ BG h]
theorem U5(j:f ρ σ=O (U n) σ)(g:σ[n]?=BD (Ϗ A))(i:src ρ σ=O nx c)(k:Yp nx e a 1001 0 ρ c=O (ϙ d) b)(h:b[n]?=BD (.He A')):aH f (Cu src e a) ρ σ=O (ϙ d) (b.set n$ Ϗ A'):=by
 show UI SN _ _ σ=_;unfold UI;rw[j];dsimp only;rw[g];rw[lz,i,Co];show nD SN _ (Yp nx e a 1001 0 ρ c)=_;rw[k];unfold nD;simp[h];rfl
def Ă(c:f b a=O (U n) a)(g:a[n]?=BD (Ϗ A)):bH f b a=O (Lq A) (a.set n$ .He A):=by
 show Tc _ RH a=_;rw[zm,c,ze];unfold RH;simp[g]
def vH{a:Fa}(h:a[r]?=BD o):a.set r o=a:=by
 obtain⟨b,c⟩:=ba.mp h;rw[<-c];exact List.set_getElem_self b
theorem TJ c g a b d e f:Vk c 5 g [a,b,d,e] f=Jy f.length (g [U f.length,a,b,d,e]$ f++[ϔ c []]):=xN rfl
def j3 g(K:h8) e{ps:List Pv}(C:ps.length<=3)(o:Cf g n=BD (ps.map af)):VB [U g.length,Z e,Z 0,ύ$ K.map Z,U n] (g++[ϔ 14 []])=O Ϛ (g++[ϔ 14 [("every",Z e),("last_look",Z 0),("known",ύ (K.map Z)),("pots",ύ (ps.map af))]]):=by
 have E:=λ(m:i') (u:m.contains 14=Ĳ) (f:Str) (w:D) (h:List (Str × D)) (x:h.length<1000)=>XH (ρ:=[BD$ U g.length,BD$ Z e,BD$ Z 0,BD$ ύ$ K.map Z,BD$ U n]) (σ:=g) (cs:=m) (f:=f) (d:=w) (c:=14) (fs:=h) u x;have r:∀ h,ig (g++[ϔ 14 h]) (xr [ύ$ K.map Z]$ g++[ϔ 14 h])=O (ύ$ K.map Z) (g++[ϔ 14 h]):=λh=>JD (WF K) _;have y:∀ h,fk (Nn (Ht$ Gi$ Ba 4) [] (je 0) On$ Pg$ Na (Ab nb (Ba 0)$ eC$ Z 0)$ Na (fk$ Go xr$ Na (Ab nb (Ba 0)$ eC$ Z 1) Db)$ Na (Go cF$ Na (Ab nb (Ba 0)$ eC$ Z 2) Db) Db) [BD$ U g.length,BD$ Z e,BD$ Z 0,BD$ ύ$ K.map Z,BD$ U n] (g++[ϔ 14 h])=O (ύ$ ps.map af) (g++[ϔ 14 h]):=λh=>by
  have s1:Au (U n) (g++[ϔ 14 h])=O (.Xl n) (g++[ϔ 14 h]):=by
   show (match Cf (g++[ϔ 14 h]) n with|some _=>_|none=>_)=_;rw[KM o]
  exact ww (ix:=[]) (src:=Gi$ Ba 4) (s:=.Xl n) (xs:=ps) (ρ:=[BD$ U g.length,BD$ Z e,BD$ Z 0,BD$ ύ$ K.map Z,BD$ U n]) (σ:=g++[ϔ 14 h]) (fe:=Pg$ Na (Ab nb (Ba 0)$ eC$ Z 0)$ Na (fk$ Go xr$ Na (Ab nb (Ba 0)$ eC$ Z 1) Db)$ Na (Go cF$ Na (Ab nb (Ba 0)$ eC$ Z 2) Db) Db) af af (by simp[s1]) (λi j=>by
    show (Cf (g++[ϔ 14 h]++j) n).map _=_;rw[KM$ KM o _,<-ft];rfl) ⋯
   (λv i j=>by
    have q:=JD$ YI v.2;have p:∀ l,cF [Ϩ [] []] l=O (Ϩ [] []) l:=λl=>nr rfl;unfold af;simp[q,p]) (λv i=>yW v)
 have z:zl "every" (Z e) ([]:List (Str × D))=([("every",Z e)]:List (Str × D)):=rfl;have A:∀ a b:D,zl "last_look" b ([("every",a)]:List (Str × D))=([("every",a),("last_look",b)]:List (Str × D)):=λi i=>rfl;have B:∀ a b c:D,zl "known" c ([("every",a),("last_look",b)]:List (Str × D))=([("every",a),("last_look",b),("known",c)]:List (Str × D)):=λi i i=>rfl;have p4:∀ a b c d:D,zl "pots" d ([("every",a),("last_look",b),("known",c)]:List (Str × D))=([("every",a),("last_look",b),("known",c),("pots",d)]:List (Str × D)):=λi i i i=>rfl;have t:∀ k g,fk (Go xr$ Na (Ba 3) Db) k g=ig g (Go xr (Na (Ba 3) Db) k g):=λi i=>rfl;unfold VB yg;simp[E,z,A,B,p4,r,y,t,-cp]
def pv(x:Ka):Pv:=(x.2.q,x.2.y)
def Ex(e:Int)(K:h8)(a:List Ka):D:=Gj e (ks K)$ (a.map pv).map af
def eR e K a:cl (Ex e K a)=Ĳ:=T6 _ _$ rW _
section
variable{b:Nat}{e g:Int}{K:h8}(hK:K.length<=60){as as':List Ka}{σ:Fa}
include hK
theorem VW(h:Vs b e g K as σ)(S:As as' σ)(F:∀ x∈as',∃ y∈as,y.2.p=x.2.p)(ϋ:as'.length<=3){r}(k:σ[r]?=BD (Ϗ$ AV as'))(Q:r=b+2\/b+4<r):vC [U b,U r] σ=O (Ex e K as') σ:=by
 have a:=(ba.mp k).1;have t:=S.set k$ .He$ AV as';have A:(σ.set r$ .He$ AV as').length=σ.length:=List.length_set;have c:=Bm (j:=[ϒ []]) k;obtain⟨a0,a1,G,B,C,rfl,rfl⟩:=JN (tg:=io 2$ bi (je 3)$ bi (je 4) Io) (body:=mZ) (N:=(AV as').length) (λi E o=>∃ B C,E=[BD$ U b,BD$ U r,BD$ U σ.length,B,C]/\o=σ.set r (.He$ AV as')++[ϒ$ ((as'.take i).map pv).map af]) (λi E o u R=>by
  obtain⟨B,C,rfl,rfl⟩:=R;have u:i<as'.length:=by simpa [AV]using u
  have z:as'[i]?=BD as'[i]:=ba.mpr ⟨u,rfl⟩;generalize as'[i]=x at *;have w:=wa z;have s:=XD (σ:=σ.set r$ .He$ AV as') (xs:=((as'.take i).map pv).map af) (d:=af$ pv x) (by simp;lia);rw[A]at s;have W:∀ m,Pu Kj m (U σ.length) (σ.set r (.He$ AV as')++[ϒ$ ((as'.take i).map pv).map af])=(m$ σ.set r (.He$ AV as')++[ϒ$ ((as'.take i).map pv).map af]).bind (Kj$ U σ.length):=λm=>uB (xs:=((as'.take i).map pv).map af) (by unfold Lf Cf;rw[<-A];simp);have v:=(h.set Q$ .He$ AV as').app [ϒ$ ((as'.take i).map pv).map af];have J:=ģ v;have L:=bW v$ F x w;have M:=k7 v$ F x w;have l:=(t.app [ϒ$ ((as'.take i).map pv).map af]) x w;have st:=N5 l.1 l.2;have sd:=Oy l.1 l.2;have tq:ώ [Z x.2.q,ύ$ x.2.y.map Sn.D,Ϩ [] []]=af (pv x):=rfl;rw[show ((as'.take i).map pv).map af++[af$ pv x]=((as'.take$ i+1).map pv).map af by rw[Ny z];simp]at s;refine⟨ώ [Z x.2.p,U x.1],[BD$ U b,BD$ U r,BD$ U σ.length,BD$ Z x.2.p,BD$ U x.1],[BD$ U b,BD$ U r,BD$ U σ.length,BD$ Z x.2.p,BD$ U x.1],_,?_,rfl,?_,_,_,rfl,rfl⟩
  ·unfold Lq AV;simp only[Pa,z];rfl
  ·generalize σ.set r (.He$ AV as')++[ϒ$ ((as'.take i).map pv).map af]=Y,σ.set r (.He$ AV as')++[ϒ$ ((as'.take$ i+1).map pv).map af]=ϊ at *;simp[(qS v),J,L,M,st,sd,W,tq,s]) (λo=>QX (AV as') o) 1001 0 [BD$ U b,BD$ U r,BD$ U σ.length,V6,V6] ((σ++[ϒ []]).set r$ .He$ AV as') (by simp[AV];lia) ⋯ ⟨V6,V6,rfl,by rw[Xr _ _ a];simp⟩
 rw[show (AV as').length=as'.length by simp[AV],Ec]at G;have H:=U5 (f:=Ba 1) (src:=bH$ Ba 1) (ρ:=[BD$ U b,BD$ U r,BD$ U σ.length,V6,V6]) (σ:=σ++[ϒ []]) (n:=r) ⋯ c (Ă ⋯ c) G (A':=AV as')$ Bm (by rw[Dc a]);rw[Xr _ _ (by rw[A];exact a),Lk,vH k]at H;have v1:=h.app [ϒ$ (as'.map pv).map af];have wd:=sU v1 hK;have X:=λP=>Xo v1 (m:="words") 1 mu P rfl;have ό:=zm8 v1;have V:=n6 v1;have T:=eR e K as';have mk:ig (σ++[ϒ$ (as'.map pv).map af]) (Vk 14 5 VB [Z e,Z 0,ύ$ (ks K).map Z,U σ.length]$ σ++[ϒ$ (as'.map pv).map af])=O (Ex e K as') (σ++[ϒ$ (as'.map pv).map af]):=by
  rw[TJ,j3 _ (ks K) e (n:=σ.length) (ps:=as'.map pv) (by simpa using ϋ) (by unfold Cf;simp),iC,UU (by have:=rW$ as'.map pv;generalize (as'.map pv).map af=I at *;simp[this])];rfl
 have fz:ig σ (O (Ex e K as')$ σ++[ϒ$ (as'.map pv).map af])=O (Ex e K as') σ:=uU T;unfold vC kS Xf;dsimp only;generalize (as'.map pv).map af=I at *;simp[-lz,H,ό,V,wd,X,mk,fz]
end
def W(e:Int)(K:h8)(a:List Ka):Int:=Dy e$ Rk e (ks K)$ a.map pv
structure Kp where
 (e g:Int)
 K:h8
 as:List Ka
 Q:Kv
def Kp.W(k:Kp):Int:=K54.W k.e k.K k.as
structure qp(b:Nat)(k:Kp)(σ:Fa):Prop where
 v:Vs b k.e k.g k.K k.as σ
 h2:σ[b+2]?=BD (Ϗ (AV k.as))
 h5:σ[b+5]?=BD (Ϗ k.Q)
 a:As k.as σ
 d:(k.as.map (·.2.p)).Nodup
 n:k.as.length<=3
 z:k.K.length<=60
 o:gm (k.as.map pv)
 q:k.Q.length<=100
def qp.app(h:qp b k c) j:qp b k$ c++j:=⟨h.v.app j,Bm h.h2,Bm h.h5,h.a.app j,h.d,h.n,h.z,h.o,h.q⟩
def RY(h:gm$ a.map pv) e K b:pi [Ex e K a] b=O (Z$ W e K a) b:=G5 h e (ks K) b
section
variable{b:Nat}{k:Kp}{σ:Fa}(h:qp b k σ)
include h
theorem K4:yD [U b] σ=O (Z k.W) σ:=by
 have v:=VW h.z h.v h.a (λx f=>⟨x,f,rfl⟩) h.n h.h2$ ϑ rfl;have w:=RY h.o k.e k.K;have d:=eR k.e k.K k.as;have w:∀ σ,pi [Ex k.e k.K k.as] σ=O (Z k.W) σ:=w;generalize Ex k.e k.K k.as=V at *;have g:YE [U b] σ=O V σ:=by
  unfold YE Xf;simp[(λc=>Xo h.v (m:="view_by") 2 vC c rfl),(zu h.v),v,d]
 unfold yD Xf;simp[(λc=>Xo h.v (m:="view") 1 YE c rfl),g,w]
def Qh(a:List Ka)(x:Ka):List Ka:=a.map λy=>if y.2.p=x.2.p then x else y
omit h
theorem oZ(c:∃ y∈a,y.2.p=x.2.p):ij (AV a) (.inl x.2.p) (U x.1)=AV (Qh a x):=by
 obtain⟨y,d,b⟩:=c;unfold ij AV Qh;rw[ka$ Qc.mpr ⟨_,na.mpr ⟨y,d,rfl⟩,by simp[b]⟩];rw[Va,Va];refine ve λz f=>?_;by_cases e:z.2.p=x.2.p;all_goals simp_all
theorem IH(h:y∈Qh a x):y=x\/y∈a:=by
 obtain⟨z,b,rfl⟩:=na.mp h;split;all_goals simp_all
theorem IJ a x:(Qh a x).map (·.2.p)=a.map (·.2.p):=by
 unfold Qh;rw[Va];refine ve λy b=>?_;all_goals grind
theorem rL a x:(Qh a x).length=a.length:=by unfold Qh;simp
structure IG(a:Ac):Prop where
 q:a.q=0\/a.q=1
 f:0<a.y.length/\a.y.length<=2
 d:∀ s∈a.y,(s.ts.map Ti.w).Nodup/\s.ts.length<=9
 a:∀ s∈a.y,∀ t∈s.ts,0<=t.a
theorem yT(h:gm$ c.map pv)(g:IG x.2):gm$ (Qh c x).map pv:=by
 have j:∀ p∈(Qh c x).map pv,p=pv x\/p∈c.map pv:=λp b=>by
  obtain⟨y,i,rfl⟩:=na.mp b;rcases IH i with rfl|i
  ·exact ϑ rfl
  ·exact ϕ$ we i
 refine⟨by rw[Ea,rL];simpa using h.n,λp b=>?_,λp b=>?_,λp b=>?_,λp b=>?_⟩<;>rcases j p b with rfl|e
 ·exact g.q
 ·exact h.q p e
 ·exact g.f
 ·exact h.f p e
 ·exact g.d
 ·exact h.d p e
 ·exact g.a
 ·exact h.a p e
include h
theorem bM{x}(j:qk σ x.1 x.2)(l:x.2.Ok)(u:IG x.2)(q:∃ y∈k.as,y.2.p=x.2.p) d:Dv [U b,U x.1,Z d] σ=O (ϐ$ decide$ W k.e k.K (Qh k.as x) ≥ k.W - d) σ:=by
 have ac:=zu h.v;have s:CH [U$ b+2] σ=O (U σ.length) (σ++[Ϗ$ AV k.as]):=by
  have:Sg σ (U$ b+2)=BD (AV k.as):=by unfold Sg;simp[h.h2]
  unfold CH;simp only[this]
 have st:∀ i,jq i (U x.1) (U σ.length) (Z x.2.p) (σ++[Ϗ$ AV k.as])=O (ϙ i) (σ++[Ϗ$ AV$ Qh k.as x]):=λi=>by
  rw[At (kvs:=AV k.as) ⋯ (by have:=h.n;simp[AV];lia),oZ q,ZB]
 have D:=Zs (j.app [Ϗ$ AV k.as]) l;have F:=(ba.mp h.h5).1;have E:As (Qh k.as x) σ:=λy c=>by
  rcases IH c with rfl|c
  ·exact⟨j,l⟩
  ·exact h.a y c
 have g:=h.v.app [Ϗ$ AV$ Qh k.as x];have v:=VW h.z g (E.app [Ϗ$ AV$ Qh k.as x]) (λy c=>by
  rcases IH c with rfl|c
  ·exact q
  ·exact⟨y,c,rfl⟩) (by rw[rL];exact h.n) (r:=σ.length) ⋯$ ϕ ⋯
 have w:=RY (yT h.o u) k.e k.K;have A:=K4$ h.app [Ϗ$ AV$ Qh k.as x];have B:=λf=>Xo g (m:="view_by") 2 vC f rfl;have C:=λf=>Xo g (m:="worth") 1 yD f rfl;have fz:∀ t,ig σ (O (ϐ t)$ σ++[Ϗ$ AV$ Qh k.as x])=O (ϐ t) σ:=λt=>uU ⋯;unfold Dv Xf;simp[ac,s,st,D,v,w,A,B,C,fz]
end
theorem iH:∀ {a:List Ka},(a.map (·.2.p)).Nodup->∀ x∈a,Qi (AV a) (.inl x.2.p)=BD (U x.1)
 |[],_,x,h=>by cases h
 |y::a,hd,x,b=>by
  rw[Ta,Fd]at hd;unfold AV Qi;rcases za.mp b with rfl|b
  ·simp
  ·have c:y.2.p≠x.2.p:=λe=>hd.1$ e ▸ we b;have d:=iH hd.2 x b;unfold AV Qi at d
   simp_all
def Q7 a x:CV (Qh a x)=CV a:=by
 have e:∀ a:List Ka,CV a=(a.map (·.2.p)).map λp=>(.inl p,.gt ["held"]):=λa=>by unfold CV;rw[Va];rfl
 rw[e,IJ,<-e]
def z7 a x:SV (Qh a x)=SV a:=by
 have e:∀ a:List Ka,SV a=(a.map (·.2.p)).map λp=>(.inl p,Ϩ [] []):=λa=>by unfold SV;rw[Va];rfl
 rw[e,IJ,<-e]
section
variable{b:Nat}{k:Kp}{σ:Fa}(h:qp b k σ)
include h
theorem lU:Sg σ (U$ b+2)=BD (AV k.as):=by unfold Sg;simp[h.h2]
theorem OO{x}(a:x∈k.as):Ly [U b,Z x.2.p] σ=O (ϐ Ĳ) σ:=by
 have g:=zu h.v;have c:=qS h.v;have f:=bW h.v ⟨x,a,rfl⟩;have i:Nu (Z x.2.p) (U$ b+2) σ=O (ϐ Ĳ) σ:=by
  unfold Nu;simp only[Bi,lU h,iH h.d x a];rfl
 have e:∀ σ,DJ (.gt ["held"]) (.gt ["held"]) σ=O (ϐ Ĳ) σ:=λσ=>nr rfl;unfold Ly Xf;simp[g,c,f,i,e]
theorem RA{x}(a:x∈k.as):am (U$ b+2) (Z x.2.p) σ=O (U x.1) σ:=DB h.h2$ iH h.d x a
theorem ń{x}(b:x∈k.as):ig σ (O (U x.1) σ)=O (U x.1) σ:=by
 unfold ig;dsimp only;rw[ka Ec];have:fz σ.length σ 6 (U x.1)=BD (U x.1):=by
  unfold fz;rw[qa ⋯];dsimp only;rw[ka$ (ba.mp (h.a x b).1).1]
 rw[this]
theorem ë{x}(a:x∈k.as):Dw [U b,Z x.2.p] σ=O (U x.1) σ:=by
 have i:Qq (Z x.2.p) (U$ b+2) σ=O (ϐ Ε) σ:=by
  unfold Qq;simp only[Bi,lU h,iH h.d x a];rfl
 unfold Dw Xf;simp[(zu h.v),i,(RA h a),(ń h a)]
theorem AJ{x}(g:qk σ x.1 x.2)(i:x.2.Ok)(l:IG x.2)(j:∃ y∈k.as,y.2.p=x.2.p):(∀ f,jq f (U x.1) (U$ b+2) (Z x.2.p) σ=O (ϙ f) (σ.set (b+2)$ Ϗ$ AV$ Qh k.as x))/\qp b { k with as:=Qh k.as x } (σ.set (b+2)$ Ϗ$ AV$ Qh k.as x):=by
 refine⟨λf=>by rw[At h.h2 (by have:=h.n;simp[AV];lia),oZ j],?_⟩;have c:=h.v.set (ϑ rfl)$ Ϗ$ AV$ Qh k.as x;refine⟨⟨c.h0,c.h1,?_,?_⟩,Dc$ (ba.mp h.h2).1,lg ⋯ h.h5,?_,?_,?_,h.z,yT h.o l,h.q⟩
 ·show _=BD _;rw[Q7];exact c.h3
 ·show _=BD _;rw[z7];exact c.h4
 ·have m:As _ σ:=λy e=>by
   rcases IH e with rfl|e
   ·exact⟨g,i⟩
   ·exact h.a y e
  exact m.set h.h2 _
 ·show ((Qh k.as x).map (·.2.p)).Nodup;rw[IJ];exact h.d
 ·show (Qh k.as x).length<=3;rw[rL];exact h.n
theorem kZ{d}{a}{c}(f:c a σ=O (Z d) σ):Uz a [15] "gave" c (U b) σ=O (ϙ a) (σ.set b$ ϔ 15$ Qj b k.e$ k.g+d):=by
 have lk:List.lookup ("gave" : Str) (Qj b k.e k.g)=BD _:=rfl;unfold Uz;rw[(sw h.v)];simp only[lk];rw[Ul,f,Co];unfold bL;simp only[h.v.h0];rfl
theorem OQ d:qp b { k with g:=k.g+d }$ σ.set b$ ϔ 15$ Qj b k.e$ k.g+d:=by
 refine⟨⟨Dc$ (ba.mp h.v.h0).1,lg ⋯ h.v.h1,lg ⋯ h.v.h3,lg ⋯ h.v.h4⟩,lg ⋯ h.h2,lg ⋯ h.h5,λx f=>⟨lg (λe=>?_) (h.a x f).1,(h.a x f).2⟩,h.d,h.n,h.z,h.o,h.q⟩;have a:=(h.a x f).1;unfold qk at a;have i:=h.v.h0;have c:=(h.a x f).2.c
 simp_all
theorem zW{Q}(c:Q.length<=100):qp b { k with Q:=Q }$ σ.set (b+5)$ Ϗ Q:=by
 exact⟨(h.v.set (ϕ$ by lia) _),lg ⋯ h.h2,Dc$ (ba.mp h.h5).1,h.a.set h.h5 _,h.d,h.n,h.z,h.o,c⟩
end
def Il(d:Int)(s:Sn):D:=ώ [Z d,ώ [Z s.a,Z s.b],ώ$ s.ts.map Ti.D]
def AQ(Q:Kv):Prop:=∀ z∈Q,∃ d s,z.2=Il d s
section
variable{b:Nat}{k:Kp}{σ:Fa}(h:qp b k σ)
include h
theorem kM:Sg σ (U$ b+5)=BD k.Q:=by unfold Sg;simp[h.h5]
theorem ν{X}{kd}(d:∀ σ,nb X (Z 0) σ=O (ϓ kd) σ)(a:(kd == ("offer" : Str))=Ε):Kt [U b,X] σ=O (ϐ Ε) σ:=by
 have c:=neS kd "offer" σ;rw[a]at c;unfold Kt Xf
 simp_all
end
@[simp] theorem zpo b f d c a e:eI b f d c a e=Ik a (Uz a b f d) (c a e):=Ul ..
theorem G7{l}{f}{e fr}{h gr}{b}{a}{x y}{c d}{g gs}(i:e b a=O x a)(j:fr b a=O y a)(m:ak a x=BD (c,g))(n:ak a y=BD (d,gs))(k:(c,d)∈l):dD l f e fr h gr b a=gr b a:=by
 unfold dD;rw[Ul,i,Co,Ul,j,Co];unfold uM
 simp_all
structure SO(T:Int)(s:Sn):Prop where
 ok:s.Ok T
 w:∀ t∈s.ts,t.w<60
def IL(L:B'):Prop:=∀ z∈L,∃ i,z=Z i
theorem IL.cl{L}(h:IL L):qf L=Ĳ:=Kn λd a=>by obtain⟨i,rfl⟩:=h d a;rfl
def IL.add{L}(h:IL L) n:IL$ L++[Z n]:=λz a=>by
 rcases kc.mp a with a|a
 ·exact h z a
 ·exact⟨n,Ia.mp a⟩
inductive AI(T:Int->Int)(N:Nat):Ac->Prop where
 |qc {p q:Int} {m:Sn} {G:D} {L:B'} (hp:0<=p/\p<=2) (hq:q=0\/q=1) (hm:SO (T p) m) (hn:m.n<=N) (hg:cl G=Ĳ) (hl:IL L) (hL:L.length<=N):AI T N (qc p q m G L)
 |Ih {p:Int} {m s:Sn} {G:D} {L:B'} (hp:0<=p/\p<=2) (hm:SO (T p) m) (hs:SO (T p) s) (hn:s.n=m.n+1) (hN:s.n<=N) (hg:cl G=Ĳ) (hl:IL L) (hL:L.length<=N):AI T N (Ih p 0 m s G L)
 |wait {p:Int} {m s:Sn} {G:D} {L:B'} (hp:0<=p/\p<=2) (hm:SO (T p) m) (hs:SO (T p) s) (hn:s.n=m.n+1) (hN:s.n<=N) (hg:cl G=Ĳ) (hl:IL L) (hL:L.length<=N):AI T N (wait p 1 m s G L)
def AI.up{T}{N M}{a}(h:AI T N a)(k:N<=M):AI T M a:=by
 cases h with
 |qc b c d f i e g=>exact .qc b c d ⋯ i e ⋯
 |Ih b c d f i e g j=>exact .Ih b c d f ⋯ e g ⋯
 |wait b c d f i e g j=>exact .wait b c d f ⋯ e g ⋯
def AI.ok{T}{N}{a}(h:AI T N a):a.Ok:=by
 cases h with
 |qc b e g i f c d=>exact Ls b e f c.cl
 |Ih b e g i f c d j=>exact zL b (ϑ rfl) c d.cl
 |wait b e g i f c d j=>exact SL b (ϕ rfl) c d.cl
def AI.so{T}{N}{a}(h:AI T N a):(∀ s∈a.y,SO (T a.p) s)/\0<a.y.length/\a.y.length<=2:=by
 cases h with
 |qc e d c f g i j=>exact⟨λs b=>by
   rw[Ia.mp$ b];exact c,by simp[K54.qc],by simp[K54.qc]⟩
 |Ih e d c f g i j k=>exact⟨λs b=>by
   rcases za.mp (b)with rfl|b
   ·exact d
   ·rw[Ia.mp b];exact c,by simp[K54.Ih],by simp[K54.Ih]⟩
 |wait e d c f g i j k=>exact⟨λs b=>by
   rcases za.mp (b)with rfl|b
   ·exact d
   ·rw[Ia.mp b];exact c,by simp[K54.wait],by simp[K54.wait]⟩
def AI.rB{T}{N}{a}(h:AI T N a):IG a:=⟨h.ok.q,h.so.2,λs b=>⟨((h.so.1 s b).ok).st.d,by have:=((h.so.1 s b).ok).st.l;lia⟩,λs b t c=>by have:=(((h.so.1 s b).ok).st.t t c).a;lia⟩
def Fr(b:Nat)(c a:Fa):Prop:=∀ r o,(r<b\/b+5<r)->c[r]?=BD o->a[r]?=BD o
def Fr.trans{b}{a c d}(h:Fr b a c)(g:Fr b c d):Fr b a d:=λr o f e=>g r o f$ h r o f e
def Fr.refl b a:Fr b a a:=λc c c e=>e
def Fr.app b a j:Fr b a$ a++j:=λc c c e=>Bm e
def Fr.set{b} a{i}(c:b<=i/\i<=b+5) o:Fr b a$ a.set i o:=λr f d e=>lg ⋯ e
section
variable{T:Int->Int}{N b:Nat}{k:Kp}{σ:Fa}(h:qp b k σ)(hQ:AQ k.Q)
def XX{Q}(hQ:AQ Q) f:AQ (Q.filter f)/\(Q.filter f).length<=Q.length:=⟨λz a=>hQ z (Pe.mp a).1,Se ..⟩
end
section
variable{T:Int->Int}{N b:Nat}{k:Kp}{σ:Fa}(h:qp b k σ)(hQ:AQ k.Q){x:Ka}(hx:x∈k.as)
include h hx
theorem Ŏ{X d}{kd}{a}(e:qd [X] σ=O (ϐ Ĳ) σ)(f:∀ σ,nb X (Z 0) σ=O (ϓ kd) σ)(g:∀ σ,nb X (Z 1) σ=O (Z x.2.p) σ)(j:(kd == ("word" : Str))=Ε)(i:(kd == ("ask" : Str))=Ε)(k:bx [U b,X] σ=O d a):Ci [U b,X] σ=O d a:=by
 unfold Ci yg;simp[e,f,g,j,i,(OO h hx),(λc=>Xo h.v (m:="holds") 2 Ly c rfl),(λc=>Xo h.v (m:="take_step") 2 bx c rfl),k]
theorem ŵ{s}(g:bo s.n s.a s.b s.ts)(f:0<=x.2.p/\x.2.p<=2){d}{c}(k:LB [U b,vh x.2.p s] σ=O d c):Ci [U b,vh x.2.p s] σ=O d c:=by
 have i:∀ σ,nb (vh x.2.p s) (Z 0) σ=O (ϓ "ask") σ:=λσ=>by unfold vh;simp
 have j:∀ σ,nb (vh x.2.p s) (Z 1) σ=O (Z x.2.p) σ:=λσ=>by unfold vh;simp
 unfold Ci yg;simp[(cY f σ g),i,j,(OO h hx),(λe=>Xo h.v (m:="holds") 2 Ly e rfl),(λe=>Xo h.v (m:="take_ask") 2 LB e rfl),k]
end
def jC{a}{σ}{n}{c}{b}{l}{m}(h:qk σ n a)(f:a.c=c)(g:Br l c=BD b)(e:a.fs.lookup m=V6) k d:Gk l k m d (U n) σ=(d σ).bind (Ri k b$ U n):=Oq (Eo h) ⋯ e
def c5:(11:Nat)∈[11,12,13]:=by decide
def c6:(12:Nat)∈[11,12,13]:=by decide
def c7:(13:Nat)∈[11,12,13]:=by decide
def G4:((13,11):Nat × Nat)∈[(13,11),(11,13),(11,12)]:=by decide
def TZ:((11,13):Nat × Nat)∈[(13,11),(11,13),(11,12)]:=by decide
def E8:((11,12):Nat × Nat)∈[(13,11),(11,13),(11,12)]:=by decide
def KU p q s a:nb (ng p q s) (Z 0) a=O (ϓ "offer") a:=by unfold ng;simp
def RC p q s a:nb (ng p q s) (Z 1) a=O (Z p) a:=by unfold ng;simp
def ZL p m s a:nb (Fi p m s) (Z 0) a=O (ϓ "accept") a:=by unfold Fi;simp
def jD p m s a:nb (Fi p m s) (Z 1) a=O (Z p) a:=by unfold Fi;simp
def MM p q n a:nb (ci p q n) (Z 0) a=O (ϓ "struck") a:=by unfold ci;simp
def ZE p q n a:nb (ci p q n) (Z 1) a=O (Z p) a:=by unfold ci;simp
def Mr(K:h8)(w:Int):h8:=if w∈K then K else K++[w]
def uY K w:ij (Rj K) (.inl w) (ϐ Ĳ)=Rj (Mr K w):=by
 unfold Mr;by_cases h:w∈K
 ·have a:(Rj K).any (λc=>decide$ c.1=.inl w)=Ĳ:=Qc.mpr ⟨_,na.mpr ⟨w,h,rfl⟩,by simp⟩;unfold ij;unfold Rj
  simp_all
 ·rw[qa h,XA _ λp b e=>by
   obtain⟨d,a,rfl⟩:=na.mp b;have e:d=w:=by simpa using e
   exact h$ e ▸ a]
  unfold Rj
  simp_all
theorem JQ:∀ {xs:h8},(∀ x∈xs,0<=x)->0<=xs.sum
 |[],_=>by simp
 |x::xs,h=>by
  have b:=h x la;have c:=JQ λy a=>h y$ ja _ a;rw[List.sum_cons];lia
noncomputable def sa(q d a:Int):Int:=if q=0 then a+d else a
def sb(q d b:Int):Int:=if q=0 then b else b+d
def aW{q}(e:q=0\/q=1) a b d c:Ck [ώ [Z a,Z b],Z q,Z d] c=O (ώ [Z$ sa q d a,Z$ sb q d b]) c:=by
 unfold Ck sa sb Pc;rcases e with rfl|rfl<;>simp
abbrev NW(m:Sn)(w:Int):Prop:=w ∉ m.ts.map Ti.w/\m.ts.length<=5
def eo(m:Sn)(t:Ti):Sn:=⟨m.n+1,sa t.p (-t.a) m.a,sb t.p (-t.a) m.b,m.ts++[t]⟩
def rm(w:Int)(a:List Ti):List Ti:=a.filter λu=>decide$ u.w≠w
def jg(m:Sn)(t:Ti)(r:Int):Sn:=⟨m.n+1,sa r t.a m.a,sb r t.a m.b,rm t.w m.ts⟩
section
variable{m s:Sn}{W:Int}(hm:m.Ok W)(hW:W<=2000000000000)(hn:m.n<=99)
def RW(h:bo s.n s.a s.b s.ts)(f:s.n=m.n+1) σ:Ug [m.D,ώ [Z s.a,Z s.b],ώ$ s.ts.map Ti.D] σ=O s.D σ:=by
 have e:ώ [Z s.n,ώ [Z s.a,Z s.b],ώ _]=s.D:=rfl;have c:=ym s;have h:=QD h;have h:∀ σ,Ah [s.D] σ=O _ σ:=h;have d:∀ σ,Ch [Z$ m.n+1,ώ [Z s.a,Z s.b],ώ$ s.ts.map Ti.D] σ=O s.D σ:=λσ=>by
  unfold Ch dP
  simp_all
 unfold Ug Pc;simp[(s0 m),d,c]
include hm hW hn
theorem tK{t}(g:t.Ok)(d:t.a<=ow t.p m)(i:NW m t.w):(eo m t).Ok W:=by
 obtain⟨⟨n,a,b,s,l,r⟩,w⟩:=hm;have e:Yq (m.ts++[t])=Yq m.ts+t.a:=by simp[Yq]
 have j:∀ u∈(eo m t).ts,u.Ok:=λu k=>by
  rcases kc.mp k with h|h
  ·exact s u h
  ·have:u=t:=by simpa using h
   rw[this];exact g
 have l2:(eo m t).ts.length<=6:=by have:=i.2;show (m.ts++[t]).length<=6;simp;lia
 have c:((eo m t).ts.map Ti.w).Nodup:=by
  show ((m.ts++[t]).map Ti.w).Nodup;rw[gd,Yc];exact⟨r,by simp,λx o y q e=>i.1 (by have:=(by simpa using q);rw[<-this,<-e];exact o)⟩
 have v:=g.a;rcases g.p with f|f
 ·rw[f]at d;simp only[ow,Jf]at d;refine⟨⟨?_,?_,?_,j,l2,c⟩,?_⟩<;>simp[eo,sa,sb]<;>omega
 ·rw[f]at d;simp[ow]at d;refine⟨⟨?_,?_,?_,j,l2,c⟩,?_⟩<;>simp[eo,sa,sb]<;>lia
theorem L6{t}(c:t.Ok)(e:t.a<=ow t.p m)(g:NW m t.w) σ:Du [m.D,Z t.p,Z t.a,Z t.w,Z t.y] σ=O (eo m t).D σ:=by
 have h:ώ [Z t.p,Z t.a,Z t.w,Z t.y]=t.D:=rfl;have i:∀ σ,Mi (ώ$ m.ts.map Ti.D) (ώ [t.D]) σ=O (ώ$ (eo m t).ts.map Ti.D) σ:=λσ=>by
  rw[MJ (by have:=hm.st.l;unfold Dg;simp;lia)];show O (ώ$ m.ts.map Ti.D++[t.D]) σ=O (ώ$ (m.ts++[t]).map Ti.D) σ;rw[gd];rfl
 have d:∀ σ,Ug [m.D,ώ [Z$ sa t.p _ m.a,Z$ sb t.p _ m.b],ώ _] σ=O (eo m t).D σ:=RW (tK hm hW hn c e g).st rfl;have f:=ym$ eo m t;unfold Du Pc;simp[h,(mT c),(aW c.p m.a m.b _),(s1 m),(s2 m),i,d,f]
end
noncomputable def Yr(w:Int)(a:List Ti):Option Ti:=a.find? λu=>decide$ u.w=w
def oT:Option Ti->D
 |some t=>t.D
 |none=>Ϛ
def WV{w}{a}{t}(h:Yr w a=BD t):t∈a/\t.w=w:=⟨kf h,by have:=Im h;simpa using this⟩
def EY(t:Ti) a:nb t.D (Z 0) a=O (Z t.p) a:=by unfold Ti.D;simp
def JW(t:Ti) b:nb t.D (Z 1) b=O (Z t.a) b:=by unfold Ti.D;simp
def cO(t:Ti) a:nb t.D (Z 2) a=O (Z t.w) a:=by unfold Ti.D;simp
theorem wQ(M:Option D)(w:Int)(a:Fa):∀ (c:List Ti) (x:Option D),∃ y,Nj (je 2) EK (c.map Ti.D) [M,BD$ Z w,x] a=(match Yr w c with
  |some t=>O (.rt t.D) a
  |none=>O (ϙ [M,BD$ Z w,y]) a)
 |[],x=>⟨x,rfl⟩
 |t::c,x=>by
  obtain⟨y,f⟩:=wQ M w a c _;refine⟨y,?_⟩;rw[Ta,Iq];simp only[Cb,Lb];have d:=cO t;have b:EK [M,BD$ Z w,BD t.D] a=if t.w=w then O (.rt t.D) a else O (ϙ [M,BD$ Z w,BD t.D]) a:=by
   by_cases h:t.w=w
   ·simp[d,h]
   ·have e:(t.w == w)=Ε:=by simp[h]
    simp[d,h,e]
  rw[b];unfold Yr;rw[Gd];by_cases h:t.w=w
  ·rw[ka h,rc h,ze,znn]
  ·rw[qa h,gc h,ze,Tk,f];rfl
section
variable{m:Sn}{W:Int}(hm:m.Ok W)(hW:W<=2000000000000)(hn:m.n<=99)
def CT(m:Sn) w a:ji [m.D,Z w] a=O (oT$ Yr w m.ts) a:=by
 obtain⟨y,b⟩:=wQ (BD m.D) w a m.ts V6;have c:=s2 m;unfold ji cW oT Pc;cases h:Yr w m.ts with
 |none=>simp_all
 |some t=>
  rw[h]at b;simp[c,b,(iG t)]
def pb(w p:Int)(a:List Ti):Bool:=match Yr w a with
 |some t=>decide (t.p=p)
 |none=>Ε
def A1(m:Sn) w p a:uj [m.D,Z w,Z p] a=O (ϐ$ pb w p m.ts) a:=by
 have b:=CT m w;unfold uj pb Pc;dsimp only;generalize m.D=c at *;cases h:Yr w m.ts with
 |none=>
  rw[h]at b;have b:∀ a,ji [c,Z w] a=O Ϛ a:=b;simp[b]
 |some t=>
  rw[h]at b;have b:∀ a,ji [c,Z w] a=O t.D a:=b;have e:=EY t;have f:∀ a,zH t.D Ϛ a=O _ a:=λa=>rfl;by_cases d:t.p=p;all_goals simp_all
def zqs{w}{t}(h:Yr w m.ts=BD t) a:zj [m.D,Z w] a=O t.D a:=by
 have b:=CT m w;rw[h]at b;have b:∀ a,ji [m.D,Z w] a=O t.D a:=b;have c:∀ a,Jq t.D Ϛ a=O _ a:=λa=>rfl;unfold zj Pc;simp[b,c,(iG t)]
theorem nZ:∀ {d:List Ti} {t:Ti},(d.map Ti.w).Nodup->t∈d->Yq (rm t.w d)+t.a=Yq d
 |[],t,_,h=>by cases h
 |b::d,t,hd,h=>by
  rw[Ta,Fd]at hd;unfold rm;rw[Be];rcases za.mp h with rfl|h
  ·have e:d.filter (λu=>decide$ u.w≠t.w)=d:=Mg.mpr λu g=>rc λe=>hd.1$ e ▸ we g;simp[Yq];lia
  ·have i:b.w≠t.w:=λe=>hd.1$ e ▸ we h;have f:=nZ hd.2 h;unfold rm at f;rw[rc i,ka rfl];have c:∀ xs:List Ti,Yq (b::xs)=b.a+Yq xs:=λxs=>by simp[Yq]
   rw[c,c,<-f];lia
include hm hW hn
theorem QJ{t}(g:t∈m.ts){r}(h:r=0\/r=1):(jg m t r).Ok W:=by
 have q:=nZ hm.st.d g;obtain⟨⟨n,a,b,f,l,j⟩,w⟩:=hm;have o:=(f t g).a;have p:0<=Yq (rm t.w m.ts):=by
  refine JQ λx i=>?_;obtain⟨u,c,rfl⟩:=na.mp i;have:=(f u (Pe.mp c).1).a;lia
 have k:∀ u∈(jg m t r).ts,u.Ok:=λu c=>f u (Pe.mp c).1;have l2:(jg m t r).ts.length<=6:=ib (Se ..) l;have e:((jg m t r).ts.map Ti.w).Nodup:=j.sublist$ xt.map _;rcases h with rfl|rfl<;>refine⟨⟨?_,?_,?_,k,l2,e⟩,?_⟩<;>simp[jg,sa,sb]<;>omega
theorem j0{t}(f:t∈m.ts){r}(c:r=0\/r=1) σ:Pr [m.D,t.D,Z r] σ=O (jg m t r).D σ:=by
 have h:=s2 m;have l:=tE (src:=Gi$ Ab nb (Ba 0)$ eC$ Z 2) (ρ:=[BD m.D,BD t.D,BD$ Z r,V6]) (σ:=σ) (s:=.seq$ m.ts.map Ti.D) (ix:=[1]) (fi:=eT$ Ab Lj (Ab nb (Ba 0)$ eC$ Z 2)$ Ab nb (Ba 2)$ eC$ Z 2) (fe:=Ba 0) Ti.D Ti.D (λu=>decide$ u.w≠t.w) (by
   simp[h]) (λi p=>zb BD$ ft m.ts _ i) (by have:=hm.st.l;lia) (λu p j=>by
  have u2:=cO u$ σ++j;have o:=cO t$ σ++j;have n:=Ι u.w t.w$ σ++j;exact⟨by simp[u2,o,n],λp=>by simp⟩) (λu p p=>iG u)
 have l:fk _ _ σ=O (ύ$ (jg m t r).ts.map Ti.D) σ:=l;have k:=aW c m.a m.b t.a;have g:=JW t;have d:∀ σ,Ug [m.D,ώ [Z$ sa r t.a m.a,Z$ sb r t.a m.b],ώ$ (jg m t r).ts.map Ti.D] σ=O (jg m t r).D σ:=RW (QJ hm hW hn f c).st rfl;have e:=ym$ jg m t r;unfold Pr Pc;simp[l,(s1 m),k,g,d,e,-cp]
theorem F2{w}{t}(h:Yr w m.ts=BD t) b:yn [m.D,Z w] b=O (jg m t$ 1 - t.p).D b:=by
 have a:=(WV h).1;have c:=(hm.st.t t a).p;unfold yn Pc;simp[(zqs h),(j0 hm hW hn a (r:=1 - t.p)$ by lia),(gZ t.p),(EY t),(ym _)]
end
inductive Wi where
 |Yn (pay:Bool) (d w y:Int)
 |Od (w:Int)
def Wi.k:Wi->Str
 | .Yn Ĳ _ _ _=>"pay"
 | .Yn Ε _ _ _=>"pass"
 | .Od _=>"settle"
def Wi.D(a:Int):Wi->L4.D
 | .Yn p d w y=>ώ [ϓ$ if p then "pay" else "pass",Z a,Z d,Z w,Z y]
 | .Od w=>ώ [ϓ "settle",Z a,Z w]
def Wi.al:Wi->Int
 | .Yn Ĳ d _ _=>d
 |_=>0
def Wi.Ok:Wi->Prop
 | .Yn _ _ w y=>(0<=w/\w<60)/\0<=y/\y<=1000000
 |_=>True
def Wi.st(q:Int)(K:h8)(m:Sn):Wi->Option Sn
 | .Yn _ d w y=>if ((1<=d/\d<=1000000000000)/\d<=ow q m)/\NW m w then BD (eo m ⟨q,d,w,y⟩)else V6
 | .Od w=>match Yr w m.ts with
  |some t=>if t.p=1 - q/\w∈K then BD (jg m t q)else V6
  |none=>V6
def ZS c(a:Wi) b:nb (a.D c) (Z 0) b=O (ϓ a.k) b:=by
 cases a with
 |Yn p d w y=>cases p<;>simp[Wi.D,Wi.k]
 |_=>trivial
def uT a(b:Wi) c:nb (b.D a) (Z 1) c=O (Z a) c:=by cases b<;>simp[Wi.D]
def Y1 c(a:Wi) b:Kg [a.D c] b=O (Z a.al) b:=by
 unfold Kg Pc;cases a with
 |Yn p d w y=>cases p<;>simp[Wi.D,Wi.al]
 |_=>simp[Wi.D,Wi.al]
section
variable{b:Nat}{p q:Int}(hp:0<=p/\p<=2)(hq:q=0\/q=1){k:Kp}{σ:Fa}(h:qp b k σ){n:Nat}{m:Sn}{T:Int}(hm:m.Ok T)(hT:T<=2000000000000)(hn:m.n<=99){G:D}{L:B'}(hg:cl G=Ĳ)(hl:qf L=Ĳ)
include h in
theorem â w:Nu (Z w) (U$ b+1) σ=O (ϐ$ decide$ w∈k.K) σ:=by
 have:Sg σ (U$ b+1)=BD (Rj k.K):=by
  have:=h.v.h1;unfold Sg;simp[this]
 unfold Nu;simp only[Bi,this];have e:∀ K:h8,(Qi (Rj K)$ .inl w).isSome=decide (w∈K):=λK=>by
  induction K with
  |nil=>rfl
  |cons v K a=>
   unfold Rj Qi at a ⊢;by_cases h:v=w
   ·simp[h]
   ·have c:¬ w=v:=λz=>h z.symm;simpa [h,c]using a
 simp[e]
include hp hq h hm hT hn hg hl
set_option tactic.hygienic true in
theorem zjw(v:qk σ n$ qc p q m G L){ws:Wi}(i:ws.Ok){s}(a:ws.st q k.K m=BD s):Gf [U n,ws.D p,U$ b+1] σ=O s.D σ:=by
 have r:=Ls (p:=p) (m:=m) hp hq hg hl;have j:Lc [7,8,10,11,12,13] "side" (U n) σ=O (Z q) σ:=Oy v r;have l:Lc [10,11,12,13] "mine" (U n) σ=O m.D σ:=Px v r;have u:=ym s;unfold Wi.st at a;cases ws with
 |Yn py d w y=>
  dsimp only at a;split at a;case isFalse=>cases a
  case isTrue c=>
  cases a;have o:=L6 (t:=⟨q,d,w,y⟩) hm hT hn ⟨hq,c.1.1,⟨i.1.1,by have:=i.1.2;dsimp only;omega⟩,i.2⟩ c.1.2 c.2;dsimp only at o;have B:∀ k σ,nb (ώ [ϓ k,Z p,Z d,Z w,Z y]) (Z 4) σ=O (Z y) σ:=λk σ=>Ÿ ..;unfold Gf Wi.D Pc;dsimp only;generalize m.D=A,(eo m ⟨q,d,w,y⟩).D=F at *;cases py<;>simp[j,l,o,u,B]
 |Od w=>
  have f:=A1 m w$ 1 - q;have x:=â h w;have C:=gZ q;unfold pb at f;dsimp only at a;cases g:Yr w m.ts with
  |none=>rw[g]at a;cases a
  |some t=>
   rw[g]at f a;dsimp only at f a;split at a;case isFalse=>cases a
   case isTrue c=>
   cases a;rw[rc c.1]at f;rw[rc c.2]at x;have z:=F2 hm hT hn g;have e:1 - t.p=q:=by omega
   rw[e]at z;unfold Gf Wi.D Pc;dsimp only;generalize m.D=A,(jg m t q).D=E at *;simp[j,l,C,f,x,z,u]
end
def xa(p q:Int)(m s:Sn)(G:D)(L:B'):Ac:=if q=0 then Ih p 0 m s G L else wait p 1 m s (bg p 0 s.D) L
def lt(p q:Int)(s:Sn):D:=if q=0 then ng p 0 s else vh p s
def Wi.wd(a:Int):Wi->List L4.D
 | .Od w=>[ώ [ϓ "word",Z a,Z w]]
 |_=>[]
def kF(a:Wi):(a.k == ("finish" : Str))=Ε:=by
 have b:(("pay" : Str) == "finish")=Ε:=by decide
 have c:(("pass" : Str) == "finish")=Ε:=by decide
 cases a with
 |Yn p d w y=>cases p<;>simp[Wi.k,b,c]
 |_=>simp[Wi.k]
section
variable{p q:Int}(hp:0<=p/\p<=2)(hq:q=0\/q=1){m s:Sn}{W:Int}(hm:m.Ok W)(hs:s.Ok W)(hn:s.n=m.n+1){G:D}{L:B'}(hg:cl G=Ĳ)(hl:qf L=Ĳ){σ:Fa}{n:Nat}
include hp hq hm hs hn hg hl
theorem zfx(a:qk σ n$ qc p q m G L):Uf [U n,s.D] σ=O (ώ [U σ.length,lt p q s]) (σ++[ϔ (xa p q m s G L).c (xa p q m s G L).fs]):=by
 have b:=Ls (p:=p) (m:=m) hp hq hg hl;have g:Lc [7,8,10,11,12,13] "side" (U n) σ=O (Z q) σ:=Oy a b;have h:=s1 s;have i:=s2 s;rcases hq with rfl|rfl
 ·have f:=kU hp hm hs hn hg hl a;show _=O (ώ [U σ.length,ng p 0 s]) (σ++[ϔ 12 (Ih p 0 m s G L).fs]);unfold Uf jN;simp[g,h,i,f]
 ·have r:=BQ hp hm hs hn hg hl a;show _=O (ώ [U σ.length,vh p s]) (σ++[ϔ 13 (wait p 1 m s _ L).fs]);have e:=a.app [ϔ 13 (wait p 1 m s (bg p 0 s.D) L).fs];generalize σ++[ϔ 13 (wait p 1 m s (bg p 0 s.D) L).fs]=j at *;have o:Lc [10,11,12,13] "pot" (U n) σ=O (Z p) σ:=Zs a b;have d:Lc [10,11,12,13] "pot" (U n) j=O (Z p) j:=Zs e b;have k:gh [U n,Z 0,s.D] σ=O (bg p 0 s.D) σ:=LD a b 0$ ym s;have f:ώ [ϓ "offer",Z p,bg p 0 s.D]=ng p 0 s:=rfl;unfold vh;unfold Uf jN;simp[g,o,d,h,i,r,k,(jC (l:=[(10,gh),(11,gh),(12,gh),(13,gh)]) (m:="agree_of") a rfl rfl rfl 3),(jC (l:=[(11,fy),(12,Sx),(13,Zx)]) (m:="taken") a rfl rfl rfl 2),f]
end
structure Ks where
 g:Int
 K:h8
 A:List Ac
 Q:Kv
noncomputable def Kp.s(k:Kp):Ks:=⟨k.g,k.K,k.as.map (·.2),k.Q⟩
def Gp(A:List Ac)(a:Ac):List Ac:=A.map λy=>if y.p=a.p then a else y
def Wk(K:h8)(A:List Ac):Int:=Dy 8$ Rk 8 (ks K) (A.map λa=>(a.q,a.y))
theorem QR K a:W 8 K a=Wk K (a.map (·.2)):=by
 unfold W Wk;rw[Va];rfl
theorem bJ a x:(Qh a x).map (·.2)=Gp (a.map (·.2)) x.2:=by
 unfold Qh Gp;rw[Va,Va];refine ve λy b=>?_;simp;split<;>rfl
def Xk(s:Ks)(a:Ac)(d:Int):Bool:=decide$ Wk s.K (Gp s.A a) ≥ Wk s.K s.A - d
def QL{k:Kp}(a:k.e=8) x d:decide (W k.e k.K (Qh k.as x) ≥ k.W - d)=Xk k.s x.2 d:=by
 unfold Xk Kp.W Kp.s;rw[a,QR,QR,bJ]
def Hl(b:Nat)(s:Ks)(a:Fa):Prop:=∃ k,qp b k a/\k.e=8/\k.s=s
def Hl.app{b}{s}{a}(h:Hl b s a) j:Hl b s$ a++j:=by
 obtain⟨k,h,e⟩:=h;exact⟨k,h.app j,e⟩
def Ef(b:Nat)(c:Fa)(f:M D)(R:D)(s:Ks):Prop:=∃ a,f c=O R a/\Hl b s a/\Fr b c a
def Uq(z:Ks)(p q:Int)(a:Ac)(s:Sn)(ws:Wi):Ks:=
 if q=0 then ⟨z.g+ws.al,z.K,Gp z.A a,z.Q⟩else ⟨z.g,z.K,z.A,ij z.Q (.inl p)$ Il ws.al s⟩
section
variable{T:Int->Int}{N b:Nat}{k:Kp}{σ:Fa}(h:qp b k σ)(he:k.e=8){x:Ka}(hx:x∈k.as){p q:Int}(hp:0<=p/\p<=2)(hq:q=0\/q=1){m s:Sn}(hm:SO (T p) m)(hs:SO (T p) s)(hn:s.n=m.n+1){G:D}{L:B'}(hg:cl G=Ĳ)(hl:IL L)
include h he hx hp hq hm hs hn hg hl
theorem ξ(e:x.2=qc p q m G L)(a0:k.Q.length<100) ws(hB:Xk k.s (xa p q m s G L) ws.al=Ĳ):Ef b σ (pz [U b,s.D,ws.D p]) (ώ [ϐ Ĳ,ύ$ ws.wd p++[lt p q s]])$ Uq k.s p q (xa p q m s G L) s ws:=by
 have X:x.2.p=p:=by rw[e];rfl
 have hi:qk σ x.1$ qc p q m G L:=e ▸ (h.a x hx).1;have E:AI T (s.n.toNat+L.length)$ xa p q m s G L:=by
  have n0:=hs.ok.st.n;unfold xa;split
  ·exact .Ih hp hm hs hn ⋯ hg hl ⋯
  ·exact .wait hp hm hs hn ⋯ (ou$ ym s) hl ⋯
 have pa:(xa p q m s G L).p=p:=by unfold xa;split<;>rfl
 have ha:=Ls (p:=p) (m:=m) hp hq hg hl.cl;have I:=zfx hp hq hm.ok hs.ok hn hg hl.cl hi;have r:=h.app [ϔ (xa p q m s G L).c (xa p q m s G L).fs];have ia:qk (σ++[ϔ (xa p q m s G L).c (xa p q m s G L).fs]) σ.length$ xa p q m s G L:=by unfold qk;simp
 have i:=zu h.v;have f:=RA h hx;rw[X]at f;have B:Lc [7,8,10,11,12,13] "side" (U x.1) σ=O (Z q) σ:=Oy hi ha;have l:=ZS p ws;have J:=uT p ws;have A:=Y1 p ws;have u:=Fr.app b σ [ϔ (xa p q m s G L).c (xa p q m s G L).fs];generalize σ++[ϔ (xa p q m s G L).c (xa p q m s G L).fs]=j at *;have F:=zu r.v;have kq:=tG r.v;have z:∃ y∈k.as,y.2.p=((σ.length,xa p q m s G L):Ka).2.p:=⟨x,hx,by rw[X];exact pa.symm⟩
 have o:=bM r (x:=(σ.length,xa p q m s G L)) ia E.ok E.rB z ws.al;rw[QL he]at o;dsimp only at o;have H:=λfs=>Xo r.v (m:="is_good") 3 Dv fs rfl;rw[hB]at o;unfold Uq;rcases hq with rfl|rfl
 ·obtain⟨sa,C⟩:=AJ r (x:=(σ.length,xa p 0 m s G L)) ia E.ok E.rB z;have sa:∀ t,jq t (U σ.length) (U$ b+2) (Z p) j=O (ϙ t) (j.set (b+2)$ Ϗ$ AV$ Qh k.as (σ.length,xa p 0 m s G L)):=by rw[<-pa];exact sa
  have K:Fr b j$ j.set (b+2)$ Ϗ$ AV$ Qh k.as (σ.length,xa p 0 m s G L):=.set j ⋯ _;generalize j.set (b+2) (Ϗ$ AV$ Qh k.as (σ.length,xa p 0 m s G L))=V at *;have W:∀ (N ό P R S ϋ:Option D),Uz [N,ό,P,R,S,BD$ Z ws.al,ϋ] [15] "gave" (Ba 5) (U b) V=O (ϙ [N,ό,P,R,S,BD$ Z ws.al,ϋ]) (V.set b$ ϔ 15$ Qj b k.e$ k.g+ws.al):=λN ό P R S ϋ=>kZ C ⋯;have ϊ:=OQ C ws.al;dsimp only at ϊ;refine⟨_,?_,⟨_,ϊ,he,?_⟩,(u.trans K).trans$ .set V ⋯ _⟩
  ·unfold pz gK cM gL aL GM mK KO xL CM yg;cases ws with
   |Od w=>
    have M:∀ σ,nb (Wi.D p$ .Od w) (Z 2) σ=O (Z w) σ:=λσ=>by unfold Wi.D;simp
    unfold Wi.k at l;unfold Wi.wd;simp[i,f,F,B,l,J,M,A,I,o,H,sa,W]
   |Yn py d w y=>
    unfold Wi.wd;cases py<;>unfold Wi.k at l<;>simp[i,f,F,B,l,J,A,I,o,H,sa,W]
  ·rw[ka rfl];unfold Kp.s;dsimp only;rw[bJ]
 ·have j1:=s1 s;have j2:=s2 s;have sq:∀ t,jq t (Il ws.al s) (U$ b+5) (Z p) j=O (ϙ t) (j.set (b+5)$ Ϗ$ ij k.Q (.inl p)$ Il ws.al s):=λt=>At r.h5 ⋯;have Y:ώ [Z ws.al,ώ [Z s.a,Z s.b],ώ$ s.ts.map Ti.D]=Il ws.al s:=rfl;have a1:(ij k.Q (.inl p)$ Il ws.al s).length<=k.Q.length+1:=by unfold ij;split<;>simp
  have C:=zW r (Q:=ij k.Q (.inl p)$ Il ws.al s) ⋯;refine⟨_,?_,⟨_,C,he,by rw[qa ⋯];rfl⟩,u.trans$ .set j ⋯ _⟩;unfold pz gK cM gL aL GM mK KO xL CM yg;cases ws with
  |Od w=>
   have M:∀ σ,nb (Wi.D p$ .Od w) (Z 2) σ=O (Z w) σ:=λσ=>by unfold Wi.D;simp
   unfold Wi.k at l;unfold Wi.wd;simp[i,f,F,kq,B,l,J,M,A,I,o,H,j1,j2,Y,sq]
  |Yn py d w y=>
   unfold Wi.wd;cases py<;>unfold Wi.k at l<;>simp[i,f,F,kq,B,l,J,A,I,o,H,j1,j2,Y,sq]
end
set_option tactic.hygienic true in
def Ō{q}(j:q=0\/q=1){K}{m}{T}(b:SO T m)(g:T<=2000000000000)(i:m.n<=99){ws:Wi}(f:ws.Ok){s}(h:ws.st q K m=BD s):SO T s/\s.n=m.n+1:=by
 unfold Wi.st at h;cases ws with
 |Yn py d w y=>
  dsimp only at h;split at h
  ·next c=>
   cases h;refine⟨⟨tK b.ok g i ⟨j,c.1.1,⟨f.1.1,by have:=f.1.2;dsimp only;lia⟩,f.2⟩ c.1.2 c.2,λt a=>?_⟩,rfl⟩;rcases kc.mp a with a|a
   ·exact b.w t a
   ·rw[Ia.mp a];exact f.1.2
  ·cases h
 |Od w=>
  dsimp only at h;split at h
  ·next t e=>
   split at h
   ·cases h;exact⟨⟨QJ b.ok g i (WV e).1 j,λt a=>b.w t (Pe.mp a).1⟩,rfl⟩
   ·cases h
  ·cases h
def M0{T}{N b}{k}{c}(h:qp b k c)(P:k.e=8){x}(f:x∈k.as){p q}{m}{G}{L}(e:x.2=qc p q m G L)(M:AI T N x.2)(hN:N<=90)(w:∀ p,T p<=2000000000000)(o:k.Q.length<100){ws}(E:ws.Ok){s}(d:ws.st q k.K m=BD s)(ό:Xk k.s (xa p q m s G L) ws.al=Ĳ):Ef b c (bz [U b,ws.D p]) (ώ [ϐ Ĳ,ύ$ ws.wd p++[lt p q s]])$ Uq k.s p q (xa p q m s G L) s ws:=by
 have F:=(h.a x f).1;have B:=OO h f;have V:=λg=>Xo h.v (m:="holds") 2 Ly g rfl;have ϋ:=zu h.v;have u:=RA h f;obtain⟨n,a⟩:=x;dsimp only at *;subst e;have Y:=ZS p ws;have ϊ:=uT p ws;have H:=kF ws;cases M with
 |qc C j hm hn y A hL=>
  have I:∀ x c,Bu [x] c=O (ϓ "calm") c:=λx c=>by unfold Bu Xf;simp
  have X:Lj (ϓ "calm") (ϓ "calm") c=O (ϐ Ε) c:=uv (by simp[pl]);have W:=λg=>Xo h.v (m:="wish_for") 3 pz g rfl;have r:=zjw C j h hm.ok (w p) ⋯ y A.cl F E d;have J:(qc p q m G L).p=p:=rfl;rw[J]at B u;obtain⟨S,i⟩:=Ō j hm (w p) ⋯ E d;obtain⟨t,e,z⟩:=ξ h P f C j hm S i y A rfl o ws ό;refine⟨t,?_,z⟩;generalize (ώ [ϐ Ĳ,ύ$ ws.wd p++[lt p q s]])=R at *;unfold bz dQ NT kW DP bY DV pU yg;simp[B,V,W,ϋ,(sN h.v),u,Y,ϊ,H,X,I,(jC (l:=[(11,Bu),(12,eB),(13,WA)]) (m:="word") F rfl rfl rfl 1),r,e]
theorem eO{f:Fa->D->D->Option Bool}:∀ {xs e:B'},(∀ x∈xs,∀ y∈e,∃ b,∀ d,f d x y=BD b)->∃ b,∀ d,vn (f d) xs e=BD b
 |[],[],_=>⟨_,λl=>rfl⟩
 |[],_::_,_=>⟨_,λl=>rfl⟩
 |_::_,[],_=>⟨_,λl=>rfl⟩
 |x::xs,y::e,h=>by
  obtain⟨b,j⟩:=h x la y la;obtain⟨c,k⟩:=eO λa g b i=>h a (ja _ g) b$ ja _ i;refine⟨b && c,λd=>?_⟩;unfold vn
  simp_all
def U4:∀ n x y,pl n x=Ĳ->pl n y=Ĳ->∃ b,∀ e,Mj e n x y=BD b:=by
 intro n;induction n with
 |zero=>intro x y d c;cases x<;>first|(simp[pl]at d;done)|(cases y<;>first|exact⟨_,λk=>rfl⟩|(simp[pl]at c;done))
 |succ n i=>
  intro x y d c;cases x with
  |Qa xs=>
   cases y with
   |Qa j=>
    simp[pl,Bb]at d c;exact eO (f:=λe=>Mj e n) λa g b h=>i a b (d a g)$ c b h
   |_=>first|exact⟨_,λk=>rfl⟩|(simp[pl]at c;done)
  |ra xs=>
   cases y with
   |ra j=>
    simp[pl,Bb]at d c;exact eO (f:=λe=>Mj e n) λa g b h=>i a b (d a g)$ c b h
   |_=>first|exact⟨_,λk=>rfl⟩|(simp[pl]at c;done)
  |_=>first|(simp[pl]at d;done)|(cases y<;>first|exact⟨_,λk=>rfl⟩|(simp[pl]at c;done))
def Ey(x y:D):Bool:=(Mj [] 8 x y).getD Ε
def w5{x y}(a:pl 8 x=Ĳ)(c:pl 8 y=Ĳ) d:Mj d 8 x y=BD (Ey x y):=by
 obtain⟨b,h⟩:=U4 8 x y a c;unfold Ey
 simp_all
def oz(s:Sn):D:=ώ [ώ [Z s.a,Z s.b],ώ$ s.ts.map Ti.D]
def Dp(Q:Kv)(p:Int)(s:Sn):Option Int:=match Qi Q (.inl p)with
 |some (ώ [Z d,A,B])=>if Ey (oz s) (ώ [A,B])then BD d else V6
 |_=>V6
def Cm(z:Ks)(p:Int)(a:Ac)(R:B')(o:Option Int):D × Ks:=(ύ R,⟨z.g+o.getD 0,z.K,Gp z.A a,if o.isSome then pq z.Q (.inl p)else z.Q⟩)
section
variable{T:Int->Int}{N b:Nat}{k:Kp}{σ:Fa}(h:qp b k σ)
include h
theorem Š(A:AQ k.Q) p s:(Dp k.Q p s=V6/\Kt [U b,ng p 0 s] σ=O (ϐ Ε) σ)\/∃ d c,Dp k.Q p s=BD d/\Qi k.Q (.inl p)=BD (Il d c)/\Kt [U b,ng p 0 s] σ=O (ϐ Ĳ) σ:=by
 have l:=tG h.v;have m:Lj _ (ϓ "offer") σ=O _ σ:=uv (by simp[pl]);have i:∀ σ,nb (ng p 0 s) (Z 0) σ=O (ϓ "offer") σ:=λσ=>by unfold ng;simp
 have j:∀ σ,nb (ng p 0 s) (Z 1) σ=O (Z p) σ:=λσ=>by unfold ng;simp
 have q:∀ σ,nb (ng p 0 s) (Z 2) σ=O (bg p 0 s.D) σ:=λσ=>by unfold ng;simp
 have r:∀ σ,nb (bg p 0 s.D) (Z 3) σ=O s.D σ:=λσ=>by unfold bg;simp
 cases f:Qi k.Q _ with
 |none=>
  refine ϑ ⟨by unfold Dp;rw[f],?_⟩;have n:Qq (Z p) (U$ b+5) σ=O (ϐ Ĳ) σ:=by
   unfold Qq;simp only[Bi,kM h,f];rfl
  unfold Kt Xf;simp[i,j,l,m,n]
 |some v=>
  have n:Qq (Z p) (U$ b+5) σ=O (ϐ Ε) σ:=by
   unfold Qq;simp only[Bi,kM h,f];rfl
  obtain⟨d,c,rfl⟩:∃ d c,v=Il d c:=by
   obtain⟨z,B,rfl⟩:=La.mp f;exact A z$ kf B
  have gt:=DB h.h5 f;have u:nu [Z s.n,ώ [Z s.a,Z s.b],ώ _] (BD 1) V6=[ώ [Z s.a,Z s.b],ώ$ s.ts.map Ti.D]:=rfl;have w:nu [Z d,ώ [Z c.a,Z c.b],ώ _] (BD 1) V6=[ώ [Z c.a,Z c.b],ώ$ c.ts.map Ti.D]:=rfl;have l1:∀ σ,Ku s.D _ V6 σ=O (ώ [ώ [Z s.a,Z s.b],ώ$ s.ts.map Ti.D]) σ:=λσ=>by
   unfold Sn.D Pm;rw[Ww,u]
  have l2:∀ σ,Ku (Il d c) (BD 1) V6 σ=O (ώ [ώ [Z c.a,Z c.b],ώ$ c.ts.map Ti.D]) σ:=λσ=>by
   unfold Il;rw[Ww,w]
  have t:∀ s:Sn,pl 8 (ώ [ώ [Z s.a,Z s.b],ώ$ s.ts.map Ti.D])=Ĳ:=λs=>Kz λx g=>by
   have g:x=ώ [Z s.a,Z s.b]\/x=ώ (s.ts.map Ti.D):=by simpa using g
   rcases g with rfl|rfl
   ·simp[pl]
   ·exact mO 5 s.ts
  have o:rj (ώ [ώ [Z s.a,Z s.b],ώ$ s.ts.map Ti.D]) (ώ [ώ [Z c.a,Z c.b],ώ$ c.ts.map Ti.D]) σ=O (ϐ$ Ey (oz s)$ oz c) σ:=CI$ w5 (t s) (t c) σ;have y:Dp k.Q p s=if Ey (oz s) (oz c)then BD d else V6:=by unfold Dp;rw[f];rfl
  rw[y];generalize Ey (oz s) (oz c)=e at *;cases e
  ·refine ϑ ⟨rfl,?_⟩;unfold Kt Xf;simp[i,j,q,r,l,n,m,gt,l1,l2,o]
  ·refine ϕ ⟨d,c,rfl,rfl,?_⟩;unfold Kt Xf;simp[i,j,q,r,l,n,m,gt,l1,l2,o]
variable(hQ:AQ k.Q)(he:k.e=8)
include hQ he
theorem ZJ{x}(J:x∈k.as){a'}(hp:a'.p=x.2.p)(I:AI T N a')(hc:(a'.c,x.2.c)∈[(13,11),(11,13),(11,12)]){X R}{rb}(i1:∀ σ,nb X (Z 1) σ=O (Z x.2.p) σ){o}(K:(o=V6/\∃ kd,(∀ σ,nb X (Z 0) σ=O (ϓ kd) σ)/\(kd == ("offer" : Str))=Ε)\/∃ s,X=ng x.2.p 0 s/\o=Dp k.s.Q x.2.p s){fn}(mk:∀ l,Gk [(11,fy),(12,Sx),(13,Zx)] 2 "taken" l (U x.1) σ=(l σ).bind (Ri 2 fn$ U x.1))(tk:fn [U x.1,X] σ=O (ώ [U σ.length,R]) (σ++[ϔ a'.c a'.fs]))(rn:∀ σ,Jq R Ϛ σ=O (ϐ rb) σ)(r:Xk k.s a' (o.getD 0)=Ĳ):Ef b σ (bx [U b,X]) (Cm k.s x.2.p a' (if rb then []else [R]) o).1 (Cm k.s x.2.p a' (if rb then []else [R]) o).2:=by
 have G:=zu h.v;have A:=RA h J;have j:=h.app [ϔ a'.c a'.fs];have P:qk (σ++[ϔ a'.c a'.fs]) σ.length a':=by unfold qk;simp
 have w:=Fr.app b σ [ϔ a'.c a'.fs];generalize a1:σ++[ϔ a'.c a'.fs]=f at *;have S:=zu j.v;have ό:=RA j J;have an:∀ (t y5:Option D) (gr:Ev->M Fl),dD [(13,11),(11,13),(11,12)] [11,12,13] (Ab nb (Ba 3)$ eC$ Z 0) (Ab am (gf (Lc [15] "accounts")$ Ba 0)$ Ba 2) fq gr [BD$ U b,BD X,BD$ Z x.2.p,BD$ ώ [U σ.length,R],t,y5] f=gr [BD$ U b,BD X,BD$ Z x.2.p,BD$ ώ [U σ.length,R],t,y5] f:=λt y5 gr=>by
  refine G7 (x:=U σ.length) (y:=U x.1) ?_ ?_ (Eo P) (Eo (j.a x J).1) hc
  ·simp
  ·simp[S,ό]
 have E:∃ y∈k.as,y.2.p=((σ.length,a'):Ka).2.p:=⟨x,J,hp.symm⟩
 have u:=λd=>bM j (x:=(σ.length,a')) P I.ok I.rB E d;simp only[QL he]at u;have mg:=λl=>Xo j.v (m:="is_good") 3 Dv l rfl;have mq:=λl=>Xo j.v (m:="is_as_asked") 2 Kt l rfl;obtain⟨sa,B⟩:=AJ j (x:=(σ.length,a')) P I.ok I.rB E;rw[hp]at sa;have up:=bJ k.as (σ.length,a');have no:Kt [U b,X] f=O (ϐ Ε) f->Xk k.s a' 0=Ĳ->Ef b σ (bx [U b,X]) (Cm k.s x.2.p a' (if rb then []else [R]) V6).1 (Cm k.s x.2.p a' (if rb then []else [R]) V6).2:=λF r=>by
  have u:=u 0;rw[r]at u;refine⟨f.set (b+2)$ Ϗ$ AV$ Qh k.as (σ.length,a'),?_,⟨_,B,he,?_⟩,w.trans$ .set f ⋯ _⟩
  ·unfold Cm bx HN XM wN aO rO WK cN iK FL yg;cases rb<;>simp[G,A,S,ό,i1,mk,tk,an,u,mg,mq,F,sa,rn]
  ·unfold Kp.s Cm;dsimp only;rw[up];simp
 rcases K with⟨rfl,kd,i0,hk⟩|⟨s,rfl,rfl⟩
 ·exact no (ν j i0 hk) r
 ·rcases Š j hQ x.2.p s with⟨e,F⟩|⟨i,V,e,hf,F⟩
  ·rw[show Dp k.s.Q x.2.p s=V6 from e]at r ⊢;exact no F r
  ·rw[show Dp k.s.Q x.2.p s=BD i from e]at r ⊢;have C:=u i;rw[show Xk k.s a' i=Ĳ from r]at C;have gq:am (U$ b+5) (Z x.2.p) f=O (Il i V) f:=DB j.h5 hf;have a0:∀ σ,nb (Il i V) (Z 0) σ=O (Z i) σ:=λσ=>by unfold Il;simp
   have ϋ:=tG B.v;have dq:=kM B;have mp:∀ l,Zw jz l (U$ b+5) (f.set (b+2)$ Ϗ$ AV$ Qh k.as (σ.length,a'))=(l$ f.set (b+2)$ Ϗ$ AV$ Qh k.as (σ.length,a')).bind (jz$ U$ b+5):=λl=>by
    unfold Zw;rw[dq];rfl
   have h5:=B.h5;have L:Fr b f$ f.set (b+2)$ Ϗ$ AV$ Qh k.as (σ.length,a'):=.set f ⋯ _;generalize f.set (b+2) (Ϗ$ AV$ Qh k.as (σ.length,a'))=n at *;have po:jz (U$ b+5) [Z x.2.p] n=O (Il i V) (n.set (b+5)$ Ϗ$ pq k.Q$ .inl x.2.p):=by
    unfold jz;simp only[Bi,h5];simp[hf]
   have q2:=(XX hQ λkv=>!decide (kv.1=.inl x.2.p)).2;have q2:(pq k.Q$ .inl x.2.p).length<=k.Q.length:=(XX hQ _).2;have h3:=zW B (Q:=(pq k.Q$ .inl x.2.p)) (by have:=h.q;omega);have gv:∀ (W Y ϊ y3 t:Option D),Uz [W,Y,ϊ,y3,t,BD$ Z i] [15] "gave" (Ba 5) (U b) (n.set (b+5)$ Ϗ$ pq k.Q$ .inl x.2.p)=O (ϙ [W,Y,ϊ,y3,t,BD$ Z i]) ((n.set (b+5)$ Ϗ$ pq k.Q$ .inl x.2.p).set b$ ϔ 15$ Qj b k.e$ k.g+i):=λW Y ϊ y3 t=>kZ h3 ⋯;have h4:=OQ h3 i;have z:Fr b n$ n.set (b+5)$ Ϗ$ pq k.Q$ .inl x.2.p:=.set n ⋯ _;generalize n.set (b+5) (Ϗ$ pq k.Q$ .inl x.2.p)=H at *;refine⟨H.set b$ ϔ 15$ Qj b k.e$ k.g+i,?_,⟨_,h4,he,?_⟩,w.trans$ (L.trans z).trans$ .set H ⋯ _⟩
   rotate_left
   ·unfold Kp.s Cm;dsimp only;rw[up];rfl
   unfold Cm bx HN XM wN aO rO WK cN iK FL yg;cases rb<;>simp[G,A,S,(tG j.v),ϋ,ό,i1,mk,tk,an,C,mg,mq,F,gq,a0,sa,mp,po,gv,rn]
end
section
variable{T:Int->Int}{N b:Nat}{k:Kp}{σ:Fa}(h:qp b k σ)(he:k.e=8){x:Ka}(hx:x∈k.as)
include h he
theorem g8{p w}(f:0<=p/\p<=2)(i:0<=w/\w<=59)(j:(Mr k.K w).length<=60):Ef b σ (Ci [U b,Ol p w]) (ύ []) ⟨k.g,Mr k.K w,k.as.map (·.2),k.Q⟩:=by
 have z:=h.z;have s:∀ c,jq c _ _ _ σ=O _ (σ.set (b+1)$ Ϗ$ Rj$ Mr k.K w):=λc=>by
  rw[At h.v.h1 (by unfold Rj;simp;lia),uY]
 have r:uw [U b,ύ [Z w]] σ=O Ϛ (σ.set (b+1)$ Ϗ$ Rj$ Mr k.K w):=by
  unfold uw pM yg;simp[(sN h.v),s]
 have l:=t5 f σ i;refine⟨_,?_,⟨{ k with K:=Mr k.K w },⟨⟨lg ⋯ h.v.h0,Dc$ (ba.mp h.v.h1).1,lg ⋯ h.v.h3,lg ⋯ h.v.h4⟩,lg ⋯ h.h2,lg ⋯ h.h5,h.a.set h.v.h1 _,h.d,h.n,j,h.o,h.q⟩,he,rfl⟩,.set σ ⋯ _⟩;unfold Ci yg;unfold Ol at *;simp[l,(λe=>Xo h.v (m:="learn") 2 uw e rfl),r]
include hx
theorem sO{X}{kd}{R}{z}(c:qd [X] σ=O (ϐ Ĳ) σ)(d:∀ σ,nb X (Z 0) σ=O (ϓ kd) σ)(f:∀ σ,nb X (Z 1) σ=O (Z x.2.p) σ)(i:(kd == ("word" : Str))=Ε)(g:(kd == ("ask" : Str))=Ε)(j:Ef b σ (bx [U b,X]) R z):Ef b σ (Ci [U b,X]) R z:=by
 obtain⟨a,e,r⟩:=j;exact⟨a,Ŏ h hx c d f i g e,r⟩
theorem n3{p}{m s}{G}{L}(e:x.2=qc p 0 m G L)(o:AI T N$ Ih p 0 m s G L)(B:Xk k.s (Ih p 0 m s G L) 0=Ĳ):Ef b σ (Ci [U b,vh p s]) (Cm k.s p (Ih p 0 m s G L) [ng p 0 s] V6).1 (Cm k.s p (Ih p 0 m s G L) [ng p 0 s] V6).2:=by
 have g:x.2.p=p:=by rw[e];rfl
 have c:=o;cases o with
 |Ih q hm r E ό A C M=>
 have F:∀ σ,nb (vh x.2.p s) (Z 1) σ=O (Z x.2.p) σ:=λσ=>by unfold vh;simp
 have H:∀ σ,nb (vh x.2.p s) (Z 2) σ=O (ώ [Z s.a,Z s.b]) σ:=λσ=>by unfold vh;simp
 have I:∀ σ,nb (vh x.2.p s) (Z 3) σ=O (ώ$ s.ts.map Ti.D) σ:=λσ=>by unfold vh;simp
 have J:=kU q hm.ok r.ok E A C.cl (show qk σ x.1 (qc p 0 m G L)from e ▸ (h.a x hx).1);have i:=h.app [ϔ 12 (Ih p 0 m s G L).fs];have t:qk (σ++[ϔ 12 (Ih p 0 m s G L).fs]) σ.length$ Ih p 0 m s G L:=by unfold qk;simp[Ih]
 have l:=Fr.app b σ [ϔ 12 (Ih p 0 m s G L).fs];generalize σ++[ϔ 12 (Ih p 0 m s G L).fs]=j at *;have f:∃ y∈k.as,y.2.p=((σ.length,Ih p 0 m s G L):Ka).2.p:=⟨x,hx,g⟩
 have n:=bM i (x:=(σ.length,Ih p 0 m s G L)) t c.ok c.rB f 0;rw[QL he]at n;obtain⟨sa,z⟩:=AJ i (x:=(σ.length,Ih p 0 m s G L)) t c.ok c.rB f;have sa:∀ u,jq u (U σ.length) (U$ b+2) (Z x.2.p) j=O (ϙ u) (j.set (b+2)$ Ϗ$ AV$ Qh k.as (σ.length,Ih p 0 m s G L)):=by rw[g];exact sa
 have K:∀ {d σ'},LB [U b,vh x.2.p s] σ=O d σ'->Ci [U b,vh p s] σ=O d σ':=λst=>by
  have:=ŵ h hx r.ok.st (by rw[g];exact q) st;rw[g]at this;exact this
 rw[B]at n;refine⟨j.set (b+2)$ Ϗ$ AV$ Qh k.as (σ.length,Ih p 0 m s G L),K ?_,⟨_,z,he,?_⟩,l.trans$ .set j ⋯ _⟩
 ·unfold Cm LB hX qW QV pY ZU yg;simp[F,H,I,(zu h.v),(RA h hx),(zu i.v),J,n,(λw=>Xo i.v (m:="is_good") 3 Dv w rfl),sa]
 ·unfold Kp.s Cm;dsimp only;rw[(bJ k.as (σ.length,Ih p 0 m s G L))];simp
variable(hQ:AQ k.Q)
include hQ
theorem N4{p}{m s}{G}{L}(e:x.2=Ih p 0 m s G L)(l:AI T N x.2)(u:N<=90)(g:Xk k.s (qc p 0 s (bg p 1 s.D)$ L++[Z m.n]) 0=Ĳ):Ef b σ (Ci [U b,Fi p m s]) (Cm k.s p (qc p 0 s (bg p 1 s.D)$ L++[Z m.n]) [ci p 0 m.n] V6).1 (Cm k.s p (qc p 0 s (bg p 1 s.D)$ L++[Z m.n]) [ci p 0 m.n] V6).2:=by
 obtain⟨n,a⟩:=x;dsimp only at e;subst e;have j:=(h.a _ hx).1;cases l with
 |Ih f d c v q r i t=>
 exact sO h he hx (RO f σ c.ok.st d.ok.st.n) (ZL _ _ _) (jD _ _ _) ⋯ ⋯$ ZJ (N:=N+1) (T:=T) (o:=V6) h hQ he hx (X:=Fi p m s) (R:=ci p 0 m.n) (rb:=Ε) (a':=qc p 0 s (bg p 1 s.D)$ L++[Z m.n]) rfl (.qc f (ϑ rfl) c ⋯ (ou$ ym s) (i.add _)$ by simp;lia) E8 (jD _ _ _) (ϑ ⟨rfl, "accept",ZL _ _ _,by decide⟩) (jC j rfl rfl rfl 2) (ŷ f d.ok c.ok r i.cl ⋯ j) (λσ=>rfl) g
theorem yr8{p}{m s}{G}{L}(e:x.2=wait p 1 m s G L)(r:AI T N x.2)(v:N<=90)(g:Xk k.s (qc p 1 s G$ L++[Z m.n]) 0=Ĳ):Ef b σ (Ci [U b,ci p 0 m.n]) (Cm k.s p (qc p 1 s G$ L++[Z m.n]) [] V6).1 (Cm k.s p (qc p 1 s G$ L++[Z m.n]) [] V6).2:=by
 obtain⟨n,a⟩:=x;dsimp only at e;subst e;have l:=(h.a _ hx).1;cases r with
 |wait f c d w t i j u=>
 exact sO h he hx (QK f σ (q:=0) (ϑ rfl) c.ok.st.n) (MM _ _ _) (ZE _ _ _) ⋯ ⋯$ ZJ (N:=N+1) (T:=T) (o:=V6) h hQ he hx (X:=ci p 0 m.n) (R:=Ϛ) (rb:=Ĳ) (a':=qc p 1 s G$ L++[Z m.n]) rfl (.qc f (ϕ rfl) d ⋯ i (j.add _)$ by simp;omega) TZ (ZE _ _ _) (ϑ ⟨rfl, "struck",MM _ _ _,by decide⟩) (jC l rfl rfl rfl 2) (zf3 f c.ok d.ok i j.cl ⋯ l) (λσ=>rfl) g
theorem D4{p}{m}{G}{L}(e:x.2=qc p 1 m G L)(l:AI T N x.2){s}(f:SO (T p) s)(c:s.n=m.n+1)(g:Xk k.s (wait p 1 m s (bg p 0 s.D) L) ((Dp k.s.Q p s).getD 0)=Ĳ):Ef b σ (Ci [U b,ng p 0 s]) (Cm k.s p (wait p 1 m s (bg p 0 s.D) L) [Fi p m s]$ Dp k.s.Q p s).1 (Cm k.s p (wait p 1 m s (bg p 0 s.D) L) [Fi p m s]$ Dp k.s.Q p s).2:=by
 obtain⟨n,a⟩:=x;subst e;have j:=(h.a _ hx).1;cases l with
 |qc d _ hm r o i q=>
 exact sO h he hx (wO d σ (ϑ rfl) f.ok.st) (KU _ _ _) (RC _ _ _) ⋯ ⋯$ ZJ (N:=N+1) h hQ he hx (a':=wait p 1 m s _ L) rfl (.wait d hm f c ⋯ (ou$ ym s) i$ by lia) G4 (RC _ _ _) (ϕ ⟨s,rfl,rfl⟩) (jC j rfl rfl rfl 2) (BQ d hm.ok f.ok c o i.cl j) (λσ=>rfl) g
end
theorem BV:∀ {RR:List$ List Rd} {acc:List$ List Rx} {a c:List Rx},a∈acc->Pk RR c->a++c∈Dl RR acc
 |[],acc,a,[],b,_=>by simpa [Dl]using b
 |d::RR,acc,a,p::c,b,h=>by
  have z:a++[p]∈acc.flatMap (ext d):=Rl.mpr ⟨a,b,na.mpr ⟨p,Gm.mpr h.1,rfl⟩⟩;have z:=BV (RR:=RR) z h.2;rw[Kc]at z;exact z
def Mn(a:List Rd)(m:Int):Prop:=(∃ r∈a,r.f=m)/\∀ r∈a,m<=r.f
def qG:List (List Rd)->h8->Prop
 |[],[]=>True
 |rs::a,m::ms=>Mn rs m/\qG a ms
 |_,_=>False
theorem bV:∀ {a:List$ List Rd} {ms:h8},qG a ms->∃ c,Pk a c/\(c.map λp=>p.1.f).sum=ms.sum
 |[],[],_=>⟨[],trivial,rfl⟩
 |rs::a,m::ms,h=>by
  obtain⟨c,b,e⟩:=bV h.2;obtain⟨⟨r,g,rfl⟩,_⟩:=h.1;obtain⟨i,d⟩:=List.mem_iff_getElem?.mp g;exact⟨(r,i)::c,⟨d,b⟩,by simp[e]⟩
theorem jY:∀ {a:List$ List Rd} {ms:h8} {c:List Rx},qG a ms->Pk a c->ms.sum<=(c.map λp=>p.1.f).sum
 |[],[],[],_,_=>by simp
 |rs::a,m::ms,p::c,h,k=>by
  have:=jY h.2 k.2;have:=h.1.2 p.1$ wa k.1;simp;lia
def lV{e}{b}{ms}(i:UH b)(h:qG b ms)(j:∀ c,Pk b c->gs e (Cp (c.map (·.1)))=0):Dy e b=ms.sum:=by
 have v:∀ c,Pk b c->vc e c=(c.map λp=>p.1.f).sum:=λc d=>by
  unfold vc val;rw[j c d,Va];simp;rfl
 apply Int.le_antisymm
 ·obtain⟨c,d,k⟩:=bV h;have:=ykl e$ BV (a:=[]) ⋯ d
  simp_all
 ·have g:=GX$ ż i e;have:=jY h g;rw[<-v _ g]at this;exact this
theorem OT:∀ (c:List Lo) {g:Gr} {p:Int × List Lo} {l:Lo},p∈c.foldl ub g->l∈p.2->l∈c\/∃ q∈g,l∈q.2
 |[],g,p,l,e,d=>ϕ ⟨p,e,d⟩
 |x::c,g,p,l,e,d=>by
  rcases OT c e d with h|⟨q,b,a⟩
  ·exact ϑ$ ja _ h
  ·unfold ub at b;split at b
   ·obtain⟨z,f,rfl⟩:=na.mp b;split at a
    ·rcases kc.mp a with h|h
     ·exact ϕ ⟨z,f,h⟩
     simp_all
    ·exact ϕ ⟨z,f,a⟩
   ·rcases kc.mp b with h|h
    ·exact ϕ ⟨q,h,a⟩
    simp_all
theorem YQ{a:Type}{f:a->Int}:∀ {xs:List a},(∀ x∈xs,f x=0)->(xs.map f).sum=0
 |[],_=>rfl
 |x::xs,h=>by
  have:=YQ λy b=>h y$ ja _ b
  simp_all
theorem þ{F}{e}{l:Lo}(h:l.k = "sure"):cm F e l=Ε:=by
 have a:(("sure" : Str) == "open")=Ε:=by decide
 have b:(("sure" : Str) == "hangs")=Ε:=by decide
 unfold cm qv;rw[h,a,b];rfl
def gU{e}{b:List Rd}(h:∀ r∈b,∀ l∈r.x,l.k = "sure"):gs e (Cp b)=0:=by
 refine YQ λp c=>?_;unfold Kq;rw[List.filter_eq_nil_iff.mpr]
 ·rfl
 ·intro l a;rcases OT _ c a with z|⟨q,d,_⟩
  ·obtain⟨r,f,a⟩:=Rl.mp z;rw[þ$ h r f l a];decide
  ·cases d
def B2{e}{r:Rd}(h:r.x=[]\/∃ l,r.x=[l]/\l.k = "open"/\0<=l.v):gs e (Cp [r])=0:=by
 rcases h with h|⟨l,h,i,m⟩
 ·exact gU λn j l a=>by
   have:n=r:=by simpa using j
   rw[this,h]at a;cases a
 ·have g:Cp [r]=[(l.w,[l])]:=by unfold Cp;simp[h,ub,has]
  have b:qv l=Ĳ:=by unfold qv;rw[i];decide
  have p:=E2 [l] e (x:=BD l.d) (by unfold Et;simp[b]);have o:Kq [l] (BD l.d) e=0:=by unfold Kq cm;simp[b]
  have f:∀ F,0<=Kq [l] F e:=λF=>by
   unfold Kq;by_cases c:cm F e l<;>simp[c,m]
  have:=f$ mf [l] e;rw[g];unfold gs;simp;omega
structure Pt where
 (p q u v:Int)
 t:Ti
def Pt.s0(x:Pt):Sn:=⟨0,x.u,x.v,[]⟩
def Pt.s(x:Pt):Nat->Sn
 |0=>x.s0
 |1=>eo x.s0 x.t
 |_=>jg (eo x.s0 x.t) x.t x.q
structure Pt.Ok(x:Pt):Prop where
 p:x.p=0\/x.p=1
 q:x.q=0\/x.q=1
 tp:x.t.p=1 - x.q
 t:x.t.Ok
 u:1<=x.u/\x.u<=1000000000000
 v:1<=x.v/\x.v<=1000000000000
 a:x.t.a<=ow (1 - x.q) x.s0
 y:8<x.t.y
def yy(x:Pt)(i:Nat)(b:Bool):List Sn:=if b then [x.s i,x.s$ i+1]else [x.s i]
def v1(x:Pt)(i:Nat):Int:=if i=0 then ow x.q x.s0 else ow x.q x.s0+x.t.a
def v0(x:Pt)(i:Nat):Int:=if i=0 then ow (1 - x.q) x.s0 else ow (1 - x.q) x.s0 - x.t.a
section
variable{x:Pt}(h:x.Ok)
def WE i:i=0\/i=1\/(x.s i=x.s 2/\2<=i):=by
 match i with
 |0=>simp
 |1=>simp
 |i+2=>exact ϕ$ ϕ ⟨rfl,by lia⟩
def rN:(x.s 2).ts=[]:=by
 show (jg _ x.t x.q).ts=[];simp[jg,eo,rm,Pt.s0]
theorem eN:(x.s 1).ts=[x.t]:=rfl
def wC i:(x.s i).ts=[]\/i=1/\(x.s i).ts=[x.t]:=by
 rcases WE i with rfl|rfl|⟨e,_⟩
 ·exact ϑ rfl
 ·exact ϕ ⟨rfl,rfl⟩
 ·rw[e];exact ϑ rN
include h
theorem NS i:ow x.q (x.s i)=(if i=0\/i=1 then ow x.q x.s0 else ow x.q x.s0+x.t.a)/\ow (1 - x.q) (x.s i)=v0 x i:=by
 have c:=h.tp;rcases WE (x:=x) i with rfl|rfl|⟨e,l⟩
 ·simp[Pt.s,v0]
 ·rcases h.q with b|b<;>simp[Pt.s,v0,eo,ow,sa,sb,b,c,Pt.s0]<;>lia
 ·rw[e,qa ⋯];have:v0 x i=ow (1 - x.q) x.s0 - x.t.a:=qa ⋯;rw[this];rcases h.q with b|b<;>simp[Pt.s,eo,jg,ow,sa,sb,b,c]<;>lia
theorem QE i:SO (x.u+x.v)$ x.s i:=by
 have d:=h.u;have f:=h.v;have c:=h.tp;have g:=h.t.w;have k0:x.s0.Ok$ x.u+x.v:=⟨⟨by simp[Pt.s0],by simp[Pt.s0];lia,by simp[Pt.s0];lia,by simp[Pt.s0],by simp[Pt.s0],by simp[Pt.s0]⟩,by simp[Pt.s0,Yq]⟩
 have k1:(eo x.s0 x.t).Ok$ x.u+x.v:=tK k0 ⋯ (by simp[Pt.s0]) h.t (by rw[c];exact h.a) (by simp[NW,Pt.s0]);rcases WE (x:=x) i with rfl|rfl|⟨e,_⟩
 ·exact⟨k0,by simp[Pt.s,Pt.s0]⟩
 ·exact⟨k1,λt b=>by rw[show t=x.t by simpa [eN]using b];omega⟩
 ·rw[e];exact⟨QJ k1 ⋯ (by simp[eo,Pt.s0]) (show x.t∈[x.t] by simp) h.q,λt b=>by rw[rN]at b;cases b⟩
theorem Iz i(a:i<=2):(x.s i).n=i:=by
 rcases WE (x:=x) i with rfl|rfl|⟨e,l⟩
 ·rfl
 ·rfl
 ·obtain rfl:i=2:=by lia
  rfl
theorem JO{K}(a:x.t.w∈K):lk 8 K x.q x.t = "sure":=by
 have:=h.tp;have:=h.y;unfold lk;rw[qa (by rcases h.q with e|e<;>lia),qa ⋯,ka ⟨a,h.y⟩]
theorem VP K:lk 8 K (1 - x.q) x.t = "open":=by
 have:=h.y;unfold lk;rw[ka h.tp,qa ⋯]
theorem D2{K}(a:x.t.w∈K) i:(rd 8 K x.q$ x.s i).f=v1 x i:=by
 have o:=(NS h i).1;unfold rd qy v1;dsimp only;rw[o];rcases WE (x:=x) i with rfl|rfl|⟨e,l⟩
 ·simp[Pt.s,Pt.s0]
 ·have:CD "sure" = Ĳ:=by decide
  simp[eN,fa,JO h a,this]
 ·rw[e,rN,qa ⋯,qa ⋯];simp
theorem Ļ K i:(rd 8 K (1 - x.q)$ x.s i).f=v0 x i:=by
 unfold rd qy;rw[((NS h i).2)];rcases wC (x:=x) i with e|⟨_,e⟩
 ·simp[e]
 ·have:CD "open" = Ε:=by decide
  simp[e,fa,VP h,this]
theorem yE{i}{b}{s}(a:s∈yy x i b):∃ j,s=x.s j:=by
 unfold yy at a
 grind
theorem KP{K}(c:x.t.w∈K) i b:Mn ((yy x i b).map$ rd 8 K x.q)$ v1 x i:=by
 have a:=h.t.a;have l:v1 x i<=v1 x (i+1):=by unfold v1;rw[qa (show ¬ i+1=0 by lia)];split<;>lia
 unfold yy Mn;cases b<;>simp[(D2 h c),l]
theorem A3 K i b:Mn ((yy x i b).map$ rd 8 K$ 1 - x.q)$ v0 x$ if b then i+1 else i:=by
 have a:=h.t.a;have l:v0 x (i+1)<=v0 x i:=by unfold v0;rw[qa (show ¬ i+1=0 by lia)];split<;>lia
 unfold yy Mn;cases b<;>simp[(Ļ h K),l]
theorem YB{q}(f:q=0\/q=1) i b:gm [(q,yy x i b)]:=by
 refine⟨by simp,by simpa using f,?_,?_,?_⟩
 ·simp;unfold yy;cases b<;>simp
 ·simp;intro s c;obtain⟨j,rfl⟩:=yE h c;rcases wC (x:=x) j with e|⟨_,e⟩<;>simp[e]
 ·simp;intro s c t d;obtain⟨j,rfl⟩:=yE h c;have:=h.t.a;rcases wC j with e|⟨_,e⟩<;>rw[e]at d
  ·cases d
  ·have:t=x.t:=by simpa using d
   rw[this];lia
end
def MQ{p r}(h:gm [p])(k:gm [r]):gm [p,r]:=
 ⟨by simp,by simpa using ⟨h.q p ⋯,k.q r ⋯⟩,by simpa using ⟨h.f p ⋯,k.f r ⋯⟩,λz b=>by
  rcases za.mp b with rfl|b
  ·exact h.d _ ⋯
  ·exact k.d _ b,λz b=>by
  rcases za.mp b with rfl|b
  ·exact h.a _ ⋯
  ·exact k.a _ b⟩
def j4{K}{x y}(h:x.Ok)(k:y.Ok)(E:x.t.w∈K)(F:y.t.w∈K){a c}{i j}{b d}(n:a.q=x.q/\a.y=yy x i b)(o:c.q=y.q/\c.y=yy y j d):Wk K [a,c]=v1 x i+v1 y j:=by
 unfold Wk;simp[n.1,n.2,o.1,o.2];have z:=ZR.mpr E;have A:=ZR.mpr F;rw[lV (ms:=[v1 x i,v1 y j]) (vO (MQ (YB h h.q i b)$ YB k k.q j d) 8 _) ⟨KP h z i b,KP k A j d,trivial⟩ λc B=>gU λr D l g=>?_]
 ·simp
 ·obtain⟨p,C,rfl⟩:=na.mp D;obtain⟨G,u,v⟩:=dL B p C;simp[Rk]at u;rcases u with rfl|rfl
  ·obtain⟨s,m,e⟩:=na.mp v;obtain⟨j,rfl⟩:=yE h m;rw[<-e]at g;obtain⟨t,f,rfl⟩:=na.mp g;rcases wC j with e|⟨_,e⟩<;>rw[e]at f
   ·cases f
   ·obtain rfl:t=x.t:=by simpa using f
    exact JO h z
  ·obtain⟨s,m,e⟩:=na.mp v;obtain⟨j,rfl⟩:=yE k m;rw[<-e]at g;obtain⟨t,f,rfl⟩:=na.mp g;rcases wC j with e|⟨_,e⟩<;>rw[e]at f
   ·cases f
   ·obtain rfl:t=y.t:=by simpa using f
    exact JO k A
def wk1{K}{x}(h:x.Ok){a}{i}{b}(f:a.q=1 - x.q/\a.y=yy x i b):Wk K [a]=v0 x (if b then i+1 else i):=by
 have k:1 - x.q=0\/1 - x.q=1:=by rcases h.q with e|e<;>lia
 unfold Wk;simp only[Ta,oe,f.1,f.2];rw[lV (ms:=[v0 x$ if b then i+1 else i]) (vO (YB h k i b) 8$ ks K) ⟨A3 h (ks K) i b,trivial⟩ λc d=>?_]
 ·simp
 ·match c,d with
  |[p],d=>
   have g:=wa d.1;obtain⟨s,l,e⟩:=na.mp g;obtain⟨j,rfl⟩:=yE h l;have a:=h.t.a;refine B2 ?_;dsimp only;rw[<-e];rcases wC (x:=x) j with e|⟨_,e⟩
   ·exact ϑ (by simp[rd,e])
   ·exact ϕ ⟨lo 8 (ks K) (1 - x.q) x.t,by simp only[rd,e,Ta,oe],VP h _,by show 0<=x.t.a;omega⟩
def gr(x:Pt)(q:Int)(i:Nat):D:=if i=0 then Ϛ else bg x.p (1 - q) (x.s i).D
def Mu(i:Nat):B':=(List.range i).map λ(n:Nat)=>Z n
def ac(x:Pt)(q:Int)(i:Nat)(b:Bool):Ac:=if b then xa x.p q (x.s i) (x.s$ i+1) (gr x q i) (Mu i)else qc x.p q (x.s i) (gr x q i) (Mu i)
def vv{x}{q}(a:q=0\/q=1) i b:(ac x q i b).p=x.p/\(ac x q i b).q=q/\(ac x q i b).y=yy x i b:=by
 cases b<;>rcases a with rfl|rfl<;>exact⟨rfl,rfl,rfl⟩
def hV x q i:cl (gr x q i)=Ĳ:=by
 unfold gr;split
 ·rfl
 ·exact ou$ ym _
def pK i:IL$ Mu i:=λz a=>by
 obtain⟨n,_,rfl⟩:=na.mp a
 simp_all
def BX i:Mu i++[Z i]=Mu (i+1):=by unfold Mu;rw[List.range_succ];simp
def xE{x}(h:x.Ok){T}(k:T x.p=x.u+x.v){q}(l:q=0\/q=1){i}{b}(d:(if b then i+1 else i)<=2):AI T 3$ ac x q i b:=by
 have f:=λi=>k.symm ▸ QE h i;have g:0<=x.p/\x.p<=2:=by rcases h.p with e|e<;>lia
 have j:(Mu i).length<=3:=by unfold Mu;cases b<;>simp at d ⊢<;>lia
 unfold ac xa;cases b with
 |false=>
  have:=Iz h i d;simp at d;exact .qc g l (f i) ⋯ (hV ..) (pK i) j
 |true=>
  have a:=Iz h i (by simp at d;lia);have c:=Iz h _ d;rw[ka rfl];split
  ·exact .Ih g (f i) (f _) ⋯ ⋯ (hV ..) (pK i) j
  ·exact .wait g (f i) (f _) ⋯ ⋯ (ou$ ym _) (pK i) j
theorem Z6{X}(h:pl 8 X=Ĳ):Ey X X=Ĳ:=by
 unfold Ey;rw[iD 8 X h];rfl
section
variable{b:Nat}{z:Ks}{σ:Fa}(S:Hl b z σ){x:Pt}(h:x.Ok){i:Nat}(hi:i<=1)
include S h hi
theorem BJ(a:ac x 0 i Ε∈z.A)(g:Xk z (ac x 0 i Ĳ) 0=Ĳ):Ef b σ (Ci [U b,vh x.p$ x.s$ i+1]) (ύ [ng x.p 0$ x.s$ i+1]) ⟨z.g,z.K,Gp z.A$ ac x 0 i Ĳ,z.Q⟩:=by
 obtain⟨k,d,c,rfl⟩:=S;obtain⟨y,f,e⟩:=na.mp a;have:=n3 (T:=λj=>x.u+x.v) d c f e (xE h rfl (q:=0) (b:=Ĳ) ⋯$ by simp_all) g;unfold Cm at this;rw[show Ih x.p 0 _ _ _ _=ac x 0 i Ĳ from rfl]at this
 simp_all
theorem OM(a:AQ z.Q)(c:ac x 1 i Ε∈z.A){d}{o}(m:Dp z.Q x.p (x.s$ i+1)=o)(f:o.getD 0=d)(g:Xk z (ac x 1 i Ĳ) d=Ĳ):Ef b σ (Ci [U b,ng x.p 0$ x.s$ i+1]) (ύ [Fi x.p (x.s i)$ x.s$ i+1]) ⟨z.g+d,z.K,Gp z.A$ ac x 1 i Ĳ,if o.isSome then pq z.Q (.inl x.p)else z.Q⟩:=by
 obtain⟨k,l,j,rfl⟩:=S;obtain⟨y,n,e⟩:=na.mp c;have r:=Iz h (i+1) ⋯;have:=D4 (T:=λt=>x.u+x.v) (N:=3) l j n a e (by rw[e];exact xE h rfl (q:=1) (b:=Ε) ⋯ (by simp;omega)) (QE h$ i+1) (by simp[(Iz h i$ by omega),r]) (by rw[show Dp k.s.Q x.p (x.s _)=o from m,f];exact g);unfold Cm at this;rw[show wait x.p 1 (x.s i) (x.s$ i+1) (bg x.p 0 (x.s$ i+1).D) (Mu i)=ac x 1 i Ĳ from rfl]at this
 simp_all
theorem RJ(a:AQ z.Q)(c:ac x 0 i Ĳ∈z.A)(g:Xk z (ac x 0 (i+1) Ε) 0=Ĳ):Ef b σ (Ci [U b,Fi x.p (x.s i)$ x.s$ i+1]) (ύ [ci x.p 0 i]) ⟨z.g,z.K,Gp z.A$ ac x 0 (i+1) Ε,z.Q⟩:=by
 obtain⟨k,f,d,rfl⟩:=S;obtain⟨y,j,e⟩:=na.mp c;have l:=Iz h i ⋯;have m:qc x.p 0 (x.s$ i+1) (bg x.p 1 (x.s$ i+1).D) (Mu i++[Z (x.s i).n])=ac x 0 (i+1) Ε:=by rw[l,BX];rfl
 have:=N4 (T:=λo=>x.u+x.v) (N:=3) f d j a e (by rw[e];exact xE h rfl (q:=0) (b:=Ĳ) ⋯ (by simp;lia)) ⋯ ⋯;unfold Cm at this
 simp_all
theorem dO(a:AQ z.Q)(c:ac x 1 i Ĳ∈z.A)(g:Xk z (ac x 1 (i+1) Ε) 0=Ĳ):Ef b σ (Ci [U b,ci x.p 0 i]) (ύ []) ⟨z.g,z.K,Gp z.A$ ac x 1 (i+1) Ε,z.Q⟩:=by
 obtain⟨k,f,d,rfl⟩:=S;obtain⟨y,j,e⟩:=na.mp c;have l:=Iz h i ⋯;have m:qc x.p 1 (x.s$ i+1) (bg x.p 0 (x.s$ i+1).D) (Mu i++[Z (x.s i).n])=ac x 1 (i+1) Ε:=by rw[l,BX];rfl
 have:=yr8 (T:=λo=>x.u+x.v) (N:=3) f d j a e (by rw[e];exact xE h rfl (q:=1) (b:=Ĳ) ⋯ (by simp;lia)) ⋯ ⋯;unfold Cm at this
 simp_all
end
def gO{b}{z}{a}(S:Hl b z a){x}(h:x.Ok){q}(l:q=0\/q=1){i}(o:i<=1)(c:ac x q i Ε∈z.A)(j:z.Q.length<100){ws}(m:ws.Ok)(st:ws.st q z.K (x.s i)=BD (x.s$ i+1))(g:Xk z (ac x q i Ĳ) ws.al=Ĳ):Ef b a (bz [U b,ws.D x.p]) (ώ [ϐ Ĳ,ύ$ ws.wd x.p++[lt x.p q$ x.s$ i+1]])$ Uq z x.p q (ac x q i Ĳ) (x.s$ i+1) ws:=by
 obtain⟨k,f,d,rfl⟩:=S;obtain⟨y,n,e⟩:=na.mp c;have u:=h.u;have v:=h.v;exact M0 (T:=λr=>x.u+x.v) f d n e (by rw[e];exact xE h rfl l (by simp;lia)) ⋯ (λr=>by lia) j m st g
structure Sq where
 (x y:Pt)
structure Sq.Ok(c:Sq):Prop where
 x:c.x.Ok
 y:c.y.Ok
 px:c.x.p=0
 py:c.y.p=1
 w:c.x.t.w≠c.y.t.w
def k1(c:Sq)(i:Nat)(b:Bool)(j:Nat)(d:Bool)(Q:Kv):Ks:=⟨0,[c.y.t.w,c.x.t.w],[ac c.x c.x.q i b,ac c.y c.y.q j d],Q⟩
def k0(c:Sq)(g:Int)(K:h8)(i:Nat)(b:Bool)(Q:Kv):Ks:=⟨g,K,[ac c.x (1 - c.x.q) i b],Q⟩
section
variable{c:Sq}(h:c.Ok)
include h
theorem q0:1 - c.x.q=0\/1 - c.x.q=1:=by rcases h.x.q with e|e<;>lia
theorem aR i j e b d a:Gp [ac c.x c.x.q i b,ac c.y c.y.q j d] (ac c.x c.x.q e a)=[ac c.x c.x.q e a,ac c.y c.y.q j d]:=by
 unfold Gp;simp[vv h.x.q,vv h.y.q,h.px,h.py]
theorem dC i j e b d a:Gp [ac c.x c.x.q i b,ac c.y c.y.q j d] (ac c.y c.y.q e a)=[ac c.x c.x.q i b,ac c.y c.y.q e a]:=by
 unfold Gp;simp[vv h.x.q,vv h.y.q,h.px,h.py]
theorem BW i d b a:Gp [ac c.x (1 - c.x.q) i b] (ac c.x (1 - c.x.q) d a)=[ac c.x (1 - c.x.q) d a]:=by
 unfold Gp;simp[vv$ q0 h]
theorem KY i j b d:Wk [c.y.t.w,c.x.t.w] [ac c.x c.x.q i b,ac c.y c.y.q j d]=v1 c.x i+v1 c.y j:=j4 h.x h.y ⋯ ⋯ (vv h.x.q i b).2 (vv h.y.q j d).2
theorem U7 K i b:Wk K [ac c.x (1 - c.x.q) i b]=v0 c.x (if b then i+1 else i):=wk1 h.x (vv (q0 h) i b).2
omit h in
theorem WQ{x}(h:x.Ok){i b}(l:i<=b):v1 x i<=v1 x b:=by
 have:=h.t.a;unfold v1;split<;>split<;>lia
theorem pR{i j a}{b d e}{Q}(l:i<=a):Xk (k1 c i b j d Q) (ac c.x c.x.q a e) 0=Ĳ:=by
 have:=WQ h.x l;unfold Xk k1;simp only[aR h,KY h,Xb];omega
theorem UT{i j a}{b d e}{Q}(l:j<=a):Xk (k1 c i b j d Q) (ac c.y c.y.q a e) 0=Ĳ:=by
 have:=WQ h.y l;unfold Xk k1;simp only[dC h,KY h,Xb];omega
theorem jT{g}{K}{i a}{b b'}{Q}{d}(l:v0 c.x (if b then i+1 else i) - d<=v0 c.x (if b' then a+1 else a)):Xk (k0 c g K i b Q) (ac c.x (1 - c.x.q) a b') d=Ĳ:=by
 unfold Xk k0;simp[BW h,U7 h];omega
theorem tR{x:Pt}(c:x.Ok){K}(a:x.t.w∈K):(Wi.Od x.t.w).st x.q K (x.s 1)=BD (x.s 2):=by
 have b:Yr x.t.w (x.s 1).ts=BD x.t:=by rw[eN];simp[Yr]
 unfold Wi.st;simp only[b];rw[ka ⟨c.tp,a⟩];rfl
theorem ì K:(Wi.Yn Ĳ c.x.t.a c.x.t.w c.x.t.y).st (1 - c.x.q) K (c.x.s 0)=BD (c.x.s 1):=by
 have:=h.x.t.a;unfold Wi.st;dsimp only;rw[ka ⟨⟨this,h.x.a⟩,by simp[NW,Pt.s,Pt.s0]⟩];have e:⟨1 - c.x.q,c.x.t.a,c.x.t.w,c.x.t.y⟩=c.x.t:=by rw[<-h.x.tp]
 rw[e];rfl
end
def Hl.keep{b c}{z y}{p m}(h:Hl c y p)(j:Hl b z p)(u:b+5<c\/c+5<b)(f:Fr b p m):Hl c y m:=by
 obtain⟨k,h,e⟩:=h;obtain⟨k0,j,_⟩:=j;have g:∀ {i:Nat} {o:Ob},i<=5->p[c+i]?=BD o->m[c+i]?=BD o:=λw=>f _ _ ⋯;refine⟨k,⟨⟨g (i:=0) ⋯ h.v.h0,g ⋯ h.v.h1,g ⋯ h.v.h3,g ⋯ h.v.h4⟩,g ⋯ h.h2,g ⋯ h.h5,λx t=>?_,h.d,h.n,h.z,h.o,h.q⟩,e⟩;obtain⟨i,o⟩:=h.a x t;refine⟨f _ _ ?_ i,o⟩;by_cases l:x.1<b
 ·exact ϑ l
 ·by_cases r:b+5<x.1
  ·exact ϕ r
  ·exfalso
   have i:p[x.1]?=BD (ϔ x.2.c x.2.fs):=i;have s:=o.c;rcases(show x.1=b\/x.1=b+1\/x.1=b+2\/x.1=b+3\/x.1=b+4\/x.1=b+5 by omega)with e|e|e|e|e|e<;>rw[e]at i
   ·have:=j.v.h0.symm.trans i;have:15=x.2.c:=by injection this with this;injection this
    rw[<-this]at s;simp at s
   ·cases j.v.h1.symm.trans i
   ·cases j.h2.symm.trans i
   ·cases j.v.h3.symm.trans i
   ·cases j.v.h4.symm.trans i
   ·cases j.h5.symm.trans i
def jX(P:D):List$ Str × D:=[("public",U 2),("pots",P),("every",Z 8),("keepers",U 7),("under_way",U 8),("things",U 9)]
def cZ(P:D):List$ Str × D:=[("pots",P),("day",Z 0),("claims",U 3),("shown",U 4)]
def Bd(l r u v w:Int):D:=ώ [Z l,Z r,Z u,Z v,Z w]
def pD(x:Pt)(o:Int):D:=if x.q=0 then Bd 1 o x.u x.v 9 else Bd o 1 x.u x.v 9
def PL(c:Sq):D:=ύ [pD c.x 0,pD c.y 2]
structure HA(c:Sq)(T:List TK)(rd:B')(A B:Kv)(σ:Fa):Prop where
 h0:σ[1]?=BD (ϔ 16 (jX (PL c)))
 h2:σ[2]?=BD (ϔ 9 (cZ (PL c)))
 h4:σ[4]?=BD (ϒ [U 5,U 6])
 h5:σ[5]?=BD (Ϗ A)
 h6:σ[6]?=BD (Ϗ B)
 hk:σ[7]?=BD (Ϗ [(.inl 0,U 10),(.inl 1,U 18)])
 hu:σ[8]?=BD (ϒ rd)
 ht:σ[9]?=BD (ϧ T)
def Dr{b}{n c}{a}(h:b[n]?=BD (ϔ c a)):ak b (U n)=BD (c,a):=by unfold ak;simp[h]
def wI{a:Fa}{n}{o x}(h:a[n]?=BD o):(a.set n x)[n]?=BD x:=by
 have:=(ba.mp h).1
 simp_all
def RS{a}{r}{xs}(c:a[r]?=BD (ϒ xs)) o b:Pu o b (U r) a=(b a).bind (o$ U r):=uB (xs:=xs) (by unfold Lf Cf;simp[c])
section
variable{c:Sq}{T:List TK}{rd:B'}{A B:Kv}{σ:Fa}(H:HA c T rd A B σ)
include H
theorem HA.app j:HA c T rd A B$ σ++j:=⟨Bm H.h0,Bm H.h2,Bm H.h4,Bm H.h5,Bm H.h6,Bm H.hk,Bm H.hu,Bm H.ht⟩
theorem HA.fr{b}{a}(f:Fr b σ a)(h:9<b):HA c T rd A B a:=
 have g:∀ {i:Nat} {o:Ob},i<=9->σ[i]?=BD o->a[i]?=BD o:=λd=>f _ _$ ϑ ⋯
 ⟨g ⋯ H.h0,g ⋯ H.h2,g ⋯ H.h4,g ⋯ H.h5,g ⋯ H.h6,g ⋯ H.hk,g ⋯ H.hu,g ⋯ H.ht⟩
theorem HA.way a:HA c T a A B$ σ.set 8$ ϒ a:=⟨lg ⋯ H.h0,lg ⋯ H.h2,lg ⋯ H.h4,lg ⋯ H.h5,lg ⋯ H.h6,lg ⋯ H.hk,wI H.hu,lg ⋯ H.ht⟩
theorem HA.AB ϋ:HA c ϋ rd A B$ σ.set 9$ ϧ ϋ:=⟨lg ⋯ H.h0,lg ⋯ H.h2,lg ⋯ H.h4,lg ⋯ H.h5,lg ⋯ H.h6,lg ⋯ H.hk,lg ⋯ H.hu,wI H.ht⟩
theorem BE:Lc [9,14,16] "pots" (U 1) σ=O (PL c) σ:=Oj (Dr H.h0) rfl rfl
theorem JB:Lc [16] "keepers" (U 1) σ=O (U 7) σ:=Oj (Dr H.h0) rfl rfl
theorem nL:Lc [16] "under_way" (U 1) σ=O (U 8) σ:=Oj (Dr H.h0) rfl rfl
theorem DH:Lc [16] "things" (U 1) σ=O (U 9) σ:=Oj (Dr H.h0) rfl rfl
theorem eH:Lc [16] "public" (U 1) σ=O (U 2) σ:=Oj (Dr H.h0) rfl rfl
theorem Kh{x} k a b(d:(jX$ PL c).lookup x=V6):Gk [(16,a)] k x b (U 1) σ=(b σ).bind (Ri k a$ U 1):=Oq (Dr H.h0) rfl d
theorem xF{x} k a b(d:(cZ$ PL c).lookup x=V6):Gk [(9,a)] k x b (U 2) σ=(b σ).bind (Ri k a$ U 2):=Oq (Dr H.h2) rfl d
theorem VU{w}{n}(a:w=0/\n=10\/w=1/\n=18):am (U 7) (Z w) σ=O (U n) σ:=DB H.hk (by rcases a with⟨rfl,rfl⟩|⟨rfl,rfl⟩<;>rfl)
theorem OD{w}(a:w=0\/w=1\/w=2):Nu (Z w) (U 7) σ=O (ϐ$ decide$ w≠2) σ/\Qq (Z w) (U 7) σ=O (ϐ$ decide$ w=2) σ:=by
 have e:Sg σ (U 7)=BD [(.inl 0,U 10),(.inl 1,U 18)]:=by unfold Sg;simp[H.hk]
 unfold Nu Qq;simp[Bi,e];rcases a with rfl|rfl|rfl<;>exact⟨rfl,rfl⟩
end
def Hl.set{b r}{z}{g}{o}(h:Hl b z g)(m:g[r]?=BD o)(l:(∃ xs,o=ϒ xs)\/∃ T,o=ϧ T) x:Hl b z$ g.set r x:=by
 obtain⟨k,h,e⟩:=h;have j:∀ {q c:Nat} {s:List _},g[q]?=BD _->(g.set r x)[q]?=BD (ϔ c s):=λf=>lg (λe=>by
  subst e;rw[m]at f;rcases l with⟨_,rfl⟩|⟨_,rfl⟩<;>cases f) f
 have i:∀ {q:Nat} {t:Kv},g[q]?=BD _->(g.set r x)[q]?=BD (Ϗ t):=λf=>lg (λe=>by
  subst e;rw[m]at f;rcases l with⟨_,rfl⟩|⟨_,rfl⟩<;>cases f) f
 exact⟨k,⟨⟨j h.v.h0,i h.v.h1,i h.v.h3,i h.v.h4⟩,i h.h2,i h.h5,λx p=>⟨j (h.a x p).1,(h.a x p).2⟩,h.d,h.n,h.z,h.o,h.q⟩,e⟩
@[simp] theorem zps f c b a d:aI f c b a d=Ik a (EM a c b) (f a d):=Ul ..
@[simp] theorem zp1 c b d a e:EM a c b d e=Ik a (MN a b) (c a e):=Ul ..
@[simp] theorem zp2 b x a c:MN a b x c=Ik a (ME a x) (b a c):=Ul ..
theorem XF{c:Type}{f:D->Option c}:∀ {a:B'},(∀ d∈a,∃ k,f d=BD k)->∃ ks,Rv f a=BD ks
 |[],_=>⟨_,rfl⟩
 |d::a,h=>by
  obtain⟨k,e⟩:=h d la;obtain⟨ks,g⟩:=XF λx b=>h x$ ja _ b;unfold Rv
  simp_all
def EB n i:∃ k,wv n (Z i)=BD k:=by cases n<;>exact⟨_,rfl⟩
def SU n x:∃ k,wv n (ϓ x)=BD k:=by cases n<;>exact⟨_,rfl⟩
def pH{n}{a}(h:∀ d∈a,∃ k,wv n d=BD k):∃ k,wv (n+1) (ώ a)=BD k:=by
 obtain⟨ks,e⟩:=XF h;exact⟨.inr ks,by show (Rv _ a).map Sum.inr=_;rw[e];rfl⟩
def ypx(s:Sn):∃ k,wv 4 s.D=BD k:=pH λd a=>by
 simp at a;rcases a with rfl|rfl|rfl
 ·exact EB ..
 ·exact pH λd a=>by
   simp at a;rcases a with rfl|rfl<;>exact EB ..
 ·exact pH λd a=>by
   obtain⟨t,_,rfl⟩:=na.mp a;exact pH λd a=>by
    simp at a;rcases a with rfl|rfl|rfl|rfl<;>exact EB ..
def Cq(s:Int)(Y:D):D:=ώ [Z$ 1 - s,Y]
section
variable{c:Sq}(hc:c.Ok){T:List TK}{A B:Kv}
include hc
theorem x8:∃ l r:Int,pD c.x 0=Bd l r c.x.u c.x.v 9/\(l=1/\r=0\/l=0/\r=1):=by
 unfold pD;rcases hc.x.q with e|e<;>rw[e]
 ·exact⟨1,0,rfl,ϑ ⟨rfl,rfl⟩⟩
 ·exact⟨0,1,rfl,ϕ ⟨rfl,rfl⟩⟩
theorem PH:∃ l r:Int,pD c.y 2=Bd l r c.y.u c.y.v 9/\(c.y.q=0/\l=1/\r=2\/c.y.q=1/\l=2/\r=1):=by
 unfold pD;rcases hc.y.q with e|e<;>rw[e];all_goals simp_all
theorem CP{s:Int}(F:s=0\/s=1)(L:Option D):∀ (R rd:B') (a:Fa) (q g h:Option D),(∀ Y∈R,∀ a,nb Y (Z 1) a=O (Z 0) a)->rd.length+R.length<900->HA c T rd A B a->∃ t y z,Nj (je 3) eA R [BD$ U 1,BD$ Z s,L,q,g,h] a=O (ϙ [BD$ U 1,BD$ Z s,L,t,y,z]) (a.set 8$ ϒ$ rd++R.map (Cq s))
 |[],rd,a,q,g,h,_,_,H=>⟨q,g,h,by rw[Nw,oe,Oe,vH H.hu]⟩
 |Y::R,rd,a,q,g,h,C,E,H=>by
  have m:=C Y la;have j:=BE H;have i:=JB H;have k:=nL H;have f:=(OD H (w:=1 - s)$ by lia).1;rw[rc ⋯]at f;have e:=YK (d:=Cq s Y) H.hu (by simp at E;lia);have n:=λJ=>RS H.hu Kj J;have N:∀ x,(a.set 8$ ϒ$ rd++[Cq s Y]).set 8 x=a.set 8 x:=λx=>Lk ..;obtain⟨l,r,I,M⟩:=x8 hc;have p:∀ a,nb (PL c) (Z 0) a=O (Bd l r c.x.u c.x.v 9) a:=λa=>by unfold PL;rw[I];simp
  have o:∀ a,Ku (Bd l r c.x.u c.x.v 9) V6 (BD 2) a=O (ώ [Z l,Z r]) a:=λa=>by unfold Bd;rw[Ww];rfl
  obtain⟨t,y,z,G⟩:=CP F L R (rd++[Cq s Y]) _ (BD Y) (BD$ ώ [Z l,Z r]) (BD$ Z$ 1 - s) (λϊ K=>C ϊ$ ja _ K) (by simp at E ⊢;lia) (H.way$ rd++[Cq s Y]);refine⟨t,y,z,?_⟩;rw[N,Kc]at G;rw[Iq];simp only[Cb,Lb];have b:eA [BD$ U 1,BD$ Z s,L,BD Y,g,h] a=O (ϙ [BD$ U 1,BD$ Z s,L,BD Y,BD$ ώ [Z l,Z r],BD$ Z$ 1 - s]) (a.set 8$ ϒ$ rd++[Cq s Y]):=by
   unfold Cq at e ⊢;generalize PL c=P,Bd l r c.x.u c.x.v 9=Q,a.set 8 (ϒ$ rd++[ώ [Z$ 1 - s,Y]])=ό at *;unfold eA;rcases F with rfl|rfl<;>rcases M with⟨rfl,rfl⟩|⟨rfl,rfl⟩
   ·rw[show (1 - 0:Int)=1 from rfl]at *;simp[m,j,i,k,p,o,f,n,e]
   ·rw[show (1 - 0:Int)=1 from rfl]at *;simp[m,j,i,k,p,o,f,n,e]
   ·rw[show (1 - 1:Int)=0 from rfl]at *;simp[m,j,i,k,p,o,f,n,e]
   ·rw[show (1 - 1:Int)=0 from rfl]at *;simp[m,j,i,k,p,o,f,n,e]
  rw[b,ze,Tk,G];simp
theorem ED{s}(f:s=0\/s=1){R rd}{a}(b:∀ Y∈R,∀ a,nb Y (Z 1) a=O (Z 0) a)(d:rd.length+R.length<900)(H:HA c T rd A B a):Lp [U 1,Z s,ύ R] a=O Ϛ (a.set 8$ ϒ$ rd++R.map (Cq s)):=by
 obtain⟨g,h,i,e⟩:=CP hc f (BD$ ύ R) R rd a V6 V6 V6 b d H;unfold Lp EJ yg
 simp_all
end
def wk(w:Int):TK:=[.inl$ .inr "word",.inl$ .inl w]
theorem QO w:Ip [ϓ "word",Z w]=BD (wk w):=rfl
set_option tactic.hygienic true in
def δ{a}{r}{k}(h:Ip (ϓ a::r)=BD k):∃ c,k=.inl (.inr a)::c:=by
 unfold Ip Rv at h;split at h
 ·next k1 ks b d=>
  cases h;cases b;exact⟨_,rfl⟩
 ·cases h
def w8{T}{k a}:a∈aq T k ↔ a∈T\/a=k:=by
 unfold aq;all_goals grind
theorem fU:∀ (ks T:List TK) (k:TK),k∈ks.foldl aq T ↔ k∈T\/k∈ks
 |[],T,k=>by simp
 |a::ks,T,k=>by
  rw[oi,fU ks,w8,za,or_assoc]
theorem tW:∀ (ks T:List TK),(ks.foldl aq T).length<=T.length+ks.length
 |[],T=>by simp
 |a::ks,T=>by
  have:=tW ks$ aq T a;have:(aq T a).length<=T.length+1:=by unfold aq;split<;>simp
  simp;lia
structure Bl(p:Int)(Y:D)(ws:h8):Prop where
 i1:∀ σ,nb Y (Z 1) σ=O (Z p) σ
 t:∃ tl:List (B' × TK),(∀ σ,wc [Y] σ=O (ύ (tl.map λz=>ώ z.1)) σ)/\(∀ z∈tl,Ip z.1=BD z.2)/\tl.length<=2/\(∀ w,wk w∈tl.map (·.2) ↔ w∈ws)
def Wd(T:List TK)(a:h8):Prop:=T.length<=50/\∀ w,wk w∈T ↔ w∈a
section
variable{c:Sq}{rd:B'}{A B:Kv}
theorem eX(Y:Option D):∀ (a:List$ B' × TK) (T:List TK) (σ:Fa) (b:Option D),(∀ z∈a,Ip z.1=BD z.2)->T.length+a.length<900->HA c T rd A B σ->∃ g,Nj (je 2) LX (a.map λz=>ώ z.1) [BD$ U 1,Y,b] σ=O (ϙ [BD$ U 1,Y,g]) (σ.set 9 (ϧ ((a.map (·.2)).foldl aq T)))
 |[],T,σ,b,_,_,H=>⟨b,by rw[oe,Nw,oe,List.foldl_nil,vH H.ht]⟩
 |z::a,T,σ,b,f,e,H=>by
  have k:∀ d,ME d (U 9) (ώ z.1) σ=O (ϙ d) (σ.set 9$ ϧ$ aq T z.2):=λd=>by
   unfold ME;simp[(f z la),H.ht];show T.length<1000;simp at e;lia
  have j:=DH H;have:(aq T z.2).length<=T.length+1:=by unfold aq;split<;>simp
  obtain⟨g,i⟩:=eX Y a (aq T z.2) (σ.set 9$ ϧ$ aq T z.2) (BD$ ώ z.1) (λy h=>f y$ ja _ h) (by simp at e ⊢;lia) (H.AB _);rw[Lk]at i
  simp_all
def O7{T}{a}(H:HA c T rd A B a){p}{Y}{f W}(h:Bl p Y f)(g:Wd T W)(n:T.length<=40):∃ b,QB [U 1,Y] a=O Ϛ (a.set 9$ ϧ b)/\Wd b (W++f)/\b.length<=T.length+2:=by
 obtain⟨o,d,l,i,m,j⟩:=h;obtain⟨q,e⟩:=eX (BD Y) d T a V6 i ⋯ H;have k:=tW (d.map (·.2)) T;rw[Ea]at k;refine⟨(d.map (·.2)).foldl aq T,?_,⟨by lia,λw=>by rw[fU,g.2,j];simp⟩,by lia⟩;unfold QB FQ yg;simp[l,e]
end
def zJ{Y}{k}{xs}(c:∀ σ,nb Y (Z 0) σ=O (ϓ k) σ)(d:(k == ("ask" : Str))=Ε)(e:(k == ("word" : Str))=Ε)(f:∀ σ,Ku Y (BD 2) V6 σ=O (ώ xs) σ)(a:qf xs=Ĳ) σ:wc [Y] σ=O (ύ xs) σ:=by
 have b:∀ σ,ig σ _=O _ σ:=λσ=>HG (ô _) a;unfold wc Pc;simp[c,d,e,f,b,a]
def M4{w n}(h:wk w=wk n):w=n:=by
 have e:(Sum.inl _)=Sum.inl _:=(um (um h).2).1
 simp_all
def wH{p}{Y}{tl:List$ B'}(j:∀ c,nb Y (Z 1) c=O (Z p) c)(l:∀ c,wc [Y] c=O (ύ$ tl.map ώ) c)(g:∀ b∈tl,∃ a r k,b=ϓ a::r/\a ≠ "word"/\Ip b=BD k)(h:tl.length<=2):Bl p Y []:=by
 refine⟨j,tl.map λb=>(b,(Ip b).getD []),λc=>?_,λz i=>?_,by simpa using h,λw=>?_⟩
 ·rw[l,Va];rfl
 ·obtain⟨b,d,rfl⟩:=na.mp i;obtain⟨_,_,k,_,_,e⟩:=g b d;simp[e]
 ·simp;intro b d e;obtain⟨a,r,k,rfl,m,f⟩:=g b d;rw[f]at e;obtain⟨n,rfl⟩:=δ f;have e:(Sum.inl _)=Sum.inl _:=(um e).1
  simp_all
def xG p q(s:Sn):∃ k,Ip [ϓ "agree",Z p,Z q,s.D]=BD k:=XF λd a=>by
 simp at a;rcases a with rfl|rfl|rfl|rfl
 ·exact SU ..
 ·exact EB ..
 ·exact EB ..
 ·exact ypx s
def UG p q n:∃ k,Ip [ϓ "strike",Z p,Z q,Z n]=BD k:=XF λd a=>by
 simp at a;rcases a with rfl|rfl|rfl|rfl
 ·exact SU ..
 all_goals exact EB ..
def kQ:("agree" : Str) ≠ "word":=by decide
def sR:("strike" : Str) ≠ "word":=by decide
@[simp] theorem K1:(("offer" : Str) == "ask")=Ε:=by decide
@[simp] theorem O9:(("offer" : Str) == "word")=Ε:=by decide
@[simp] theorem yux:(("word" : Str) == "ask")=Ε:=by decide
@[simp] theorem A4:(("accept" : Str) == "ask")=Ε:=by decide
@[simp] theorem Y8:(("accept" : Str) == "word")=Ε:=by decide
@[simp] theorem Ĭ:(("struck" : Str) == "ask")=Ε:=by decide
@[simp] theorem S9:(("struck" : Str) == "word")=Ε:=by decide
section
variable(p n:Int)(m s:Sn)
def YR a:wc [ng p 0 s] a=O (ύ [bg p 0 s.D]) a:=zJ (KU _ _ _) K1 O9 (λa=>by unfold ng;rw[Ww];rfl) (by simp[ou$ ym s]) a
def sV a:wc [Fi p m s] a=O (ύ [bg p 1 s.D,Bk p 1 m.n]) a:=zJ (ZL _ _ _) A4 Y8 (λa=>by unfold Fi;rw[Ww];rfl) (by simp[ou$ ym s,Bk]) a
def bX a:wc [ci p 0 n] a=O (ύ [Bk p 0 n]) a:=zJ (MM _ _ _) Ĭ S9 (λa=>by unfold ci;rw[Ww];rfl) (by simp[Bk]) a
def CU a:wc [vh p s] a=O (ύ []) a:=by
 have b:∀ a,nb (vh p s) (Z 0) a=O (ϓ "ask") a:=λa=>by unfold vh;simp
 unfold wc Pc;dsimp only
 simp_all
def x3 a:wc [Ol p n] a=O (ύ [ώ [ϓ "word",Z n]]) a:=by
 unfold wc Ol Pc;simp
def wY:Bl p (ng p 0 s) []:=wH (tl:=[[ϓ "agree",Z p,Z 0,s.D]]) (RC _ _ _) (YR p s) (λb a=>by
 obtain rfl:=Ia.mp a;obtain⟨k,e⟩:=xG p 0 s;exact⟨_,_,k,rfl,kQ,e⟩) ⋯
def Ŕ:Bl p (Fi p m s) []:=wH (tl:=[[ϓ "agree",Z p,Z 1,s.D],[ϓ "strike",Z p,Z 1,Z m.n]]) (jD _ _ _) (sV p m s) (λb a=>by
 rcases za.mp a with rfl|a
 ·obtain⟨k,e⟩:=xG p 1 s;exact⟨_,_,k,rfl,kQ,e⟩
 ·obtain rfl:=Ia.mp a;obtain⟨k,e⟩:=UG p 1 m.n;exact⟨_,_,k,rfl,sR,e⟩) ⋯
def T4:Bl p (ci p 0 n) []:=wH (tl:=[[ϓ "strike",Z p,Z 0,Z n]]) (ZE _ _ _) (bX p n) (λb a=>by
 obtain rfl:=Ia.mp a;obtain⟨k,e⟩:=UG p 0 n;exact⟨_,_,k,rfl,sR,e⟩) ⋯
def ã:Bl p (vh p s) []:=wH (tl:=[]) (λc=>by unfold vh;simp) (CU p s) (λb a=>by cases a) ⋯
def D7:Bl p (Ol p n) [n]:=⟨λb=>by unfold Ol;simp,[([ϓ "word",Z n],wk n)],x3 p n,λz a=>by
 obtain rfl:=Ia.mp a;exact QO n,by simp,λw=>by
  rw[Ta,oe,Ia,Ia];exact⟨M4,λe=>e ▸ rfl⟩⟩
end
section
variable{c:Sq}(hc:c.Ok){rd:B'}{A B:Kv}
include hc
theorem TU(L:Option D):∀ (R:List$ D × h8) (T:List TK) (W:h8) (a:Fa) (f d e:Option D),(∀ z∈R,Bl 1 z.1 z.2)->T.length+2 * R.length<=40->Wd T W->HA c T rd A B a->∃ g j k m,Nj (je 3) eA (R.map (·.1)) [BD$ U 1,BD$ Z 1,L,f,d,e] a=O (ϙ [BD$ U 1,BD$ Z 1,L,j,k,m]) (a.set 9$ ϧ g)/\Wd g (W++R.flatMap (·.2))/\g.length<=T.length+2 * R.length
 |[],T,W,a,f,d,e,_,_,h,H=>⟨T,f,d,e,by rw[oe,Nw,vH H.ht],by simpa using h,by simp⟩
 |z::R,T,W,a,f,d,e,p,C,h,H=>by
  have n:=p z la;have E:=BE H;have i:=JB H;have o:=(OD H (w:=2)$ by omega).1;rw[gc ⋯]at o;simp at C;obtain⟨ϋ,K,M,S⟩:=O7 H n h ⋯;have I:=λt=>Kh H (x:="tell_band") 2 QB t rfl;obtain⟨l,r,s,G⟩:=PH hc;have ό:∀ a,nb (PL c) (Z 1) a=O (Bd l r c.y.u c.y.v 9) a:=λa=>by unfold PL;rw[s];simp
  have J:∀ a,Ku (Bd l r c.y.u c.y.v 9) V6 (BD 2) a=O (ώ [Z l,Z r]) a:=λa=>by unfold Bd;rw[Ww];rfl
  obtain⟨V,j,k,m,q,N,X⟩:=TU L R ϋ (W++z.2) (a.set 9$ ϧ ϋ) (BD z.1) (BD$ ώ [Z l,Z r]) (BD$ Z 2) (λy F=>p y$ ja _ F) ⋯ M (H.AB ϋ);refine⟨V,j,k,m,?_,by simpa using N,by simp;omega⟩;rw[Lk]at q;rw[Ta,Iq];simp only[Cb,Lb];have b:eA [BD$ U 1,BD$ Z 1,L,BD z.1,d,e] a=O (ϙ [BD$ U 1,BD$ Z 1,L,BD z.1,BD$ ώ [Z l,Z r],BD$ Z 2]) (a.set 9$ ϧ ϋ):=by
   generalize PL c=P,Bd l r c.y.u c.y.v 9=Q,a.set 9 (ϧ ϋ)=Y at *;unfold eA;rcases G with⟨_,rfl,rfl⟩|⟨_,rfl,rfl⟩<;>simp[n.i1,E,i,ό,J,o,I,K]
  rw[b,ze,Tk,q]
theorem NU{R:List$ D × h8}{T}{W}{b}(d:∀ z∈R,Bl 1 z.1 z.2)(g:T.length+2 * R.length<=40)(f:Wd T W)(H:HA c T rd A B b):∃ a,Lp [U 1,Z 1,ύ (R.map (·.1))] b=O Ϛ (b.set 9$ ϧ a)/\Wd a (W++R.flatMap (·.2))/\a.length<=T.length+2 * R.length:=by
 obtain⟨a,h,i,j,e,w,l⟩:=TU hc (BD (ύ (R.map (·.1)))) R T W b V6 V6 V6 d g f H;refine⟨a,?_,w,l⟩;unfold Lp EJ yg;simp[e]
end
def Yi{a}{n}{o}(h:a[n]?=BD o):ig a (O (U n) a)=O (U n) a:=by
 unfold ig;dsimp only;rw[ka ⋯];have:fz a.length a 6 (U n)=BD (U n):=by
  unfold fz;dsimp only;rw[ka$ (ba.mp h).1]
  simp_all
 rw[this]
def oH{a}{n}{xs}(h:a[n]?=BD (ϒ xs)):gi a (U n)=BD xs:=by unfold gi;simp[Lf,Cf,h]
def T9{a}{n}{xs}(h:a[n]?=BD (ϒ xs)){k}{d}(e:km xs k=BD d):nb (U n) (Z k) a=O d a:=by simp[nb,oH h,e]
def Hl.sC{b}{z}{d}(h:Hl b z d){m} n a c(j:(Qj b 8 0).lookup m=V6):Gk [(15,a)] n m c (U b) d=(c d).bind (Ri n a$ U b):=by
 obtain⟨k,h,e,_⟩:=h;exact Xo h.v n a c (by
  have:∀ e g f i:Int,((Qj b e g).lookup m=V6) ↔ ((Qj b f i).lookup m=V6):=λe g f i=>by
   unfold Qj
   simp_all
  exact(this ..).mp j)
def Hl.at{b}{z}{a}(h:Hl b z a):∃ o,a[b]?=BD o:=by
 obtain⟨k,h,_⟩:=h;exact⟨_,h.v.h0⟩
structure Ha(c:Sq)(z0 z1:Ks)(T:List TK)(rd:B')(A B:Kv)(σ:Fa):Prop where
 H:HA c T rd A B σ
 a:Hl 10 z0 σ
 b:Hl 18 z1 σ
 r:qf rd=Ĳ
 l:rd.length<=20
section
variable{c:Sq}{z0 z1:Ks}{T:List TK}{rd:B'}{A B:Kv}{σ:Fa}
def Ha.Az(S:Ha c z0 z1 T rd A B σ){f}{R}{z}(E:Ef 10 σ f R z):∃ d,f σ=O R d/\Ha c z z1 T rd A B d:=by
 obtain⟨d,e,s,fr⟩:=E;exact⟨d,e,S.H.fr fr ⋯,s,S.b.keep S.a ⋯ fr,S.r,S.l⟩
def Ha.Ax(S:Ha c z0 z1 T rd A B σ){f}{R}{z}(E:Ef 18 σ f R z):∃ d,f σ=O R d/\Ha c z0 z T rd A B d:=by
 obtain⟨d,e,s,fr⟩:=E;exact⟨d,e,S.H.fr fr ⋯,S.a.keep S.b ⋯ fr,s,S.r,S.l⟩
def Ha.way(S:Ha c z0 z1 T rd A B σ){d}(f:qf d=Ĳ)(e:d.length<=20):Ha c z0 z1 T d A B$ σ.set 8$ ϒ d:=⟨S.H.way d,S.a.set S.H.hu (ϑ ⟨_,rfl⟩) _,S.b.set S.H.hu (ϑ ⟨_,rfl⟩) _,f,e⟩
def Ha.AB(S:Ha c z0 z1 T rd A B σ) ϋ:Ha c z0 z1 ϋ rd A B$ σ.set 9$ ϧ ϋ:=⟨S.H.AB ϋ,S.a.set S.H.ht (ϕ ⟨_,rfl⟩) _,S.b.set S.H.ht (ϕ ⟨_,rfl⟩) _,S.r,S.l⟩
variable(S:Ha c z0 z1 T rd A B σ)
include S
theorem jH:Jt [U 1] σ=O (ύ rd) σ:=by
 unfold Jt Xf;simp[(nL S.H),(HG (oH S.H.hu) S.r),S.r]
theorem aF{w}{b}(c:w=0/\b=10\/w=1/\b=18):Ps [U 1,Z w] σ=O (U b) σ:=by
 have o:∃ o,σ[b]?=BD o:=by rcases c with⟨_,rfl⟩|⟨_,rfl⟩;exact S.a.at;exact S.b.at
 obtain⟨o,e⟩:=o;have d:=(OD S.H (w:=w)$ by lia).2;rw[gc ⋯]at d;have g:=VU S.H c;have fr:=Yi e;unfold Ps Xf;simp[(JB S.H),d,g,fr]
theorem rV{w:Int}{b}(f:w=0/\b=10\/w=1/\b=18){m} n c d(e:(Qj b 8 0).lookup m=V6):Gk [(15,c)] n m d (U b) σ=(d σ).bind (Ri n c$ U b):=by
 rcases f with⟨_,rfl⟩|⟨_,rfl⟩
 ·exact S.a.sC n c d e
 ·exact S.b.sC n c d e
theorem tD{w}{b}(f:w=0/\b=10\/w=1/\b=18){X}{t}{R}{a d}(e:bz [U b,X] σ=O (ώ [ϐ t,ύ R]) a)(g:∀ c,Gk [(16,Lp)] 3 "send" c (U 1) a=(c a).bind (Ri 3 Lp$ U 1))(s:Lp [U 1,Z w,ύ R] a=O Ϛ d):zr [U 1,Z w,X] σ=O (ϐ t) d:=by
 unfold zr yg;simp[(λc=>Kh S.H (x:="keeper") 2 Ps c rfl),(aF S f),(λc=>rV S f (m:="wish") 2 bz c rfl),e,g,s]
theorem eU{w}{b}(f:w=0/\b=10\/w=1/\b=18){X}{R}{a c}(e:Ci [U b,X] σ=O (ύ R) a)(s:Lp [U 1,Z w,ύ R] a=O Ϛ c):Bz [U 1,Z w,X] σ=O Ϛ c:=by
 unfold Bz yg;simp[(JB S.H),(VU S.H f),(λd=>rV S f (m:="take") 2 Ci d rfl),e,(λd=>Kh S.H (x:="send") 3 Lp d rfl),s]
end
section
variable{c:Sq}(hc:c.Ok){z0 z1 z0' z1':Ks}{T:List TK}{A B:Kv}{σ:Fa}
include hc
theorem Y4{w}{b}(z:w=0/\b=10\/w=1/\b=18){X}{rd R}(S:Ha c z0 z1 T (ώ [Z w,X]::rd) A B σ)(G:∀ a,Ha c z0 z1 T rd A B a->∃ g,Ci [U b,X] a=O (ύ R) g/\Ha c z0' z1' T rd A B g)(p:∀ Y∈R,(∀ σ,nb Y (Z 1) σ=O (Z 0) σ)/\cl Y=Ĳ)(y:rd.length+R.length<=20):∃ a,Pd [U 1,Z 0,ϐ Ε] σ=O Ϛ a/\Ha c z0' z1' T (rd++R.map (Cq w)) A B a:=by
 have i:=S.H.hu;have F:=S.l;have q:=nL S.H;have n:=S.r;rw[qf,Ga]at n;have C:Fo [U 8] σ=O (Z (rd.length+1:Nat)) σ:=by unfold Fo;simp[oH i]
 have t:Ce [Z 0,Z 0,Z (rd.length:Int)] σ=O _ σ:=bt ⋯ σ;have u:FB [U 1,Z 0] σ=O Ϛ σ:=by
  unfold FB Xf;simp[q,C,t]
 have E:ZA (U 8) [Z 0] σ=O (ώ [Z w,X]) (σ.set 8$ ϒ rd):=by
  have:Cf σ 8=BD (ώ [Z w,X]::rd):=by unfold Cf;simp[i]
  unfold ZA;simp[this]
 have j:=S.way n.2 (by simp at F;lia);obtain⟨a,e,o⟩:=G _ j;refine⟨_,?_,o.way ?_ (by simpa using y)⟩
 ·unfold Pd FR;simp[q,u,(λf=>Kh S.H (x:="check_letter") 2 FB f rfl),(T9 i (k:=0) (d:=ώ [Z w,X])$ show km _ ((0:Nat):Int)=_ from iq rfl),(λf=>RS i ZA f),E,(λf=>Kh j.H (x:="hand_over") 3 Bz f rfl),(eU j z e$ ED hc (s:=w) ⋯ (λY m=>(p Y m).1) ⋯ o.H)]
 ·exact Kn λd v=>by
   rcases kc.mp v with h|h
   ·exact FU n.2 _ h
   ·obtain⟨Y,m,rfl⟩:=na.mp h;simp[Cq,(p Y m).2]
end
def Q3{a}{n}{xs}{i:Nat}{d}(h:a[n]?=BD (ϒ xs))(b:xs[i]?=BD d):nb (U n) (Z i) a=O d a:=by
 have l:Cf a n=BD xs:=by unfold Cf;rw[h]
 simp[nb,gi,l,iq b]
def Æ{a}{n}{A}(h:a[n]?=BD (Ϗ A)):Sg a (U n)=BD A:=by unfold Sg;simp[h]
theorem gR{b}{a}{n k i}{e ρ1}{c}{xs}{d}(h:Cf c n=BD xs)(f:xs[i]?=BD d)(g:b d e=BD ρ1):Bq b a n (k+1) i e c=(a ρ1 c).bind (bu$ Bq b a n k$ i+1):=by
 rw[Bq];simp only[h,f,g];rfl
def ĸ{e}{a}{n k i}{c}{b}{xs}(h:Cf b n=BD xs)(d:xs[i]?=V6):Bq e a n (k+1) i c b=O (ϙ c) b:=by
 rw[Bq];simp[h,d]
def IY b a:Sg (b++[Ϗ a]) (U b.length)=BD a:=by unfold Sg;simp
def XP{c}{kvs b}{j}(e:c[j]?=BD (Ϗ b))(h:kvs.length+b.length<=1000):cA (U c.length) [U j] (c++[Ϗ kvs])=O Ϛ (c++[Ϗ$ Bt kvs b]):=by
 have d:=(ba.mp e).1;have f:(c++[Ϗ kvs])[c.length]?=BD (Ϗ kvs):=by simp
 have g:Sg (c++[Ϗ kvs]) (U j)=BD b:=by unfold Sg;dsimp only;rw[Za d,e]
 unfold cA;simp only[f,g];have a:(apart c.length (U j) && decide (kvs.length+b.length<=Dg))=Ĳ:=by
  unfold apart;simp only[Ga,Xb];exact⟨by simp;lia,h⟩
 rw[ka a,ZB]
def Q5{σ}{x}{a}{vs}(d:Lf σ x=V6)(b:Sg σ x=BD a)(c:Kw a=BD vs)(e:vs.length<64):ig σ (kw [x] σ)=O (ύ$ (Qn vs).map Z) σ:=by
 have o:kw [x] σ=O (U σ.length) (σ++[ϒ$ (Qn vs).map Z]):=by
  unfold kw;simp[d];unfold rF;simp[b,c];rw[ka e];rfl
 rw[o];exact rz ⋯
def Qg:Option Int->Kv
 |none=>[]
 |some w=>[(.inl w,Z 0)]
section
variable{c:Sq}{z0 z1:Ks}{T:List TK}{rd:B'}{o:Option Int}{σ:Fa}(S:Ha c z0 z1 T rd (Qg o) (Qg o) σ)
include S
theorem BK:qw [U 2] σ=O (ύ$ o.toList.map Z) σ:=by
 have r:Lc [9] "shown" (U 2) _=O _ (σ++[Ϗ []]):=Oj (Dr (S.H.app _).h2) rfl rfl;have h:∀ a c,Zw cA c (U σ.length) (σ++[Ϗ a])=(c$ σ++[Ϗ a]).bind (cA$ U σ.length):=λa c=>by
  unfold Zw;rw[IY];rfl
 have i:Bt (Bt []$ Qg o) (Qg o)=Qg o:=by
  cases o with
  |none=>rfl
  |some w=>simp[Qg,Bt,ij]
 have g:Bt [] (Qg o)=Qg o:=by cases o<;>rfl
 rw[g]at i;have t:(Qg o).length<=1:=by cases o<;>simp[Qg]
 have u5:=XP (kvs:=[]) S.H.h5 (by simp;lia);have u6:=XP (kvs:=Qg o) S.H.h6 ⋯;rw[g]at u5;rw[i]at u6;have e:lG [BD$ U 2,BD$ U σ.length,BD$ U 5] (σ++[Ϗ []])=O (ϙ [BD$ U 2,BD$ U σ.length,BD$ U 5]) (σ++[Ϗ$ Qg o]):=by simp[h,u5]
 have f:lG [BD$ U 2,BD$ U σ.length,BD$ U 6] (σ++[Ϗ$ Qg o])=O (ϙ [BD$ U 2,BD$ U σ.length,BD$ U 6]) (σ++[Ϗ$ Qg o]):=by simp[h,u6]
 have b:∀ a,Cf (σ++[Ϗ a]) 4=BD [U 5,U 6]:=λa=>by unfold Cf;rw[Bm S.H.h4]
 have q:Bq (je 2) lG 4 1001 0 [BD$ U 2,BD$ U σ.length,V6] (σ++[Ϗ []])=O (ϙ [BD$ U 2,BD$ U σ.length,BD$ U 6]) (σ++[Ϗ$ Qg o]):=by
  rw[gR (k:=1000) (d:=U 5) (ρ1:=[BD$ U 2,BD$ U σ.length,BD$ U 5]) (b _) rfl rfl,e,ze,Tk,gR (k:=999) (d:=U 6) (ρ1:=[BD$ U 2,BD$ U σ.length,BD$ U 6]) (b _) rfl rfl,f,ze,Tk,ĸ (k:=998) (b _) rfl]
 have s:Au (U 4) (σ++[Ϗ []])=O (.Xl 4) (σ++[Ϗ []]):=by unfold Au;simp[b]
 have p:∀ (l:D->Ev->Option Ev) (body:Ev->M Fl) (m:Ev) (n:Nat),gE l body m (.Xl n)=Bq l body n 1001 0 m:=λu u u u=>rfl;have j:=Q5 (σ:=σ++[Ϗ$ Qg o]) (x:=U σ.length) (by unfold Lf Cf;simp) (IY σ _) (vs:=o.toList) (by cases o<;>rfl) (by cases o<;>simp);rw[show Qn o.toList=o.toList by cases o<;>simp[Qn]]at j;have fz:ig σ (O (ύ$ o.toList.map Z)$ σ++[Ϗ$ Qg o])=O (ύ$ o.toList.map Z) σ:=UL (by cases o<;>rfl) ⋯;unfold qw HQ Xf;simp[r,s,p,q,j,fz]
theorem P5{b}{w}{W}(a:Wd T W)(c:w∈W ↔ b=Ĳ):Fy (ώ [ϓ "word",Z w]) (U 9) σ=O (ϐ b) σ:=by
 unfold Fy;simp[QO,S.H.ht];rw[zf,Xb,a.2,c]
theorem ybo{w}{W}(d:Wd T W)(c:w ∉ W)(f:o≠BD w):Dt [U 1,ώ [ϓ "word",Z w]] σ=O (ϐ Ε) σ:=by
 have e:Es Ε (Z w) (ύ$ o.toList.map Z) σ=O (ϐ Ε) σ:=by
  rw[UC rfl];cases o with
  |none=>rfl
  |some v=>simp_all
 unfold Dt Xf;simp[(DH S.H),(P5 S (b:=Ε) (w:=w) d$ by simp[c]),(BK S),(λa=>xF S.H (x:="all_shown") 1 qw a rfl),(eH S.H),e]
theorem VM{p w}{W}(e:Wd T W)(c:w ∉ W)(d:o≠BD w):Hc [U 1,Z p,Z w] σ=O (ϐ Ĳ) σ:=by
 have h:Ir [U 1,Z p,Z w] σ=.ex ⟨2⟩ σ:=by
  unfold Ir yg;simp[(ybo S e c d),(λa=>Kh S.H (x:="band_can") 2 Dt a rfl)]
 have f:∀ g b σ,Nv b _ [⟨GH [(1,Ε),_],V6,g⟩] σ=hit ⟨GH [(1,Ε),(2,Ĳ)],V6,g⟩ b ⟨2⟩ σ:=λg b σ=>Ė rfl;unfold Hc xV;simp[(λa=>Kh S.H (x:="show") 3 Ir a rfl),h,f]
end
section
variable{c:Sq}(hc:c.Ok){z0 z1:Ks}{T:List TK}{rd:B'}{A B:Kv}{σ:Fa}(S:Ha c z0 z1 T rd A B σ)
include S
theorem TY{i}(b:i=0\/i=1):kB [U 1,Z i] σ=O (ϐ Ĳ) σ:=by
 have d:=BE S.H;have e:Fo [PL c] σ=O _ σ:=oO _;have a:Ce [Z i,Z 0,Z 1] σ=O _ σ:=bt ⋯ σ;unfold kB Xf;dsimp only
 simp_all
omit S in
theorem Hl.Ow{b r}{z}{y}(h:Hl b z σ)(p:σ[r]?=BD (Ϗ y))(s:r<b) x:Hl b z$ σ.set r x:=by
 obtain⟨k,h,e⟩:=h;have j:∀ {q c:Nat} {m:List _},σ[q]?=BD _->(σ.set r x)[q]?=BD (ϔ c m):=λg=>lg (λe=>by subst e;rw[p]at g;cases g) g;have f:∀ {i:Nat} {o:Ob},σ[b+i]?=BD o->(σ.set r x)[b+i]?=BD o:=λg=>lg ⋯ g;exact⟨k,⟨⟨j h.v.h0,f h.v.h1,f h.v.h3,f h.v.h4⟩,f h.h2,f h.h5,λx l=>⟨j (h.a x l).1,(h.a x l).2⟩,h.d,h.n,h.z,h.o,h.q⟩,e⟩
theorem Ha.P6 x:Ha c z0 z1 T rd x B$ σ.set 5$ Ϗ x:=⟨⟨lg ⋯ S.H.h0,lg ⋯ S.H.h2,lg ⋯ S.H.h4,wI S.H.h5,lg ⋯ S.H.h6,lg ⋯ S.H.hk,lg ⋯ S.H.hu,lg ⋯ S.H.ht⟩,S.a.Ow S.H.h5 ⋯ _,S.b.Ow S.H.h5 ⋯ _,S.r,S.l⟩
theorem Ha.K8 x:Ha c z0 z1 T rd A x$ σ.set 6$ Ϗ x:=⟨⟨lg ⋯ S.H.h0,lg ⋯ S.H.h2,lg ⋯ S.H.h4,lg ⋯ S.H.h5,wI S.H.h6,lg ⋯ S.H.hk,lg ⋯ S.H.hu,lg ⋯ S.H.ht⟩,S.a.Ow S.H.h6 ⋯ _,S.b.Ow S.H.h6 ⋯ _,S.r,S.l⟩
theorem dS{i:Nat}(l:i=0\/i=1){w}(o:0<=w/\w<=59){W}(k:Wd T W)(j:w∈W)(b:σ[5+i]?=BD (Ϗ [])):Ir [U 1,Z i,Z w] σ=O Ϛ (σ.set (5+i)$ Ϗ$ Qg$ BD w):=by
 have t:Fy (ώ [ϓ "word",Z w]) (U 9) σ=O (ϐ Ĳ) σ:=by
  unfold Fy;simp only[QO,S.H.ht];rw[rc$ (k.2 w).mpr j]
 have h:Dt [U 1,ώ [ϓ "word",Z w]] σ=O (ϐ Ĳ) σ:=by
  unfold Dt Xf;simp[(DH S.H),t]
 have m:Lc [9,14,16] "pots" (U 2) σ=O _ σ:=Oj (Dr S.H.h2) rfl rfl;have n:Lc [9] "shown" (U 2) σ=O _ σ:=Oj (Dr S.H.h2) rfl rfl;have p:Lc [7,9] "day" (U 2) σ=O _ σ:=Oj (Dr S.H.h2) rfl rfl;have r:Fo [PL c] σ=O _ σ:=oO _;have e:Ce [Z i,Z 0,Z 1] σ=O _ σ:=bt ⋯ σ;have g:RE [U 2,Z i] σ=O Ϛ σ:=by
  unfold RE Xf;dsimp only;generalize PL c=P at *;simp[m,r,e]
 have q:nb _ (Z i) σ=O (U$ 5+i) σ:=Q3 S.H.h4 (by rcases l with rfl|rfl<;>rfl);have s:Qq (Z w) (U$ 5+i) σ=O (ϐ Ĳ) σ:=by
  unfold Qq;simp only[Bi,Æ b];rfl
 have f:bD [U 2,Z i,Z w] σ=O Ϛ (σ.set (5+i)$ Ϗ$ Qg$ BD w):=by
  unfold bD yg;simp[g,(λa=>xF S.H (x:="check_pot") 2 RE a rfl),(fL o σ),n,p,q,s,(λρ=>At (ρ:=ρ) (d:=Z 0) (w:=w) b ⋯)];rfl
 unfold Ir yg;simp[h,(λa=>Kh S.H (x:="band_can") 2 Dt a rfl),(eH S.H),(λa=>xF S.H (x:="show") 3 bD a rfl),f]
include hc
theorem Η:YD [U 1,Z 1] σ=O (ύ [Z 1]) σ:=by
 have f:=BE S.H;obtain⟨l,r,b,k⟩:=PH hc;have a:∀ σ,nb (PL c) (Z 1) σ=O (Bd l r c.y.u c.y.v 9) σ:=λσ=>by unfold PL;rw[b];simp
 have m:∀ σ,Ku (Bd l r c.y.u c.y.v 9) V6 (BD 2) σ=O (ώ [Z l,Z r]) σ:=λσ=>by unfold Bd;rw[Ww];rfl
 have l1:=tE (xs:=[l,r]) (s:=.seq [Z l,Z r]) (ix:=[0]) (fi:=eT$ Ab Nu (Ba 0)$ gf (Lc [16] "keepers")$ Ba 2) (fe:=Ba 0) (src:=Gi$ yF (Ab nb (gf (Lc [9,14,16] "pots")$ Ba 0)$ Ba 1) V6$ BD$ eC$ Z 2) (ρ:=[BD$ U 1,BD$ Z 1]) (σ:=σ) Z Z (λw=>decide$ w≠2) (by
  simp[f,a,m]) (λi n=>zb BD$ ft [l,r] Z i) ⋯ (λw g j=>by
  have h:=(OD (S.H.app j) (w:=w)$ by simp at g;lia).1;exact⟨by simp[(JB$ S.H.app j),h],λn=>by simp⟩) (λw n n=>rfl)
 have e:([l,r].filter λw=>decide$ w≠2).map Z=[Z 1]:=by
  rcases k with⟨_,rfl,rfl⟩|⟨_,rfl,rfl⟩<;>rfl
 rw[e]at l1;unfold YD Xf;simp[(TY S (i:=1)$ by lia),(λd=>Kh S.H (x:="has_pot") 2 kB d rfl),l1,-cp]
theorem B1{s}(f:s=1 - c.y.q):ID [U 1,Z 1,Z s] σ=O (ϐ Ĳ) σ:=by
 have d:=TY S (i:=1) ⋯;have m:=λb=>Kh S.H (x:="has_pot") 2 kB b rfl;have e:=BE S.H;have o:=hc.y.q;obtain⟨l,r,a,k⟩:=PH hc;have g:∀ σ,nb (PL c) (Z 1) σ=O (Bd l r c.y.u c.y.v 9) σ:=λσ=>by unfold PL;rw[a];simp
 have h:∀ σ,nb (Bd l r c.y.u c.y.v 9) (Z s) σ=O (Z 2) σ:=λσ=>by
  rcases k with⟨q,rfl,rfl⟩|⟨q,rfl,rfl⟩<;>rw[f,q]<;>unfold Bd<;>simp
 have j:=JB S.H;have n:=(OD S.H (w:=2)$ by lia).2;unfold ID Xf;dsimp only;generalize PL c=L,Bd l r c.y.u c.y.v 9=P at *;simp[d,m,e,g,(JM (s:=s) ⋯ σ),h,j,n]
theorem P4{x}{r}{k}(b:Ip (ϓ x::Z 1::Z (1 - c.y.q)::r)=BD k)(d:(x == ("word" : Str))=Ε):Dt [U 1,ώ$ ϓ x::Z 1::Z (1 - c.y.q)::r] σ=O (ϐ Ĳ) σ:=by
 have o:Fy (ώ$ ϓ x::Z 1::Z (1 - c.y.q)::r) (U 9) σ=O (ϐ$ decide$ k∈T) σ:=by
  unfold Fy;simp[b,S.H.ht]
 have e:nb (ώ$ ϓ x::Z 1::Z (1 - c.y.q)::r) (Z 0) σ=O _ σ:=Gx (show km _ _=_ from iq rfl);have f:nb (ώ$ ϓ x::Z 1::Z (1 - c.y.q)::r) (Z 1) σ=O _ σ:=Gx (show km _ _=_ from iq rfl);have g:nb (ώ$ ϓ x::Z 1::Z _::r) (Z 2) σ=O (Z$ 1 - c.y.q) σ:=Gx (show km _ _=_ from iq rfl);unfold Dt Xf;dsimp only;generalize ώ _=L,decide (k∈T)=B at *;cases B<;>simp[(DH S.H),o,e,d,f,g,(λa=>Kh S.H (x:="is_side_of_band") 3 ID a rfl),(B1 hc S rfl)]
theorem J8{L}{d:List$ B'}(z:qd [L] σ=O (ϐ Ĳ) σ)(w:nb L (Z 1) σ=O (Z 1) σ)(t:∀ σ,wc [L] σ=O (ύ$ d.map ώ) σ)(F:d.length<=2)(p:∀ y∈d,∃ x r k,y=ϓ x::Z 1::Z (1 - c.y.q)::r/\Ip y=BD k/\(x == ("word" : Str))=Ε){R}{m g}(E:Ci [U 18,L] σ=O (ύ R) m)(C:Lp [U 1,Z 1,ύ R] m=O Ϛ g):lq [U 1,L] σ=O Ϛ g:=by
 have l:=ww (xs:=d) (s:=.seq _) (src:=Gi$ lf 1 wc []$ Na (Ba 1) Db) (ix:=[0]) (ρ:=[BD _,BD L,BD$ ύ [Z 1]]) (σ:=σ) (fe:=Yf [(16,Dt)] 2 "band_can" (Ba 2)$ Na (Ba 0) Db) ώ (λD=>ϐ Ĳ) (by simp[t]) (λi D=>zb BD$ ft _ _ i) ⋯ (λy v j=>by
  obtain⟨x,r,k,rfl,o,u⟩:=p y v;have n:=P4 hc (σ:=σ++j) ⟨S.H.app j,S.a.app j,S.b.app j,S.r,S.l⟩ o u;show Yf _ 2 "band_can" _ _ [BD _,V6,BD$ U 1] _=_;generalize ώ _=Y at *;simp[(λe=>Kh (S.H.app j) (x:="band_can") 2 Dt e rfl),n]) (λD D=>rfl)
 have h:JE [ύ _] σ=O (ϐ$ d.all λD=>Ĳ) σ:=yQ (σ:=σ) (f:=λD=>Ĳ) (l:=d);rw[Bb.mpr ⋯]at h;have A:Fo [ύ [Z 1]] σ=O (Z 1) σ:=oO _;have B:Lj (Z 1) (Z 1) σ=O (ϐ Ε) σ:=by simp
 unfold lq yg;dsimp only;generalize d.map (λD=>ϐ Ĳ)=ϊ at *;simp[z,w,(Η hc S),(λe=>Kh S.H (x:="keeping_hands") 2 YD e rfl),A,B,l,h,(λe=>Kh S.H (x:="hand_over") 3 Bz e rfl),(eU S (ϕ ⟨rfl,rfl⟩) E C),-cp]
end
def Ha.app{c}{d e}{T}{rd}{A B}{f}(S:Ha c d e T rd A B f) j:Ha c d e T rd A B$ f++j:=⟨S.H.app j,S.a.app j,S.b.app j,S.r,S.l⟩
section
variable{c:Sq}(hc:c.Ok){z0 z1:Ks}{T:List TK}{rd:B'}{A B:Kv}{W:h8}(hW:Wd T W)
include hc hW
theorem MI{a}(S:Ha c z0 z1 T rd A B a){X}{z}{R}(t:qd [X] a=O (ϐ Ĳ) a)(s:nb X (Z 1) a=O (Z 1) a){ts:List$ B'}(o:∀ a,wc [X] a=O (ύ$ ts.map ώ) a)(m:ts.length<=2)(n:∀ y∈ts,∃ x r k,y=ϓ x::Z 1::Z (1 - c.y.q)::r/\Ip y=BD k/\(x == ("word" : Str))=Ε)(E:Ef 18 a (Ci [U 18,X]) (ύ R) z)(j:∀ Y∈R,Bl 1 Y [])(C:R.length<=1)(w:T.length<=30):∃ f b,lq [U 1,X] a=O Ϛ f/\Ha c z0 z b rd A B f/\Wd b W/\b.length<=T.length+2:=by
 obtain⟨f,v,g⟩:=S.Ax E;obtain⟨b,d,h,u⟩:=NU hc (R:=R.map λY=>(Y,[])) (λz p=>by obtain⟨Y,l,rfl⟩:=na.mp p;exact j Y l) (by rw[Ea];lia) hW g.H;rw[Va]at d;have e:R.map ((·.1) ∘ λY=>(Y,([]:h8)))=R:=List.map_id' R;rw[e]at d;have i:(R.map λY=>(Y,([]:h8))).flatMap (·.2)=[]:=by simp
 rw[i,Oe]at h;simp at u;exact⟨_,b,J8 hc S t s o m n v d,g.AB b,h,by omega⟩
end
section
variable{c:Sq}(hc:c.Ok){z0:Ks}{rd:B'}{A B:Kv}{W:h8}{i:Nat}{b:Bool}
include hc
theorem uG{q}(e:c.y.q=q){j a}{d f}{Q}(l:j<=a):Xk (k1 c i b j d Q) (ac c.y q a f) 0=Ĳ:=e ▸ UT hc l
theorem mD{q}(e:c.y.q=q) j d Q:ac c.y q j d∈(k1 c i b j d Q).A:=by subst e;simp[k1]
theorem È(a:c.y.q=1){T}(j:Wd T W)(h:T.length<=30){f}(S:Ha c z0 (k1 c i b 0 Ε []) T rd A B f):∃ g d,lq [U 1,ng 1 0$ c.y.s 1] f=O Ϛ g/\Ha c z0 (k1 c i b 0 Ĳ []) d rd A B g/\Wd d W/\d.length<=T.length+2:=by
 have E:=OM S.b hc.y (i:=0) ⋯ (by intro z n;cases n) (mD hc a ..) (o:=V6) (by rfl) (by rfl)$ uG hc a$ ua 0;refine MI hc j S (wO ⋯ f (ϑ rfl)$ (QE hc.y 1).ok.st) (RC ..) (ts:=[[ϓ "agree",Z 1,Z 0,(c.y.s 1).D]]) (YR 1 _) ⋯ (λy m=>?_) ?_ (R:=[Fi 1 (c.y.s 0)$ c.y.s 1]) (λY l=>?_) ⋯ h
 ·obtain rfl:=Ia.mp m;obtain⟨k,e⟩:=xG 1 0 _;exact⟨_,_,k,by rw[a];rfl,e,by decide⟩
 ·have u:=dC hc i 0 0 b Ε Ĳ;unfold k1 at E ⊢;simp only[hc.py,a]at E u ⊢
  rwa [u]at E
 ·obtain rfl:=Ia.mp l;exact Ŕ ..
theorem B6(d:c.y.q=1){T}(j:Wd T W)(h:T.length<=30){f}(S:Ha c z0 (k1 c i b 0 Ĳ []) T rd A B f):∃ g a,lq [U 1,ci 1 0 0] f=O Ϛ g/\Ha c z0 (k1 c i b 1 Ε []) a rd A B g/\Wd a W/\a.length<=T.length+2:=by
 have E:=dO S.b hc.y ⋯ (by intro z n;cases n) (mD hc d ..)$ uG hc d$ re 0;refine MI hc j S (QK ⋯ f (ϑ rfl)$ by lia) (ZE ..) (ts:=[[ϓ "strike",Z 1,Z 0,Z 0]]) (bX 1 0) ⋯ (λy m=>?_) ?_ (R:=[]) (λY l=>by cases l) ⋯ h
 ·obtain rfl:=Ia.mp m;obtain⟨k,e⟩:=UG 1 0 0;exact⟨_,_,k,by rw[d];rfl,e,by decide⟩
 ·have u:=dC hc i 0 1 b Ĳ Ε;unfold k1 at E ⊢;simp[hc.py]at E u ⊢
  simp_all
theorem D8(e:c.y.q=0){T}(h:Wd T W)(g:T.length<=30){d}(S:Ha c z0 (k1 c i b 0 Ε []) T rd A B d):∃ f a,lq [U 1,vh 1$ c.y.s 1] d=O Ϛ f/\Ha c z0 (k1 c i b 0 Ĳ []) a rd A B f/\Wd a W/\a.length<=T.length+2:=by
 have E:=BJ S.b hc.y ⋯ (mD hc e ..)$ uG hc e$ ua 0;refine MI hc h S (cY ⋯ d$ (QE hc.y 1).ok.st) (by unfold vh;simp) (ts:=[]) (CU 1 _) ⋯ (λy k=>by cases k) ?_ (R:=[ng 1 0$ c.y.s 1]) (λY j=>?_) ⋯ g
 ·have u:=dC hc i 0 0 b Ε Ĳ;unfold k1 at E ⊢;simp[hc.py]at E u ⊢
  simp_all
 ·obtain rfl:=Ia.mp j;exact wY ..
theorem Ť(a:c.y.q=0){T}(l:Wd T W)(j:T.length<=30){g}(S:Ha c z0 (k1 c i b 0 Ĳ []) T rd A B g):∃ h d,lq [U 1,Fi 1 (c.y.s 0)$ c.y.s 1] g=O Ϛ h/\Ha c z0 (k1 c i b 1 Ε []) d rd A B h/\Wd d W/\d.length<=T.length+2:=by
 have E:=RJ S.b hc.y (i:=0) ⋯ (by intro z n;cases n) (mD hc a ..)$ uG hc a$ re 0;refine MI hc l S (RO ⋯ g ((QE hc.y 1).ok.st)$ by simp[Pt.s,Pt.s0]) (jD ..) (ts:=[[ϓ "agree",Z 1,Z 1,(c.y.s 1).D],[ϓ "strike",Z 1,Z 1,Z 0]]) (sV 1 _ _) ⋯ (λy f=>?_) ?_ (R:=[ci 1 0 0]) (λY m=>?_) ⋯ j
 ·rcases za.mp f with rfl|f
  ·obtain⟨k,e⟩:=xG 1 1 _;exact⟨_,_,k,by rw[a];rfl,e,by decide⟩
  ·obtain rfl:=Ia.mp f;obtain⟨k,e⟩:=UG 1 1 0;exact⟨_,_,k,by rw[a];rfl,e,by decide⟩
 ·have u:=dC hc i 0 1 b Ĳ Ε;unfold k1 at E ⊢;simp[hc.py,a]at E u ⊢
  simp_all
 ·obtain rfl:=Ia.mp m;exact T4 ..
end
def gk{f g}{c a}{d b}{r}(h:f c d=O (ϙ a) b)(e:Bo (g a b)=r):Bo (Nc f g c d)=r:=by rw[Uk,h,ze,Kl,e]
def IW{b}{z}{c}(S:Hl b z c){a}(f:a∈z.A):∃ n,Dw [U b,Z a.p] c=O (U n) c/\Lc [10,11,12,13] "mine" (U n) c=O a.m.D c:=by
 obtain⟨k,d,g,rfl⟩:=S;obtain⟨y,e,rfl⟩:=na.mp f;obtain⟨i,o⟩:=d.a y e;exact⟨y.1,ë d e,Px i o⟩
section
variable{c:Sq}(hc:c.Ok){z0:Ks}{rd:B'}{A B:Kv}{W:h8}{i:Nat}{b:Bool}
include hc
theorem Ω b:∃ L,OP [BD$ U 1,BD$ Z c.y.q,BD$ ώ [Z c.y.u,Z c.y.v],BD c.y.t.D,V6,V6] b=O (ϙ [BD$ U 1,BD$ Z c.y.q,BD$ ώ [Z c.y.u,Z c.y.v],BD c.y.t.D,BD$ U b.length,V6]) (b++[ϒ [Z c.y.u,Z c.y.v]])/\AW [BD$ U 1,BD$ Z c.y.q,BD$ ώ [Z c.y.u,Z c.y.v],BD c.y.t.D,BD$ U b.length,V6] (b++[ϒ [Z c.y.u,Z c.y.v]])=O (ϙ [BD$ U 1,BD$ Z c.y.q,BD$ ώ [Z c.y.u,Z c.y.v],BD c.y.t.D,BD$ U b.length,V6]) (b++[ϒ L])/\MS [BD$ U 1,BD$ Z c.y.q,BD$ ώ [Z c.y.u,Z c.y.v],BD c.y.t.D,BD$ U b.length,V6] (b++[ϒ L])=O (ϙ [BD$ U 1,BD$ Z c.y.q,BD$ ώ [Z c.y.u,Z c.y.v],BD c.y.t.D,BD$ U b.length,BD (c.y.s 1).D]) (b++[ϒ L]):=by
 have f:=JW c.y.t;have d:=hc.y.tp;have h:(c.y.s 1).D=ώ [Z 1,ώ [Z$ sa c.y.t.p (-c.y.t.a) c.y.u,Z$ sb c.y.t.p (-c.y.t.a) c.y.v],ώ [c.y.t.D]]:=rfl;have g:∀ L,AE [U b.length] (b++[ϒ L])=O (ώ L) (b++[ϒ L]):=λL=>by unfold AE;simp[gi,FN]
 rw[h];rcases hc.y.q with q|q
 ·rw[q]at d ⊢;refine⟨[Z c.y.u,Z$ c.y.v - c.y.t.a],by simp,?_,?_⟩
  ·have x:nb (U b.length) (Z 1) (b++[ϒ [Z c.y.u,Z c.y.v]])=O (Z c.y.v) _:=DW (show km _ ((1:Nat):Int)=_ from iq rfl);generalize c.y.t.D=e at *;simp[f,x]
  ·rw[d,show sa (1 - 0) (-c.y.t.a) c.y.u=c.y.u from rfl,show sb (1 - 0) (-c.y.t.a) c.y.v=c.y.v - c.y.t.a from by simp[sb];lia];generalize c.y.t.D=e at *;simp[g]
 ·rw[q]at d ⊢;refine⟨[Z$ c.y.u - c.y.t.a,Z c.y.v],by simp,?_,?_⟩
  ·have x:nb (U b.length) (Z 0) (b++[ϒ [Z c.y.u,Z c.y.v]])=O (Z c.y.u) _:=DW (show km _ ((0:Nat):Int)=_ from iq rfl);generalize c.y.t.D=e at *;simp[f,x]
  ·rw[d,show sa (1 - 1) (-c.y.t.a) c.y.u=c.y.u - c.y.t.a from by simp[sa];omega,show sb (1 - 1) (-c.y.t.a) c.y.v=c.y.v from rfl];generalize c.y.t.D=e at *;simp[g]
theorem O0{T}(Q:Wd T W)(hT:T.length<=20){d}(S:Ha c z0 (k1 c i b 0 Ε []) T rd A B d):∃ e f,be [U 1,Z c.y.q,ώ [Z c.y.u,Z c.y.v],c.y.t.D] d=O (ϐ Ĳ) e/\Ha c z0 (k1 c i b 1 Ε []) f rd A B e/\Wd f W/\f.length<=T.length+4:=by
 obtain⟨L,s1,s2,s3⟩:=Ω hc d;have r:=S.app [ϒ L];generalize d++[ϒ L]=K at *;have R:=λg=>Kh r.H (x:="band") 2 lq g rfl;have E:∀ d,nb (c.y.s 1).D (Z 1) d=O (ώ [Z (c.y.s 1).a,Z (c.y.s 1).b]) d:=K54.s1 _;have F:∀ d,nb (c.y.s 1).D (Z 2) d=O (ώ$ (c.y.s 1).ts.map Ti.D) d:=K54.s2 _;have V:∃ e f,yG [BD$ U 1,BD$ Z c.y.q,BD$ ώ [Z c.y.u,Z c.y.v],BD c.y.t.D,BD$ U d.length,BD (c.y.s 1).D] K=O (ϙ [BD$ U 1,BD$ Z c.y.q,BD$ ώ [Z c.y.u,Z c.y.v],BD c.y.t.D,BD$ U d.length,BD (c.y.s 1).D]) e/\Ha c z0 (k1 c i b 1 Ε []) f rd A B e/\Wd f W/\f.length<=T.length+4:=by
  rcases hc.y.q with q|q
  ·obtain⟨e,ϋ,p,k,I,l1⟩:=D8 hc q Q ⋯ r;obtain⟨h,C,j,z,J,l2⟩:=Ť hc q I ⋯ k;have G:=λg=>Kh k.H (x:="band") 2 lq g rfl;refine⟨h,C,?_,z,J,by omega⟩;unfold vh at p;unfold Fi bg Bk at j;rw[q];rw[show (c.y.s 0).n=0 from rfl]at j;generalize (c.y.s 1).D=M,c.y.t.D=N at *;unfold yG;simp[R,G,p,j,E,F]
  ·obtain⟨e,ϋ,p,k,I,l1⟩:=È hc q Q ⋯ r;obtain⟨h,C,j,z,J,l2⟩:=B6 hc q I ⋯ k;have G:=λg=>Kh k.H (x:="band") 2 lq g rfl;refine⟨h,C,?_,z,J,by omega⟩;unfold ng bg at p;unfold ci Bk at j;rw[q];generalize (c.y.s 1).D=M,c.y.t.D=N at *;unfold yG;simp[R,G,p,j]
 obtain⟨e,f,X,o,w,l⟩:=V;refine⟨e,f,?_,o,w,l⟩;have kp:=aF o$ ϕ ⟨rfl,rfl⟩;have mk:=λg=>Kh o.H (x:="keeper") 2 Ps g rfl;have ma:=λg=>o.b.sC (m:="account") 2 Dw g rfl;obtain⟨n,ό,P⟩:=IW o.b (a:=ac c.y c.y.q 1 Ε) (by simp[k1]);rw[(vv hc.y.q 1 Ε).1,hc.py]at ό;rw[show (ac c.y c.y.q 1 Ε).m=c.y.s 1 from rfl]at P;have ϊ:rj (c.y.s 1).D (c.y.s 1).D e=O (ϐ Ĳ) e:=kK$ BR 5 _;have Y:JJ [BD$ U 1,BD$ Z c.y.q,BD$ ώ [Z c.y.u,Z c.y.v],BD c.y.t.D,BD$ U d.length,BD (c.y.s 1).D] e=O (.rt$ ϐ Ĳ) e:=by
  generalize (c.y.s 1).D=M,c.y.t.D=N at *;unfold JJ;simp[kp,mk,ma,ό,P,ϊ]
 unfold be DS
 (try dsimp only);rw[Rs]
 exact gk s1$ gk s2$ gk s3$ gk X (by rw[Y];rfl)
end
inductive Cv(c:Sq)(T:List TK)(A B:Kv):Nat->Ks->Ks->B'->Ks->Ks->Prop where
 |nil {z0 z1:Ks}:Cv c T A B 0 z0 z1 [] z0 z1
 |step {n:Nat} {w:Int} {b:Nat} {X:D} {rd R:B'} {z0 z1 y0 y1 x0 x1:Ks} (hw:w=0/\b=10\/w=1/\b=18) (tk:∀ τ,Ha c z0 z1 T rd A B τ->∃ τ',Ci [U b,X] τ=O (ύ R) τ'/\Ha c y0 y1 T rd A B τ') (hR:∀ Y∈R,(∀ σ,nb Y (Z 1) σ=O (Z 0) σ)/\cl Y=Ĳ) (hl:rd.length+R.length<=20) (k:Cv c T A B n y0 y1 (rd++R.map (Cq w)) x0 x1):Cv c T A B (n+1) z0 z1 (ώ [Z w,X]::rd) x0 x1
section
variable{c:Sq}(hc:c.Ok){T:List TK}{A B:Kv}
include hc
theorem nM:∀ (m n k:Nat) (a d:Ks) (rd:B') (x0 g:Ks) (y:Option D) (σ:Fa),n<=m->Cv c T A B n a d rd x0 g->Ha c a d T rd A B σ->∃ h f,Nj (je 1) nz ((List.range' k m).map λ(i:Nat)=>Z i) [BD$ U 1,y] σ=O (ϙ [BD$ U 1,h]) f/\Ha c x0 g T [] A B f
 |0,n,k,a,d,rd,x0,g,y,σ,E,C,S=>by
  obtain rfl:n=0:=by lia
  cases C;exact⟨y,σ,by rw[List.range'_zero,oe,Nw],S⟩
 |m+1,n,k,a,d,rd,x0,g,y,σ,E,C,S=>by
  have r:=jH S;have q:=λo=>Kh S.H (x:="road") 1 Jt o rfl;rw[List.range'_succ,Ta,Iq];simp only[Cb,Lb];cases C with
  |nil=>
   obtain⟨h,f,e,l⟩:=nM m 0 (k+1) a d [] a d (BD$ Z k) σ ⋯ .nil S;refine⟨h,f,?_,l⟩;have p:Lj _ (ύ []) σ=O (ϐ Ε) σ:=uv rfl;have b:nz [BD$ U 1,BD$ Z k] σ=O (ϙ [BD$ U 1,BD$ Z k]) σ:=by
    unfold nz;simp[r,q,p]
   rw[b,ze,Tk,e]
  |@step n w b X rd R _ _ I J _ _ hw G v z C=>
   obtain⟨j,u,s⟩:=Y4 hc hw S G v z;obtain⟨h,f,e,l⟩:=nM m n (k+1) I J _ x0 g (BD$ Z k) j ⋯ C s;refine⟨h,f,?_,l⟩;have p:Lj (ύ$ ώ [Z w,X]::rd) (ύ []) σ=O (ϐ Ĳ) σ:=aG (b:=Ε) rfl;have F:=λo=>Kh S.H (x:="deliver") 2 (λt=>Pd$ t++[ϐ Ε]) o rfl;have b:nz [BD$ U 1,BD$ Z k] σ=O (ϙ [BD$ U 1,BD$ Z k]) j:=by
    generalize ύ (ώ [Z w,X]::rd)=K at *;unfold nz;simp[r,q,p,F,u]
   rw[b,ze,Tk,e]
theorem mQ{n}(o:n<=12){h j f g}{rd}{b}(C:Cv c T A B n h j rd f g)(S:Ha c h j T rd A B b):∃ a,Nd [U 1] b=O (ϐ Ĳ) a/\Ha c f g T [] A B a:=by
 obtain⟨p,a,e,d⟩:=nM hc 12 n 0 h j rd f g V6 b o C S;refine⟨a,?_,d⟩;have k:rj _ (ύ []) a=O (ϐ Ĳ) a:=kK rfl;have q:Hy (Z 12) b=O (.seq$ (List.range' 0 12).map λ(i:Nat)=>Z i) b:=by rw[NN ⋯ ⋯];rfl
 have l:xn (Gy$ eC$ Z 12) (je 1) nz [BD$ U 1,V6] b=O (ϙ [BD$ U 1,p]) a:=by
  simp_all
 unfold Nd rR
 (try dsimp only);rw[Rs]
 exact gk l (by simp[(jH d),(λm=>Kh d.H (x:="road") 1 Jt m rfl),k])
end
def qL p n:cl (Ol p n)=Ĳ:=by simp[Ol]
section
variable{c:Sq}(hc:c.Ok){T:List TK}{A B:Kv}{i j:Nat}{d:Bool}{Q:Kv}{g:Int}{K:h8}
include hc
theorem gH{q}(e:c.x.q=q){i a}{b f}(l:i<=a):Xk (k1 c i b j d Q) (ac c.x q a f) 0=Ĳ:=e ▸ pR hc l
theorem kD{q}(e:c.x.q=q) i b:ac c.x q i b∈(k1 c i b j d Q).A:=by subst e;simp[k1]
theorem JI{q}(e:1 - c.x.q=q){i a}{b f}{Q}{d}(l:v0 c.x (if b then i+1 else i) - d<=v0 c.x (if f then a+1 else a)):Xk (k0 c g K i b Q) (ac c.x q a f) d=Ĳ:=e ▸ jT hc l
theorem lF{q}(e:1 - c.x.q=q) i b{Q}:ac c.x q i b∈(k0 c g K i b Q).A:=by subst e;simp[k0]
theorem eE{q}(e:c.x.q=q) i g b f{a}:(⟨0,[c.y.t.w,c.x.t.w],Gp (k1 c i b j d Q).A$ ac c.x q g f,a⟩:Ks)=k1 c g f j d a:=by subst e;unfold k1;rw[aR hc]
theorem OE{q}(e:1 - c.x.q=q) i h b d{Q a}{f}:(⟨f,K,Gp (k0 c g K i b Q).A$ ac c.x q h d,a⟩:Ks)=k0 c f K h d a:=by subst e;unfold k0;rw[BW hc]
theorem W8(q:c.x.q=0)(g:i<=1){e}{rd}{f}(S:Ha c e (k1 c i Ε j d Q) T rd A B f):∃ a,Ci [U 18,vh 0$ c.x.s$ i+1] f=O (ύ [ng 0 0$ c.x.s$ i+1]) a/\Ha c e (k1 c i Ĳ j d Q) T rd A B a:=by
 have E:=BJ S.b hc.x g (kD hc q ..)$ gH hc q$ ua i;rw[hc.px]at E;exact S.Ax$ eE hc q i i Ε Ĳ ▸ E
theorem HS(q:c.x.q=1)(k:i<=1)(g:AQ Q){o}(l:Dp Q 0 (c.x.s$ i+1)=o)(h:o.getD 0=0){e}{rd}{f}(S:Ha c e (k1 c i Ε j d Q) T rd A B f):∃ a,Ci [U 18,ng 0 0$ c.x.s$ i+1] f=O (ύ [Fi 0 (c.x.s i)$ c.x.s$ i+1]) a/\Ha c e (k1 c i Ĳ j d$ if o.isSome then pq Q (.inl 0)else Q) T rd A B a:=by
 have E:=OM S.b hc.x k g (kD hc q ..) (by rw[hc.px];exact l) h$ gH hc q$ ua i;rw[hc.px]at E;exact S.Ax$ eE hc q i i Ε Ĳ ▸ E
theorem dX(q:c.x.q=0)(h:i<=1)(g:AQ Q){e}{rd}{f}(S:Ha c e (k1 c i Ĳ j d Q) T rd A B f):∃ a,Ci [U 18,Fi 0 (c.x.s i)$ c.x.s$ i+1] f=O (ύ [ci 0 0 i]) a/\Ha c e (k1 c (i+1) Ε j d Q) T rd A B a:=by
 have E:=RJ S.b hc.x h g (kD hc q ..)$ gH hc q$ re i;rw[hc.px]at E;exact S.Ax$ eE hc q i _ Ĳ Ε ▸ E
theorem mY(q:c.x.q=1)(h:i<=1)(g:AQ Q){e}{rd}{f}(S:Ha c e (k1 c i Ĳ j d Q) T rd A B f):∃ a,Ci [U 18,ci 0 0 i] f=O (ύ []) a/\Ha c e (k1 c (i+1) Ε j d Q) T rd A B a:=by
 have E:=dO S.b hc.x h g (kD hc q ..)$ gH hc q$ re i;rw[hc.px]at E;exact S.Ax$ eE hc q i _ Ĳ Ε ▸ E
theorem nU i:v0 c.x (i+1) - 0<=v0 c.x (i+1):=by omega
theorem aV:v0 c.x 1 - 0<=v0 c.x 2:=by unfold v0;simp
theorem yjb(q:1 - c.x.q=0){Q}{d}{rd}{e}(S:Ha c (k0 c g K 1 Ε Q) d T rd A B e):∃ b,Ci [U 10,vh 0$ c.x.s 2] e=O (ύ [ng 0 0$ c.x.s 2]) b/\Ha c (k0 c g K 1 Ĳ Q) d T rd A B b:=by
 have E:=BJ S.a hc.x ⋯ (lF hc q ..)$ JI hc q$ aV hc;rw[hc.px]at E;exact S.Az$ OE hc q 1 1 Ε Ĳ ▸ E
theorem ZT(q:1 - c.x.q=1)(k:i<=1){Q}(h:AQ Q){o}{e}(l:Dp Q 0 (c.x.s$ i+1)=o)(j:o.getD 0=e)(m:v0 c.x i - e<=v0 c.x (i+1)){d}{rd}{f}(S:Ha c (k0 c g K i Ε Q) d T rd A B f):∃ b,Ci [U 10,ng 0 0$ c.x.s$ i+1] f=O (ύ [Fi 0 (c.x.s i)$ c.x.s$ i+1]) b/\Ha c (k0 c (g+e) K i Ĳ$ if o.isSome then pq Q (.inl 0)else Q) d T rd A B b:=by
 have E:=OM S.a hc.x k h (lF hc q ..) (by rw[hc.px];exact l) j$ JI hc q m;rw[hc.px]at E;exact S.Az$ OE hc q i i Ε Ĳ ▸ E
theorem QT(q:1 - c.x.q=0)(h:i<=1){Q}(f:AQ Q){d}{rd}{e}(S:Ha c (k0 c g K i Ĳ Q) d T rd A B e):∃ b,Ci [U 10,Fi 0 (c.x.s i)$ c.x.s$ i+1] e=O (ύ [ci 0 0 i]) b/\Ha c (k0 c g K (i+1) Ε Q) d T rd A B b:=by
 have E:=RJ S.a hc.x h f (lF hc q ..)$ JI hc q$ nU hc i;rw[hc.px]at E;exact S.Az$ OE hc q i _ Ĳ Ε ▸ E
theorem vY(q:1 - c.x.q=1)(h:i<=1){Q}(f:AQ Q){d}{rd}{e}(S:Ha c (k0 c g K i Ĳ Q) d T rd A B e):∃ b,Ci [U 10,ci 0 0 i] e=O (ύ []) b/\Ha c (k0 c g K (i+1) Ε Q) d T rd A B b:=by
 have E:=dO S.a hc.x h f (lF hc q ..)$ JI hc q$ nU hc i;rw[hc.px]at E;exact S.Az$ OE hc q i _ Ĳ Ε ▸ E
end
def UW{Q}(h:∀ p∈Q,p.1≠.inl 0) d s:Dp (ij Q (.inl 0)$ Il d s) 0 s=BD d/\pq (ij Q (.inl 0)$ Il d s) (.inl 0)=Q:=by
 rw[XA _ h];have f:Qi (Q++[(.inl 0,Il d s)]) (.inl 0)=BD (Il d s):=by
  have c:∀ p∈Q,¬ (p.1=.inl 0):=h;unfold Qi;rw[List.find?_append,Vg.mpr (λp a=>by simpa using h p a)];simp
 constructor
 ·unfold Dp;rw[f];unfold Il;dsimp only;rw[ka];exact Z6 (Kz λx b=>by
   simp at b;rcases b with rfl|rfl
   ·simp[pl]
   ·exact mO 5 _)
 ·unfold pq;rw[List.filter_append,Mg.mpr λp a=>by simpa using h p a];simp
def YX{Q}(h:∀ p∈Q,p.1≠.inl 0)(a:AQ Q) d s:AQ$ ij Q (.inl 0)$ Il d s:=by
 rw[XA _ h];intro z b;rcases kc.mp b with h|h
 ·exact a z h
 ·exact⟨d,s,by rw[Ia.mp h]⟩
def Lr(Y:D):Prop:=(∀ a,nb Y (Z 1) a=O (Z 0) a)/\cl Y=Ĳ
def xI s:Lr$ ng 0 0 s:=⟨RC _ _ _,XJ ..⟩
def eW s:Lr$ vh 0 s:=⟨λa=>by unfold vh;simp,nO ..⟩
def ZH m s:Lr$ Fi 0 m s:=⟨jD _ _ _,ę ..⟩
def JG n:Lr$ ci 0 0 n:=⟨ZE _ _ _,Y5 ..⟩
def OS w:Lr$ Ol 0 w:=⟨λa=>by unfold Ol;simp,qL ..⟩
def yr{X}(h:Lr X):∀ Y∈[X],Lr Y:=λY a=>Ia.mp a ▸ h
section
variable{c:Sq}(hc:c.Ok){T:List TK}{A B:Kv}{j:Nat}{d:Bool}
include hc
theorem BU{g}{K}{i}{b}{Q}{w}(s:0<=w/\w<=59)(t:K.length<=50){f}{rd}{h}(S:Ha c (k0 c g K i b Q) f T rd A B h):∃ d,Ci [U 10,Ol 0 w] h=O (ύ []) d/\Ha c (k0 c g (Mr K w) i b Q) f T rd A B d:=by
 obtain⟨k,r,q,e⟩:=S.a;have E:=g8 r q (p:=0) ⋯ s (by
  have:k.K=K:=zb Ks.K e;rw[this];unfold Mr;split<;>simp<;>lia)
 have o:(⟨k.g,Mr k.K w,k.as.map (·.2),k.Q⟩:Ks)=k0 c g (Mr K w) i b Q:=by
  have j:k.g=g:=zb Ks.g e;have l:k.K=K:=zb Ks.K e;have m:k.as.map (·.2)=[ac c.x _ i b]:=zb Ks.A e;have n:k.Q=Q:=zb Ks.Q e;rw[j,l,m,n];rfl
 exact S.Az$ o ▸ E
theorem v7{I}(S:Ha c (k0 c 0 [] 0 Ε []) (k1 c 0 Ε j d []) T [] A B I):∃ k n z rd,zr [U 1,Z 0,(Wi.Yn Ĳ c.x.t.a c.x.t.w c.x.t.y).D 0] I=O (ϐ Ĳ) k/\n<=12/\Ha c z (k1 c 0 Ε j d []) T rd A B k/\Cv c T A B n z (k1 c 0 Ε j d []) rd (k0 c c.x.t.a [] 1 Ε []) (k1 c 1 Ε j d []):=by
 have N:=hc.x.t.w;have ty:=hc.x.t.y;have G:v0 c.x 0 - c.x.t.a<=v0 c.x 1:=by unfold v0;simp
 have E:=gO S.a hc.x (q0 hc) (i:=0) ⋯ (lF hc rfl ..) (by simp[k0]) (ws:=.Yn Ĳ c.x.t.a c.x.t.w c.x.t.y) ⟨by lia,ty⟩ (ì hc _)$ jT hc (b:=Ε) (b':=Ĳ) G;rw[hc.px]at E;have f:AQ []:=by intro z L;cases L
 rcases hc.x.q with q|q
 ·have m:1 - c.x.q=1:=by lia
  obtain⟨F,e,h⟩:=S.Az E;have u:Uq (k0 c 0 [] 0 Ε []) 0 (1 - c.x.q) (ac c.x (1 - c.x.q) 0 Ĳ) (c.x.s$ 0+1) (.Yn Ĳ c.x.t.a c.x.t.w c.x.t.y)=k0 c 0 [] 0 Ε (ij [] (.inl 0)$ Il c.x.t.a$ c.x.s 1):=by
   unfold Uq;rw[qa ⋯];rfl
  rw[u]at h;have r:lt 0 (1 - c.x.q) (c.x.s$ 0+1)=vh 0 (c.x.s 1):=by unfold lt;rw[qa ⋯]
  rw[r]at e;have M:=ED hc (s:=0) (ϑ rfl) (R:=[vh 0$ c.x.s 1]) (λY l=>(yr (eW _) Y l).1) ⋯ h.H;obtain⟨J,K⟩:=UW (Q:=[]) (λp C=>by cases C) c.x.t.a (c.x.s 1);refine⟨_,4,_,_,tD S (ϑ ⟨rfl,rfl⟩) e (λv=>Kh h.H (x:="send") 3 Lp v rfl) M,by lia,h.way (by simp[Cq,nO]) ⋯,?_⟩;refine .step (R:=[ng 0 0$ c.x.s 1]) (ϕ ⟨rfl,rfl⟩) (λk S=>W8 hc q (i:=0) ⋯ S) (yr$ xI _) (Ma rfl) ?_;refine .step (R:=[Fi 0 (c.x.s 0)$ c.x.s 1]) (ϑ ⟨rfl,rfl⟩) (λk S=>ZT hc m (i:=0) ⋯ (YX (λp C=>by cases C) f _ _) J rfl G S) (yr$ ZH _ _) (Ma rfl) ?_;simp only[lj,Jf,K,Option.getD_some,EF];refine .step (R:=[ci 0 0 0]) (ϕ ⟨rfl,rfl⟩) (λk S=>dX hc q (i:=0) ⋯ f S) (yr$ JG _) (Ma rfl) ?_;refine .step (R:=[]) (ϑ ⟨rfl,rfl⟩) (λk S=>vY hc m (i:=0) ⋯ f S) (λY l=>by cases l) (Ma rfl) ?_;exact .nil
 ·have m:1 - c.x.q=0:=by omega
  obtain⟨F,e,h⟩:=S.Az E;have u:Uq (k0 c 0 [] 0 Ε []) 0 (1 - c.x.q) (ac c.x (1 - c.x.q) 0 Ĳ) (c.x.s$ 0+1) (.Yn Ĳ c.x.t.a c.x.t.w c.x.t.y)=k0 c c.x.t.a [] 0 Ĳ []:=by
   unfold Uq;rw[ka m,<-OE hc rfl 0 0 Ε Ĳ (Q:=[]) (g:=0)];simp[k0,Wi.al]
  rw[u]at h;have r:lt 0 (1 - c.x.q) (c.x.s$ 0+1)=ng 0 0 (c.x.s 1):=by unfold lt;rw[ka m]
  rw[r]at e;refine⟨_,3,_,_,tD S (ϑ ⟨rfl,rfl⟩) e (λv=>Kh h.H (x:="send") 3 Lp v rfl)$ ED hc (s:=0) (ϑ rfl) (R:=[ng 0 0$ c.x.s 1]) (λY l=>(yr (xI _) Y l).1) ⋯ h.H,by omega,h.way (by simp[Cq,XJ]) ⋯,?_⟩;refine .step (R:=[Fi 0 (c.x.s 0)$ c.x.s 1]) (ϕ ⟨rfl,rfl⟩) (λk S=>HS hc q (i:=0) ⋯ f (o:=V6) rfl rfl S) (yr$ ZH _ _) (Ma rfl) ?_;refine .step (R:=[ci 0 0 0]) (ϑ ⟨rfl,rfl⟩) (λk S=>QT hc m (i:=0) ⋯ f S) (yr$ JG _) (Ma rfl) ?_;refine .step (R:=[]) (ϕ ⟨rfl,rfl⟩) (λk S=>mY hc q (i:=0) ⋯ f S) (λY l=>by cases l) (Ma rfl) ?_;exact .nil
end
section
variable{c:Sq}(hc:c.Ok){T:List TK}{A B:Kv}{j:Nat}{d:Bool}{Q:Kv}
include hc
theorem P2(v:AQ Q)(F:∀ p∈Q,p.1≠.inl 0)(ό:Q.length<50){g}{J}(S:Ha c (k0 c g [] 1 Ε []) (k1 c 1 Ε j d Q) T [] A B J):∃ f n z rd,zr [U 1,Z 1,(Wi.Od c.x.t.w).D 0] J=O (ϐ Ĳ) f/\n<=12/\Ha c (k0 c g [] 1 Ε []) z T (ώ [Z 0,Ol 0 c.x.t.w]::rd) A B f/\Cv c T A B n (k0 c g [] 1 Ε []) z (ώ [Z 0,Ol 0 c.x.t.w]::rd) (k0 c g [c.x.t.w] 2 Ε []) (k1 c 2 Ε j d Q):=by
 have I:=hc.x.t.w;have E:=gO S.b hc.x hc.x.q (i:=1) ⋯ (kD hc rfl ..) (by simp only[k1];omega) (ws:=.Od c.x.t.w) trivial (tR hc hc.x$ by simp[k1])$ pR hc$ ua 1;rw[hc.px]at E;have k:AQ []:=by intro z N;cases N
 have G:Mr [] c.x.t.w=[c.x.t.w]:=by simp[Mr]
 have M:(Wi.Od c.x.t.w).wd 0=[Ol 0 c.x.t.w]:=rfl;rw[M]at E;rcases hc.x.q with q|q
 ·have l:1 - c.x.q=1:=by omega
  obtain⟨C,e,h⟩:=S.Ax E;have r:Uq (k1 c 1 Ε j d Q) 0 c.x.q (ac c.x c.x.q 1 Ĳ) (c.x.s$ 1+1) (.Od c.x.t.w)=k1 c 1 Ĳ j d Q:=by
   unfold Uq;rw[ka q,<-eE hc rfl 1 1 Ε Ĳ (Q:=Q) (j:=j) (d:=d)];simp[k1,Wi.al]
  rw[r]at h;have m:lt 0 c.x.q (c.x.s$ 1+1)=ng 0 0 (c.x.s 2):=by unfold lt;rw[ka q]
  rw[m]at e;have y:=ED hc (s:=1) (ϕ rfl) (R:=[Ol 0 c.x.t.w,ng 0 0$ c.x.s 2]) (λY a=>by
   rcases za.mp a with rfl|a
   ·exact(OS _).1
   ·exact(yr (xI _) Y a).1) ⋯ h.H
  refine⟨_,4,_,_,tD S (ϕ ⟨rfl,rfl⟩) e (λu=>Kh h.H (x:="send") 3 Lp u rfl) y,by omega,h.way (by simp[Cq,XJ,qL]) ⋯,?_⟩;refine .step (R:=[]) (ϑ ⟨rfl,rfl⟩) (λf S=>BU hc I ⋯ S) (λY a=>by cases a) (Ma rfl) ?_;rw[G];refine .step (R:=[Fi 0 (c.x.s 1)$ c.x.s 2]) (ϑ ⟨rfl,rfl⟩) (λf S=>ZT hc l (i:=1) ⋯ k (o:=V6) rfl rfl (aV hc) S) (yr$ ZH _ _) (Ma rfl) ?_;refine .step (R:=[ci 0 0 1]) (ϕ ⟨rfl,rfl⟩) (λf S=>dX hc q (i:=1) ⋯ v S) (yr$ JG _) (Ma rfl) ?_;refine .step (R:=[]) (ϑ ⟨rfl,rfl⟩) (λf S=>vY hc l (i:=1) ⋯ k S) (λY a=>by cases a) (Ma rfl) ?_;rw[show g+(V6:Option Int).getD 0=g from Int.add_zero g];exact .nil
 ·have l:1 - c.x.q=0:=by omega
  obtain⟨C,e,h⟩:=S.Ax E;have r:Uq (k1 c 1 Ε j d Q) 0 c.x.q (ac c.x c.x.q 1 Ĳ) (c.x.s$ 1+1) (.Od c.x.t.w)=k1 c 1 Ε j d (ij Q (.inl 0)$ Il 0$ c.x.s 2):=by
   unfold Uq;rw[qa ⋯];rfl
  rw[r]at h;have m:lt 0 c.x.q (c.x.s$ 1+1)=vh 0 (c.x.s 2):=by unfold lt;rw[qa ⋯]
  rw[m]at e;obtain⟨K,L⟩:=UW F 0 (c.x.s 2);have y:=ED hc (s:=1) (ϕ rfl) (R:=[Ol 0 c.x.t.w,vh 0$ c.x.s 2]) (λY a=>by
   rcases za.mp a with rfl|a
   ·exact(OS _).1
   ·exact(yr (eW _) Y a).1) ⋯ h.H
  refine⟨_,5,_,_,tD S (ϕ ⟨rfl,rfl⟩) e (λu=>Kh h.H (x:="send") 3 Lp u rfl) y,by omega,h.way (by simp[Cq,nO,qL]) ⋯,?_⟩;refine .step (R:=[]) (ϑ ⟨rfl,rfl⟩) (λf S=>BU hc I ⋯ S) (λY a=>by cases a) (Ma rfl) ?_;rw[G];refine .step (R:=[ng 0 0$ c.x.s 2]) (ϑ ⟨rfl,rfl⟩) (λf S=>yjb hc l S) (yr$ xI _) (Ma rfl) ?_;refine .step (R:=[Fi 0 (c.x.s 1)$ c.x.s 2]) (ϕ ⟨rfl,rfl⟩) (λf S=>HS hc q (i:=1) ⋯ (YX F v _ _) K rfl S) (yr$ ZH _ _) (Ma rfl) ?_;simp only[lj,Jf,L];refine .step (R:=[ci 0 0 1]) (ϑ ⟨rfl,rfl⟩) (λf S=>QT hc l (i:=1) ⋯ k S) (yr$ JG _) (Ma rfl) ?_;refine .step (R:=[]) (ϕ ⟨rfl,rfl⟩) (λf S=>mY hc q (i:=1) ⋯ v S) (λY a=>by cases a) (Ma rfl) ?_;exact .nil
theorem y8{i}{b}{l}{W}(u:Wd T W)(K:T.length<=30){m}(S:Ha c l (k1 c i b 1 Ε []) T [] A B m):∃ g a d' Q',zr [U 1,Z 1,(Wi.Od c.y.t.w).D 1] m=O (ϐ Ĳ) g/\Ha c l (k1 c i b 1 d' Q') a [] A B g/\Wd a (W++[c.y.t.w])/\a.length<=T.length+4/\AQ Q'/\(∀ p∈Q',p.1≠.inl 0)/\Q'.length<=1:=by
 have E:=gO S.b hc.y hc.y.q (i:=1) ⋯ (mD hc rfl ..) (by simp[k1]) (ws:=.Od c.y.t.w) trivial (tR hc hc.y$ by simp[k1])$ UT hc$ ua 1;rw[hc.py]at E;rw[show (Wi.Od c.y.t.w).wd 1=[Ol 1 c.y.t.w]from rfl]at E;obtain⟨J,e,j⟩:=S.Ax E;have f:∀ {Y:D} {d':Bool} {Q':Kv},lt 1 c.y.q (c.y.s _)=Y->Bl 1 Y []->Uq (k1 c i b 1 Ε []) 1 c.y.q (ac c.y c.y.q 1 Ĳ) (c.y.s$ 1+1) (.Od c.y.t.w)=k1 c i b 1 d' Q'->AQ Q'/\(∀ p∈Q',p.1≠.inl 0)/\Q'.length<=1->∃ g a d' Q',zr [U 1,Z 1,(Wi.Od c.y.t.w).D 1] m=O (ϐ Ĳ) g/\Ha c l (k1 c i b 1 d' Q') a [] A B g/\Wd a (W++[c.y.t.w])/\a.length<=T.length+4/\AQ Q'/\(∀ p∈Q',p.1≠.inl 0)/\Q'.length<=1:=fun {Y d' Q'} n v o C=>by
  rw[o]at j;rw[n]at e;obtain⟨a,G,I,F⟩:=NU hc (R:=[(Ol 1 c.y.t.w,[c.y.t.w]),(Y,[])]) (λz d=>by
   rcases za.mp d with rfl|d
   ·exact D7 ..
   ·rw[Ia.mp d];exact v) (by simp;lia) u j.H
  exact⟨_,a,d',Q',tD S (ϕ ⟨rfl,rfl⟩) e (λr=>Kh j.H (x:="send") 3 Lp r rfl) G,j.AB a,by simpa using I,by simpa using F,C⟩
 rcases hc.y.q with q|q
 ·refine f (Y:=ng 1 0$ c.y.s 2) (d':=Ĳ) (Q':=[]) (by unfold lt;rw[ka q]) (wY ..) ?_ ⟨(by intro z d;cases d),(λp k=>by cases k),by simp⟩;unfold Uq;rw[ka q];unfold k1;dsimp only;rw[(dC hc i 1 1 b Ε Ĳ)];rfl
 ·refine f (Y:=vh 1$ c.y.s 2) (d':=Ε) (Q':=[(.inl 1,Il 0 (c.y.s 2))]) (by unfold lt;rw[qa ⋯]) (ã ..) ?_ ⟨λz d=>⟨0,c.y.s 2,by rw[Ia.mp d]⟩,(λp k=>by rw[Ia.mp k];intro h;cases h),by simp⟩;unfold Uq;rw[qa ⋯];rfl
end
def xT{b}{z}{a}(S:Hl b z a):mu [U b] a=O (ύ$ (ks z.K).map Z) a:=by
 obtain⟨k,h,_,rfl⟩:=S;exact sU h.v h.z
section
variable{c:Sq}(hc:c.Ok){T:List TK}{z0:Ks}
include hc
def Wl(c:Sq):D:=ύ [Z c.y.t.w,Z c.x.t.w]
theorem wV{i}{b}{W}(E:Wd T W)(C:T.length<=30){g}(S:Ha c z0 (k1 c i b 1 Ε []) T [] (Qg V6) (Qg V6) g):∃ u m o h,cc [U 1,Wl c] g=O (ϐ Ĳ) u/\Ha c z0 (k1 c i b 1 o h) m [] (Qg$ BD c.y.t.w) (Qg$ BD c.y.t.w) u/\Wd m (W++[c.y.t.w])/\AQ h/\(∀ p∈h,p.1≠.inl 0)/\h.length<=1:=by
 have s:=hc.y.t.w;obtain⟨d,m,o,h,r,j,q,K,F⟩:=y8 hc E C S;have n:∀ g,nb (Wl c) (Z 0) g=O (Z c.y.t.w) g:=λg=>by unfold Wl;simp
 have G:Lj _ (ύ []) d=O _ d:=uv rfl;have s1:YN [BD$ U 1,BD$ Wl c] g=O (ϙ [BD$ U 1,BD$ Wl c]) d:=by
  rw[show (Wi.Od c.y.t.w).D 1=ώ [ϓ "settle",Z 1,Z c.y.t.w]from rfl]at r;generalize Wl c=L at *;unfold YN;simp[n,(λe=>Kh S.H (x:="wish") 3 zr e rfl),r,(λe=>Kh j.H (x:="road") 1 Jt e rfl),(jH j),G]
 have A:Ir [U 1,Z 0,Z c.y.t.w] d=O Ϛ _:=dS j (i:=0) (ϑ rfl) s q ⋯ j.H.h5;have l:=Ha.P6 j$ Qg$ BD c.y.t.w;generalize d.set 5 (Ϗ$ Qg$ BD c.y.t.w)=f at *;have s2:RK [BD$ U 1,BD$ Wl c] d=O (ϙ [BD$ U 1,BD$ Wl c]) f:=by
  generalize Wl c=L at *;unfold RK;simp[n,(λe=>Kh j.H (x:="show") 3 Ir e rfl),A]
 have B:Ir [U 1,Z 1,Z c.y.t.w] f=O Ϛ (f.set 6$ Ϗ$ Qg$ BD c.y.t.w):=dS l (i:=1) (ϕ rfl) s q ⋯ l.H.h6;have k:=Ha.K8 l$ Qg$ BD c.y.t.w;generalize f.set 6 (Ϗ$ Qg$ BD c.y.t.w)=a at *;have I:VJ [BD$ U 1,BD$ Wl c] f=O (ϙ [BD$ U 1,BD$ Wl c]) a:=by
  generalize Wl c=L at *;unfold VJ;simp[n,(λe=>Kh l.H (x:="show") 3 Ir e rfl),B]
 have v:Iv [U 1] a=O (U 2) a:=by
  unfold Iv Xf;simp[(eH k.H),(Yi k.H.h2)]
 have z:rj (ύ [Z c.y.t.w]) (ύ [Z c.y.t.w]) a=O (ϐ Ĳ) a:=kK rfl;have J:iN [BD$ U 1,BD$ Wl c] a=O (.rt$ ϐ Ĳ) a:=by
  generalize Wl c=L at *;unfold iN;simp[n,(λe=>Kh k.H (x:="book") 1 Iv e rfl),v,(λe=>xF k.H (x:="all_shown") 1 qw e rfl),(BK k),z]
 refine⟨a,m,o,h,?_,k,q,F⟩;unfold cc DR
 (try dsimp only);rw[Rs]
 exact gk s1$ gk s2$ gk I (by rw[J];rfl)
theorem JS{o}{W}(y:Wd T W)(u:c.x.t.w ∉ W)(l:o≠BD c.x.t.w){g}{j}{d}{Q}(N:AQ Q)(ό:∀ p∈Q,p.1≠.inl 0)(P:Q.length<50){k}(S:Ha c (k0 c g [] 1 Ε []) (k1 c 1 Ε j d Q) T [] (Qg o) (Qg o) k):∃ F,bc [U 1,Wl c] k=O (ϐ Ĳ) F/\Ha c (k0 c g [c.x.t.w] 2 Ε []) (k1 c 2 Ε j d Q) T [] (Qg o) (Qg o) F:=by
 obtain⟨b,n,z,rd,s,R,i,C⟩:=P2 hc N ό P S;have B:=jH i;have q:∀ k,nb (Wl c) (Z 1) k=O (Z c.x.t.w) k:=λk=>by unfold Wl;simp
 have E:nb (ύ$ ώ [Z 0,Ol 0 c.x.t.w]::rd) (Z 0) b=O (ώ [Z 0,Ol 0 c.x.t.w]) b:=by simp
 have A:Lj (ώ [Z 0,Ol 0 c.x.t.w]) (ώ [Z 0,Ol 0 c.x.t.w]) b=O (ϐ Ε) b:=uv rfl;have r1:LL [BD$ U 1,BD$ Wl c] k=O (ϙ [BD$ U 1,BD$ Wl c]) b:=by
  rw[show (Wi.Od c.x.t.w).D 0=ώ [ϓ "settle",Z 0,Z c.x.t.w]from rfl]at s;unfold Ol at A E B;generalize Wl c=L,ύ (ώ [Z 0,ώ [ϓ "word",Z 0,Z c.x.t.w]]::rd)=RD at *;unfold LL;simp[q,(λf=>Kh S.H (x:="wish") 3 zr f rfl),s,(λf=>Kh i.H (x:="road") 1 Jt f rfl),B,E,A]
 have Y:=xT i.a;have ϋ:Es Ε (Z c.x.t.w) (ύ$ (ks (k0 c g [] 1 Ε []).K).map Z) b=O (ϐ Ε) b:=by
  rw[UC (neg:=Ε) (ws:=ks (k0 c g [] 1 Ε []).K) rfl];simp[k0,Qn]
 have r2:MK [BD$ U 1,BD$ Wl c] b=O (ϙ [BD$ U 1,BD$ Wl c]) b:=by
  generalize Wl c=L,(ks (k0 c g [] 1 Ε []).K).map Z=G at *;unfold MK;simp[q,(aF i$ ϑ ⟨rfl,rfl⟩),(λf=>Kh i.H (x:="keeper") 2 Ps f rfl),Y,(λf=>i.a.sC (m:="words") 1 mu f rfl),ϋ,(VM i (p:=0) y u l)]
 obtain⟨e,M,h⟩:=mQ hc R C i;have r:=xT h.a;have V:Es Ĳ (Z c.x.t.w) (ύ$ (ks (k0 c g [c.x.t.w] 2 Ε []).K).map Z) e=O (ϐ Ε) e:=by
  rw[UC (neg:=Ĳ) (ws:=ks (k0 c g [c.x.t.w] 2 Ε []).K) rfl];simp[k0,Qn]
 have r3:nK [BD$ U 1,BD$ Wl c] b=O (ϙ [BD$ U 1,BD$ Wl c]) e:=by
  generalize Wl c=L,(ks (k0 c g [c.x.t.w] 2 Ε []).K).map Z=G at *;unfold nK;simp[q,M,(aF h$ ϑ ⟨rfl,rfl⟩),(λf=>Kh h.H (x:="keeper") 2 Ps f rfl),r,(λf=>h.a.sC (m:="words") 1 mu f rfl),V]
 have I:=BK h;have J:Iv [U 1] e=O (U 2) e:=by
  have pb:=eH h.H;have fr:=Yi h.H.h2;unfold Iv Xf;simp[pb,fr]
 have mb:=λf=>Kh h.H (x:="book") 1 Iv f rfl;have ϊ:=λf=>xF h.H (x:="all_shown") 1 qw f rfl;have X:Es Ĳ (Z c.x.t.w) (ύ$ o.toList.map Z) e=O (ϐ Ĳ) e:=by
  rw[UC (neg:=Ĳ) (ws:=o.toList) rfl];cases o with
  |none=>rfl
  |some v=>simp at l ⊢;exact l
 have r4:lO [BD$ U 1,BD$ Wl c] e=O (.rt$ ϐ Ĳ) e:=by
  generalize Wl c=L at *;unfold lO;simp[q,(VM h (p:=1) y u l),mb,J,ϊ,I,X]
 refine⟨e,?_,h⟩;unfold bc xU
 (try dsimp only);rw[Rs]
 exact gk r1$ gk r2$ gk r3 (by rw[r4];rfl)
end
def LP(l r a b u v:Int):D:=ύ [Bd l r u v 9,Bd a b u v 9]
def Vv{a L:Fa} i:(a++L)[a.length+i]?=L[i]?:=by
 rw[Cc ⋯,show a.length+i - a.length=i by lia]
def Dx{a L:Fa}:(a++L)[a.length]?=L[0]?:=Vv 0
def OA{a L:Fa} i x:(a++L).set (a.length+i) x=a++L.set i x:=by
 simp_all
def vS{a L:Fa} x:(a++L).set a.length x=a++L.set 0 x:=OA 0 x
section
variable{σ0:Fa}
def MV{g}{r}{b}{c}{f}{d}{a}(h:b.contains c=Ĳ)(i:Nat.ble (a.length+1) 1000=Ĳ):gz g b f d (U σ0.length) (σ0++ϔ c a::r)=O (ϙ g) (σ0++ϔ c (zl f d a)::r):=by
 have e:sB b f d (U σ0.length) (σ0++ϔ c a::r)=O () (σ0++ϔ c (zl f d a)::r):=by
  have:(σ0++ϔ c a::r)[σ0.length]?=BD _:=Dx;unfold sB;simp only[this];rw[ka (by rw[h];simpa using (show a.length<1000 from Ma i)),vS];rfl
 unfold gz;rw[e]
def Jz{d}{c}{f}{b}{r}{a}{k}(h:d.contains c=Ĳ)(i:Nat.ble (b.length+1) 1000=Ĳ)(j:a.length+1=k):im d f rq (Ba 0) (BD (U σ0.length)::r) (σ0++ϔ c b::a)=O (ϙ$ BD (U σ0.length)::r) (σ0++ϔ c (zl f (U$ σ0.length+k) b)::(a++[Ϗ []])):=by
 rw[yX,TQ,Co,yS,eu,Co];have e:(σ0++ϔ c b::a).length=σ0.length+k:=by rw[Ub,gb];lia
 have g:(σ0++ϔ c b::a)++[Ϗ []]=σ0++ϔ c b::(a++[Ϗ []]):=by simp
 rw[e,g];exact MV h i
def dB{b}{c}{f}{a}{g}{d}{e ds'}{r}(h:b.contains c=Ĳ)(i:Nat.ble (a.length+1) 1000=Ĳ)(j:g (BD (U σ0.length)::r) (σ0++ϔ c a::e)=O d (σ0++ϔ c a::ds')):im b f g (Ba 0) (BD (U σ0.length)::r) (σ0++ϔ c a::e)=O (ϙ$ BD (U σ0.length)::r) (σ0++ϔ c (zl f d a)::ds'):=by
 rw[yX,j,Co,yS,eu,Co,MV h i]
def Ox{e}{c}{f}{a}{g}{d}{b}{r}(h:e.contains c=Ĳ)(i:Nat.ble (a.length+1) 1000=Ĳ)(j:g (BD (U σ0.length)::r) (σ0++ϔ c a::b)=O d (σ0++ϔ c a::b)):im e f g (Ba 0) (BD (U σ0.length)::r) (σ0++ϔ c a::b)=O (ϙ$ BD (U σ0.length)::r) (σ0++ϔ c (zl f d a)::b):=dB h i j
end
def oC{σ}{n c}{b}(h:σ[n]?=BD (ϔ c b)){a}{f}{d}(e:a.contains c=Ĳ)(g:b.lookup f=BD d):Lc a f (U n) σ=O d σ:=Oj (Dr h) e g
def cS(u v:Int):Sn:=⟨0,u,v,[]⟩
def Cn(u:Int):Prop:=0<=u/\u<=1000000000000
def fA(p q u v:Int):Ac:=qc p q (cS u v) Ϛ []
def zta{p q u v}(b:0<=p/\p<=2)(c:q=0\/q=1)(d:Cn u)(e:Cn v) a:Zd [Z p,Z q,Z u,Z v] a=O (U a.length) (a++[ϔ 11 (fA p q u v).fs]):=by
 have f:Nl [Z u,Z v] a=O (cS u v).D a:=S2 d e a;have mk:Vk 11 7 Zp [Z p,Z q,(cS u v).D,Ϛ,ύ [(cS u v).D],ύ []] a=O _ (a++[ϔ 11 (fA p q u v).fs]):=vD (Ls (m:=cS u v) (G:=Ϛ) (L:=[]) b c rfl rfl) a;unfold Zd XR
 simp_all
section
variable(l r u v w:Int)(σ:Fa)
def Î:nb (Bd l r u v w) (Z 0) σ=O (Z l) σ:=by unfold Bd;simp
def XZ:nb (Bd l r u v w) (Z 1) σ=O (Z r) σ:=by unfold Bd;simp
def mU:nb (Bd l r u v w) (Z 2) σ=O (Z u) σ:=by unfold Bd;simp
def PV:nb (Bd l r u v w) (Z 3) σ=O (Z v) σ:=by unfold Bd;simp
theorem kR:nb (Bd l r u v w) (Z 4) σ=O (Z w) σ:=nr rfl
end
def C2 h l r d e u v c:yh [Z h,Z 8,LP l r d e u v] c=O Ϛ c:=by
 have f:∀ (l r u v w:Int) (L x:Option D),9<=w->wM [BD$ Z h,BD$ Z 8,L,BD$ Bd l r u v w] c=O (ϙ [BD$ Z h,BD$ Z 8,L,BD$ Bd l r u v w]) c:=λl r u v w L q p=>by
  have s1:Ku (Bd l r u v w) V6 (BD 2) c=O (ώ [Z l,Z r]) c:=by unfold Bd;rw[Ww];rfl
  have g:Es Ε _ (ώ [Z l,Z r]) c=O (ϐ ([l,r].any (·== h))) c:=UC (neg:=Ε) (ws:=[l,r]) rfl;have j:=kR l r u v w c;have lt:decide (w<9)=Ε:=gc ⋯;generalize [l,r].any (·== h)=B,ώ [Z l,Z r]=n,Bd l r u v w=o at *;cases B<;>simp[s1,g,j,lt]
 have m:∀ c,Au (LP l r d e u v) c=O _ c:=λc=>ZI _;have k:Nj (je 3) wM [Bd l r u v 9,Bd d e u v 9] [BD$ Z h,BD$ Z 8,BD$ LP l r d e u v,V6] c=O (ϙ [BD$ Z h,BD$ Z 8,BD$ LP l r d e u v,BD$ Bd d e u v 9]) c:=by
  rw[Iq];simp only[Cb,Lb];rw[f _ _ _ _ _ _ V6 ⋯,ze,Tk,Iq];simp only[Cb,Lb];rw[f _ _ _ _ _ _ V6 ⋯,ze,Tk,Nw]
 unfold yh qU Pc;dsimp only;generalize [Bd l r u v 9,Bd d e u v 9]=TT,LP l r d e u v=L at *;simp[(λc=>bt (i:=8) (a:=1) (b:=50) _ c),m,k]
def KB(b:Nat)(K:h8)(a:List Ka)(A:Fa):Fa:=ϔ 15 (Qj b 8 0)::Ϗ (Rj K)::Ϗ (AV a)::Ϗ (CV a)::Ϗ (SV a)::Ϗ []::Ϗ []::A
def Â{b}{n}{a}(h:b=[]\/∃ x,b=[x]/\x.2.p≠a.p):ij (AV b) (.inl a.p) (U n)=AV (b++[(n,a)])/\ij (CV b) (.inl a.p) (.gt ["held"])=CV (b++[(n,a)])/\ij (SV b) (.inl a.p) (Ϩ [] [])=SV (b++[(n,a)])/\(AV b).length<1000/\(CV b).length<1000/\(SV b).length<1000:=by
 rcases h with rfl|⟨x,rfl,c⟩
 ·exact⟨rfl,rfl,rfl,by decide,by decide,by decide⟩
 ·have e:¬ (Sum.inl x.2.p:Ic)=Sum.inl a.p:=λz=>c$ Py z;simp[AV,CV,SV,ij,e]
section
variable(σ0:Fa)
def ś{K}{a}{A}{b}{f}{d}(c:b.contains 15=Ĳ)(e:(Qj σ0.length 8 0).lookup f=BD d):Lc b f (U σ0.length) (σ0++KB σ0.length K a A)=O d (σ0++KB σ0.length K a A):=oC (Dx) c e
def dY{K}{as}{A}{x} n a b(c:(Qj σ0.length 8 0).lookup x=V6):Gk [(15,a)] n x b (U σ0.length) (σ0++KB σ0.length K as A)=(b$ σ0++KB σ0.length K as A).bind (Ri n a$ U σ0.length):=Oq (Dr Dx) rfl c
def M3{K}{as}{A}{i}{a}(q:A[i]?=BD (ϔ a.c a.fs))(ok:a.Ok)(h:as=[]\/∃ x,as=[x]/\x.2.p≠a.p):nC [U σ0.length,U$ σ0.length+(7+i),.gt ["held"],Ϩ [] []] (σ0++KB σ0.length K as A)=O Ϛ (σ0++KB σ0.length K (as++[(σ0.length+(7+i),a)]) A):=by
 obtain⟨j,k,l,l1,l2,s⟩:=Â (n:=σ0.length+(7+i)) h;have t:∀ (X Y ϊ:Ob),Lc [10,11,12,13] "pot" (U$ σ0.length+(7+i)) _=O _ (σ0++ϔ 15 (Qj σ0.length 8 0)::Ϗ (Rj K)::X::Y::ϊ::Ϗ []::Ϗ []::A):=λX Y ϊ=>Zs (by
  unfold qk;rw[Vv,Nat.add_comm 7 i];exact q) ok
 have g:∀ (X Y ϊ:Ob) (f:Str) (e:i') (d:D),e.contains 15=Ĳ->(Qj σ0.length 8 0).lookup f=BD d->Lc e f _ _=O d (σ0++ϔ 15 _::Ϗ (Rj K)::X::Y::ϊ::Ϗ []::Ϗ []::A):=λX Y ϊ f e d r h=>oC (Dx (L:=ϔ 15 (Qj σ0.length 8 0)::Ϗ (Rj K)::X::Y::ϊ::Ϗ []::Ϗ []::A)) r h;have s2:∀ (b:Ev) (Y ϊ:Ob),jq b (U$ σ0.length+(7+i)) (U$ σ0.length+2) (Z a.p) (σ0++ϔ 15 (Qj σ0.length 8 0)::Ϗ (Rj K)::Ϗ (AV as)::Y::ϊ::Ϗ []::Ϗ []::A)=O (ϙ b) (σ0++ϔ 15 (Qj σ0.length 8 0)::Ϗ (Rj K)::Ϗ (AV$ as++[(σ0.length+(7+i),a)])::Y::ϊ::Ϗ []::Ϗ []::A):=λb Y ϊ=>by
  rw[At (kvs:=AV as) (Vv 2) l1,OA 2,j];rfl
 have u:∀ (b:Ev) (X ϊ:Ob),jq b (.gt ["held"]) (U$ σ0.length+3) (Z a.p) (σ0++ϔ 15 (Qj σ0.length 8 0)::Ϗ (Rj K)::X::Ϗ (CV as)::ϊ::Ϗ []::Ϗ []::A)=O (ϙ b) (σ0++ϔ 15 (Qj σ0.length 8 0)::Ϗ (Rj K)::X::Ϗ (CV$ as++[(σ0.length+(7+i),a)])::ϊ::Ϗ []::Ϗ []::A):=λb X ϊ=>by
  rw[At (kvs:=CV as) (Vv 3) l2,OA 3,k];rfl
 have v:∀ (b:Ev) (X Y:Ob),jq b (Ϩ [] []) (U$ σ0.length+4) (Z a.p) (σ0++ϔ 15 (Qj σ0.length 8 0)::Ϗ (Rj K)::X::Y::Ϗ (SV as)::Ϗ []::Ϗ []::A)=O (ϙ b) (σ0++ϔ 15 (Qj σ0.length 8 0)::Ϗ (Rj K)::X::Y::Ϗ (SV$ as++[(σ0.length+(7+i),a)])::Ϗ []::Ϗ []::A):=λb X Y=>by
  rw[At (kvs:=SV as) (Vv 4) s,OA 4,l];rfl
 have m:=λX Y ϊ=>g X Y ϊ "accounts" [15] _ rfl rfl;have o:=λX Y ϊ=>g X Y ϊ "claims" [9,15] _ rfl rfl;have gs:=λX Y ϊ=>g X Y ϊ "seen" [15] _ rfl rfl;unfold nC KB yg;dsimp only;generalize Qj σ0.length 8 0=FS,AV (as++[(σ0.length+(7+i),a)])=y,CV (as++[(σ0.length+(7+i),a)])=B,SV (as++[(σ0.length+(7+i),a)])=E,AV as=w,CV as=z,SV as=C,Rj K=KD,σ0.length+(7+i)=N at *;simp[t,m,o,gs,s2,u,v]
theorem ZX(L:Option D):∀ (ws a:h8) (x:Option D),(a++ws).Nodup->(a++ws).length<=60->∃ y,Nj (je 2) oW (ws.map Z) [BD$ U σ0.length,L,x] (σ0++KB σ0.length a [] [])=O (ϙ [BD$ U σ0.length,L,y]) (σ0++KB σ0.length (a++ws) [] [])
 |[],a,x,_,_=>⟨x,by simp⟩
 |w::ws,a,x,hd,c=>by
  obtain⟨y,e⟩:=ZX L ws (a++[w]) (BD$ Z w) (by rw[Kc];exact hd) (by rw[Kc];exact c);have d:w ∉ a:=λz=>by
   rw[Yc]at hd;exact hd.2.2 w z w la rfl
  have g:Lc [14,15] "known" (U σ0.length) _=O (U _) (σ0++KB σ0.length a [] []):=ś σ0 rfl rfl;have s1:∀ b,jq b _ (U$ σ0.length+1) (Z w) (σ0++KB σ0.length a [] [])=O (ϙ b) (σ0++KB σ0.length (a++[w]) [] []):=λb=>by
   rw[At (kvs:=Rj a) (Vv 1) (by unfold Rj;simp at c ⊢;omega),OA 1,uY];unfold Mr;rw[qa d];rfl
  simp_all
def zne{ws}(a:ws.Nodup)(b:ws.length<=60):uw [U σ0.length,ύ$ ws.map Z] (σ0++KB σ0.length [] [] [])=O Ϛ (σ0++KB σ0.length ws [] []):=by
 obtain⟨y,c⟩:=ZX σ0 (BD$ ύ$ ws.map Z) ws [] V6 a b;unfold uw pM yg;dsimp only
 simp_all
end
@[simp] theorem zwa{e} d x a b c:Ri 4 d x [a,b,c] e=d [x,a,b,c] e:=nG rfl
section
variable(σ0:Fa)(h:Int)
def zU{K}{c d}{A g}{p l r u v w s}(k:0<=p/\p<=2)(j:s=0\/s=1)(y:Cn u)(z:Cn v) X Y ϊ
  (e:((if s=0 then l else r)≠h/\d=c/\g=A)\/((if s=0 then l else r)=h/\d=c++[(σ0.length+(7+A.length),fA p s u v)]/\g=A++[ϔ 11 (fA p s u v).fs]/\(c=[]\/∃ x,c=[x]/\x.2.p≠p))) :
  dU [BD$ U σ0.length,BD$ Z h,X,Y,ϊ,BD$ Z p,BD$ Bd l r u v w,BD$ Z s] (σ0++KB σ0.length K c A)=O (ϙ [BD$ U σ0.length,BD$ Z h,X,Y,ϊ,BD$ Z p,BD$ Bd l r u v w,BD$ Z s]) (σ0++KB σ0.length K d g):=by
 have m:∀ f,nb (Bd l r u v w) (Z s) f=O (Z$ if s=0 then l else r) f:=λf=>by
  rcases j with rfl|rfl
  ·exact Î ..
  ·exact XZ ..
 generalize (if s=0 then l else r)=H at *;rcases e with⟨G,rfl,rfl⟩|⟨n,rfl,rfl,q⟩
 ·have b:(H == h)=Ε:=by simp[G]
  generalize Bd l r u v w=Q,σ0++KB σ0.length K d g=ϊ at *;simp[m,b]
 ·have b:(H == h)=Ĳ:=by simp[n]
  have B:=λf=>mU l r u v w f;have C:=λf=>PV l r u v w f;have fa:=zta k j y z$ σ0++KB σ0.length K c A;have L:(σ0++KB σ0.length K c A).length=σ0.length+(7+A.length):=by simp[KB];lia
  have E:(σ0++KB σ0.length K c A)++[ϔ 11 (fA p s u v).fs]=σ0++KB σ0.length K c (A++[ϔ 11 (fA p s u v).fs]):=by simp[KB]
  rw[L,E]at fa;have t:=M3 σ0 (K:=K) (as:=c) (A:=A++[ϔ 11 (fA p s u v).fs]) (i:=A.length) (a:=fA p s u v) (by simp;rfl) (Ls k j rfl rfl) q;have F:=λo=>dY σ0 (K:=K) (as:=c) (A:=A) (x:="hold") 4 nC o rfl;generalize σ0++KB σ0.length K (c++[(σ0.length+(7+A.length),fA p s u v)]) (A++[ϔ 11 (fA p s u v).fs])=W,σ0++KB σ0.length K c (A++[ϔ 11 (fA p s u v).fs])=V,σ0++KB σ0.length K c A=ϊ,Bd l r u v w=Q at *;simp[m,b,B,C,fa,F,t]
def Wz{K}{b a c}{A B C}{p l r u v w}(d:0<=p/\p<=2)(f:Cn u)(g:Cn v) X Y ϊ x
  (e:(l≠h/\a=b/\B=A)\/(l=h/\a=b++[(σ0.length+(7+A.length),fA p 0 u v)]/\B=A++[ϔ 11 (fA p 0 u v).fs]/\(b=[]\/∃ x,b=[x]/\x.2.p≠p)))
  (i:(r≠h/\c=a/\C=B)\/(r=h/\c=a++[(σ0.length+(7+B.length),fA p 1 u v)]/\C=B++[ϔ 11 (fA p 1 u v).fs]/\(a=[]\/∃ x,a=[x]/\x.2.p≠p))) :
  zF [BD$ U σ0.length,BD$ Z h,X,Y,ϊ,BD$ Z p,BD$ Bd l r u v w,x] (σ0++KB σ0.length K b A)=O (ϙ [BD$ U σ0.length,BD$ Z h,X,Y,ϊ,BD$ Z p,BD$ Bd l r u v w,BD$ Z 1]) (σ0++KB σ0.length K c C):=by
 show xn _ _ _ _ _=_;rw[hG];simp only[UA,Ì,fC,GL,ze,jB,jy,KA,F8,zjc,Co,aJ];rw[Iq];simp only[Cb,Lb];rw[(zU σ0 h (K:=K) (l:=l) (r:=r) (w:=w) d (ϑ rfl) f g X Y ϊ e),ze,Tk,Iq];simp only[Cb,Lb];rw[(zU σ0 h (K:=K) (l:=l) (r:=r) (w:=w) d (ϕ rfl) f g X Y ϊ i),ze,Tk,Nw]
def Pl(q a u v:Int)(b:Nat)(h:Int):List Ka:=if h=0 then [(b+7,fA 0 (1 - q) u v)]else [(b+7,fA 0 q u v),(b+8,fA 1 a u v)]
def bp(q a u v h:Int):Fa:=if h=0 then [ϔ 11 (fA 0 (1 - q) u v).fs]else [ϔ 11 (fA 0 q u v).fs,ϔ 11 (fA 1 a u v).fs]
def ļ{q e l r a b u v}(y:q=0/\l=1/\r=0\/q=1/\l=0/\r=1)(t:e=0/\a=1/\b=2\/e=1/\a=2/\b=1)(N:h=0\/h=1)(I:HD σ0.length=h)(f:Cn u)(g:Cn v){ws}(J:ws.Nodup)(ό:ws.length<=60):Vk 15 5 Fp [Z h,Z 8,LP l r a b u v,ύ$ ws.map Z] σ0=O (U σ0.length) (σ0++KB σ0.length ws (Pl q e u v σ0.length h) (bp q e u v h)):=by
 have S:=C2 h l r a b u v$ σ0++[ϔ 15 []];have P:=zne σ0 J ό;have R:=λF=>dY σ0 (K:=[]) (as:=[]) (A:=[]) (x:="learn") 2 uw F rfl;have m:∀ c,Lf c (LP l r a b u v)=BD [Bd l r u v 9,Bd a b u v 9]:=λc=>rfl;have C:∀ c,Ez (LP l r a b u v) c=O (Lu$ LP l r a b u v) c:=λc=>zP$ m c;have n:∃ s o,∀ X Y ϊ x,zF [BD$ U σ0.length,BD$ Z h,X,Y,ϊ,BD$ Z (0:Nat),BD$ Bd l r u v 9,x] (σ0++KB σ0.length ws [] [])=O (ϙ [BD$ U σ0.length,BD$ Z h,X,Y,ϊ,BD$ Z (0:Nat),BD$ Bd l r u v 9,BD$ Z 1]) (σ0++KB σ0.length ws s o)/\zF [BD$ U σ0.length,BD$ Z h,X,Y,ϊ,BD$ Z (1:Nat),BD$ Bd a b u v 9,x] (σ0++KB σ0.length ws s o)=O (ϙ [BD$ U σ0.length,BD$ Z h,X,Y,ϊ,BD$ Z (1:Nat),BD$ Bd a b u v 9,BD$ Z 1]) (σ0++KB σ0.length ws (Pl q e u v σ0.length h) (bp q e u v h)):=by
  rcases N with rfl|rfl
  ·refine⟨Pl q e u v σ0.length 0,bp q e u v 0,λX Y ϊ x=>⟨?_,?_⟩⟩
   ·rcases y with⟨rfl,rfl,rfl⟩|⟨rfl,rfl,rfl⟩
    ·exact Wz σ0 0 (p:=0) ⋯ f g X Y ϊ x (ϑ ⟨by omega,rfl,rfl⟩)$ ϕ ⟨rfl,rfl,rfl,ϑ rfl⟩
    ·exact Wz σ0 0 (p:=0) ⋯ f g X Y ϊ x (ϕ ⟨rfl,rfl,rfl,ϑ rfl⟩)$ ϑ ⟨by omega,rfl,rfl⟩
   ·exact Wz σ0 0 (p:=1) ⋯ f g X Y ϊ x (ϑ ⟨by omega,rfl,rfl⟩)$ ϑ ⟨by omega,rfl,rfl⟩
  ·refine⟨[(σ0.length+7,fA 0 q u v)],[ϔ 11 (fA 0 q u v).fs],λX Y ϊ x=>⟨?_,?_⟩⟩
   ·rcases y with⟨rfl,rfl,rfl⟩|⟨rfl,rfl,rfl⟩
    ·exact Wz σ0 1 (p:=0) ⋯ f g X Y ϊ x (ϕ ⟨rfl,rfl,rfl,ϑ rfl⟩)$ ϑ ⟨by omega,rfl,rfl⟩
    ·exact Wz σ0 1 (p:=0) ⋯ f g X Y ϊ x (ϑ ⟨by omega,rfl,rfl⟩)$ ϕ ⟨rfl,rfl,rfl,ϑ rfl⟩
   ·rcases t with⟨rfl,rfl,rfl⟩|⟨rfl,rfl,rfl⟩
    ·exact Wz σ0 1 (p:=1) ⋯ f g X Y ϊ x (ϕ ⟨rfl,rfl,rfl,ϕ ⟨_,rfl,by simp[fA,qc]⟩⟩)$ ϑ ⟨by omega,rfl,rfl⟩
    ·exact Wz σ0 1 (p:=1) ⋯ f g X Y ϊ x (ϑ ⟨by omega,rfl,rfl⟩)$ ϕ ⟨rfl,rfl,rfl,ϕ ⟨_,rfl,by simp[fA,qc]⟩⟩
 obtain⟨s,o,n⟩:=n;have Q:Yp (Lu$ LP l r a b u v) (io 2$ bi (je 5)$ bi (je 6) Io) zF 1001 0 [BD$ U σ0.length,BD$ Z h,BD$ Z 8,BD$ LP l r a b u v,BD$ ύ$ ws.map Z,V6,V6,V6] (σ0++KB σ0.length ws [] [])=O (ϙ [BD$ U σ0.length,BD$ Z h,BD$ Z 8,BD$ LP l r a b u v,BD$ ύ$ ws.map Z,BD$ Z (1:Nat),BD$ Bd a b u v 9,BD$ Z 1]) (σ0++KB σ0.length ws (Pl q e u v σ0.length h) (bp q e u v h)):=by
  rw[GD (k:=1000) (fG (m _) (i:=0) rfl) (ρ1:=[BD$ U σ0.length,BD$ Z h,BD$ Z 8,BD$ LP l r a b u v,BD$ ύ$ ws.map Z,BD$ Z (0:Nat),BD$ Bd l r u v 9,V6]) rfl,(n _ _ _ _).1,ze,Tk,GD (k:=999) (fG (m _) (i:=1) rfl) (ρ1:=[BD$ U σ0.length,BD$ Z h,BD$ Z 8,BD$ LP l r a b u v,BD$ ύ$ ws.map Z,BD$ Z (1:Nat),BD$ Bd a b u v 9,BD$ Z 1]) rfl,(n _ _ _ _).2,ze,Tk];exact EO (k:=998)$ gY$ m _
 have T:∀ c,Jq (ύ$ ws.map Z) Ϛ c=O (ϐ Ε) c:=λc=>nr rfl;have E:∀ (z:D->Ev->Option Ev) (body:Ev->M Fl) (ρ:Ev) (nx:NX),xH z body ρ nx=Yp nx z body 1001 0 ρ:=λV V V V=>rfl;generalize σ0++KB σ0.length ws (Pl q e u v σ0.length h) (bp q e u v h)=W,σ0++KB σ0.length ws [] []=ϊ at *;have w:Fp [U σ0.length,Z h,Z 8,LP l r a b u v,ύ$ ws.map Z] (σ0++[ϔ 15 []])=O Ϛ W:=by
  unfold Fp sY
  (try dsimp only);rw[Rs,kN]
  show Bo (Nc _ _ [BD$ U σ0.length,BD$ Z h,BD$ Z 8,BD$ LP l r a b u v,BD$ ύ$ ws.map Z,V6,V6,V6]$ σ0++[ϔ 15 []])=_;generalize LP l r a b u v=L,ύ (ws.map Z)=j at *;rw[Uk];simp -implicitDefEqProofs only[NY,qK,fC,bA,eu,ze,jB,jy,KA,A0,S,Co,xQ,Kl];rw[Uk,Ox (d:=Z h) rfl rfl ⋯,ze,Kl];rw[Uk,Ox (d:=Z 8) rfl rfl ⋯,ze,Kl];rw[Uk,Ox (d:=Z 0) rfl rfl ⋯,ze,Kl];rw[Uk,Ox (d:=Z 0) rfl rfl ⋯,ze,Kl];rw[Uk,Jz (k:=1) rfl rfl rfl,ze,Kl];rw[Uk,Jz (k:=2) rfl rfl rfl,ze,Kl];rw[Uk,Jz (k:=3) rfl rfl rfl,ze,Kl];rw[Uk,Jz (k:=4) rfl rfl rfl,ze,Kl];rw[Uk,Jz (k:=5) rfl rfl rfl,ze,Kl];rw[Uk,Jz (k:=6) rfl rfl rfl,ze,Kl];have B:∀ G:Ev->M Fl,Bo (G [BD$ U σ0.length,BD$ Z h,BD$ Z 8,BD L,BD j,V6,V6,V6]$ σ0++KB σ0.length [] [] [])=O Ϛ W->Bo (G [BD$ U σ0.length,BD$ Z h,BD$ Z 8,BD L,BD j,V6,V6,V6]$ σ0++ϔ 15 [("hand",Z h),("every",Z 8),("last_look",Z 0),("gave",Z 0),("known",U (σ0.length+1)),("accounts",U (σ0.length+2)),("claims",U (σ0.length+3)),("seen",U (σ0.length+4)),("asked",U (σ0.length+5)),("finishing",U (σ0.length+6))]::[Ϗ [],Ϗ [],Ϗ [],Ϗ [],Ϗ [],Ϗ []])=O Ϛ W:=λG H=>by
   rw[<-H];unfold KB Qj;rw[I];rfl
  refine B _ ?_;generalize σ0++KB σ0.length [] [] []=Y at *;rw[Uk];have ϋ:nv (eT$ Ab Jq (Ba 4)$ eC Ϛ) (kl Db) (Ba 4) [BD$ U σ0.length,BD$ Z h,BD$ Z 8,BD L,BD j,V6,V6,V6] Y=O j Y:=by
   have i:∀ c,Jq j Ϛ c=O (ϐ Ε) c:=T;simp[i]
  simp -implicitDefEqProofs only[NY,UY,eu,ze,R,fC,ϋ,jB,jy,KA,D6,P,Co,xQ,Kl];rw[lz];simp -implicitDefEqProofs only[Õ,bA,eu,ze,C,Co,E];rw[Q,OL]
 rw[TJ,w,iC]
end
def MT{i}(h:0<=i/\i<=3) a:on [Z i] a=O (ϐ Ĳ) a:=by
 unfold on Pc;simp[(λa=>bt h a)]
def fZ{l r u v w}(c:0<=l/\l<=3)(e:0<=r/\r<=3)(d:l≠r)(f:Cn u)(g:Cn v)(h:1<=w/\w<=100) a:Xg [Bd l r u v w] a=O (ϐ Ĳ) a:=by
 have b:=λa=>kR l r u v w a;have i:(l == r)=Ε:=by simp[d]
 unfold Xg Pc;unfold Bd at b ⊢;simp -implicitDefEqProofs[(λa=>MT c a),(λa=>MT e a),(λa=>bt f a),(λa=>bt g a),(λa=>bt h a),b,i]
def AS l r a b u v:cl (LP l r a b u v)=Ĳ:=by unfold LP Bd;simp
section
variable{l r l' r' u v:Int}(h0:l=1/\r=0\/l=0/\r=1)(h1:l'=1/\r'=2\/l'=2/\r'=1)(hu:Cn u)(hv:Cn v)
include h0 h1 hu hv
theorem Ń{σ}{n}(b:σ[n]?=BD (ϒ [Bd l r u v 9,Bd l' r' u v 9])):ki [U n] σ=O (LP l r l' r' u v) σ:=by
 have a:Lf σ (U n)=BD [Bd l r u v 9,Bd l' r' u v 9]:=by unfold Lf Cf;simp[b]
 have m:=λσ=>fZ (l:=l) (r:=r) (w:=9) ⋯ ⋯ ⋯ hu hv ⋯ σ;have o:=λσ=>fZ (l:=l') (r:=r') (w:=9) ⋯ ⋯ ⋯ hu hv ⋯ σ;have s0:II [BD$ U n,BD$ Z (0:Nat),BD$ Bd l r u v 9] σ=O (ϙ [BD$ U n,BD$ Z (0:Nat),BD$ Bd l r u v 9]) σ:=by
  generalize Bd l r u v 9=P at *;simp[m]
 have s1:II [BD$ U n,BD$ Z (1:Nat),BD$ Bd l' r' u v 9] σ=O (ϙ [BD$ U n,BD$ Z (1:Nat),BD$ Bd l' r' u v 9]) σ:=by
  generalize Bd l' r' u v 9=P at *;simp[o]
 have j:Yp (Lu$ U n) (io 2$ bi (je 1)$ bi (je 2) Io) II 1001 0 [BD$ U n,V6,V6] σ=O (ϙ [BD$ U n,BD$ Z (1:Nat),BD$ Bd l' r' u v 9]) σ:=by
  rw[GD (k:=1000) (fG a (i:=0) rfl) (ρ1:=[BD$ U n,BD$ Z (0:Nat),BD$ Bd l r u v 9])$ nr rfl,s0,ze,Tk,GD (k:=999) (fG a (i:=1) rfl) (ρ1:=[BD$ U n,BD$ Z (1:Nat),BD$ Bd l' r' u v 9])$ nr rfl,s1,ze,Tk];exact EO (k:=998)$ gY a
 have e:Ez (U n) σ=O (Lu$ U n) σ:=zP a;have f:∀ (c:D->Ev->Option Ev) (body:Ev->M Fl) (d:Ev) (nx:NX),xH c body d nx=Yp nx c body 1001 0 d:=λp p p p=>rfl;have g:ig σ (xr [U n] σ)=O (LP l r l' r' u v) σ:=HG (oH b) (by unfold Bd;simp);have h:=AS l r l' r' u v;unfold ki AR Pc;dsimp only;generalize LP l r l' r' u v=L at *;simp[e,f,j,g,h,-JL]
end
def C6 l r u v w c:Bh [Bd l r u v w] c=O (Z$ u+v) c:=by
 have a:=mU l r u v w c;have b:=PV l r u v w c;unfold Bh Pc;dsimp only
 simp_all
def HL(w:Int):D:=ϸ 6 ["whole"] [Z w]
def Θ w a:zz [U a.length,w] (a++[ϔ 6 []])=O Ϛ (a++[ϔ 6 [("whole",w)]]):=by
 unfold zz yg;have:=XH (ρ:=[BD$ U a.length,BD w]) (σ:=a) (cs:=[5,6,7,8]) (f:="whole") (d:=w) (c:=6) (fs:=[]) rfl ⋯;simp[this,zl]
theorem zia w a:ig a (Vk 6 2 zz [Z w] a)=O (HL w) a:=by
 rw[TM,Θ,iC,UU ⋯];rfl
def DI{a}{n k i}{j}{rest}{c f g}{o}{d y}(m:a[i]?=BD d)(h:j (BD d::V6::rest) c=O y f)(l:Kj (U n) [y] f=O Ϛ g) :
  Di (Ej.seq a).nx n (je 0) On j (k+1) i (o::V6::rest) c=Di (Ej.seq a).nx n (je 0) On j k (i+1) (BD d::V6::rest) g:=by
 rw[Di];have e:(Ej.seq a).nx i c=BD (BD d):=by show BD a[i]?=_;rw[m]
 have t:je 0 d (o::V6::rest)=BD (BD d::V6::rest):=rfl;have b:On (BD d::V6::rest) c=O Ĳ c:=rfl;simp only[e,t];rw[zm,NB b,ze,ka rfl,zm,NB h,ze,zm,l,ze]
def lW{a}{n k i}{c}{ρ}{b}(d:a[i]?=V6):Di (Ej.seq a).nx n (je 0) On c (k+1) i ρ b=O () b:=by
 rw[Di];have e:(Ej.seq a).nx i b=BD V6:=by show BD a[i]?=_;rw[d]
 simp[e]
def PQ{b}{s}{ix}{fi}{fe}{c}{a d}(e:b c a=O s a)(f:Di s.nx a.length (je 0) fi fe 1001 0 (V6::V6::(ix.map λi=>(c[i]?).getD V6)) (a++[ϒ []])=O () d):Nn (Ht b) ix (je 0) fi fe c a=O (U a.length) d:=by
 show Tc (Tc _ uN) _ a=_;rw[zm,zm,e,ze];show Tc (Di s.nx a.length _ fi fe 1001 0$ V6::V6::(ix.map λi=>(c[i]?).getD V6)) _ _=_
 simp_all
theorem NV{a r}{xs}{d}(h:xs.length<1000):Kj (U a.length) [d] (a++ϒ xs::r)=O Ϛ (a++ϒ (xs++[d])::r):=by
 have e:Cf (a++ϒ xs::r) a.length=BD xs:=by unfold Cf;rw[Dx];rfl
 unfold Kj;simp only[e];rw[ka (show xs.length<Dg from h),vS];rfl
def LY{a r}{x}{b}{n}(c:a.length+1+r.length=n):rq b (a++x::r)=O (U n) (a++x::(r++[Ϗ []])):=by
 rw[TQ,show (a++x::r).length=n by simp;lia];simp
def ą(n:Nat)(P:D):List$ Str × D:=[("pots",P),("day",Z 0),("claims",U (n+1)),("shown",U (n+2))]
def BB(n:Nat)(P:D)(u v:Int):Fa:=[ϔ 9$ ą n P,ϒ [HL$ u+v,HL$ u+v],ϒ [U$ n+3,U$ n+4],Ϗ [],Ϗ []]
def ĝ{l r b c u v}(q:l=1/\r=0\/l=0/\r=1)(m:b=1/\c=2\/b=2/\c=1)(x:Cn u)(y:Cn v){a}{n}(t:a[n]?=BD (ϒ [Bd l r u v 9,Bd b c u v 9])):Vk 9 2 Bx [U n] a=O (U a.length) (a++BB a.length (LP l r b c u v) u v):=by
 have i:∀ (l r u v w:Int) (a:Fa),fk (Xp 6 2 zz$ Na (lf 1 Bh []$ Na (Ba 0) Db) Db) [BD$ Bd l r u v w,V6] a=O (HL _) a:=λl r u v w a=>by
  have m:=zia (u+v) a;have z:=λa=>C6 l r u v w a;generalize HL _=ό,Bd l r u v w=P at *;simp[z,m,-TM]
 have A:∀ a,Au (LP l r b c u v) a=O (.seq [Bd l r u v 9,Bd b c u v 9]) a:=λa=>ZI _;have p:∀ (e:List$ Str × D) (j:Fa),e.lookup ("pots" : Str)=BD (LP l r b c u v)->Gi (gf (Lc [9,14,16] "pots")$ Ba 0) [BD$ U a.length,BD$ U n] (a++ϔ 9 e::j)=O (.seq [Bd l r u v 9,Bd b c u v 9]) (a++ϔ 9 e::j):=λe j s=>by
  have g:Lc [9,14,16] "pots" (U a.length) (a++ϔ 9 e::j)=O (LP l r b c u v) (a++ϔ 9 e::j):=oC (Dx (L:=ϔ 9 e::j)) rfl s;generalize LP l r b c u v=L,[Bd l r u v 9,Bd b c u v 9]=TT at *;simp[g,A]
 have f:=PQ (ix:=[]) (fi:=On) (fe:=fk$ Xp 6 2 zz$ Na (lf 1 Bh []$ Na (Ba 0) Db) Db) (p [("pots",LP l r b c u v),("day",Z 0)] [] rfl)$ (DI (k:=1000) (d:=Bd l r u v 9) rfl (i ..)$ XD$ by simp).trans$ (DI (k:=999) (d:=Bd b c u v 9) rfl (i ..)$ XD$ by simp).trans$ lW (k:=998) rfl;have h:=PQ (ix:=[]) (fi:=On) (fe:=rq) (p [("pots",LP l r b c u v),("day",Z 0),("claims",U (a.length+1))] [ϒ [HL$ u+v,HL$ u+v]] rfl)$ (DI (k:=1000) (d:=Bd l r u v 9) rfl (LY (n:=a.length+3)$ by simp)$ NV$ by simp).trans$ (DI (k:=999) (d:=Bd b c u v 9) rfl (LY (n:=a.length+4)$ by simp)$ NV$ by simp).trans$ lW (k:=998) rfl;simp only[Hm,gw,Kc,Ub,gb,Qe]at f h;rw[TM];have o:Bx [U a.length,U n] (a++[ϔ 9 []])=O Ϛ (a++BB a.length (LP l r b c u v) u v):=by
  unfold Bx yg
  (try dsimp only);rw[Rs,kN]
  show Bo (Nc _ _ [BD$ U a.length,BD$ U n]$ a++[ϔ 9 []])=_;rw[Uk,Ox (d:=LP l r b c u v) rfl rfl (by simp only[qK,fC,bA,eu,ze,jB,jy,KA,Ŧ,(Ń q m x y$ Bm (j:=[ϔ 9 []]) t)]),ze,Kl];rw[Uk,Ox (d:=Z 0) rfl rfl (by simp only[GL]),ze,Kl];show Bo (Nc _ _ [BD$ U a.length,BD$ U n]$ a++ϔ 9 [("pots",LP l r b c u v),("day",Z 0)]::[])=_;rw[Uk,dB (d:=U$ a.length+1) (ds':=[ϒ [HL$ u+v,HL$ u+v]]) rfl rfl f,ze,Kl];show Bo (im _ _ _ _ [BD$ U a.length,BD$ U n]$ a++ϔ 9 [("pots",LP l r b c u v),("day",Z 0),("claims",U (a.length+1))]::[ϒ [HL$ u+v,HL$ u+v]])=_;rw[dB (d:=U$ a.length+2) (ds':=[ϒ [HL$ u+v,HL$ u+v],ϒ [U$ a.length+3,U$ a.length+4],Ϗ [],Ϗ []]) rfl rfl h,OL];rfl
 show Jy a.length (Bx [U a.length,U n]$ a++[ϔ 9 []])=_;rw[o,iC]
def wA(a:h8):Kv:=a.map λw=>(.inl w,Z 1)
def wD(a:h8):D:=Ϩ ((wA a).map (·.1)) ((wA a).map (·.2))
def M1 a i b(c:i<=a.length):Lq (wA a) i b=BD (a[i]?.map λw=>ώ [Z w,Z 1]):=by
 unfold Lq wA;by_cases h:i<a.length
 ·simp[h];rfl
 ·obtain rfl:i=a.length:=by omega
  simp
def B0 ws(e:ws.length<=60) h σ:Si [Z h,wD ws] σ=O (ύ$ (ws.filter λk=>(1:Int) == h).map Z) σ:=by
 have dh:Nn (Ew$ Ba 1) [0] (io 2$ bi (je 0)$ bi (je 1) Io) (eT$ Ab rj (Ba 1)$ Ba 2) (Ba 0) [BD$ Z h,BD$ wD ws] σ=O (U σ.length) (σ++[ϒ$ (ws.filter λk=>(1:Int) == h).map Z]):=by
  show Tc _ (jV _ _ (Ba 0)$ xB [0] _) σ=_;rw[zm,uQ (A:=wA ws) (by simp[wD]),ze];show Tc (Di _ σ.length _ (eT$ Ab rj (Ba 1)$ Ba 2) (Ba 0) 1001 0 [V6,V6,BD$ Z h]) _ (σ++[ϒ []])=_;rw[zm,IM (xs:=ws) (λk=>True) (λw=>ώ [Z w,Z 1]) (λw=>Z w) (λk=>BD$ Z 1) (λk=>((1:Int) == h)) (λw=>Z w) (λi j b=>M1 ws i _ b) (λx o g k=>⟨rfl,trivial⟩) (λx f j=>⟨by simp,λk=>by simp⟩) ⋯ 1001 0 V6 V6 [] trivial ⋯ ⋯ ⋯,ze];rfl
 have l:fk (Nn (Ew$ Ba 1) [0] (io 2$ bi (je 0)$ bi (je 1) Io) (eT$ Ab rj (Ba 1)$ Ba 2)$ Ba 0) [BD$ Z h,BD$ wD ws] σ=O (ύ$ (ws.filter λk=>(1:Int) == h).map Z) σ:=by
  rw[cp,dh];exact rz$ WF _
 have a:cl (ύ$ (ws.filter λk=>(1:Int) == h).map Z)=Ĳ:=WF _;unfold Si Pc;dsimp only;generalize ύ ((ws.filter λk=>(1:Int) == h).map Z)=d,wD ws=c at *;simp[l,a,-cp]
def E4{ks}(b:ks=[1,0]\/ks=[0,1]) a:ig a (pB (ύ$ ks.map Z) a)=O (ύ [Z 0,Z 1]) a:=by
 have e:pB (ύ$ ks.map Z) a=O (U a.length) (a++[ϒ [Z 0,Z 1]]):=by
  have s:Qn (Om ks)=[0,1]:=by
   rcases b with rfl|rfl
   ·exact bB ((Sw _).trans$ .swap 0 1 []) (mE _) ⋯
   ·exact bB (Sw [0,1]) (mE [0,1]) ⋯
  unfold pB;rw[show Lf a _=BD _ from rfl];simp[sh,oU];rw[ka (by rcases b with rfl|rfl<;>decide),s];rfl
 rw[e];exact rz ⋯
theorem WU a b c d:Fz a b c d=(b c d).bind (dH a):=nr rfl
theorem QU a b c:dH a b c=O (b++a) c:=nr rfl
def UD(b:Nat)(P:D):List$ Str × D:=[("public",U (b+1)),("pots",P),("every",Z 8),("keepers",U (b+6)),("under_way",U (b+7)),("things",U (b+8))]
def SH(b:Nat)(P:D)(u v:Int)(r:Fa):Fa:=ϔ 16 (UD b P)::(BB (b+1) P u v++r)
def Ï a b P u v r:(a++SH b P u v r).length=a.length+6+r.length:=by simp[SH,BB];omega
section
variable{σ0:Fa}{l r l' r' u v:Int}
def eL{j}{a}{f}{d}(b:a.contains 16=Ĳ)(c:(UD σ0.length$ LP l r l' r' u v).lookup f=BD d):Lc a f (U σ0.length) (σ0++SH σ0.length (LP l r l' r' u v) u v j)=O d (σ0++SH σ0.length (LP l r l' r' u v) u v j):=oC (Dx) b c
def V2{h}{j}:Tz [U$ σ0.length+1] (σ0++ϔ 16 h::(BB (σ0.length+1) (LP l r l' r' u v) u v++j))=O (LP l r l' r' u v) (σ0++ϔ 16 h::(BB (σ0.length+1) (LP l r l' r' u v) u v++j)):=by
 have g:Lc [9,14,16] "pots" (U _) _=O _ (σ0++ϔ 16 h::(BB (σ0.length+1) (LP l r l' r' u v) u v++j)):=oC (Vv 1) rfl rfl;have a:∀ σ,ig σ (xr [LP l r l' r' u v] σ)=O (LP l r l' r' u v) σ:=λσ=>JD (by unfold Bd;simp) σ;have b:=AS l r l' r' u v;unfold Tz Xf;dsimp only
 simp_all
end
section
variable{σ0:Fa}{q q' l r l' r' u v:Int}(hq:q=0/\l=1/\r=0\/q=1/\l=0/\r=1)(hq':q'=0/\l'=1/\r'=2\/q'=1/\l'=2/\r'=1)(hu:Cn u)(hv:Cn v){ws:h8}(hd:ws.Nodup)(hl:ws.length<=60){n:Nat}
include hq hq' hu hv hd hl
theorem MU{w}(p:w=0\/w=1){ks a}{T}{j}{N}(B:σ0.length+9+j.length=N)(m:HD N=w)(o:ij ks (.inl w) (U N)=a)(d:ks.length<1000){vs}(b:(ws.filter λC=>(1:Int) == w)=vs) L i k:yL [BD$ U σ0.length,BD$ U n,L,BD$ Z 8,BD$ wD ws,BD$ wD ws,BD$ Z w,i,k] (σ0++SH σ0.length (LP l r l' r' u v) u v (Ϗ ks::ϒ []::ϧ T::j))=O (ϙ [BD$ U σ0.length,BD$ U n,L,BD$ Z 8,BD$ wD ws,BD$ wD ws,BD$ Z w,i,k]) (σ0++SH σ0.length (LP l r l' r' u v) u v (Ϗ a::ϒ []::ϧ T::(j++KB N vs (Pl q q' u v N w) (bp q q' u v w)))):=by
 have f:(σ0++SH σ0.length (LP l r l' r' u v) u v (Ϗ ks::ϒ []::ϧ T::j)).length=N:=by rw[Ï];simp;lia
 have g:vs.Nodup/\vs.length<=60:=by rw[<-b];exact⟨hd.filter _,ib (Se ..) hl⟩
 have mk:=ļ _ w hq hq' p (by rw[f];exact m) hu hv g.1 g.2;rw[f]at mk;have mk:Vk 15 5 Fp [Z w,Z 8,LP l r l' r' u v,ύ$ vs.map Z] (σ0++SH σ0.length (LP l r l' r' u v) u v (Ϗ ks::ϒ []::ϧ T::j))=O (U N) (σ0++SH σ0.length (LP l r l' r' u v) u v (Ϗ ks::ϒ []::ϧ T::(j++KB N vs (Pl q q' u v N w) (bp q q' u v w)))):=by rw[mk];simp[SH]
 have h:=B0 ws hl w$ σ0++SH σ0.length (LP l r l' r' u v) u v (Ϗ ks::ϒ []::ϧ T::j);rw[b]at h;have pl:Lc [9,14,16] "pots" (U σ0.length) _=O _ (σ0++SH σ0.length (LP l r l' r' u v) u v (Ϗ ks::ϒ []::ϧ T::j)):=eL rfl rfl;have c:∀ j,Lc [16] "keepers" (U σ0.length) (σ0++SH σ0.length (LP l r l' r' u v) u v j)=O (U$ σ0.length+6) _:=λj=>eL rfl rfl;have s:=c$ Ϗ ks::ϒ []::ϧ T::(j++KB N vs (Pl q q' u v N w) (bp q q' u v w));have st:∀ e,jq e (U N) (U$ σ0.length+6) (Z w) (σ0++SH σ0.length (LP l r l' r' u v) u v (Ϗ ks::ϒ []::ϧ T::(j++KB N vs (Pl q q' u v N w) (bp q q' u v w))))=O (ϙ e) (σ0++SH σ0.length (LP l r l' r' u v) u v (Ϗ a::ϒ []::ϧ T::(j++KB N vs (Pl q q' u v N w) (bp q q' u v w)))):=λe=>by
  rw[At (kvs:=ks) (Vv 6) d,o,OA 6];rfl
 clear c;generalize σ0++SH σ0.length (LP l r l' r' u v) u v (Ϗ a::ϒ []::ϧ T::(j++KB N vs (Pl q q' u v N w) (bp q q' u v w)))=A,σ0++SH σ0.length (LP l r l' r' u v) u v (Ϗ ks::ϒ []::ϧ T::(j++KB N vs (Pl q q' u v N w) (bp q q' u v w)))=z,σ0++SH σ0.length (LP l r l' r' u v) u v (Ϗ ks::ϒ []::ϧ T::j)=Y at *;generalize LP l r l' r' u v=t,ύ (vs.map Z)=y,wD ws=x at *;simp only[Z4,KQ,WU,fC,bA,eu,ze,jB,aN,pl,qK,jy,KA,C1,h,QU,Oe,mk,Co,t3,s,zpx,st]
omit hq hq' hu hv hd hl in
theorem E9{w}{T}{j}{a b} c d e f g h:KJ [BD$ U σ0.length,c,d,e,f,g,h,BD$ Z w,BD$ Z 1] (σ0++SH σ0.length (LP l r l' r' u v) u v (Ϗ [(.inl 0,U a),(.inl 1,U b)]::ϒ []::ϧ T::j))=O (ϙ [BD$ U σ0.length,c,d,e,f,g,h,BD$ Z w,BD$ Z 1]) (σ0++SH σ0.length (LP l r l' r' u v) u v (Ϗ [(.inl 0,U a),(.inl 1,U b)]::ϒ []::ϧ T::j)):=by
 have k:Lc [16] "keepers" (U σ0.length) _=O _ (σ0++SH σ0.length (LP l r l' r' u v) u v (Ϗ [(.inl 0,U a),(.inl 1,U b)]::ϒ []::ϧ T::j)):=eL rfl rfl;have i:Sg (σ0++SH σ0.length (LP l r l' r' u v) u v (Ϗ [(.inl 0,U a),(.inl 1,U b)]::ϒ []::ϧ T::j)) (U$ σ0.length+6)=BD [(.inl 0,U a),(.inl 1,U b)]:=by unfold Sg;dsimp only;rw[Vv 6];rfl
 generalize σ0++SH σ0.length _ u v _=Y at *;have m:Qq (Z 1) (U$ σ0.length+6) Y=O (ϐ Ε) Y:=by
  unfold Qq;simp only[Bi,i];rfl
 simp_all
end
def KK(q a u v:Int)(ws:h8)(b:Nat):Fa:=KB (b+9) [] (Pl q a u v (b+9) 0) (bp q a u v 0)++KB (b+17) ws (Pl q a u v (b+17) 1) (bp q a u v 1)
def Hs(q a u v:Int)(ws:h8)(P:D)(b:Nat):Fa:=SH b P u v$ Ϗ [(.inl 0,U (b+9)),(.inl 1,U (b+17))]::ϒ []::ϧ []::KK q a u v ws b
def V1{σ0}{q c l r a b u v}(J:q=0/\l=1/\r=0\/q=1/\l=0/\r=1)(t:c=0/\a=1/\b=2\/c=1/\a=2/\b=1)(z:Cn u)(B:Cn v){ws}(H:ws.Nodup)(I:ws.length<=60){n}(W:σ0[n]?=BD (ϒ [Bd l r u v 9,Bd a b u v 9]))(P:HD (σ0.length+9)=0)(Q:HD (σ0.length+17)=1):Vk 16 5 Mm [U n,ύ$ [1,0].map Z,Z 8,wD ws] σ0=O (U σ0.length) (σ0++Hs q c u v ws (LP l r a b u v) σ0.length):=by
 have bk:=ĝ ⋯ ⋯ z B$ Bm (j:=[ϔ 16 []]) W;have k1:=λL o p=>MU J t z B H I (σ0:=σ0) (n:=n) (w:=0) (ϑ rfl) (ks:=[]) (T:=[]) (j:=[]) (N:=σ0.length+9) ⋯ P rfl ⋯ (vs:=[]) ⋯ L o p;have C:=λL o p=>MU J t z B H I (σ0:=σ0) (n:=n) (w:=1) (ϕ rfl) (ks:=[(.inl 0,U (σ0.length+9))]) (T:=[]) (j:=KB (σ0.length+9) [] (Pl q c u v (σ0.length+9) 0)$ bp q c u v 0) (N:=σ0.length+17) (by simp[KB,bp]) Q rfl (show (1:Nat)<1000 by decide) (vs:=ws) ⋯ L o p;have so:=λs=>E4 (ks:=[1,0]) (ϑ rfl) s;rw[TJ];have E:Mm [U σ0.length,U n,ύ$ [1,0].map Z,Z 8,wD ws] (σ0++[ϔ 16 []])=O Ϛ (σ0++Hs q c u v ws (LP l r a b u v) σ0.length):=by
  unfold Mm fY
  (try dsimp only);rw[Rs,kN]
  generalize R:ύ ([1,0].map Z)=m at *;show Bo (Nc _ _ [BD$ U σ0.length,BD$ U n,BD m,BD$ Z 8,BD$ wD ws,V6,V6,V6,V6]$ σ0++ϔ 16 []::[])=_;have M:∀ e,Xp 9 2 Bx (Na (Ba 1) Db) (BD (U σ0.length)::BD (U n)::e) (σ0++ϔ 16 []::[])=O (U$ σ0.length+1) (σ0++ϔ 16 []::BB (σ0.length+1) (LP l r a b u v) u v):=λe=>by
   simp only[Ub,gb,Qe,Kc,gw,Hm]at bk;generalize LP l r a b u v=L at *;simp only[KQ,fC,bA,eu,ze,jB,jy,KA];exact bk
  rw[Uk,dB (d:=U$ σ0.length+1) (ds':=BB (σ0.length+1) (LP l r a b u v) u v) rfl rfl$ M _,ze,Kl];show Bo (Nc _ _ [BD$ U σ0.length,BD$ U n,BD m,BD$ Z 8,BD$ wD ws,V6,V6,V6,V6]$ σ0++ϔ 16 [("public",U (σ0.length+1))]::(BB (σ0.length+1) (LP l r a b u v) u v++[]))=_;rw[Uk,Ox (d:=LP l r a b u v) rfl rfl (by
   have ό:Lc [16] "public" (U σ0.length) (σ0++ϔ 16 [("public",U (σ0.length+1))]::(BB (σ0.length+1) (LP l r a b u v) u v++[]))=O (U$ σ0.length+1) (σ0++ϔ 16 [("public",U (σ0.length+1))]::(BB (σ0.length+1) (LP l r a b u v) u v++[])):=oC (Dx (L:=ϔ 16 [("public",U (σ0.length+1))]::(BB (σ0.length+1) (LP l r a b u v) u v++[]))) rfl rfl;have ϊ:=V2 (σ0:=σ0) (l:=l) (r:=r) (l':=a) (r':=b) (u:=u) (v:=v) (h:=[("public",U (σ0.length+1))]) (j:=[]);have mt:∀ g,Gk [(9,Tz)] 1 "made_of" g (U$ σ0.length+1) (σ0++ϔ 16 [("public",U (σ0.length+1))]::(BB (σ0.length+1) (LP l r a b u v) u v++[]))=(g$ σ0++ϔ 16 [("public",U (σ0.length+1))]::(BB (σ0.length+1) (LP l r a b u v) u v++[])).bind (Ri 1 Tz$ U$ σ0.length+1):=λg=>Oq (Dr$ Vv 1) rfl rfl;simp only[UY,aN,eu,ze,ό,mt,jy,L5,ϊ]),ze,Kl]
  rw[Uk,Ox (d:=Z 8) rfl rfl (by simp only[bA,eu]),ze,Kl];rw[Uk,Jz (k:=6) rfl rfl rfl,ze,Kl];have X:∀ (x:Ob) (r:Fa) (ρ:Ev),r.length=6->Fv Db ρ (σ0++x::r)=O (U$ σ0.length+7) (σ0++x::(r++[ϒ []])):=λx r ρ y=>by
   simp only[n9,jy,ze];show (O (U (σ0++x::r).length) ((σ0++x::r)++[ϒ []]):Vi D)=_;rw[show (σ0++x::r).length=σ0.length+7 by simp[y]];simp
  have lt:∀ (x:Ob) (r:Fa) (ρ:Ev),r.length=7->LK ρ (σ0++x::r)=O (U$ σ0.length+8) (σ0++x::(r++[ϧ []])):=λx r ρ y=>by
   show (O (U (σ0++x::r).length) ((σ0++x::r)++[ϧ []]):Vi D)=_;rw[show (σ0++x::r).length=σ0.length+8 by simp[y]];simp
  rw[Uk,dB (d:=U$ σ0.length+7) rfl rfl$ X _ _ _ rfl,ze,Kl];rw[Uk,dB (d:=U$ σ0.length+8) rfl rfl$ lt _ _ _ rfl,ze,Kl];show Bo (Nc _ _ [BD$ U σ0.length,BD$ U n,BD m,BD$ Z 8,BD$ wD ws,V6,V6,V6,V6]$ σ0++SH σ0.length (LP l r a b u v) u v [Ϗ [],ϒ [],ϧ []])=_;have ow:∀ Y,nv (eT$ Ab Jq (Ba 4)$ eC Ϛ) (eC$ Ϩ [] []) (Ba 4) [BD$ U σ0.length,BD$ U n,BD m,BD$ Z 8,BD$ wD ws,V6,V6,V6,V6] Y=O (wD ws) Y:=λY=>by
   have i:∀ s,Jq (wD ws) Ϛ s=O (ϐ Ε) s:=λs=>nr rfl;generalize wD ws=L at *;simp[i]
  rw[Uk,R6,ow,Co,zy1,ze,Kl];show Bo (Nc _ _ [BD$ U σ0.length,BD$ U n,BD m,BD$ Z 8,BD$ wD ws,BD$ wD ws,V6,V6,V6]$ σ0++SH σ0.length (LP l r a b u v) u v [Ϗ [],ϒ [],ϧ []])=_;rw[Uk,hG,UA,cp,aN];simp only[bA,eu,ze,so,ZI,Co,aJ];rw[Iq];simp only[Cb,Lb];rw[k1,ze,Tk,Iq];simp only[Cb,Lb];have C:∀ o p,yL [BD$ U σ0.length,BD$ U n,BD m,BD$ Z 8,BD$ wD ws,BD$ wD ws,BD$ Z 1,o,p] (σ0++SH σ0.length (LP l r a b u v) u v (Ϗ (ij [] (.inl 0)$ U$ σ0.length+9)::ϒ []::ϧ []::([]++KB (σ0.length+9) [] (Pl q c u v (σ0.length+9) 0) (bp q c u v 0))))=O (ϙ [BD$ U σ0.length,BD$ U n,BD m,BD$ Z 8,BD$ wD ws,BD$ wD ws,BD$ Z 1,o,p]) (σ0++Hs q c u v ws (LP l r a b u v) σ0.length):=λo p=>C _ o p;rw[C,ze,Tk,Nw,ze,Kl];obtain⟨a0,a1,e,F,G,rfl,rfl⟩:=yH (f:=Ba 5) (A:=wA ws) (ρ:=[BD$ U σ0.length,BD$ U n,BD m,BD$ Z 8,BD$ wD ws,BD$ wD ws,BD$ Z 1,V6,V6]) (σ:=σ0++Hs q c u v ws (LP l r a b u v) σ0.length) (tg:=io 2$ bi (je 7)$ bi (je 8) Io) (body:=KJ) (by simp[wD]) (by simp[wA];omega) (λi ρ K=>∃ F G,ρ=[BD$ U σ0.length,BD$ U n,BD m,BD$ Z 8,BD$ wD ws,BD$ wD ws,BD$ Z 1,F,G]/\K=σ0++Hs q c u v ws (LP l r a b u v) σ0.length) (λi k d ρ K ϋ S=>by
   obtain⟨F,G,rfl,rfl⟩:=S;have V:=wa ϋ;obtain⟨w,_,e⟩:=na.mp V;cases e;exact⟨_,_,_,rfl,E9 ..,_,_,rfl,rfl⟩) ⟨V6,V6,rfl,rfl⟩
  rw[e,OL]
 show Jy σ0.length (Mm [U σ0.length,U n,ύ$ [1,0].map Z,Z 8,wD ws]$ σ0++[ϔ 16 []])=_;rw[E,iC]
theorem GO{x}{p}(a:x.p=p) q:ac x q 0 Ε=fA p q x.u x.v:=by subst a;rfl
def S0(c:Sq):Fa:=[ϒ [pD c.x 0,pD c.y 2]]++Hs c.x.q c.y.q c.x.u c.x.v [c.y.t.w,c.x.t.w] (PL c) 1
section
variable{c:Sq}(hc:c.Ok)(hu:c.y.u=c.x.u)(hv:c.y.v=c.x.v)
include hc hu hv
theorem start:Ha c (k0 c 0 [] 0 Ε []) (k1 c 0 Ε 0 Ε []) [] [] (Qg V6) (Qg V6)$ S0 c:=by
 have d:=GO hc.px c.x.q;have b:=GO hc.py c.y.q;rw[hu,hv]at b;refine⟨⟨rfl,rfl,rfl,rfl,rfl,rfl,rfl,rfl⟩,?_,?_,rfl,by simp⟩
 ·refine⟨⟨8,0,[],Pl c.x.q c.y.q c.x.u c.x.v 10 0,[]⟩,⟨⟨rfl,rfl,rfl,rfl⟩,rfl,rfl,λx a=>?_,?_,by simp[Pl],by simp,?_,by simp⟩,rfl,?_⟩
  ·obtain rfl:x=(17,fA 0 (1 - c.x.q) c.x.u c.x.v):=by simpa [Pl]using a
   exact⟨rfl,Ls ⋯ (q0 hc) rfl rfl⟩
  ·simp[Pl]
  ·exact YB hc.x (q0 hc) 0 Ε
  ·unfold k0;rw[(GO hc.px$ 1 - c.x.q)];rfl
 ·refine⟨⟨8,0,[c.y.t.w,c.x.t.w],Pl c.x.q c.y.q c.x.u c.x.v 18 1,[]⟩,⟨⟨rfl,rfl,rfl,rfl⟩,rfl,rfl,λx a=>?_,?_,by simp[Pl],by simp,?_,by simp⟩,rfl,?_⟩
  ·have a:x=(25,fA 0 c.x.q c.x.u c.x.v)\/x=(26,fA 1 c.y.q c.x.u c.x.v):=by simpa [Pl]using a
   rcases a with rfl|rfl
   ·exact⟨rfl,Ls ⋯ hc.x.q rfl rfl⟩
   ·exact⟨rfl,Ls ⋯ hc.y.q rfl rfl⟩
  ·simp[Pl,fA,qc]
  ·have:=MQ (YB hc.x hc.x.q 0 Ε)$ YB hc.y hc.y.q 0 Ε;unfold yy Pt.s Pt.s0 at this;rw[hu,hv]at this;exact this
  ·unfold k1;rw[d,b];rfl
theorem X9:Vk 16 5 Mm [U 0,ύ$ [1,0].map Z,Z 8,wD [c.y.t.w,c.x.t.w]] [ϒ [pD c.x 0,pD c.y 2]]=O (U 1) (S0 c):=by
 have j:=hc.x.q;have b:Cn c.x.u:=by have:=hc.x.u;exact⟨by lia,by lia⟩
 have d:Cn c.x.v:=by have:=hc.x.v;exact⟨by lia,by lia⟩
 obtain⟨l,r,f,g⟩:∃ l r:Int,pD c.x 0=Bd l r c.x.u c.x.v 9/\(c.x.q=0/\l=1/\r=0\/c.x.q=1/\l=0/\r=1):=by
  unfold pD;all_goals grind
 obtain⟨i,k,a,h⟩:=PH hc;rw[hu,hv]at a;have w:=hc.w;unfold S0 PL;rw[f,a];exact(V1 g h b d (ws:=[c.y.t.w,c.x.t.w]) (by simp;exact λe=>w e.symm) ⋯ (n:=0) rfl rfl rfl)
end
def lE(c:Sq)(S:Option D)(e:Int)(d f g b:Option D):Ev:=[S,BD$ Z e,BD$ ύ [Z c.x.q,Z c.y.q],BD$ ώ [Z c.y.u,Z c.y.v],d,f,g,BD$ Wl c,BD$ U 1,BD$ Z c.y.t.a,BD$ Z c.x.t.a,BD$ ύ [Z c.y.t.y,Z c.x.t.y],b]
section
variable{c:Sq}(hc:c.Ok)(S:Option D)(e:Int)(x4 x5 x6:Option D)
include hc
theorem AY a:nb (Wl c) (Z 0) a=O (Z c.y.t.w) a:=by unfold Wl;simp
theorem IS a:nb (Wl c) (Z 1) a=O (Z c.x.t.w) a:=by unfold Wl;simp
theorem O3{d}(H:Ha c (k0 c 0 [] 0 Ε []) (k1 c 0 Ε 0 Ε []) [] [] (Qg V6) (Qg V6) d):∃ b T,GT (lE c S e x4 x5 x6 V6) d=O (ϙ$ lE c S e x4 x5 x6 V6) b/\Ha c (k0 c 0 [] 0 Ε []) (k1 c 0 Ε 1 Ε []) T [] (Qg V6) (Qg V6) b/\Wd T []/\T.length<=4:=by
 obtain⟨b,T,bt,f,w,l⟩:=O0 hc (W:=[]) ⟨by simp,by simp⟩ ⋯ H;refine⟨b,T,?_,f,w,by simpa using l⟩;have g:ώ [Z$ 1 - c.y.q,Z c.y.t.a,Z c.y.t.w,Z c.y.t.y]=c.y.t.D:=by rw[<-hc.y.tp];rfl
 have h:=AY hc;unfold lE
 simp_all
theorem S1{T}{f}(H:Ha c (k0 c 0 [] 0 Ε []) (k1 c 0 Ε 1 Ε []) T [] (Qg V6) (Qg V6) f):∃ g,eS (lE c S e x4 x5 x6 V6) f=O (ϙ$ lE c S e x4 x5 x6 V6) g/\Ha c (k0 c c.x.t.a [] 1 Ε []) (k1 c 1 Ε 1 Ε []) T [] (Qg V6) (Qg V6) g:=by
 obtain⟨o,n,z,rd,d,l,h,C⟩:=v7 hc H;obtain⟨b,j,i⟩:=mQ hc l C h;refine⟨b,?_,i⟩;have m:=IS hc;rw[show (Wi.Yn Ĳ c.x.t.a c.x.t.w c.x.t.y).D 0=ώ [ϓ "pay",Z 0,Z c.x.t.a,Z c.x.t.w,Z c.x.t.y]from rfl]at d;unfold lE;simp[m,(λk=>Kh H.H (x:="wish") 3 zr k rfl),d,j]
theorem ò{T}{l}{j}{d}{Q}{A B}{g}(H:Ha c l (k1 c 1 Ε j d Q) T [] A B g):WR (lE c S e x4 x5 x6 V6) g=O (ϙ$ lE c S e x4 x5 x6 V6) g:=by
 obtain⟨n,h,i⟩:=IW H.b (a:=ac c.x c.x.q 1 Ε) (by simp[k1]);rw[(vv hc.x.q 1 Ε).1,hc.px]at h;rw[show (ac c.x c.x.q 1 Ε).m=c.x.s 1 from rfl]at i;have k:=s2$ c.x.s 1;rw[show (c.x.s 1).ts=[c.x.t]from rfl]at k;unfold lE;simp[(aF H _),(λf=>Kh H.H (x:="keeper") 2 Ps f rfl),(λf=>H.b.sC (m:="account") 2 Dw f rfl),h,i,k]
theorem Ċ{T}{k l}{W}(i:Wd T W)(f:c.y.t.w ∉ W)(g:c.x.t.w ∉ W){a}(H:Ha c k l T [] (Qg V6) (Qg V6) a):jM (lE c S e x4 x5 x6 V6) a=O (ϙ$ lE c S e x4 x5 x6$ BD$ Z c.x.t.w) a:=by
 have m:∀ p w,w ∉ W->Hc [U 1,Z p,Z w] a=O _ a:=λp w h=>VM H i h ⋯;have b:∀ w,w ∉ W->uW (lE c S e x4 x5 x6$ BD$ Z w) a=O (ϙ$ lE c S e x4 x5 x6$ BD$ Z w) a:=λw h=>by
  unfold lE
  simp_all
 have j:∀ a,Au (Wl c) a=O _ a:=λa=>ZI _;have d:Ba 7 (lE c S e x4 x5 x6 V6) a=O (Wl c) a:=by unfold lE;simp
 unfold jM;rw[hG,UA,d,ze,j,Co,aJ,Iq];rw[show (lE c S e x4 x5 x6 V6).set 12 _=lE c S e x4 x5 x6 _ from rfl,b _ f,ze,Tk,Iq];rw[show (lE c S e x4 x5 x6 _).set 12 _=lE c S e x4 x5 x6 _ from rfl,b _ g,ze,Tk,Nw]
theorem D9{T}(l:Wd T [])(K:T.length<=20){g}{d} a(H:Ha c (k0 c g [] 1 Ε []) (k1 c 1 Ε 1 Ε []) T [] (Qg V6) (Qg V6) d):∃ J,Bo (Nc uC lH (lE c S e x4 x5 x6 a) d)=O (ϐ Ĳ) J:=by
 have f:AQ []:=by intro z F;cases F
 have q:∀ d,eT (Ab rj (Ab Ap (Ab XB (Ba 1)$ eC$ Z 4)$ eC$ Z 2)$ eC$ Z 0) (lE c S e x4 x5 x6 a) d=O ((e / 4 % 2 == 0)) d:=λd=>by unfold lE;simp
 by_cases h:e / 4 % 2=0
 ·obtain⟨n,B,C,A,j,i,v,r,s,G⟩:=wV hc l ⋯ H;obtain⟨b,k,x⟩:=JS hc (o:=BD c.y.t.w) v (by simp;exact hc.w) (by simp;exact λh=>hc.w h.symm) r s ⋯ i;refine⟨b,?_⟩;have m:(e / 4 % 2 == 0)=Ĳ:=by simp[h]
  have u:uC (lE c S e x4 x5 x6 a) d=O (.rt$ ϐ Ĳ) b:=by
   unfold uC;rw[JL,q,m];unfold lE;generalize Wl c=L at *;simp[j,k]
  rw[Uk,u];rfl
 ·obtain⟨n,j,i⟩:=JS hc (o:=V6) l ⋯ ⋯ f (λp E=>by cases E) ⋯ H;obtain⟨b,B,C,A,k,x,v,r,s,G⟩:=wV hc l ⋯ i;refine⟨b,?_⟩;have m:(e / 4 % 2 == 0)=Ε:=by simp[h]
  have u:uC (lE c S e x4 x5 x6 a) d=O (ϙ$ lE c S e x4 x5 x6 a) d:=by
   unfold uC;rw[JL,q,m];rfl
  have I:lH (lE c S e x4 x5 x6 a) d=O (.rt$ ϐ Ĳ) b:=by
   unfold lH lE;generalize Wl c=L at *;simp[j,k]
  exact gk u (by rw[I];rfl)
end
noncomputable def Nf(a:h8)(k:Nat):Int:=a.getD k 0
def ö a k(c:0<=k) b:jb [ϥ a,Z k] b=O (Z$ Nf a k.toNat) b:=by
 unfold jb Nf Pc;by_cases h:k<a.length
 ·simp[h,É c h]
 ·have e:a.length<=k.toNat:=by omega
  simp[h,xi e]
def Li(q u v:Int):Int:=if q=0 then v else u
def cC(c:h8):Sq:=
 let n:=Nf c;let u:=1+n 1 % 1000000000000;let v:=1+n 2 % 1000000000000;let a:=n 0 % 2;let b:=n 0 / 2 % 2
 ⟨⟨0,a,u,v,⟨1 - a,1+n 5 % Li a u v,(n 3 % 60+1+n 3 / 60 % 59) % 60,9+n 7 % 50⟩⟩,⟨1,b,u,v,⟨1 - b,1+n 4 % Li b u v,n 3 % 60,9+n 6 % 50⟩⟩⟩
def XN{q u v}(a:1<=u/\u<=1000000000000)(b:1<=v/\v<=1000000000000):1<=Li q u v/\Li q u v<=1000000000000:=by unfold Li;split<;>omega
def DQ{p q u v m w y}(d:p=0\/p=1)(a:q=0\/q=1)(b:1<=u/\u<=1000000000000)(c:1<=v/\v<=1000000000000)(e:0<=w/\w<=59)(h:9<=y/\y<=58):(⟨p,q,u,v,⟨1 - q,1+m % Li q u v,w,y⟩⟩:Pt).Ok:=by
 have o:=XN (q:=q) b c;have f:=Int.emod_nonneg m (show Li q u v≠0 by lia);have g:=Int.emod_lt_of_pos m (show 0<Li q u v by lia);refine⟨d,a,rfl,⟨by show 1 - q=0\/1 - q=1;lia,by show _/\_;dsimp only;omega,e,by show _/\_;dsimp only;omega⟩,b,c,?_,by show (8:Int)<y;omega⟩;show 1+m % Li q u v<=ow (1 - q) ⟨0,u,v,[]⟩;have:ow (1 - q) ⟨0,u,v,[]⟩=Li q u v:=by
  unfold ow Li;rcases a with rfl|rfl<;>rfl
 omega
def ĕ a:(cC a).Ok/\(cC a).y.u=(cC a).x.u/\(cC a).y.v=(cC a).x.v:=by
 unfold cC;dsimp only;refine⟨⟨DQ (ϑ rfl) ⋯ ⋯ ⋯ ⋯ ⋯,DQ (ϕ rfl) ⋯ ⋯ ⋯ ⋯ ⋯,rfl,rfl,?_⟩,rfl,rfl⟩;dsimp only
 lia
theorem nN l r u v a:Mi (ώ [Z l,Z r]) (ώ [Z u,Z v]) a=O (ώ [Z l,Z r,Z u,Z v]) a:=MJ$ Ma rfl
theorem HK l r u v a:Mi (ώ [Z l,Z r,Z u,Z v]) (ώ [Z 9]) a=O (ώ [Z l,Z r,Z u,Z v,Z 9]) a:=MJ$ Ma rfl
section
variable{c:Sq}(hc:c.Ok)(hu:c.y.u=c.x.u)(hv:c.y.v=c.x.v)(S E:Option D)
include hc hu hv
theorem U3 a:u4 [S,E,BD$ ύ [Z c.x.q,Z c.y.q],BD$ ώ [Z c.y.u,Z c.y.v],V6,a,V6,V6,V6,V6,V6,V6,V6] []=O (ϙ [S,E,BD$ ύ [Z c.x.q,Z c.y.q],BD$ ώ [Z c.y.u,Z c.y.v],BD$ U 0,a,V6,V6,V6,V6,V6,V6,V6]) [ϒ [Bd 1 0 c.y.u c.y.v 9,Bd 1 2 c.y.u c.y.v 9]]:=by
 unfold u4 Bd;simp[nN,HK]
theorem Φ b d:u8 [S,E,BD$ ύ [Z c.x.q,Z c.y.q],BD$ ώ [Z c.y.u,Z c.y.v],BD$ U 0,b,d,BD$ Wl c,V6,V6,V6,V6,V6] [ϒ [pD c.x 0,pD c.y 2]]=O (ϙ [S,E,BD$ ύ [Z c.x.q,Z c.y.q],BD$ ώ [Z c.y.u,Z c.y.v],BD$ U 0,b,d,BD$ Wl c,BD$ U 1,V6,V6,V6,V6]) (S0 c):=by
 have mk:Vk 16 5 Mm [U 0,ύ [Z 1,Z 0],Z 8,wD [c.y.t.w,c.x.t.w]] [ϒ [pD c.x 0,pD c.y 2]]=O _ _:=X9 hc hu hv;have h:∀ a,Bv [Z 1,Z 0] a=O _ a:=λa=>vR rfl;have g:fk (mF$ Ix (Ab nb (Ba 7)$ eC$ Z 0) (eC$ Z 1)$ Ix (Ab nb (Ba 7)$ eC$ Z 1) (eC$ Z 1) wE) [S,E,BD$ ύ [Z c.x.q,Z c.y.q],BD$ ώ [Z c.y.u,Z c.y.v],BD$ U 0,b,d,BD$ Wl c,V6,V6,V6,V6,V6] [ϒ [pD c.x 0,pD c.y 2]]=O (wD [c.y.t.w,c.x.t.w]) [ϒ [pD c.x 0,pD c.y 2]]:=by
  generalize [ϒ [pD c.x 0,pD c.y 2]]=a;have i:c.x.t.w≠c.y.t.w:=hc.w;have m:Bt [] [(.inl c.y.t.w,Z 1),(.inl c.x.t.w,Z 1)]=wA [c.y.t.w,c.x.t.w]:=by
   have:¬ c.y.t.w=c.x.t.w:=λe=>i e.symm;simp[Bt,ij,wA,this]
  have e:∀ f:Ev,(∀ a,Ba 7 f a=O (Wl c) a)->mF (Ix (Ab nb (Ba 7)$ eC$ Z 0) (eC$ Z 1)$ Ix (Ab nb (Ba 7)$ eC$ Z 1) (eC$ Z 1) wE) f a=O (U a.length) (a++[Ϗ$ wA [c.y.t.w,c.x.t.w]]):=λf hv=>by
   unfold mF Ix wE;simp[zm,hv,(AY hc),(IS hc),vM,Bi,GK,m]
  rw[cp,e _ (λa=>by simp)];unfold ig;dsimp only;rw[ka ⋯,tN (j:=[]) (m:=5) (by simp[wA])];rfl
 unfold u8;generalize wD [c.y.t.w,c.x.t.w]=k,Wl c=L,[ϒ [pD c.x 0,pD c.y 2]]=a at *;simp[h,g,WU,QU,mk,-cp]
theorem W7:u5 [S,E,BD$ ύ [Z c.x.q,Z c.y.q],BD$ ώ [Z c.y.u,Z c.y.v],BD$ U 0,V6,V6,V6,V6,V6,V6,V6,V6] [ϒ [Bd 1 0 c.y.u c.y.v 9,Bd 1 2 c.y.u c.y.v 9]]=O (ϙ [S,E,BD$ ύ [Z c.x.q,Z c.y.q],BD$ ώ [Z c.y.u,Z c.y.v],BD$ U 0,BD$ Z 1,V6,V6,V6,V6,V6,V6,V6]) [ϒ [pD c.x 0,pD c.y 2]]:=by
 have n:∀ j,Hy (Z 2) j=O (.seq [Z 0,Z 1]) j:=λj=>by rw[NN ⋯ ⋯];rfl
 have s0:∀ (f:Ev) (d a b:D),Yw f d (U 0) _ [ϒ [a,b]]=O _ [ϒ [d,b]]:=λf d a b=>N2 (σ:=[]) d a [b];have s1:∀ (f:Ev) (d a b:D),Yw f d (U 0) _ [ϒ [a,b]]=O (ϙ f) [ϒ [a,d]]:=λf d a b=>R5 (σ:=[]) d a b [];have m:∀ (i:Int) e,i=0\/i=1->cG (Z 2) (Z i) e=O (Z$ 2 * i) e:=λi e o=>Y2 ⋯ ⋯;have g:=λe=>m 0 e$ ϑ rfl;have h:=λe=>m 1 e$ ϕ rfl;have k:∀ e,nb (ύ [Z c.x.q,Z c.y.q]) (Z 0) e=O (Z c.x.q) e:=λe=>by simp
 have l:∀ e,nb (ύ [Z c.x.q,Z c.y.q]) (Z 1) e=O (Z c.y.q) e:=λe=>by simp
 have l0:∀ x,aE [S,E,BD$ ύ [Z c.x.q,Z c.y.q],BD$ ώ [Z c.y.u,Z c.y.v],BD$ U 0,BD$ Z 0,V6,V6,V6,V6,V6,V6,V6] [ϒ [Bd 1 0 c.y.u c.y.v 9,x]]=O (ϙ [S,E,BD$ ύ [Z c.x.q,Z c.y.q],BD$ ώ [Z c.y.u,Z c.y.v],BD$ U 0,BD$ Z 0,V6,V6,V6,V6,V6,V6,V6]) [ϒ [pD c.x 0,x]]:=λx=>by
  unfold aE pD;rw[hu,hv];rcases hc.x.q with q|q
  ·rw[q]at k ⊢;simp
  ·rw[q]at k ⊢;unfold Bd;simp[g,nN,HK,s0]
 have l1:∀ x,aE [S,E,BD$ ύ [Z c.x.q,Z c.y.q],BD$ ώ [Z c.y.u,Z c.y.v],BD$ U 0,BD$ Z 1,V6,V6,V6,V6,V6,V6,V6] [ϒ [x,Bd 1 2 c.y.u c.y.v 9]]=O (ϙ [S,E,BD$ ύ [Z c.x.q,Z c.y.q],BD$ ώ [Z c.y.u,Z c.y.v],BD$ U 0,BD$ Z 1,V6,V6,V6,V6,V6,V6,V6]) [ϒ [x,pD c.y 2]]:=λx=>by
  unfold aE pD;rcases hc.y.q with q|q
  ·rw[q]at l ⊢;simp
  ·rw[q]at l ⊢;unfold Bd;simp[h,nN,HK,s1]
 unfold u5;rw[hG];simp only[N8,GL,ze,n,Co,aJ];rw[Iq];simp only[Cb,Lb];rw[l0,ze,Tk,Iq];simp only[Cb,Lb];rw[l1,ze,Tk,Nw]
end
def Fu d(_:d.length<=63):∃ σ,mn [ϥ d] []=O (ϐ Ĳ) σ:=by
 obtain⟨f,h,i⟩:=ĕ d;have g:∀ (k:Int) σ,0<=k->jb [ϥ d,Z k] σ=O (Z$ Nf d k.toNat) σ:=λk σ hk=>ö d k hk σ;have R:∀ σ,jb [ϥ d,Z 0] σ=O (Z$ Nf d 0) σ:=λσ=>g 0 σ ⋯;have S:∀ σ,jb [ϥ d,Z 1] σ=O (Z$ Nf d 1) σ:=λσ=>g 1 σ ⋯;have ϋ:∀ σ,jb [ϥ d,Z 2] σ=O (Z$ Nf d 2) σ:=λσ=>g 2 σ ⋯;have E:∀ σ,jb [ϥ d,Z 3] σ=O (Z$ Nf d 3) σ:=λσ=>g 3 σ ⋯;have V:∀ σ,jb [ϥ d,Z 4] σ=O (Z$ Nf d 4) σ:=λσ=>g 4 σ ⋯;have c5:∀ σ,jb [ϥ d,Z 5] σ=O (Z$ Nf d 5) σ:=λσ=>g 5 σ ⋯;have c6:∀ σ,jb [ϥ d,Z 6] σ=O (Z$ Nf d 6) σ:=λσ=>g 6 σ ⋯;have c7:∀ σ,jb [ϥ d,Z 7] σ=O (Z$ Nf d 7) σ:=λσ=>g 7 σ ⋯;have B:∀ a b σ,Bv [Z a,Z b] σ=O (ύ [Z a,Z b]) σ:=λa b σ=>vR rfl;let c:=cC d;have ox:=XN (q:=c.x.q) f.x.u f.x.v;have oy:=XN (q:=c.y.q) f.x.u f.x.v;have mx:∀ σ,Ap (Z$ Nf d 5) (Z$ Li c.x.q c.x.u c.x.v) σ=O (Z$ Nf d 5 % Li c.x.q c.x.u c.x.v) σ:=λσ=>aZ _ _$ ev Wy ox.1;have my:∀ σ,Ap (Z$ Nf d 4) (Z$ Li c.y.q c.x.u c.x.v) σ=O (Z$ Nf d 4 % Li c.y.q c.x.u c.x.v) σ:=λσ=>aZ _ _$ ev Wy oy.1;have ix:∀ σ,nb (ώ [Z c.x.u,Z c.x.v]) (Z$ 1 - c.x.q) σ=O (Z$ Li c.x.q c.x.u c.x.v) σ:=λσ=>by
  rcases f.x.q with q|q<;>rw[show c.x.q=_ from q]<;>simp[Li]
 have iy:∀ σ,nb (ώ [Z c.x.u,Z c.x.v]) (Z$ 1 - c.y.q) σ=O (Z$ Li c.y.q c.x.u c.x.v) σ:=λσ=>by
  rcases f.y.q with q|q<;>rw[show c.y.q=_ from q]<;>simp[Li]
 have H:u1 [BD$ ϥ d,V6,V6,V6,V6,V6,V6,V6,V6,V6,V6,V6,V6] []=O (ϙ [BD$ ϥ d,BD$ Z$ Nf d 0,V6,V6,V6,V6,V6,V6,V6,V6,V6,V6,V6]) []:=by unfold u1;simp[R]
 have I:u2 [BD$ ϥ d,BD$ Z$ Nf d 0,V6,V6,V6,V6,V6,V6,V6,V6,V6,V6,V6] []=O (ϙ [BD$ ϥ d,BD$ Z$ Nf d 0,BD$ ύ [Z c.x.q,Z c.y.q],V6,V6,V6,V6,V6,V6,V6,V6,V6,V6]) []:=by
  unfold u2;simp[B];exact⟨rfl,rfl⟩
 have J:∀ L,u3 [BD$ ϥ d,BD$ Z$ Nf d 0,L,V6,V6,V6,V6,V6,V6,V6,V6,V6,V6] []=O (ϙ [BD$ ϥ d,BD$ Z$ Nf d 0,L,BD$ ώ [Z c.y.u,Z c.y.v],V6,V6,V6,V6,V6,V6,V6,V6,V6]) []:=λL=>by
  unfold u3;simp[S,ϋ];exact⟨rfl,rfl⟩
 have K:=U3 f h i (BD$ ϥ d) (BD$ Z$ Nf d 0) V6;have M:=W7 f h i (BD$ ϥ d)$ BD$ Z$ Nf d 0;have N:∀ L C σ,u6 [BD$ ϥ d,BD$ Z$ Nf d 0,L,C,BD$ U 0,BD$ Z 1,V6,V6,V6,V6,V6,V6,V6] σ=O (ϙ [BD$ ϥ d,BD$ Z$ Nf d 0,L,C,BD$ U 0,BD$ Z 1,BD$ Z$ Nf d 3 % 60,V6,V6,V6,V6,V6,V6]) σ:=λL C σ=>by unfold u6;simp[E]
 have ό:∀ L C σ,u7 [BD$ ϥ d,BD$ Z$ Nf d 0,L,C,BD$ U 0,BD$ Z 1,BD$ Z$ Nf d 3 % 60,V6,V6,V6,V6,V6,V6] σ=O (ϙ [BD$ ϥ d,BD$ Z$ Nf d 0,L,C,BD$ U 0,BD$ Z 1,BD$ Z$ Nf d 3 % 60,BD$ Wl c,V6,V6,V6,V6,V6]) σ:=λL C σ=>by
  unfold u7;simp[E,B];rfl
 have P:=Φ f h i (BD$ ϥ d) (BD$ Z$ Nf d 0) (BD$ Z 1)$ BD$ Z$ Nf d 3 % 60;have Q:∀ W,u9 [BD$ ϥ d,BD$ Z$ Nf d 0,BD$ ύ [Z c.x.q,Z c.y.q],BD$ ώ [Z c.x.u,Z c.x.v],BD$ U 0,BD$ Z 1,BD$ Z$ Nf d 3 % 60,W,BD$ U 1,V6,V6,V6,V6] (S0 c)=O (ϙ [BD$ ϥ d,BD$ Z$ Nf d 0,BD$ ύ [Z c.x.q,Z c.y.q],BD$ ώ [Z c.x.u,Z c.x.v],BD$ U 0,BD$ Z 1,BD$ Z$ Nf d 3 % 60,W,BD$ U 1,BD$ Z c.y.t.a,V6,V6,V6]) (S0 c):=λW=>by
  have e:c.y.t.a=1+Nf d 4 % Li c.y.q c.x.u c.x.v:=rfl;rw[e];generalize S0 c=σ,Li c.y.q c.x.u c.x.v=o,c.x.u=cu,c.x.v=cv,c.x.q=cq,c.y.q=ϊ at *;unfold u9;simp[V,iy,my]
 have m:∀ W X,RM [BD$ ϥ d,BD$ Z$ Nf d 0,BD$ ύ [Z c.x.q,Z c.y.q],BD$ ώ [Z c.x.u,Z c.x.v],BD$ U 0,BD$ Z 1,BD$ Z$ Nf d 3 % 60,W,BD$ U 1,X,V6,V6,V6] (S0 c)=O (ϙ [BD$ ϥ d,BD$ Z$ Nf d 0,BD$ ύ [Z c.x.q,Z c.y.q],BD$ ώ [Z c.x.u,Z c.x.v],BD$ U 0,BD$ Z 1,BD$ Z$ Nf d 3 % 60,W,BD$ U 1,X,BD$ Z c.x.t.a,V6,V6]) (S0 c):=λW X=>by
  have e:c.x.t.a=1+Nf d 5 % Li c.x.q c.x.u c.x.v:=rfl;rw[e];generalize S0 c=σ,Li c.x.q c.x.u c.x.v=o,c.x.u=cu,c.x.v=cv,c.x.q=cq,c.y.q=ϊ at *;unfold RM;simp[c5,ix,mx]
 have n:∀ L C W X Y σ,AM [BD$ ϥ d,BD$ Z$ Nf d 0,L,C,BD$ U 0,BD$ Z 1,BD$ Z$ Nf d 3 % 60,W,BD$ U 1,X,Y,V6,V6] σ=O (ϙ [BD$ ϥ d,BD$ Z$ Nf d 0,L,C,BD$ U 0,BD$ Z 1,BD$ Z$ Nf d 3 % 60,W,BD$ U 1,X,Y,BD$ ύ [Z c.y.t.y,Z c.x.t.y],V6]) σ:=λL C W X Y σ=>by
  unfold AM;simp[c6,c7,B];exact⟨rfl,rfl⟩
 have F:=start f h i;obtain⟨a0,T,p,G,w,l⟩:=O3 f (BD$ ϥ d) (Nf d 0) (BD$ U 0) (BD$ Z 1) (BD$ Z$ Nf d 3 % 60) F;obtain⟨b0,r,j⟩:=S1 f (BD$ ϥ d) (Nf d 0) (BD$ U 0) (BD$ Z 1) (BD$ Z$ Nf d 3 % 60) G;have s:=ò f (BD$ ϥ d) (Nf d 0) (BD$ U 0) (BD$ Z 1) (BD$ Z$ Nf d 3 % 60) j;have z:=Ċ f (BD$ ϥ d) (Nf d 0) (BD$ U 0) (BD$ Z 1) (BD$ Z$ Nf d 3 % 60) w ⋯ ⋯ j;obtain⟨D,A⟩:=D9 f (BD$ ϥ d) (Nf d 0) (BD$ U 0) (BD$ Z 1) (BD$ Z$ Nf d 3 % 60) w ⋯ (BD$ Z (cC d).x.t.w) j;refine⟨D,?_⟩;unfold mn QQ;exact gk H$ gk I$ gk (J _)$ gk K$ gk M$ gk (N _ _ _)$ gk (ό _ _ _)$ gk P$ gk (Q _)$ gk (m _ _)$ gk (n _ _ _ _ _ _)$ gk p$ gk r$ gk s$ gk z A
end K54
end
open PySem PySem.W PyProof.Rows
set_option maxRecDepth 100000 in
set_option maxHeartbeats 0 in
theorem PySem.Challenge.cw_sidebook_k54_words_told_holds : PySem.Challenge.rw_sidebook_k54_words_told.Holds := by
 w_on;refine hd ?_
 k_fill
 refine L4.ġ (l:=PySem.Challenge.rw_sidebook_k54_words_told) (k:=18) (x:="_law_script") (fn:=K54.mn) ["least_fate","paper"] rfl rfl ⟨rfl,by decide,by decide⟩ (λw h Y=>km2_in Y) ?hK ?hrec ?F K54.Fu;case hK=>intro w;kernel_rfl
 case hrec=>kernel_rfl
 case F=>
  intro w mg h KX G TT;refine⟨λn=>([0,114,126,0,0,318,353,400,440,591,668,696,722,748,780,1114,1292,315,0,0,0,0,0,0,0,0,0,0,0,0,489,496,0,0,517,0,0,0,0,0,0,0,0,581,588,651,658,665,686,693,712,719,738,745,777,952,959,966,973,0,0,994,1001,1008,1015,0,1029,1036,1043,1050,1057,1064,1071,1078,0,0,0,0,0,1138,1145,1152,1159,0,1173,1180,0,1194,1201,1208,1215,1222,1229,1237,0,1249,1254,1261]:List Addr).getD n 0,(K54.tx$ L2.SR KX).Ln,K54.G1 _,K54.N1 ?_⟩;constructor;all_goals (try (repeat' (first|exact K54.Al.n|with_reducible refine' K54.Al.c ?_ ?_)))
  all_goals (try dsimp only[L2.SR,List.getD]);all_goals (try dsimp only[List.getElem?_cons_succ,List.getElem?_cons_zero,Option.getD]);all_goals (first
   |(refine' K54.X6 ?p ?q$ L4.PK KX G (λ_ _ _ _ _ _ us hl=>?z) ?a ?l ?c ?k;(case p=>conv=>lhs;whnf);(case q=>dsimp only[K54.fX,L2.yl,List.map]);(case a|l=>k_is);(case z=>exact K54.QF.ap _ us hl (by(repeat intro _);exact rfl));(case c|k=>k_is))
   |(refine' K54.ω ?p ?q$ L4.QY (λ_ _ _ _ _ _ us hl=>?z) ?l ?c ?k;(case p=>conv=>lhs;whnf);(case q=>dsimp only[K54.fX,L2.yl,List.map]);(case l=>k_is);(case z=>exact K54.QF.ap _ us hl (by(repeat intro _);exact rfl));(case c|k=>k_is))
   |(refine' L4.PK KX G (λ_ _ _ _ _ _ us hl=>?z) ?a ?l ?c ?k;(case z=>exact K54.QF.ap _ us hl (by(repeat intro _);exact rfl));(case a|l|c|k=>k_is))
   |(refine' L4.QY (λ_ _ _ _ _ _ us hl=>?z) ?l ?c ?k;(case z=>exact K54.QF.ap _ us hl (by(repeat intro _);exact rfl));(case l|c|k=>k_is))
   |(refine' L4.ywx KX G K54.C8 ?a ?l ?c ?k ?d;(case a|l|c|k|d=>k_is))
   |(refine' L4.LO K54.l8 ?l ?c ?d;(case l|c|d=>k_is))
   |(refine' L4.LO K54.R8 ?l ?c ?d;(case l|c|d=>k_is))
   |(refine' L4.LO K54.L9 ?l ?c ?d;(case l|c|d=>k_is))
   |(refine' L4.ď KX G ?a ?b;(case a=>k_is);(case b=>kernel_rfl))
   |(refine' L4.mkI KX G ?a;(case a=>k_is))
   |(refine' mg_of KX G ?a;(case a=>k_is))
   |(refine' mg_none_of KX G ?a;(case a=>k_is))
   |(refine' ⟨⟨?a,?b,?c,?d⟩,?e,?f,?g,?h⟩;(case a|b|c|d|e|f|g|h=>k_is))
   |(refine' ⟨?a,?b,?c,?d⟩;(case a|b|c|d=>k_is))
   |(refine' ⟨?a,?b,?c⟩;(case a|b|c=>k_is))
   |(refine' ⟨?a,?b⟩;(case a|b=>k_is))
   |exact λt h t' h' _=>(Ia.mp h').trans (Ia.mp h).symm
   |(refine' L4.mkC KX G (L4.PK KX G (λ_ _ _ _ _ _ us hl=>?z) ?a ?l ?c ?k) TT ?d;(case z=>exact K54.QF.ap _ us hl (by(repeat intro _);exact rfl));(case a|l|c|k=>k_is);(case d=>decide))
   |(refine' (mg_of KX G ?a).trans (mg_of KX G ?b).symm;(case a|b=>k_is))
   |exact TT
   |exact mg_of KX G TT.bm
   |(refine' L4.Ψ ?a;(case a=>kernel_rfl))
   |decide
   |k_is
   |k_exc
   |rfl)
